/- What sum.Sum answers of one text and of two, sum.Right, the document's sum. -/
import Derived.Test.YtlipckpacdioiaaDoorSum
import Derived.Test.YtlipckpacdioiaaDoorRefPairs
namespace Go.Proofs.YtlipckpacdioiaaDoor
open Go.RowKit
set_option linter.unusedVariables false
set_option linter.unusedSimpArgs false
set_option maxRecDepth 100000

/-- A slice of one part, in a block of the call's own. -/
theorem parts_one (w : World) (a : Option Addr) (xs : List Int) (m c : Nat) (hm : xs.length = m) (h : Row .u8 w a xs) (hn : a = none → c = 0) :
    Parts (w.alloc (.cells #[.slice a m c] 25)) (some ⟨w.heap.size, 0, none⟩) [(a, xs, c)] := by
  subst hm
  have hb : Below w.heap.size w (w.alloc (.cells #[.slice a xs.length c] 25)) := (Below.refl _ _).alloc (Nat.le_refl _) _
  refine ⟨fun _ => ⟨w.heap.size, 0, rfl, by simp, ?_⟩, ?_⟩
  · intro i p hi
    match i, hi with
    | 0, hi => simp at hi; subst hi; rw [World.cell?_alloc_at _ _ _ _ rfl]; rfl
  · intro p hp
    simp at hp
    subst hp
    exact ⟨h.below hb (Nat.le_refl _), hn⟩
theorem parts_two (w : World) (a1 a2 : Option Addr) (xs ys : List Int) (m1 m2 c1 c2 : Nat) (l1 : xs.length = m1) (l2 : ys.length = m2) (h1 : Row .u8 w a1 xs) (n1 : a1 = none → c1 = 0) (h2 : Row .u8 w a2 ys) (n2 : a2 = none → c2 = 0) :
    Parts (w.alloc (.cells #[.slice a1 m1 c1, .slice a2 m2 c2] 25)) (some ⟨w.heap.size, 0, none⟩) [(a1, xs, c1), (a2, ys, c2)] := by
  subst l1; subst l2
  have hb : Below w.heap.size w (w.alloc (.cells #[.slice a1 xs.length c1, .slice a2 ys.length c2] 25)) := (Below.refl _ _).alloc (Nat.le_refl _) _
  refine ⟨fun _ => ⟨w.heap.size, 0, rfl, by simp, ?_⟩, ?_⟩
  · intro i p hi
    match i, hi with
    | 0, hi => simp at hi; subst hi; rw [World.cell?_alloc_at _ _ _ _ rfl]; rfl
    | 1, hi => simp at hi; subst hi; rw [World.cell?_alloc_at _ _ _ _ rfl]; rfl
  · intro p hp
    simp at hp
    rcases hp with rfl | rfl
    · exact ⟨h1.below hb (Nat.le_refl _), n1⟩
    · exact ⟨h2.below hb (Nat.le_refl _), n2⟩
/-- 'Sum' of one text, over the slice that the call's own operand makes. -/
theorem sum1_any (w : World) (a : Option Addr) (xs : List Int) (m c : Nat) (hm : xs.length = m) (h : Row .u8 w a xs) (hn : a = none → c = 0) (hb : ∀ x ∈ xs, 0 ≤ x ∧ x ≤ 255) (hl : m < 1000000000) :
    Calls Tryd.prog 22 #[.slice (some ⟨w.heap.size, 0, none⟩) 1 1] (w.alloc (.cells #[.slice a m c] 25)) fun e w' => e = .returned (.int .u16 (csum xs)) ∧ Below w.heap.size w w' := by
  have hf : flat [(a, xs, c)] = xs := by simp [flat]
  have h := sum_any (some ⟨w.heap.size, 0, none⟩) [(a, xs, c)] 1 _ (parts_one w a xs m c hm h hn) (by rw [hf]; omega) (by simp) (by rw [hf]; exact hb)
  rw [hf] at h
  refine h.mono ?_
  rintro e w' ⟨rfl, hbel⟩
  exact ⟨rfl, ((Below.refl _ _).alloc (Nat.le_refl _) _).trans (hbel.mono (by simp))⟩
theorem sum2_any (w : World) (a1 a2 : Option Addr) (xs ys : List Int) (m1 m2 c1 c2 : Nat) (l1 : xs.length = m1) (l2 : ys.length = m2) (h1 : Row .u8 w a1 xs) (n1 : a1 = none → c1 = 0) (h2 : Row .u8 w a2 ys) (n2 : a2 = none → c2 = 0)
    (hb : ∀ x ∈ xs ++ ys, 0 ≤ x ∧ x ≤ 255) (hl : m1 + m2 < 1000000000) :
    Calls Tryd.prog 22 #[.slice (some ⟨w.heap.size, 0, none⟩) 2 2] (w.alloc (.cells #[.slice a1 m1 c1, .slice a2 m2 c2] 25)) fun e w' => e = .returned (.int .u16 (csum (xs ++ ys))) ∧ Below w.heap.size w w' := by
  have hf : flat [(a1, xs, c1), (a2, ys, c2)] = xs ++ ys := by simp [flat]
  have h := sum_any (some ⟨w.heap.size, 0, none⟩) [(a1, xs, c1), (a2, ys, c2)] 2 _ (parts_two w a1 a2 xs ys m1 m2 c1 c2 l1 l2 h1 n1 h2 n2) (by rw [hf, List.length_append]; omega) (by simp) (by rw [hf]; exact hb)
  rw [hf] at h
  refine h.mono ?_
  rintro e w' ⟨rfl, hbel⟩
  exact ⟨rfl, ((Below.refl _ _).alloc (Nat.le_refl _) _).trans (hbel.mono (by simp))⟩

theorem right_any (a : Option Addr) (L : List Part) (cap : Nat) (w : World) (hp : Parts w a L) (hlen : (flat L).length < 1000000000) (hL : L.length ≤ 1099511627776) (hb : ∀ x ∈ flat L, 0 ≤ x ∧ x ≤ 255) :
    Calls Tryd.prog 42 #[.slice a L.length cap] w fun e w' => e = .returned (.bool (csum (flat L) == 0)) ∧ Below w.heap.size w w' := by
  have hs := sum_any a L cap w hp hlen hL hb
  have HS := hide hs
  clear hs hp
  go_enter Tryd.func42, Tryd.ntmps42
  go_wp2_with fail
  refine HS.out.mono ?_
  rintro e w1 ⟨rfl, hbel⟩
  go_wp2
  go_ret
  exact ⟨rfl, hbel⟩
theorem right2_any (w : World) (a1 a2 : Option Addr) (xs ys : List Int) (m1 m2 c1 c2 : Nat) (l1 : xs.length = m1) (l2 : ys.length = m2) (h1 : Row .u8 w a1 xs) (n1 : a1 = none → c1 = 0) (h2 : Row .u8 w a2 ys) (n2 : a2 = none → c2 = 0)
    (hb : ∀ x ∈ xs ++ ys, 0 ≤ x ∧ x ≤ 255) (hl : m1 + m2 < 1000000000) :
    Calls Tryd.prog 42 #[.slice (some ⟨w.heap.size, 0, none⟩) 2 2] (w.alloc (.cells #[.slice a1 m1 c1, .slice a2 m2 c2] 25)) fun e w' => e = .returned (.bool (csum (xs ++ ys) == 0)) ∧ Below w.heap.size w w' := by
  have hf : flat [(a1, xs, c1), (a2, ys, c2)] = xs ++ ys := by simp [flat]
  have h := right_any (some ⟨w.heap.size, 0, none⟩) [(a1, xs, c1), (a2, ys, c2)] 2 _ (parts_two w a1 a2 xs ys m1 m2 c1 c2 l1 l2 h1 n1 h2 n2) (by rw [hf, List.length_append]; omega) (by simp) (by rw [hf]; exact hb)
  rw [hf] at h
  refine h.mono ?_
  rintro e w' ⟨rfl, hbel⟩
  exact ⟨rfl, ((Below.refl _ _).alloc (Nat.le_refl _) _).trans (hbel.mono (by simp))⟩

theorem refAdd_any (a b : Int) (w : World) (h1 : 0 ≤ a) (h2 : a ≤ 65535) (h3 : 0 ≤ b) (h4 : b ≤ 65535) :
    Calls Tryd.prog 32 #[.int .u16 a, .int .u16 b] w fun e w' => e = .returned (.int .u16 (f16 (a + b))) ∧ w = w' := by
  have hf := hide (f16_two a b h1 h2 h3 h4)
  by_cases h : 65535 < a + b
  · go_enter Tryd.func32, Tryd.ntmps32
    go_wp2
    go_ret
    exact ⟨by rw [← hf.out, if_pos h]; rfl, rfl⟩
  · go_enter Tryd.func32, Tryd.ntmps32
    go_wp2
    go_ret
    exact ⟨by rw [← hf.out, if_neg (by omega)]; rfl, rfl⟩

set_option maxHeartbeats 800000 in
theorem refSum_any (a : Option Addr) (xs : List Int) (cap : Nat) (w : World) (hr : Row .u8 w a xs) (hb : ∀ x ∈ xs, 0 ≤ x ∧ x ≤ 255) (hlen : xs.length < 1000000000) :
    Calls Tryd.prog 17 #[.slice a xs.length cap] w fun e w' => e = .returned (.int .u16 (csum xs)) ∧ Below w.heap.size w w' := by
  have hp := refPairs_any a xs cap w hr hb hlen
  have hpl := prs_len xs
  have hpr := prs_rng xs hb
  have hcs : csum xs = 65535 - f16 (prs xs).sum := rfl
  rw [hcs]
  clear hcs hr hb
  generalize prs xs = ys at *
  have HP := hide hp
  have HR := hide hpr
  have HPL := hide hpl
  have hyl : ys.length ≤ 500000001 := by omega
  clear hp hpr hpl
  go_enter Tryd.func17, Tryd.ntmps17
  go_wp2_with fail
  refine HP.out.mono ?_
  rintro e w1 ⟨a1, c1, rfl, hrow, hbel⟩
  have RO := hide hrow
  clear hrow
  go_wp2
  go_loop [4, 5] (fun v i => ∃ k : Nat, k ≤ ys.length ∧ i = .int .i64 k ∧ v = .int .u16 (f16 (ys.take k).sum)) (fun _ i => ys.length - (intOf i).toNat)
  case atStart => exact ⟨0, Nat.zero_le _, rfl, rfl⟩
  case round =>
    obtain ⟨k, hk, rfl, rfl⟩ := hrel
    by_cases hlt : k < ys.length
    · obtain ⟨b, off, rfl, _, hc⟩ := RO.out.at hlt
      have cx := hc k hlt
      have hs1 := sum_rng (ys.take k) (fun y hy => HR.out y (List.mem_of_mem_take hy))
      have hf1 := f16_rng (ys.take k).sum
      have hy : 0 ≤ ys[k]?.getD 0 ∧ ys[k]?.getD 0 ≤ 65535 := by rw [List.getElem?_eq_getElem hlt]; exact HR.out _ (List.getElem_mem hlt)
      have hst : f16 (f16 (ys.take k).sum + ys[k]?.getD 0) = f16 (ys.take (k + 1)).sum := by
        rw [f16_add _ _ hs1.1 hy.1, List.take_add_one, List.sum_append, List.getElem?_eq_getElem hlt]
        simp
      generalize ys[k]?.getD 0 = y at *
      generalize f16 (ys.take k).sum = t at *
      have HST := hide hst
      have hy1 := hy.1
      have hy2 := hy.2
      have ht1 := hf1.1
      have ht2 := hf1.2
      clear hst hc hs1 hf1 hy
      go_wp2_with fail
      refine (refAdd_any t y _ ht1 ht2 hy1 hy2).mono ?_
      rintro e w2 ⟨rfl, rfl⟩
      rw [HST.out]
      go_wp2
      go_round
      case rel => exact ⟨k + 1, by omega, by go_num, rfl⟩
      case measure => simp [intOf]; omega
    · obtain rfl : k = ys.length := by omega
      rw [List.take_length]
      have hf1 := f16_rng ys.sum
      have ht1 := hf1.1
      have ht2 := hf1.2
      clear hf1
      go_wp2
      go_ret
      exact ⟨rfl, hbel⟩
end Go.Proofs.YtlipckpacdioiaaDoor
