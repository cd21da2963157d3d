/- What slices.Grow, slices.Concat and octet.Join answer: the texts one behind the other, in new memory. -/
import Derived.Test.YtlipckpacdioiaaDoorNum
import Derived.Lib.AppendZerosOnto
import Derived.Laws.AppendOwnNone
namespace Go.Proofs.YtlipckpacdioiaaDoor
open Go.RowKit
set_option linter.unusedVariables false
set_option linter.unusedSimpArgs false
set_option maxRecDepth 100000
theorem grow_any (n : Nat) (w : World) (hn : n ≤ 1099511627776) :
    Calls Tryd.prog 50 #[.slice none 0 0, .int .i64 n] w fun e w' => ∃ v, e = .returned v ∧ w'.ownsRow w.heap.size 5 1 v 0 [] ∧ Below w.heap.size w w' := by
  obtain ⟨i0, hi, hz0, hz1, hz2⟩ := info_parts Tryd.info5
  by_cases h0 : 0 < n
  · have h1 : ¬ ((n : Int) < 0) := by omega
    have hrz := fun ty => Lib.run_append_nil_zeros (P := Tryd.prog) w 25 3 ty 5 i0 (.int .u8 0) .i64 .i64 Tryd.underlying25 Tryd.underlying3 hi hz0 n h0 (by omega) (by omega) (by rw [hz2]; omega)
    obtain ⟨G, hG⟩ : ∃ G, G = grownCap w n 0 5 := ⟨_, rfl⟩
    have hGn : n ≤ G := by have := grownCap_ge w n 0 5; omega
    have hG63 : G ≤ maxLen := by rw [hG]; exact grownCap_le_maxLen w n 0 5 (by unfold maxLen; omega)
    rw [← hG] at hrz
    have hown := World.ownsRow_made (base := w.heap.size) (e := 5) (size := 1) w.drew (Builtin.zeroCells #[.int .u8 0] n ++ Builtin.zeroCells #[.int .u8 0] (G - n)) G (Nat.le_refl _) hG63 (by
      simp [size_zeroCells]; omega)
    have HO := hide hown
    have HR := hide hrz
    clear hown hrz hG
    have hG : G ≤ 9223372036854775807 := by unfold maxLen at hG63; omega
    clear hG63
    have hbel : Below w.heap.size w (w.drew.alloc (.cells (Builtin.zeroCells #[.int .u8 0] n ++ Builtin.zeroCells #[.int .u8 0] (G - n)) 5)) := ((Below.refl _ w).drew).alloc (Nat.le_refl _) _
    have HB := hide hbel
    clear hbel
    go_enter Tryd.func50, Tryd.ntmps50
    go_wp2_with (at_builtin; refine Lib.wpList_append_run _ rfl _ _ _ _ rfl _ _ rfl rfl _ _ (HR.out _) ?_)
    go_ret
    exact ⟨_, rfl, HO.out, HB.out⟩
  · obtain rfl : n = 0 := by omega
    go_enter Tryd.func50, Tryd.ntmps50
    go_wp2
    go_ret
    exact ⟨_, rfl, World.ownsRow_nil _ _ _ _, Below.refl _ _⟩

/-- One of several slices of bytes: where it lies, its bytes, its capacity. -/
abbrev Part := Option Addr × List Int × Nat
def Part.v (p : Part) : Value := .slice p.1 p.2.1.length p.2.2
/-- A slice of slices of bytes that can be read. -/
structure Parts (w : World) (a : Option Addr) (L : List Part) : Prop where
  cells : L ≠ [] → ∃ b off, a = some ⟨b, off, none⟩ ∧ b < w.heap.size ∧ ∀ i p, L[i]? = some p → w.cell? ⟨b, off + i, none⟩ = some (Part.v p)
  rows : ∀ p ∈ L, Row .u8 w p.1 p.2.1 ∧ (p.1 = none → p.2.2 = 0)
def flat (L : List Part) : List Int := L.flatMap (·.2.1)
theorem flat_snoc (L : List Part) (k : Nat) (p : Part) (h : L[k]? = some p) : flat (L.take (k + 1)) = flat (L.take k) ++ p.2.1 := by
  have hk : k < L.length := (List.getElem?_eq_some_iff.1 h).1
  rw [List.take_add_one, h]
  simp [flat]
theorem flat_le (L : List Part) (k : Nat) : (flat (L.take k)).length ≤ (flat L).length := by
  have h : flat L = flat (L.take k) ++ flat (L.drop k) := by
    unfold flat
    rw [← List.flatMap_append, List.take_append_drop]
  rw [h]; simp
theorem Parts.below {w w' : World} {a : Option Addr} {L : List Part} {B : Nat} (h : Parts w a L) (hb : Below B w w') (hB : w.heap.size ≤ B) : Parts w' a L := by
  refine ⟨fun hne => ?_, fun p hp => ⟨(h.rows p hp).1.below hb hB, (h.rows p hp).2⟩⟩
  obtain ⟨b, off, rfl, hlt, hc⟩ := h.cells hne
  exact ⟨b, off, rfl, Nat.lt_of_lt_of_le hlt hb.size, fun i p hi => (hb.cell (p := ⟨b, off + i, none⟩) (show b < B by omega)).trans (hc i p hi)⟩
theorem row_none {k : IntKind} {w : World} {xs : List Int} (h : Row k w none xs) : xs = [] := by
  cases xs with
  | nil => rfl
  | cons x r => obtain ⟨b, off, h, _⟩ := h (by simp); cases h

theorem row_cells {k : IntKind} {w : World} {ad : Addr} {xs : List Int} (h : Row k w (some ad) xs) : ∀ j u, (xs.map (Value.int k))[j]? = some u → w.cell? (ad.add j) = some u := by
  intro j u hj
  have hj2 : j < xs.length := by
    rcases Nat.lt_or_ge j xs.length with h | h
    · exact h
    · simp [List.getElem?_eq_none h] at hj
  obtain ⟨b, off, e, hlt, hc⟩ := h.at hj2
  cases e
  rw [Addr.add_lit, hc j hj2]
  simpa [List.getElem?_map, List.getElem?_eq_getElem hj2] using hj
theorem ints_one (k : IntKind) (xs : List Int) : ∀ u ∈ xs.map (Value.int k), u.oneCell' = true := by intro u hu; simp at hu; obtain ⟨x, _, rfl⟩ := hu; rfl

set_option maxHeartbeats 800000 in
theorem concat_any (a : Option Addr) (L : List Part) (cap : Nat) (w : World) (hp : Parts w a L) (hlen : (flat L).length ≤ 1099511627776) (hL : L.length ≤ 1099511627776) :
    Calls Tryd.prog 37 #[.slice a L.length cap] w fun e w' => ∃ a' c', e = .returned (.slice a' (flat L).length c') ∧
      w'.ownsRow w.heap.size 5 1 (.slice a' (flat L).length c') (flat L).length ((flat L).map (Value.int .u8)) ∧ Below w.heap.size w w' := by
  obtain ⟨i0, hi, hz0, hz1, hz2⟩ := info_parts Tryd.info5
  have HPT := hide hp
  clear hp
  go_enter Tryd.func37, Tryd.ntmps37
  go_wp2
  go_loop [3, 11] (fun s i => ∃ k : Nat, k ≤ L.length ∧ i = .int .i64 k ∧ s = .int .i64 ((flat (L.take k)).length : Nat)) (fun _ i => L.length - (intOf i).toNat)
  case atStart => exact ⟨0, Nat.zero_le _, rfl, rfl⟩
  case round =>
    obtain ⟨k, hk, rfl, rfl⟩ := hrel
    by_cases hlt : k < L.length
    · obtain ⟨p, hpk⟩ : ∃ p, L[k]? = some p := ⟨L[k], List.getElem?_eq_getElem hlt⟩
      obtain ⟨b, off, rfl, hbl, hc⟩ := HPT.out.cells (by intro e; rw [e] at hlt; simp at hlt)
      have cx := hc k p hpk
      have hfs := congrArg List.length (flat_snoc L k p hpk)
      have hfl := flat_le L (k + 1)
      rw [List.length_append] at hfs
      unfold Part.v at cx
      obtain ⟨pa, pxs, pc⟩ := p
      simp only at cx hfs
      generalize pxs.length = pn at *
      generalize (flat (L.take k)).length = f0 at *
      have HF := hide hfs
      have hfb : f0 + pn ≤ 1099511627776 := by omega
      clear hfs hpk hc hfl
      go_wp2
      go_round
      case rel => exact ⟨k + 1, by omega, by go_num, by rw [HF.out]; go_num⟩
      case measure => simp [intOf]; omega
    · obtain rfl : k = L.length := by omega
      rw [List.take_length]
      go_wp2_with fail
      refine (grow_any _ w hlen).mono ?_
      rintro e w1 ⟨v, rfl, hown, hbel⟩
      obtain ⟨a1, c1, rfl⟩ := slice_form hown
      go_wp2
      go_loopw [6, 27] (fun s i wr => ∃ k : Nat, ∃ a' c', k ≤ L.length ∧ i = .int .i64 k ∧ s = .slice a' (flat (L.take k)).length c' ∧
          wr.ownsRow w.heap.size 5 1 (.slice a' (flat (L.take k)).length c') (flat (L.take k)).length ((flat (L.take k)).map (Value.int .u8)) ∧ Below w.heap.size w wr)
        (fun _ i _ => L.length - (intOf i).toNat)
      case atStart => exact ⟨0, a1, c1, Nat.zero_le _, rfl, rfl, hown, hbel⟩
      case round =>
        clear hown hbel
        obtain ⟨k, a', c', hk, rfl, rfl, hown, hbel⟩ := hrel
        by_cases hlt : k < L.length
        · obtain ⟨p, hpk⟩ : ∃ p, L[k]? = some p := ⟨L[k], List.getElem?_eq_getElem hlt⟩
          obtain ⟨b, off, rfl, hbl, hc⟩ := (HPT.out.below hbel (Nat.le_refl _)).cells (by intro e; rw [e] at hlt; simp at hlt)
          obtain ⟨hrow, hnil⟩ := (HPT.out.below hbel (Nat.le_refl _)).rows p (List.mem_of_getElem? hpk)
          have cx := hc k p hpk
          have hfs := flat_snoc L k p hpk
          have hfl := flat_le L (k + 1)
          rw [hfs, List.length_append] at hfl
          unfold Part.v at cx
          obtain ⟨pa, pxs, pc⟩ := p
          simp only at cx hfs hfl hrow hnil
          have HF := hide hfs
          have HO := hide hown
          generalize flat (L.take k) = f0 at *
          have hfb : f0.length + pxs.length ≤ 1099511627776 := by omega
          clear hfs hpk hc hfl hown
          cases pa with
          | none =>
            obtain rfl := row_none hrow
            obtain rfl := hnil rfl
            clear hrow hnil
            go_wp2_with (at_builtin; refine wpList_append_own_none rfl _ _ 25 rfl w.heap.size 5 i0 1 Tryd.underlying25 hi _ _ _ rfl HO.out rfl ?_)
            go_roundw
            case rel => exact ⟨k + 1, a', c', by omega, by go_num, by rw [HF.out]; simp, by rw [HF.out]; simpa using HO.out, hbel⟩
            case measure => simp [intOf]; omega
          | some ad =>
            clear hnil
            have hcl := row_cells hrow
            have HC := hide hcl
            clear hcl hrow
            go_wp2_with (at_builtin; refine wpList_append_own _ rfl _ _ 25 rfl w.heap.size 5 i0 (.int .u8 0) 1 1 Tryd.underlying25 hi hz0 hz1 hz2 rfl (by decide) _ _ _ rfl HO.out ad pxs.length pc (pxs.map (Value.int .u8)) rfl (by simp) HC.out (ints_one _ _) (by unfold maxLen; omega) (by omega) hbel.size ?_)
            intro v' w2 hown2 hgrow _
            obtain ⟨a2, c2, rfl⟩ := slice_form hown2
            have hbel2 : Below w.heap.size w w2 := hbel.grown hgrow hbel.size (fun j e => (HO.out.lt j e).1)
            have O2 := hide hown2
            have B2 := hide hbel2
            clear hown2 hbel2 hgrow
            go_wp2
            go_roundw
            case rel => exact ⟨k + 1, a2, c2, by omega, by go_num, by rw [HF.out]; simp, by rw [HF.out]; simpa using O2.out, B2.out⟩
            case measure => simp [intOf]; omega
        · obtain rfl : k = L.length := by omega
          rw [List.take_length] at hown ⊢
          go_wp2
          go_ret
          exact ⟨a', c', rfl, hown, hbel⟩

/-- 'Join'. -/
theorem join_any (a : Option Addr) (L : List Part) (cap : Nat) (w : World) (hp : Parts w a L) (hlen : (flat L).length ≤ 1099511627776) (hL : L.length ≤ 1099511627776) :
    Calls Tryd.prog 20 #[.slice a L.length cap] w fun e w' => ∃ a' c', e = .returned (.slice a' (flat L).length c') ∧
      w'.ownsRow w.heap.size 5 1 (.slice a' (flat L).length c') (flat L).length ((flat L).map (Value.int .u8)) ∧ Below w.heap.size w w' := by
  go_enter Tryd.func20, Tryd.ntmps20
  go_wp2_with (go_at_call 37; refine (concat_any a L cap w hp hlen hL).mono ?_; rintro e w1 ⟨a1, c1, rfl, hown, hbel⟩)
  go_ret
  exact ⟨a1, c1, rfl, hown, hbel⟩

theorem none_cap {w : World} {base : Nat} {e : TypeId} {a : Option Addr} {n c m : Nat} {xs : List Value} (h : w.ownsRow base e m (.slice a n c) n xs) : a = none → c = 0 := by
  intro ha
  rcases h.2 with ⟨h, _⟩ | ⟨g, cap, cur, hv, _⟩
  · simp at h; exact h.2.2
  · subst ha; simp at hv

/-- 'Join' of two, over the slice that the call's own operands make. -/
theorem join2_any (a1 a2 : Option Addr) (xs ys : List Int) (m1 m2 c1 c2 : Nat) (w : World) (l1 : xs.length = m1) (l2 : ys.length = m2) (h1 : Row .u8 w a1 xs) (n1 : a1 = none → c1 = 0) (h2 : Row .u8 w a2 ys) (n2 : a2 = none → c2 = 0) (hlen : m1 + m2 ≤ 1099511627776) :
    Calls Tryd.prog 20 #[.slice (some ⟨w.heap.size, 0, none⟩) 2 2] (w.alloc (.cells #[.slice a1 m1 c1, .slice a2 m2 c2] 25)) fun e w' => ∃ a' c', e = .returned (.slice a' (m1 + m2) c') ∧
      w'.ownsRow w.heap.size 5 1 (.slice a' (m1 + m2) c') (m1 + m2) ((xs ++ ys).map (Value.int .u8)) ∧ Below w.heap.size w w' := by
  subst l1; subst l2
  have hb : Below w.heap.size w (w.alloc (.cells #[.slice a1 xs.length c1, .slice a2 ys.length c2] 25)) := (Below.refl _ _).alloc (Nat.le_refl _) _
  have hp : Parts (w.alloc (.cells #[.slice a1 xs.length c1, .slice a2 ys.length c2] 25)) (some ⟨w.heap.size, 0, none⟩) [(a1, xs, c1), (a2, ys, c2)] := by
    refine ⟨fun _ => ⟨w.heap.size, 0, rfl, by simp, ?_⟩, ?_⟩
    · intro i p hi
      match i, hi with
      | 0, hi => simp at hi; subst hi; rw [World.cell?_alloc_at _ _ _ _ rfl]; rfl
      | 1, hi => simp at hi; subst hi; rw [World.cell?_alloc_at _ _ _ _ rfl]; rfl
    · intro p hp
      simp at hp
      rcases hp with rfl | rfl
      · exact ⟨h1.below hb (Nat.le_refl _), n1⟩
      · exact ⟨h2.below hb (Nat.le_refl _), n2⟩
  have hf : flat [(a1, xs, c1), (a2, ys, c2)] = xs ++ ys := by simp [flat]
  have h := join_any (some ⟨w.heap.size, 0, none⟩) [(a1, xs, c1), (a2, ys, c2)] 2 _ hp (by rw [hf]; simpa using hlen) (by simp)
  rw [hf] at h
  refine h.mono ?_
  rintro e w' ⟨a', c', rfl, hown, hbel⟩
  rw [List.length_append] at hown ⊢
  exact ⟨a', c', rfl, owns_mono hown (by simp), hb.trans (hbel.mono (by simp))⟩
end Go.Proofs.YtlipckpacdioiaaDoor
