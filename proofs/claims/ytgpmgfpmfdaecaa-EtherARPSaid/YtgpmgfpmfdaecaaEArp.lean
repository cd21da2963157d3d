/- What ether.WriteARP answers. -/
import Derived.Test.YtgpmgfpmfdaecaaESpeaks
namespace Go.Proofs.Ytgpmgfpmfdaecaa
open Go.RowKit
set_option linter.unusedVariables false
set_option linter.unusedSimpArgs false
theorem isOp_any (o : Nat) (w : World) : Calls Try.prog 34 #[.int .u16 (o : Int)] w fun e w' => e = .returned (.bool (decide (o = 1 ∨ o = 2))) ∧ w = w' := by
  by_cases h1 : o = 1
  · subst h1
    go_enter Try.func34, Try.ntmps34
    go_wp2
    go_ret
    exact ⟨rfl, rfl⟩
  · by_cases h2 : o = 2
    · subst h2
      go_enter Try.func34, Try.ntmps34
      go_wp2
      go_ret
      exact ⟨rfl, rfl⟩
    · have e : decide (o = 1 ∨ o = 2) = false := by simp [h1, h2]
      have b1 : ((o : Int) == 1) = false := by simp; omega
      have b2 : ((o : Int) == 2) = false := by simp; omega
      rw [e]
      clear h1 h2 e
      go_enter Try.func34, Try.ntmps34
      go_wp2
      go_ret
      exact ⟨rfl, rfl⟩
theorem begin_any (w : World) : Calls Try.prog 35 #[] w fun e w' => e = .returned (.agg #[.int .u8 0, .int .u8 1, .int .u8 8, .int .u8 0, .int .u8 6, .int .u8 4]) ∧ Below w.heap.size w w' := by
  go_enter Try.func35, Try.ntmps35
  go_wp2
  exact bodyPost_ret (v := .agg #[.int .u8 0, .int .u8 1, .int .u8 8, .int .u8 0, .int .u8 6, .int .u8 4]) (by simp [results, Try.results35, go_sem]) rfl ⟨rfl, (Below.refl _ _).alloc (Nat.le_refl _) _⟩
theorem arp_cells {W : World} {B0 : Nat} {t : TypeId} {o : Nat} {d s : Nat → UInt8} {x y : Nat} (h : W.heap[B0]? = some (.cells #[.int .u16 (o : Int), .int .u8 ((d 0).toNat : Int), .int .u8 ((d 1).toNat : Int), .int .u8 ((d 2).toNat : Int), .int .u8 ((d 3).toNat : Int), .int .u8 ((d 4).toNat : Int), .int .u8 ((d 5).toNat : Int), .int .u8 ((s 0).toNat : Int), .int .u8 ((s 1).toNat : Int), .int .u8 ((s 2).toNat : Int), .int .u8 ((s 3).toNat : Int), .int .u8 ((s 4).toNat : Int), .int .u8 ((s 5).toNat : Int), .int .u32 (x : Int), .int .u32 (y : Int)] t (0, 0))) :
    W.cell? ⟨B0, 0, none⟩ = some (.int .u16 (o : Int)) ∧ W.cell? ⟨B0, 1, none⟩ = some (.int .u8 ((d 0).toNat : Int)) ∧ W.cell? ⟨B0, 2, none⟩ = some (.int .u8 ((d 1).toNat : Int)) ∧ W.cell? ⟨B0, 3, none⟩ = some (.int .u8 ((d 2).toNat : Int)) ∧ W.cell? ⟨B0, 4, none⟩ = some (.int .u8 ((d 3).toNat : Int)) ∧ W.cell? ⟨B0, 5, none⟩ = some (.int .u8 ((d 4).toNat : Int)) ∧ W.cell? ⟨B0, 6, none⟩ = some (.int .u8 ((d 5).toNat : Int)) ∧ W.cell? ⟨B0, 7, none⟩ = some (.int .u8 ((s 0).toNat : Int)) ∧ W.cell? ⟨B0, 8, none⟩ = some (.int .u8 ((s 1).toNat : Int)) ∧ W.cell? ⟨B0, 9, none⟩ = some (.int .u8 ((s 2).toNat : Int)) ∧ W.cell? ⟨B0, 10, none⟩ = some (.int .u8 ((s 3).toNat : Int)) ∧ W.cell? ⟨B0, 11, none⟩ = some (.int .u8 ((s 4).toNat : Int)) ∧ W.cell? ⟨B0, 12, none⟩ = some (.int .u8 ((s 5).toNat : Int)) ∧ W.cell? ⟨B0, 13, none⟩ = some (.int .u32 (x : Int)) ∧ W.cell? ⟨B0, 14, none⟩ = some (.int .u32 (y : Int)) := by simp [World.cell?, h]
theorem arp_from {w : World} {g : Nat} {t : TypeId} {o : Nat} {d s : Nat → UInt8} {x y : Nat} (h : w.heap[g]? = some (.cells #[.int .u16 (o : Int), .int .u8 ((d 0).toNat : Int), .int .u8 ((d 1).toNat : Int), .int .u8 ((d 2).toNat : Int), .int .u8 ((d 3).toNat : Int), .int .u8 ((d 4).toNat : Int), .int .u8 ((d 5).toNat : Int), .int .u8 ((s 0).toNat : Int), .int .u8 ((s 1).toNat : Int), .int .u8 ((s 2).toNat : Int), .int .u8 ((s 3).toNat : Int), .int .u8 ((s 4).toNat : Int), .int .u8 ((s 5).toNat : Int), .int .u32 (x : Int), .int .u32 (y : Int)] t (0, 0))) : Row .u8 w (some ⟨g, 1, none⟩) [((d 0).toNat : Int), ((d 1).toNat : Int), ((d 2).toNat : Int), ((d 3).toNat : Int), ((d 4).toNat : Int), ((d 5).toNat : Int)] :=
  row_lit h (fun i hi => by
    match i, hi with
    | 0, _ => rfl
    | 1, _ => rfl
    | 2, _ => rfl
    | 3, _ => rfl
    | 4, _ => rfl
    | 5, _ => rfl)
theorem arp_to {w : World} {g : Nat} {t : TypeId} {o : Nat} {d s : Nat → UInt8} {x y : Nat} (h : w.heap[g]? = some (.cells #[.int .u16 (o : Int), .int .u8 ((d 0).toNat : Int), .int .u8 ((d 1).toNat : Int), .int .u8 ((d 2).toNat : Int), .int .u8 ((d 3).toNat : Int), .int .u8 ((d 4).toNat : Int), .int .u8 ((d 5).toNat : Int), .int .u8 ((s 0).toNat : Int), .int .u8 ((s 1).toNat : Int), .int .u8 ((s 2).toNat : Int), .int .u8 ((s 3).toNat : Int), .int .u8 ((s 4).toNat : Int), .int .u8 ((s 5).toNat : Int), .int .u32 (x : Int), .int .u32 (y : Int)] t (0, 0))) : Row .u8 w (some ⟨g, 7, none⟩) [((s 0).toNat : Int), ((s 1).toNat : Int), ((s 2).toNat : Int), ((s 3).toNat : Int), ((s 4).toNat : Int), ((s 5).toNat : Int)] :=
  row_lit h (fun i hi => by
    match i, hi with
    | 0, _ => rfl
    | 1, _ => rfl
    | 2, _ => rfl
    | 3, _ => rfl
    | 4, _ => rfl
    | 5, _ => rfl)
/-- An ARP packet's bytes. -/
def arpL (o : Nat) (d s : Nat → UInt8) (x y : Nat) : List Int := [0, 1, 8, 0, 6, 4] ++ numB 2 o ++ [((d 0).toNat : Int), ((d 1).toNat : Int), ((d 2).toNat : Int), ((d 3).toNat : Int), ((d 4).toNat : Int), ((d 5).toNat : Int)] ++ numB 4 x ++ [((s 0).toNat : Int), ((s 1).toNat : Int), ((s 2).toNat : Int), ((s 3).toNat : Int), ((s 4).toNat : Int), ((s 5).toNat : Int)] ++ numB 4 y
/-- 'Join' of six, over the slice that the call's own operands make. -/
theorem join6_new (w1 : World) (a0 a1 a2 a3 a4 a5 : Option Addr) (x0 x1 x2 x3 x4 x5 : List Int) (m0 m1 m2 m3 m4 m5 c0 c1 c2 c3 c4 c5 : Nat)
    (l0 : x0.length = m0) (l1 : x1.length = m1) (l2 : x2.length = m2) (l3 : x3.length = m3) (l4 : x4.length = m4) (l5 : x5.length = m5)
    (h0 : Row .u8 w1 a0 x0) (n0 : a0 = none → c0 = 0) (h1 : Row .u8 w1 a1 x1) (n1 : a1 = none → c1 = 0) (h2 : Row .u8 w1 a2 x2) (n2 : a2 = none → c2 = 0) (h3 : Row .u8 w1 a3 x3) (n3 : a3 = none → c3 = 0) (h4 : Row .u8 w1 a4 x4) (n4 : a4 = none → c4 = 0) (h5 : Row .u8 w1 a5 x5) (n5 : a5 = none → c5 = 0)
    (m : Nat) (hm : m0 + m1 + m2 + m3 + m4 + m5 = m) (hlen : m ≤ 1099511627776) :
    Calls Try.prog 32 #[.slice (some ⟨w1.heap.size, 0, none⟩) 6 6] (w1.alloc (.cells #[.slice a0 m0 c0, .slice a1 m1 c1, .slice a2 m2 c2, .slice a3 m3 c3, .slice a4 m4 c4, .slice a5 m5 c5] 22)) fun e w' => ∃ a' c', e = .returned (.slice a' m c') ∧
      w'.ownsRow w1.heap.size 5 1 (.slice a' m c') m ((x0 ++ x1 ++ x2 ++ x3 ++ x4 ++ x5).map (Value.int .u8)) ∧ Below w1.heap.size w1 w' := by
  subst l0; subst l1; subst l2; subst l3; subst l4; subst l5; subst hm
  have hb : Below w1.heap.size w1 (w1.alloc (.cells #[.slice a0 x0.length c0, .slice a1 x1.length c1, .slice a2 x2.length c2, .slice a3 x3.length c3, .slice a4 x4.length c4, .slice a5 x5.length c5] 22)) := (Below.refl _ _).alloc (Nat.le_refl _) _
  have hP := heap_alloc_new w1 (.cells #[.slice a0 x0.length c0, .slice a1 x1.length c1, .slice a2 x2.length c2, .slice a3 x3.length c3, .slice a4 x4.length c4, .slice a5 x5.length c5] 22)
  have hf : flat [(a0, x0, c0), (a1, x1, c1), (a2, x2, c2), (a3, x3, c3), (a4, x4, c4), (a5, x5, c5)] = x0 ++ x1 ++ x2 ++ x3 ++ x4 ++ x5 := by simp [flat]
  have hl : (flat [(a0, x0, c0), (a1, x1, c1), (a2, x2, c2), (a3, x3, c3), (a4, x4, c4), (a5, x5, c5)]).length = x0.length + x1.length + x2.length + x3.length + x4.length + x5.length := by rw [hf]; simp only [List.length_append]
  generalize hV : w1.alloc (.cells #[.slice a0 x0.length c0, .slice a1 x1.length c1, .slice a2 x2.length c2, .slice a3 x3.length c3, .slice a4 x4.length c4, .slice a5 x5.length c5] 22) = V at *
  have hp : Parts V (some ⟨w1.heap.size, 0, none⟩) [(a0, x0, c0), (a1, x1, c1), (a2, x2, c2), (a3, x3, c3), (a4, x4, c4), (a5, x5, c5)] := by
    refine ⟨fun _ => ⟨w1.heap.size, 0, rfl, lt_of_block hP, ?_⟩, ?_⟩
    · intro i p hi
      match i, hi with
      | 0, hi => simp at hi; subst hi; simp [World.cell?, hP, Part.v]
      | 1, hi => simp at hi; subst hi; simp [World.cell?, hP, Part.v]
      | 2, hi => simp at hi; subst hi; simp [World.cell?, hP, Part.v]
      | 3, hi => simp at hi; subst hi; simp [World.cell?, hP, Part.v]
      | 4, hi => simp at hi; subst hi; simp [World.cell?, hP, Part.v]
      | 5, hi => simp at hi; subst hi; simp [World.cell?, hP, Part.v]
    · intro p hp
      simp at hp
      rcases hp with rfl | rfl | rfl | rfl | rfl | rfl
      · exact ⟨h0.below hb (Nat.le_refl _), n0⟩
      · exact ⟨h1.below hb (Nat.le_refl _), n1⟩
      · exact ⟨h2.below hb (Nat.le_refl _), n2⟩
      · exact ⟨h3.below hb (Nat.le_refl _), n3⟩
      · exact ⟨h4.below hb (Nat.le_refl _), n4⟩
      · exact ⟨h5.below hb (Nat.le_refl _), n5⟩
  have h := join_any (some ⟨w1.heap.size, 0, none⟩) [(a0, x0, c0), (a1, x1, c1), (a2, x2, c2), (a3, x3, c3), (a4, x4, c4), (a5, x5, c5)] 6 V hp (by rw [hl]; exact hlen) (by simp)
  rw [hl, hf] at h
  refine h.mono ?_
  rintro e w' ⟨a', c', rfl, hown, hbel⟩
  exact ⟨a', c', rfl, owns_mono hown hb.size, hb.trans (hbel.mono hb.size)⟩
set_option maxHeartbeats 800000 in
theorem earp_arg (w : World) (o : Nat) (d s : Nat → UInt8) (x y : Nat) (h : ¬ (o = 1 ∨ o = 2)) :
    Calls Try.prog 11 #[.agg #[.int .u16 (o : Int), .int .u8 ((d 0).toNat : Int), .int .u8 ((d 1).toNat : Int), .int .u8 ((d 2).toNat : Int), .int .u8 ((d 3).toNat : Int), .int .u8 ((d 4).toNat : Int), .int .u8 ((d 5).toNat : Int), .int .u8 ((s 0).toNat : Int), .int .u8 ((s 1).toNat : Int), .int .u8 ((s 2).toNat : Int), .int .u8 ((s 3).toNat : Int), .int .u8 ((s 4).toNat : Int), .int .u8 ((s 5).toNat : Int), .int .u32 (x : Int), .int .u32 (y : Int)]] w fun e w' => e = .returned (.tuple #[.slice none 0 0, .int .i64 1]) ∧ Below w.heap.size w w' := by
  have hi := fun w => isOp_any o w
  rw [show decide (o = 1 ∨ o = 2) = false by simpa using h] at hi
  have HI := hide hi
  clear hi h
  go_enter Try.func11, Try.ntmps11
  go_wp2_with fail
  refine (HI.out _).mono ?_
  rintro e w1 ⟨rfl, rfl⟩
  go_wp2
  go_ret2
  exact ⟨rfl, (Below.refl _ _).alloc (Nat.le_refl _) _⟩
set_option maxRecDepth 100000 in
set_option maxHeartbeats 1600000 in
theorem earp_ok (w : World) (o : Nat) (d s : Nat → UInt8) (x y : Nat) (h : o = 1 ∨ o = 2) (hx : x ≤ 4294967295) (hy : y ≤ 4294967295) :
    Calls Try.prog 11 #[.agg #[.int .u16 (o : Int), .int .u8 ((d 0).toNat : Int), .int .u8 ((d 1).toNat : Int), .int .u8 ((d 2).toNat : Int), .int .u8 ((d 3).toNat : Int), .int .u8 ((d 4).toNat : Int), .int .u8 ((d 5).toNat : Int), .int .u8 ((s 0).toNat : Int), .int .u8 ((s 1).toNat : Int), .int .u8 ((s 2).toNat : Int), .int .u8 ((s 3).toNat : Int), .int .u8 ((s 4).toNat : Int), .int .u8 ((s 5).toNat : Int), .int .u32 (x : Int), .int .u32 (y : Int)]] w fun e w' => ∃ a c, e = .returned (.tuple #[.slice a 28 c, .int .i64 0]) ∧ w'.ownsRow w.heap.size 5 1 (.slice a 28 c) 28 ((arpL o d s x y).map (Value.int .u8)) ∧ Below w.heap.size w w' := by
  have hi := fun w => isOp_any o w
  rw [show decide (o = 1 ∨ o = 2) = true by simpa using h] at hi
  have ho : o ≤ 2 := by omega
  have HI := hide hi
  clear hi h
  go_enter Try.func11, Try.ntmps11
  go_wp2_with fail
  refine (HI.out _).mono ?_
  rintro e w1 ⟨rfl, rfl⟩
  go_wp2_with fail
  refine (begin_any _).mono ?_
  rintro e w1 ⟨rfl, hb1⟩
  have hbA := (Below.refl w.heap.size w).alloc (Nat.le_refl _) (.cells #[.int .u16 (o : Int), .int .u8 ((d 0).toNat : Int), .int .u8 ((d 1).toNat : Int), .int .u8 ((d 2).toNat : Int), .int .u8 ((d 3).toNat : Int), .int .u8 ((d 4).toNat : Int), .int .u8 ((d 5).toNat : Int), .int .u8 ((s 0).toNat : Int), .int .u8 ((s 1).toNat : Int), .int .u8 ((s 2).toNat : Int), .int .u8 ((s 3).toNat : Int), .int .u8 ((s 4).toNat : Int), .int .u8 ((s 5).toNat : Int), .int .u32 (x : Int), .int .u32 (y : Int)] 41)
  have hA1 : w1.heap[w.heap.size]? = some (.cells #[.int .u16 (o : Int), .int .u8 ((d 0).toNat : Int), .int .u8 ((d 1).toNat : Int), .int .u8 ((d 2).toNat : Int), .int .u8 ((d 3).toNat : Int), .int .u8 ((d 4).toNat : Int), .int .u8 ((d 5).toNat : Int), .int .u8 ((s 0).toNat : Int), .int .u8 ((s 1).toNat : Int), .int .u8 ((s 2).toNat : Int), .int .u8 ((s 3).toNat : Int), .int .u8 ((s 4).toNat : Int), .int .u8 ((s 5).toNat : Int), .int .u32 (x : Int), .int .u32 (y : Int)] 41 (0, 0)) := (hb1.block _ (by simp)).trans (heap_alloc_new w _)
  have hbw := hbA.trans (hb1.mono hbA.size)
  have hw01 : w.heap.size < w1.heap.size := lt_of_block hA1
  obtain ⟨B0, Bg, wq, hB0, hBg, hq, hbq, hqA, hqG, hlt, hbw1⟩ : ∃ B0 Bg wq, w.heap.size = B0 ∧ w1.heap.size = Bg ∧ w1.alloc (.cells #[.int .u8 0, .int .u8 1, .int .u8 8, .int .u8 0, .int .u8 6, .int .u8 4] 24) = wq ∧ Below w.heap.size w wq ∧
      wq.heap[w.heap.size]? = some (.cells #[.int .u16 (o : Int), .int .u8 ((d 0).toNat : Int), .int .u8 ((d 1).toNat : Int), .int .u8 ((d 2).toNat : Int), .int .u8 ((d 3).toNat : Int), .int .u8 ((d 4).toNat : Int), .int .u8 ((d 5).toNat : Int), .int .u8 ((s 0).toNat : Int), .int .u8 ((s 1).toNat : Int), .int .u8 ((s 2).toNat : Int), .int .u8 ((s 3).toNat : Int), .int .u8 ((s 4).toNat : Int), .int .u8 ((s 5).toNat : Int), .int .u32 (x : Int), .int .u32 (y : Int)] 41 (0, 0)) ∧ wq.heap[w1.heap.size]? = some (.cells #[.int .u8 0, .int .u8 1, .int .u8 8, .int .u8 0, .int .u8 6, .int .u8 4] 24 (0, 0)) ∧ w.heap.size < wq.heap.size ∧ w.heap.size ≤ w1.heap.size :=
    ⟨_, _, _, rfl, rfl, rfl, hbw.alloc hbw.size _, (Below.heap_alloc _ _ _ hw01).trans hA1, heap_alloc_new w1 _, by simp; omega, hbw.size⟩
  have HBQ := hide hbq
  have HB0 := hide hB0
  rw [hB0] at hqA hlt
  rw [hBg] at hqG
  obtain ⟨kqa, _, _, _, _, _, _, _, _, _, _, _, _, kqb, kqc⟩ := arp_cells hqA
  have RG := hide (row_lit (xs := [0, 1, 8, 0, 6, 4]) (o := 0) hqG (fun i hi => by
    match i, hi with
    | 0, _ => rfl
    | 1, _ => rfl
    | 2, _ => rfl
    | 3, _ => rfl
    | 4, _ => rfl
    | 5, _ => rfl))
  have RF := hide (arp_from hqA)
  have RT := hide (arp_to hqA)
  have hco : IntKind.u64.wrap (o : Int) = (o : Int) := wraps_u64 _ (by omega) (by omega)
  have hcx : IntKind.u64.wrap (x : Int) = (x : Int) := wraps_u64 _ (by omega) (by omega)
  have hcy : IntKind.u64.wrap (y : Int) = (y : Int) := wraps_u64 _ (by omega) (by omega)
  clear hbA hA1 hbw hw01 hbq hqA hqG hb1 hbw1
  have hq' := hide hq
  have hBg' := hide hBg
  have hB0' := hide hB0
  clear hq hBg hB0
  go_wp2_with fail
  rw [hq'.out, hBg'.out, hB0'.out]
  go_region_held3 (fun w' => w'.cell? ⟨B0, 0, none⟩ = some (.int .u16 o) ∧ w'.cell? ⟨B0, 13, none⟩ = some (.int .u32 x) ∧ w'.cell? ⟨B0, 14, none⟩ = some (.int .u32 y)) (go_keep) (first
    | (go_at_call 33; (with_reducible refine (num2_any o _ ?_).mono ?_); omega; rintro e w2 ⟨rfl, hown2, hb2⟩; have k2a := (bcell hb2 B0 0 hlt).trans kqa; have k2b := (bcell hb2 B0 13 hlt).trans kqb; have k2c := (bcell hb2 B0 14 hlt).trans kqc; have B2 := hide ((Below.refl wq.heap.size wq).drew.trans hb2); have O2 : Hid (Row .u8 w2 (some ⟨wq.heap.size, 0, none⟩) (numB 2 o)) := hide (Row.of_owns hown2); have hl2 := Nat.lt_of_lt_of_le hlt B2.out.size; clear hown2 hb2)
    | (go_at_call 33; (with_reducible refine (num4_any x _ ?_).mono ?_); omega; rintro e w3 ⟨rfl, hown3, hb3⟩; have k3a := (bcell hb3 B0 0 hl2).trans k2a; have k3b := (bcell hb3 B0 13 hl2).trans k2b; have k3c := (bcell hb3 B0 14 hl2).trans k2c; have B3 := hide hb3; have O3 := hide hown3; have hl3 := Nat.lt_of_lt_of_le hl2 B3.out.size; clear hown3 hb3)
    | (go_at_call 33; (with_reducible refine (num4_any y _ ?_).mono ?_); omega; rintro e w4 ⟨rfl, hown4, hb4⟩; have k4a := (bcell hb4 B0 0 hl3).trans k3a; have k4b := (bcell hb4 B0 13 hl3).trans k3b; have k4c := (bcell hb4 B0 14 hl3).trans k3c; have B4 := hide hb4; have O4 := hide hown4; have hl4 := Nat.lt_of_lt_of_le hl3 B4.out.size; clear hown4 hb4)
    | (go_at_call 32; with_reducible refine (join6_new w4 (some ⟨Bg, 0, none⟩) (some ⟨wq.heap.size, 0, none⟩) (some ⟨B0, 1, none⟩) (some ⟨w2.heap.size, 0, none⟩) (some ⟨B0, 7, none⟩) (some ⟨w3.heap.size, 0, none⟩) [0, 1, 8, 0, 6, 4] (numB 2 o) [((d 0).toNat : Int), ((d 1).toNat : Int), ((d 2).toNat : Int), ((d 3).toNat : Int), ((d 4).toNat : Int), ((d 5).toNat : Int)] (numB 4 x) [((s 0).toNat : Int), ((s 1).toNat : Int), ((s 2).toNat : Int), ((s 3).toNat : Int), ((s 4).toNat : Int), ((s 5).toNat : Int)] (numB 4 y) 6 2 6 4 6 4 6 2 6 4 6 4 rfl rfl rfl rfl rfl rfl
        (((RG.out.below B2.out (Nat.le_refl _)).below B3.out (Nat.le_refl _)).below B4.out (Nat.le_refl _)) (fun h => by cases h) ((O2.out.below B3.out (Nat.le_refl _)).below B4.out (Nat.le_refl _)) (fun h => by cases h) (((RF.out.below B2.out (Nat.le_refl _)).below B3.out (Nat.le_refl _)).below B4.out (Nat.le_refl _)) (fun h => by cases h)
        ((Row.of_owns O3.out).below B4.out (Nat.le_refl _)) (fun h => by cases h) (((RT.out.below B2.out (Nat.le_refl _)).below B3.out (Nat.le_refl _)).below B4.out (Nat.le_refl _)) (fun h => by cases h) (Row.of_owns O4.out) (fun h => by cases h) 28 rfl (by omega)).mono ?_; rintro e w5 ⟨a5, c5, rfl, hown5, hb5⟩; have k5a := (bcell hb5 B0 0 hl4).trans k4a; have k5b := (bcell hb5 B0 13 hl4).trans k4b; have k5c := (bcell hb5 B0 14 hl4).trans k4c))
  have hs0 := HBQ.out.size
  have hbw2 := HBQ.out.trans (B2.out.mono hs0)
  have hbw3 := hbw2.trans (B3.out.mono hbw2.size)
  have hbw4 := hbw3.trans (B4.out.mono hbw3.size)
  have hbw5 := hide (hbw4.trans (hb5.mono hbw4.size))
  have HO5 := hide (owns_mono hown5 hbw4.size)
  clear hown5 hb5 hbw2 hbw3 hbw4 hs0 kqa kqb kqc k2a k2b k2c k3a k3b k3c k4a k4b k4c k5a k5b k5c
  go_wp2
  go_ret2
  exact ⟨a5, c5, rfl, HO5.out, hbw5.out⟩
end Go.Proofs.Ytgpmgfpmfdaecaa
