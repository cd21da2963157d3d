/- inet: InetReads. -/
import Derived.Test.YtlipckpacdioiaaDoorIRb
namespace Go.Proofs.YtlipckpacdioiaaDoor
open Go.RowKit
set_option linter.unusedVariables false
set_option linter.unusedSimpArgs false
set_option maxRecDepth 100000
theorem Row.other {w w' : World} {a : Option Addr} {xs : List Int} {Q : Nat → Prop} (h : Row .u8 w a xs) (ho : ∀ k, Q k → w'.heap[k]? = w.heap[k]?) (hs : w'.heap.size = w.heap.size) (hg : ∀ b, a = some b → Q b.block) : Row .u8 w' a xs := by
  intro hne
  obtain ⟨b, off, e, hlt, hc⟩ := h hne
  exact ⟨b, off, e, by omega, fun i hi => (World.cell?_of_block (w := w) (ho b (hg _ e))).trans (hc i hi)⟩
/-- A body of one's own lies apart from what was there. -/
theorem own_blk {w : World} {base n c : Nat} {a : Option Addr} {xs : List Int} (h : w.ownsRow base 5 1 (.slice a n c) n (xs.map (Value.int .u8))) : ∀ b, a = some b → base ≤ b.block ∧ b.block < w.heap.size := by
  intro b e
  rcases h.2 with ⟨h1, _⟩ | ⟨k, c', cur, hv, hk, hh, _⟩
  · simp at h1; rw [h1.1] at e; cases e
  · obtain ⟨rfl, rfl⟩ : a = some ⟨k, 0, none⟩ ∧ c = c' := by simpa using hv
    cases e
    exact ⟨hk, lt_of_block hh⟩
def Apart (a : Option Addr) (k : Nat) : Prop := ∀ b : Addr, a = some b → k ≠ b.block
def Spoilt (w w7 wz : World) (a : Option Addr) (n c : Nat) : Prop := (∃ ys : List Int, wz.ownsRow w.heap.size 5 1 (.slice a n c) n (ys.map (Value.int .u8))) ∧ Below w.heap.size w wz ∧ (∀ k, Apart a k → wz.heap[k]? = w7.heap[k]?) ∧ wz.heap.size = w7.heap.size
theorem Spoilt.open {w w7 wz : World} {a : Option Addr} {n c j : Nat} (h : Spoilt w w7 wz a n c) (hj : j < n) : ∃ g y, a = some ⟨g, 0, none⟩ ∧ wz.cell? ⟨g, j, none⟩ = some y ∧ wz.frozen? ⟨g, j, none⟩ = false ∧ ∀ v : Int, Spoilt w w7 (wz.setCell ⟨g, j, none⟩ (.int .u8 v)) a n c := by
  obtain ⟨⟨ys, ho⟩, hb, hk, hs⟩ := h
  obtain ⟨g, rfl, hg1, hg2, hf⟩ := own_open ho (by omega)
  have hl : (ys.map (Value.int .u8)).length = n := by simpa using ho.1
  refine ⟨g, _, rfl, (ho.cellAt j (by omega)).trans (List.getElem?_eq_getElem (by omega)), hf j, fun v => ⟨⟨ys.set j v, owns_store ho hj⟩, hb.setCell hg1 _, fun k hq => ?_, by simpa [World.setCell] using hs⟩⟩
  exact (heap_setCell_other wz ⟨g, j, none⟩ k (.int .u8 v) (hq ⟨g, 0, none⟩ rfl)).trans (hk k hq)
set_option maxHeartbeats 8000000 in
theorem inetReads_any (w : World) (da : Option Addr) (xs : List Int) (n dc : Nat) (hL : Lies w da xs n dc) (hl : xs.length = n) (hb : ∀ x ∈ xs, 0 ≤ x ∧ x ≤ 255) (ht : PT w) :
    Calls Tryd.prog 4 #[.slice da n dc] w (Yes w) := by
  have HS := hide (speaks_any w ht)
  have HL := hide hl
  have HL0 := hide hL
  have HXB := hide hb
  clear hl hL hb ht
  go_enter Tryd.func4, Tryd.ntmps4
  go_wp2_with fail
  refine HS.out.mono ?_
  rintro e w1 ⟨rfl, b1⟩
  have HB1 := hide b1
  clear b1 HS
  by_cases h4 : 4000 < n
  · have d1 : decide ((4000 : Int) < (n : Int)) = true := by simp; omega
    go_wp2_with fail
    go_ret
    exact ⟨rfl, HB1.out⟩
  have d1 : decide ((4000 : Int) < (n : Int)) = false := by simp; omega
  have hL1 := HL0.out.below HB1.out (Nat.le_refl _)
  obtain ⟨v3, w3, hrun, o3, b3, hkeep⟩ := app_own2 (w1.alloc (.cells #[] 5)) w1.heap.size (.slice (some ⟨w1.heap.size, 0, none⟩) 0 0) 0 [] (World.ownsRow_lit w1 #[] 0 (Nat.le_refl _) (by unfold maxLen; omega) rfl) da xs n dc (hL1.row.below ((Below.refl _ _).alloc (Nat.le_refl _) _) (Nat.le_refl _)) HL.out hL1.no (by omega) (by simp)
  obtain ⟨a3, c3, rfl⟩ := slice_form o3
  rw [Nat.zero_add] at o3 hrun
  rw [List.nil_append] at o3
  have hbz : Below w1.heap.size w1 w3 := ((Below.refl _ _).alloc (Nat.le_refl _) _).trans b3
  have HRUN := hide hrun
  have HB3 := hide (HB1.out.trans (hbz.mono HB1.out.size))
  have HO3 := hide (owns_mono o3 HB1.out.size)
  have HO3s := hide o3
  obtain ⟨tt, P, id, s, d, ys, k, F, hyl, hyb, hR1, hR2⟩ := read_both xs n HL.out HXB.out (by omega)
  have HY := hide (And.intro hyl hyb)
  have HRD := hide (hR1 w3 a3 c3 (Lies.of_owns o3))
  have HRR := hide hR2
  clear hrun o3 b3 hkeep hbz hyl hyb hR1 hR2 hL1
  go_upto_region 6 with (at_builtin; refine Lib.wpList_append_run _ rfl _ _ _ _ rfl _ _ rfl rfl _ _ HRUN.out ?_)
  go_wp2_with fail
  refine HRD.out.mono ?_
  rintro e w4 ⟨a4, c4, rfl, o4, b4⟩
  have HB4 := hide (HB3.out.trans (b4.mono HB3.out.size))
  have HO4 := hide (owns_below HO3.out b4 (Nat.le_refl _))
  have HP4 := hide o4
  have HSZ := hide (show w3.heap.size ≤ w4.heap.size from b4.size)
  clear b4 o4 HRD HRUN
  obtain ⟨w5, hw5, hb5, hn5⟩ : ∃ V, w4.alloc (.cells (pkV tt P id s d a4 k c4) 27) = V ∧ Below w4.heap.size w4 V ∧ V.heap[w4.heap.size]? = some (.cells (pkV tt P id s d a4 k c4) 27 (0, 0)) := ⟨_, rfl, (Below.refl _ _).alloc (Nat.le_refl _) _, heap_alloc_new _ _⟩
  obtain ⟨B, hBq⟩ : ∃ B, w4.heap.size = B := ⟨_, rfl⟩
  rw [hBq] at hn5
  have HN5 := hide hn5
  have HB5 := hide (HB4.out.trans (hb5.mono HB4.out.size))
  have HO5 := hide (owns_below HO4.out hb5 (Nat.le_refl _))
  have HP5 := hide (owns_below HP4.out hb5 (Nat.le_refl _))
  have HBs := hide (show w3.heap.size ≤ B by have := HSZ.out; omega)
  have HE5 := hide (show B < w5.heap.size from lt_of_block hn5)
  have HR2 := hide (HRR.out w5 da dc (HL0.out.below HB5.out (Nat.le_refl _)))
  unfold pkV at hw5
  have HE := hide (And.intro hw5 hBq)
  clear hw5 hb5 hn5 hBq HRR HB4 HO4 HP4 HSZ
  unfold pkV
  go_upto_region 7 with (fail)
  rw [HE.out.1]
  try rw [HE.out.2]
  clear HE
  go_wp2_with fail
  refine HR2.out.mono ?_
  rintro e w6 ⟨a6, c6, rfl, o6, b6⟩
  have HN6 := hide (below_block b6 HN5.out (Nat.le_refl _))
  have HB6 := hide (HB5.out.trans (b6.mono HB5.out.size))
  have HO6 := hide (owns_below HO5.out b6 (Nat.le_refl _))
  have HP6 := hide (owns_below HP5.out b6 (Nat.le_refl _))
  have HQ6 := hide o6
  have HW56 := hide b6.size
  clear b6 o6 HR2 HN5 HB5 HO5 HP5
  obtain ⟨w7, hw7, hb7, hn7⟩ : ∃ V, w6.alloc (.cells (pkV tt P id s d a6 k c6) 27) = V ∧ Below w6.heap.size w6 V ∧ V.heap[w6.heap.size]? = some (.cells (pkV tt P id s d a6 k c6) 27 (0, 0)) := ⟨_, rfl, (Below.refl _ _).alloc (Nat.le_refl _) _, heap_alloc_new _ _⟩
  obtain ⟨C, hCq⟩ : ∃ C, w6.heap.size = C := ⟨_, rfl⟩
  rw [hCq] at hn7
  have HC7 := hide hn7
  have HN7 := hide (below_block hb7 HN6.out (Nat.le_refl _))
  have HB7 := hide (HB6.out.trans (hb7.mono HB6.out.size))
  have HO7 := hide (owns_below HO6.out hb7 (Nat.le_refl _))
  have HP7 := hide (owns_below HP6.out hb7 (Nat.le_refl _))
  have HQ7 := hide (owns_below HQ6.out hb7 (Nat.le_refl _))
  have HCs := hide (show B < C by have := HE5.out; have := HW56.out; omega)
  unfold pkV at hw7
  have HE := hide (And.intro hw7 hCq)
  clear hw7 hb7 hn7 hCq HN6 HB6 HO6 HP6 HQ6
  unfold pkV
  go_upto_region 8 with (fail)
  rw [HE.out.1]
  try rw [HE.out.2]
  clear HE
  have HSP := hide (show Spoilt w w7 w7 a3 n c3 from ⟨⟨_, HO7.out⟩, HB7.out, fun _ _ => rfl, rfl⟩)
  have HAp := hide (show ∀ k, w3.heap.size ≤ k → Apart a3 k from fun k hk b e => by have := (own_blk HO3s.out b e).2; omega)
  have HRa := hide (show Row .u8 w7 a4 ys ∧ ∀ b, a4 = some b → Apart a3 b.block from ⟨Row.of_owns HP7.out, fun b e => HAp.out _ (own_blk HP7.out b e).1⟩)
  have HRb := hide (show Row .u8 w7 a6 ys ∧ ∀ b, a6 = some b → Apart a3 b.block from ⟨Row.of_owns HQ7.out, fun b e => HAp.out _ (by have := (own_blk HQ7.out b e).1; have := HBs.out; have := HE5.out; omega)⟩)
  have HAB := hide (show Apart a3 B ∧ Apart a3 C from ⟨HAp.out B HBs.out, HAp.out C (by have := HBs.out; have := HCs.out; omega)⟩)
  clear HO7 HB7 HP7 HQ7 HAp HO3 HO3s HB3 HBs HE5 HCs HW56
  go_wp2_with fail
  go_loopw [29] (fun i wz => ∃ j : Nat, j ≤ n ∧ i = .int .i64 j ∧ Hid (Spoilt w w7 wz a3 n c3)) (fun i _ => n - (intOf i).toNat)
  case atStart => exact ⟨0, Nat.zero_le _, rfl, HSP⟩
  case round =>
    clear HSP
    obtain ⟨j, hj, rfl, HSP⟩ := hrel
    by_cases hlt : j < n
    · obtain ⟨g, y, rfl, hcj, hfj, hnext⟩ := HSP.out.open hlt
      have HNX := hide (hnext 238)
      have i1 : (j : Int) < (n : Int) := by omega
      clear hnext
      go_wp2_with fail
      go_roundw
      case rel => exact ⟨j + 1, by omega, by go_num, HNX⟩
      case measure => simp [intOf]; omega
    · obtain ⟨_, hbz, hk, hs⟩ := HSP.out
      have hN := (hk B HAB.out.1).trans HN7.out
      have hC := (hk C HAB.out.2).trans HC7.out
      obtain ⟨y0, y1, y2, y3, y4, y5⟩ := pk_cells hN
      obtain ⟨z0, z1, z2, z3, z4, z5⟩ := pk_cells hC
      have HSM := hide (same_self wr tt P id s d a4 a6 ys k c4 c6 (HRa.out.1.other hk hs HRa.out.2) (HRb.out.1.other hk hs HRb.out.2) HY.out.1 HY.out.2)
      unfold pkV at HSM
      have HBZ := hide hbz
      have hFF : (F == F) = true := by simp
      clear hbz hk hs hN hC
      go_wp2_with fail
      refine HSM.out.mono ?_
      rintro e wz ⟨rfl, bz⟩
      have HZ := hide (HBZ.out.trans (bz.mono HBZ.out.size))
      clear bz y0 y1 y2 y3 y4 y5 z0 z1 z2 z3 z4 z5
      go_wp2_with fail
      go_ret
      exact ⟨rfl, HZ.out⟩
end Go.Proofs.YtlipckpacdioiaaDoor
