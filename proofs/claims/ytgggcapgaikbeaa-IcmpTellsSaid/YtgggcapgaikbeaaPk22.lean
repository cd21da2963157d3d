/- The law of icmp's answers: what is told. -/
import Derived.Test.YtgggcapgaikbeaaPk20
namespace Go.Proofs.Ytgggcapgaikbeaa
open Go.RowKit
set_option linter.unusedVariables false
set_option linter.unusedSimpArgs false
set_option maxRecDepth 100000
set_option maxHeartbeats 1600000 in
theorem icmpTells_long (w : World) (own code tt P id s d : Nat) (da : Option Addr) (n dc : Nat) (hn : 3000 < n) :
    Calls Try.prog 6 #[.int .u32 (own : Int), .agg #[.int .u8 (tt : Int), .int .u8 (P : Int), .int .u16 (id : Int), .int .u32 (s : Int), .int .u32 (d : Int), .slice da n dc], .int .u8 (code : Int)] w fun e w' => e = .returned (.bool true) ∧ Below w.heap.size w w' := by
  have hd3 : decide ((3000 : Int) < (n : Int)) = true := by simp; omega
  obtain ⟨V1, hV1⟩ : ∃ V, w.alloc (.cells #[.int .u8 (tt : Int), .int .u8 (P : Int), .int .u16 (id : Int), .int .u32 (s : Int), .int .u32 (d : Int), .slice da n dc] 27) = V := ⟨_, rfl⟩
  have hz1 : V1.heap.size = w.heap.size + 1 := by rw [← hV1]; simp
  have hb1 : Below w.heap.size w V1 := by rw [← hV1]; exact (Below.refl _ _).alloc (Nat.le_refl _) _
  have hp1_1 : V1.heap[w.heap.size]? = some (.cells #[.int .u8 (tt : Int), .int .u8 (P : Int), .int .u16 (id : Int), .int .u32 (s : Int), .int .u32 (d : Int), .slice da n dc] 27 (0, 0)) := by rw [← hV1]; exact heap_alloc_new _ _
  obtain ⟨BX, hBX⟩ : ∃ B, w.heap.size = B := ⟨_, rfl⟩
  have hw0 : w.heap.size ≤ BX := by omega
  have HX := hide (show V1.heap[BX]? = some (.cells #[.int .u8 (tt : Int), .int .u8 (P : Int), .int .u16 (id : Int), .int .u32 (s : Int), .int .u32 (d : Int), .slice da n dc] 27 (0, 0)) by rw [← hBX]; exact hp1_1)
  have NX : Hid (w.heap.size ≤ BX) := hide hw0
  have HB := hide hb1
  have HE := hide (And.intro (And.intro trivial trivial) (And.intro hV1 (And.intro hBX (trivial))))
  clear hw0 hV1 hz1 hb1  hp1_1 hBX 
  go_enter Try.func6, Try.ntmps6
  go_upto_region 1 with (fail)
  rw [HE.out.2.1]
  try rw [HE.out.2.2.1]
  clear HE
  go_wp2_with fail
  refine (speaks13 _).mono ?_
  rintro e w1 ⟨rfl, b⟩
  replace HX := hide (below_block b HX.out (Nat.le_refl _))
  replace HB := hide (HB.out.trans (b.mono HB.out.size))
  clear b 
  have qX_5 : w1.cell? ⟨BX, 5, none⟩ = some (.slice da n dc) := cell_at HX.out 5 rfl
  go_wp2_with fail
  go_ret
  exact ⟨rfl, HB.out⟩
set_option maxHeartbeats 4000000 in
theorem icmpTells_nn (w : World) (own code : Nat) (tt P id s d : Nat) (da : Option Addr) (xs : List Int) (n dc : Nat) (hLx : Lies w da xs n dc) (hl : xs.length = n) (hb : ∀ x ∈ xs, 0 ≤ x ∧ x ≤ 255) (ht : tt ≤ 255) (hP : P ≤ 255) (hid : id ≤ 65535) (hs : s ≤ 4294967295) (hd : d ≤ 4294967295) (hc : code ≤ 255) (hn : ¬ 3000 < n) (hm : icMay P s d xs = false) (ha : ansOk P xs = false) :
    Calls Try.prog 6 #[.int .u32 (own : Int), .agg #[.int .u8 (tt : Int), .int .u8 (P : Int), .int .u16 (id : Int), .int .u32 (s : Int), .int .u32 (d : Int), .slice da n dc], .int .u8 (code : Int)] w fun e w' => e = .returned (.bool true) ∧ Below w.heap.size w w' := by
  have hd3 : decide ((3000 : Int) < (n : Int)) = false := by simp; omega
  have HE1 := hide (fun (W : World) (A : Option Addr) (C : Nat) (hL : Lies W A xs n C) => exc_no W own tt P id s d A xs n C hL hl hb ht hP hid hs hd hm)
  have HU1 := hide (fun (W : World) (A : Option Addr) (C : Nat) (hL : Lies W A xs n C) => unr_no W own code tt P id s d A xs n C hL hl hb ht hP hid hs hd hm)
  have HE2 := hide (fun (W : World) (A : Option Addr) (C : Nat) (hL : Lies W A xs n C) => rerr_no W own 11 0 tt P id s d A xs n C hL hl hb ht hP hid hs hd hm)
  have HU2 := hide (fun (W : World) (A : Option Addr) (C : Nat) (hL : Lies W A xs n C) => rerr_no W own 3 code tt P id s d A xs n C hL hl hb ht hP hid hs hd hm)
  have HA1 := hide (fun (W : World) (A : Option Addr) (C : Nat) (hL : Lies W A xs n C) => ans_no W tt P id s d A xs n C hL hl hb ha)
  have HA2 := hide (fun (W : World) (A : Option Addr) (C : Nat) (hL : Lies W A xs n C) => rans_no W tt P id s d A xs n C hL hl hb ha)
  have HM1 := hide (fun (W : World) (A : Option Addr) (C : Nat) (hL : Lies W A xs n C) => may_any W tt P id s d A xs n C hL hl hb ht hP hid hs hd)
  have HM2 := hide (fun (W : World) (A : Option Addr) (C : Nat) (hL : Lies W A xs n C) => rmay_any W tt P id s d A xs n C hL hl hb ht hP hid hs hd)
  rw [hm] at HM1 HM2
  have HL := hide hl
  have HN := hide hn
  clear hm hl hb hn ha
  obtain ⟨V1, hV1⟩ : ∃ V, w.alloc (.cells #[.int .u8 (tt : Int), .int .u8 (P : Int), .int .u16 (id : Int), .int .u32 (s : Int), .int .u32 (d : Int), .slice da n dc] 27) = V := ⟨_, rfl⟩
  have hz1 : V1.heap.size = w.heap.size + 1 := by rw [← hV1]; simp
  have hb1 : Below w.heap.size w V1 := by rw [← hV1]; exact (Below.refl _ _).alloc (Nat.le_refl _) _
  have hp1_1 : V1.heap[w.heap.size]? = some (.cells #[.int .u8 (tt : Int), .int .u8 (P : Int), .int .u16 (id : Int), .int .u32 (s : Int), .int .u32 (d : Int), .slice da n dc] 27 (0, 0)) := by rw [← hV1]; exact heap_alloc_new _ _
  obtain ⟨BX, hBX⟩ : ∃ B, w.heap.size = B := ⟨_, rfl⟩
  have hw0 : w.heap.size ≤ BX := by omega
  have HX := hide (show V1.heap[BX]? = some (.cells #[.int .u8 (tt : Int), .int .u8 (P : Int), .int .u16 (id : Int), .int .u32 (s : Int), .int .u32 (d : Int), .slice da n dc] 27 (0, 0)) by rw [← hBX]; exact hp1_1)
  have NX : Hid (w.heap.size ≤ BX) := hide hw0
  have AP := hide hLx
  have RP := hide (hLx.below hb1 (Nat.le_refl _))
  have HB := hide hb1
  have HE := hide (And.intro (And.intro trivial trivial) (And.intro hV1 (And.intro hBX (trivial))))
  clear hw0 hV1 hz1 hb1  hp1_1 hBX hLx
  go_enter Try.func6, Try.ntmps6
  go_upto_region 1 with (fail)
  rw [HE.out.2.1]
  try rw [HE.out.2.2.1]
  clear HE
  go_wp2_with fail
  refine (speaks13 _).mono ?_
  rintro e w1 ⟨rfl, b⟩
  replace HX := hide (below_block b HX.out (Nat.le_refl _))
  replace RP := hide (RP.out.below b (Nat.le_refl _))
  replace HB := hide (HB.out.trans (b.mono HB.out.size))
  clear b 
  have qX_5 : w1.cell? ⟨BX, 5, none⟩ = some (.slice da n dc) := cell_at HX.out 5 rfl
  go_upto_region 5 with (fail)
  clear qX_5
  obtain ⟨w2, hwn, wb, HN1⟩ : ∃ W, w1.alloc (.cells #[.int .u8 (tt : Int), .int .u8 (P : Int), .int .u16 (id : Int), .int .u32 (s : Int), .int .u32 (d : Int), .slice da n dc] 27) = W ∧ Below w1.heap.size w1 W ∧ Hid (W.heap[w1.heap.size]? = some (.cells #[.int .u8 (tt : Int), .int .u8 (P : Int), .int .u16 (id : Int), .int .u32 (s : Int), .int .u32 (d : Int), .slice da n dc] 27 (0, 0))) := ⟨_, rfl, (Below.refl w1.heap.size w1).alloc (Nat.le_refl _) _, hide (heap_alloc_new w1 _)⟩
  obtain ⟨BY, hBn⟩ : ∃ B, w1.heap.size = B := ⟨_, rfl⟩
  rw [hBn] at HN1
  have HW := hide (And.intro hwn hBn)
  have HBo := HB
  have nqX_Y := hide (blk_ne HX.out hBn)
  clear hwn hBn
  have EX := HX
  replace HX := hide (below_block wb HX.out (Nat.le_refl _))
  replace RP := hide (RP.out.below wb (Nat.le_refl _))
  replace HB := hide (HB.out.trans (wb.mono HB.out.size))
  have HY := HN1
  have NY := hide (show w.heap.size ≤ BY by rw [← HW.out.2]; exact HBo.out.size)
  clear wb HN1 HBo
  go_upto_region 6 with ((refine ld_whole (o := ⟨some 26, _, _, _, _, _⟩) 27 (.tmp 4) rfl (by rfl) BX rfl #[.int .u8 (tt : Int), .int .u8 (P : Int), .int .u16 (id : Int), .int .u32 (s : Int), .int .u32 (d : Int), .slice da n dc] 27 EX.out Try.underlying27 (by kernel_rfl) ?_; try simp only [Act.put, List.setIfInBounds_toArray, List.set_cons_zero, List.set_cons_succ]))
  rw [HW.out.1]
  try rw [HW.out.2]
  clear HW
  clear EX
  obtain ⟨vq, v3, hrun, oq, bq, _⟩ := app_own2 (w2.alloc (.cells #[] 5)) w2.heap.size (.slice (some ⟨w2.heap.size, 0, none⟩) 0 0) 0 [] (World.ownsRow_lit w2 #[] 0 (Nat.le_refl _) (by unfold maxLen; omega) rfl) da (xs) (n) dc (RP.out.row.below ((Below.refl w2.heap.size w2).alloc (Nat.le_refl _) _) (Nat.le_refl _)) HL.out RP.out.no (by have := HN.out; omega) (by simp)
  rw [show 0 + (n) = n by omega, List.nil_append] at oq
  obtain ⟨aK, cK, rfl⟩ := slice_form oq
  have HRUN := hide hrun
  have bz := ((Below.refl w2.heap.size w2).alloc (Nat.le_refl _) (.cells #[] 5)).trans bq
  have neK_X := hide (own_ne_lt oq (lt_of_block HX.out))
  have neK_Y := hide (own_ne_lt oq (lt_of_block HY.out))
  have lbK := hide HB.out.size
  have Hm := below_block bz HY.out (Nat.le_refl _)
  have HBm := HB.out.trans (bz.mono HB.out.size)
  have fz := free_at Hm 5
  have qz : v3.cell? ⟨BY, 5, none⟩ = some (.slice da n dc) := cell_at Hm 5 rfl
  obtain ⟨w4, hVn, hVH, hVB, hVo, hVs⟩ := set1 (i := 5) (.slice aK n cK) (c' := #[.int .u8 (tt : Int), .int .u8 (P : Int), .int .u16 (id : Int), .int .u32 (s : Int), .int .u32 (d : Int), .slice aK n cK]) Hm HBm NY.out (by kernel_rfl)
  have HVn := hide hVn
  clear hVn
  have HG := hide (gb_part HBm hVB hVo hVs)
  have HXn := hide ((hVo _ nqX_Y.out).trans (below_block bz HX.out (Nat.le_refl _)))
  have HYn := hide hVH
  have RPn := hide (AP.out.below hVB (Nat.le_refl _))
  have OK := hide (owns_kept oq HG.out neK_Y.out)
  have RK := hide (Lies.of_owns OK.out)
  have HBn := hide hVB
  clear hVH hVB hVo hVs HG hrun oq bq bz Hm HBm
  have qP_ : w2.cell? ⟨BX, 5, none⟩ = some (.slice da (n) dc) := cell_at HX.out 5 rfl
  have qe_ : (w2.alloc (.cells #[] 5)).cell? ⟨BX, 5, none⟩ = some (.slice da (n) dc) := cell_at (below_block ((Below.refl w2.heap.size w2).alloc (Nat.le_refl _) (.cells #[] 5)) HX.out (Nat.le_refl _)) 5 rfl
  go_upto_region 7 with ((at_builtin; refine Lib.wpList_append_run _ rfl _ _ _ _ rfl _ _ rfl rfl _ _ HRUN.out ?_))
  rw [HVn.out]
  clear HVn fz qz qP_ qe_ HRUN
  replace HX := HXn
  clear HXn
  replace HY := HYn
  clear HYn
  replace RP := RPn
  clear RPn
  replace HB := HBn
  clear HBn
  go_wp2_with ((refine ld_whole (o := ⟨some 34, _, _, _, _, _⟩) 27 (.tmp 7) rfl (by rfl) BY rfl #[.int .u8 (tt : Int), .int .u8 (P : Int), .int .u16 (id : Int), .int .u32 (s : Int), .int .u32 (d : Int), .slice aK n cK] 27 HY.out Try.underlying27 (by kernel_rfl) ?_; try simp only [Act.put, List.setIfInBounds_toArray, List.set_cons_zero, List.set_cons_succ]))
  refine (HE1.out _ aK cK RK.out).mono ?_
  rintro e w5 ⟨rfl, b⟩
  replace HX := hide (below_block b HX.out (Nat.le_refl _))
  replace HY := hide (below_block b HY.out (Nat.le_refl _))
  replace RP := hide (RP.out.below b (Nat.le_refl _))
  replace RK := hide (RK.out.below b (Nat.le_refl _))
  replace OK := hide (owns_below OK.out b (Nat.le_refl _))
  replace HB := hide (HB.out.trans (b.mono HB.out.size))
  clear b 
  obtain ⟨w6, hwn, wb, HN1⟩ : ∃ W, w5.alloc (.cells #[.int .u8 0, .int .u8 0, .int .u16 0, .int .u32 0, .int .u32 0, .slice none 0 0] 27) = W ∧ Below w5.heap.size w5 W ∧ Hid (W.heap[w5.heap.size]? = some (.cells #[.int .u8 0, .int .u8 0, .int .u16 0, .int .u32 0, .int .u32 0, .slice none 0 0] 27 (0, 0))) := ⟨_, rfl, (Below.refl w5.heap.size w5).alloc (Nat.le_refl _) _, hide (heap_alloc_new w5 _)⟩
  obtain ⟨BE1_, hBn⟩ : ∃ B, w5.heap.size = B := ⟨_, rfl⟩
  rw [hBn] at HN1
  have HW := hide (And.intro hwn hBn)
  have HBo := HB
  have neK_E1_ := hide (own_ne (L := BE1_) OK.out (Nat.le_of_eq hBn))
  have nqX_E1_ := hide (blk_ne HX.out hBn)
  have nqY_E1_ := hide (blk_ne HY.out hBn)
  clear hwn hBn
  replace HX := hide (below_block wb HX.out (Nat.le_refl _))
  replace HY := hide (below_block wb HY.out (Nat.le_refl _))
  replace RP := hide (RP.out.below wb (Nat.le_refl _))
  replace RK := hide (RK.out.below wb (Nat.le_refl _))
  replace OK := hide (owns_below OK.out wb (Nat.le_refl _))
  replace HB := hide (HB.out.trans (wb.mono HB.out.size))
  have HE1_ := HN1
  have NE1_ := hide (show w.heap.size ≤ BE1_ by rw [← HW.out.2]; exact HBo.out.size)
  clear wb HN1 HBo
  go_upto_region 8 with (fail)
  rw [HW.out.1]
  try rw [HW.out.2]
  clear HW
  go_wp2_with ((refine ld_whole (o := ⟨some 40, _, _, _, _, _⟩) 27 (.tmp 7) rfl (by rfl) BY rfl #[.int .u8 (tt : Int), .int .u8 (P : Int), .int .u16 (id : Int), .int .u32 (s : Int), .int .u32 (d : Int), .slice aK n cK] 27 HY.out Try.underlying27 (by kernel_rfl) ?_; try simp only [Act.put, List.setIfInBounds_toArray, List.set_cons_zero, List.set_cons_succ]))
  refine (HU1.out _ aK cK RK.out).mono ?_
  rintro e w7 ⟨rfl, b⟩
  replace HX := hide (below_block b HX.out (Nat.le_refl _))
  replace HY := hide (below_block b HY.out (Nat.le_refl _))
  replace HE1_ := hide (below_block b HE1_.out (Nat.le_refl _))
  replace RP := hide (RP.out.below b (Nat.le_refl _))
  replace RK := hide (RK.out.below b (Nat.le_refl _))
  replace OK := hide (owns_below OK.out b (Nat.le_refl _))
  replace HB := hide (HB.out.trans (b.mono HB.out.size))
  clear b 
  obtain ⟨w8, hwn, wb, HN1⟩ : ∃ W, w7.alloc (.cells #[.int .u8 0, .int .u8 0, .int .u16 0, .int .u32 0, .int .u32 0, .slice none 0 0] 27) = W ∧ Below w7.heap.size w7 W ∧ Hid (W.heap[w7.heap.size]? = some (.cells #[.int .u8 0, .int .u8 0, .int .u16 0, .int .u32 0, .int .u32 0, .slice none 0 0] 27 (0, 0))) := ⟨_, rfl, (Below.refl w7.heap.size w7).alloc (Nat.le_refl _) _, hide (heap_alloc_new w7 _)⟩
  obtain ⟨BU1_, hBn⟩ : ∃ B, w7.heap.size = B := ⟨_, rfl⟩
  rw [hBn] at HN1
  have HW := hide (And.intro hwn hBn)
  have HBo := HB
  have neK_U1_ := hide (own_ne (L := BU1_) OK.out (Nat.le_of_eq hBn))
  have nqX_U1_ := hide (blk_ne HX.out hBn)
  have nqY_U1_ := hide (blk_ne HY.out hBn)
  have nqE1__U1_ := hide (blk_ne HE1_.out hBn)
  clear hwn hBn
  replace HX := hide (below_block wb HX.out (Nat.le_refl _))
  replace HY := hide (below_block wb HY.out (Nat.le_refl _))
  replace HE1_ := hide (below_block wb HE1_.out (Nat.le_refl _))
  replace RP := hide (RP.out.below wb (Nat.le_refl _))
  replace RK := hide (RK.out.below wb (Nat.le_refl _))
  replace OK := hide (owns_below OK.out wb (Nat.le_refl _))
  replace HB := hide (HB.out.trans (wb.mono HB.out.size))
  have HU1_ := HN1
  have NU1_ := hide (show w.heap.size ≤ BU1_ by rw [← HW.out.2]; exact HBo.out.size)
  clear wb HN1 HBo
  go_upto_region 9 with (fail)
  rw [HW.out.1]
  try rw [HW.out.2]
  clear HW
  go_wp2_with ((refine ld_whole (o := ⟨some 46, _, _, _, _, _⟩) 27 (.tmp 7) rfl (by rfl) BY rfl #[.int .u8 (tt : Int), .int .u8 (P : Int), .int .u16 (id : Int), .int .u32 (s : Int), .int .u32 (d : Int), .slice aK n cK] 27 HY.out Try.underlying27 (by kernel_rfl) ?_; try simp only [Act.put, List.setIfInBounds_toArray, List.set_cons_zero, List.set_cons_succ]))
  refine (HA1.out _ aK cK RK.out).mono ?_
  rintro e w9 ⟨rfl, b⟩
  replace HX := hide (below_block b HX.out (Nat.le_refl _))
  replace HY := hide (below_block b HY.out (Nat.le_refl _))
  replace HE1_ := hide (below_block b HE1_.out (Nat.le_refl _))
  replace HU1_ := hide (below_block b HU1_.out (Nat.le_refl _))
  replace RP := hide (RP.out.below b (Nat.le_refl _))
  replace RK := hide (RK.out.below b (Nat.le_refl _))
  replace OK := hide (owns_below OK.out b (Nat.le_refl _))
  replace HB := hide (HB.out.trans (b.mono HB.out.size))
  clear b 
  obtain ⟨w10, hwn, wb, HN1⟩ : ∃ W, w9.alloc (.cells #[.int .u8 0, .int .u8 0, .int .u16 0, .int .u32 0, .int .u32 0, .slice none 0 0] 27) = W ∧ Below w9.heap.size w9 W ∧ Hid (W.heap[w9.heap.size]? = some (.cells #[.int .u8 0, .int .u8 0, .int .u16 0, .int .u32 0, .int .u32 0, .slice none 0 0] 27 (0, 0))) := ⟨_, rfl, (Below.refl w9.heap.size w9).alloc (Nat.le_refl _) _, hide (heap_alloc_new w9 _)⟩
  obtain ⟨BA1_, hBn⟩ : ∃ B, w9.heap.size = B := ⟨_, rfl⟩
  rw [hBn] at HN1
  have HW := hide (And.intro hwn hBn)
  have HBo := HB
  have neK_A1_ := hide (own_ne (L := BA1_) OK.out (Nat.le_of_eq hBn))
  have nqX_A1_ := hide (blk_ne HX.out hBn)
  have nqY_A1_ := hide (blk_ne HY.out hBn)
  have nqE1__A1_ := hide (blk_ne HE1_.out hBn)
  have nqU1__A1_ := hide (blk_ne HU1_.out hBn)
  clear hwn hBn
  replace HX := hide (below_block wb HX.out (Nat.le_refl _))
  replace HY := hide (below_block wb HY.out (Nat.le_refl _))
  replace HE1_ := hide (below_block wb HE1_.out (Nat.le_refl _))
  replace HU1_ := hide (below_block wb HU1_.out (Nat.le_refl _))
  replace RP := hide (RP.out.below wb (Nat.le_refl _))
  replace RK := hide (RK.out.below wb (Nat.le_refl _))
  replace OK := hide (owns_below OK.out wb (Nat.le_refl _))
  replace HB := hide (HB.out.trans (wb.mono HB.out.size))
  have HA1_ := HN1
  have NA1_ := hide (show w.heap.size ≤ BA1_ by rw [← HW.out.2]; exact HBo.out.size)
  clear wb HN1 HBo
  go_upto_region 10 with (fail)
  rw [HW.out.1]
  try rw [HW.out.2]
  clear HW
  go_wp2_with ((refine ld_whole (o := ⟨some 52, _, _, _, _, _⟩) 27 (.tmp 4) rfl (by rfl) BX rfl #[.int .u8 (tt : Int), .int .u8 (P : Int), .int .u16 (id : Int), .int .u32 (s : Int), .int .u32 (d : Int), .slice da n dc] 27 HX.out Try.underlying27 (by kernel_rfl) ?_; try simp only [Act.put, List.setIfInBounds_toArray, List.set_cons_zero, List.set_cons_succ]))
  refine (HE2.out _ da dc RP.out).mono ?_
  rintro e w11 ⟨rfl, b⟩
  replace HX := hide (below_block b HX.out (Nat.le_refl _))
  replace HY := hide (below_block b HY.out (Nat.le_refl _))
  replace HE1_ := hide (below_block b HE1_.out (Nat.le_refl _))
  replace HU1_ := hide (below_block b HU1_.out (Nat.le_refl _))
  replace HA1_ := hide (below_block b HA1_.out (Nat.le_refl _))
  replace RP := hide (RP.out.below b (Nat.le_refl _))
  replace RK := hide (RK.out.below b (Nat.le_refl _))
  replace OK := hide (owns_below OK.out b (Nat.le_refl _))
  replace HB := hide (HB.out.trans (b.mono HB.out.size))
  clear b 
  obtain ⟨w12, hwn, wb, HN1⟩ : ∃ W, w11.alloc (.cells #[.int .u8 0, .int .u8 0, .int .u16 0, .int .u32 0, .int .u32 0, .slice none 0 0] 27) = W ∧ Below w11.heap.size w11 W ∧ Hid (W.heap[w11.heap.size]? = some (.cells #[.int .u8 0, .int .u8 0, .int .u16 0, .int .u32 0, .int .u32 0, .slice none 0 0] 27 (0, 0))) := ⟨_, rfl, (Below.refl w11.heap.size w11).alloc (Nat.le_refl _) _, hide (heap_alloc_new w11 _)⟩
  obtain ⟨BE2_, hBn⟩ : ∃ B, w11.heap.size = B := ⟨_, rfl⟩
  rw [hBn] at HN1
  have HW := hide (And.intro hwn hBn)
  have HBo := HB
  have neK_E2_ := hide (own_ne (L := BE2_) OK.out (Nat.le_of_eq hBn))
  have nqX_E2_ := hide (blk_ne HX.out hBn)
  have nqY_E2_ := hide (blk_ne HY.out hBn)
  have nqE1__E2_ := hide (blk_ne HE1_.out hBn)
  have nqU1__E2_ := hide (blk_ne HU1_.out hBn)
  have nqA1__E2_ := hide (blk_ne HA1_.out hBn)
  clear hwn hBn
  replace HX := hide (below_block wb HX.out (Nat.le_refl _))
  replace HY := hide (below_block wb HY.out (Nat.le_refl _))
  replace HE1_ := hide (below_block wb HE1_.out (Nat.le_refl _))
  replace HU1_ := hide (below_block wb HU1_.out (Nat.le_refl _))
  replace HA1_ := hide (below_block wb HA1_.out (Nat.le_refl _))
  replace RP := hide (RP.out.below wb (Nat.le_refl _))
  replace RK := hide (RK.out.below wb (Nat.le_refl _))
  replace OK := hide (owns_below OK.out wb (Nat.le_refl _))
  replace HB := hide (HB.out.trans (wb.mono HB.out.size))
  have HE2_ := HN1
  have NE2_ := hide (show w.heap.size ≤ BE2_ by rw [← HW.out.2]; exact HBo.out.size)
  clear wb HN1 HBo
  go_upto_region 11 with (fail)
  rw [HW.out.1]
  try rw [HW.out.2]
  clear HW
  go_wp2_with ((refine ld_whole (o := ⟨some 58, _, _, _, _, _⟩) 27 (.tmp 4) rfl (by rfl) BX rfl #[.int .u8 (tt : Int), .int .u8 (P : Int), .int .u16 (id : Int), .int .u32 (s : Int), .int .u32 (d : Int), .slice da n dc] 27 HX.out Try.underlying27 (by kernel_rfl) ?_; try simp only [Act.put, List.setIfInBounds_toArray, List.set_cons_zero, List.set_cons_succ]))
  refine (HU2.out _ da dc RP.out).mono ?_
  rintro e w13 ⟨rfl, b⟩
  replace HX := hide (below_block b HX.out (Nat.le_refl _))
  replace HY := hide (below_block b HY.out (Nat.le_refl _))
  replace HE1_ := hide (below_block b HE1_.out (Nat.le_refl _))
  replace HU1_ := hide (below_block b HU1_.out (Nat.le_refl _))
  replace HA1_ := hide (below_block b HA1_.out (Nat.le_refl _))
  replace HE2_ := hide (below_block b HE2_.out (Nat.le_refl _))
  replace RP := hide (RP.out.below b (Nat.le_refl _))
  replace RK := hide (RK.out.below b (Nat.le_refl _))
  replace OK := hide (owns_below OK.out b (Nat.le_refl _))
  replace HB := hide (HB.out.trans (b.mono HB.out.size))
  clear b 
  obtain ⟨w14, hwn, wb, HN1⟩ : ∃ W, w13.alloc (.cells #[.int .u8 0, .int .u8 0, .int .u16 0, .int .u32 0, .int .u32 0, .slice none 0 0] 27) = W ∧ Below w13.heap.size w13 W ∧ Hid (W.heap[w13.heap.size]? = some (.cells #[.int .u8 0, .int .u8 0, .int .u16 0, .int .u32 0, .int .u32 0, .slice none 0 0] 27 (0, 0))) := ⟨_, rfl, (Below.refl w13.heap.size w13).alloc (Nat.le_refl _) _, hide (heap_alloc_new w13 _)⟩
  obtain ⟨BU2_, hBn⟩ : ∃ B, w13.heap.size = B := ⟨_, rfl⟩
  rw [hBn] at HN1
  have HW := hide (And.intro hwn hBn)
  have HBo := HB
  have neK_U2_ := hide (own_ne (L := BU2_) OK.out (Nat.le_of_eq hBn))
  have nqX_U2_ := hide (blk_ne HX.out hBn)
  have nqY_U2_ := hide (blk_ne HY.out hBn)
  have nqE1__U2_ := hide (blk_ne HE1_.out hBn)
  have nqU1__U2_ := hide (blk_ne HU1_.out hBn)
  have nqA1__U2_ := hide (blk_ne HA1_.out hBn)
  have nqE2__U2_ := hide (blk_ne HE2_.out hBn)
  clear hwn hBn
  replace HX := hide (below_block wb HX.out (Nat.le_refl _))
  replace HY := hide (below_block wb HY.out (Nat.le_refl _))
  replace HE1_ := hide (below_block wb HE1_.out (Nat.le_refl _))
  replace HU1_ := hide (below_block wb HU1_.out (Nat.le_refl _))
  replace HA1_ := hide (below_block wb HA1_.out (Nat.le_refl _))
  replace HE2_ := hide (below_block wb HE2_.out (Nat.le_refl _))
  replace RP := hide (RP.out.below wb (Nat.le_refl _))
  replace RK := hide (RK.out.below wb (Nat.le_refl _))
  replace OK := hide (owns_below OK.out wb (Nat.le_refl _))
  replace HB := hide (HB.out.trans (wb.mono HB.out.size))
  have HU2_ := HN1
  have NU2_ := hide (show w.heap.size ≤ BU2_ by rw [← HW.out.2]; exact HBo.out.size)
  clear wb HN1 HBo
  go_upto_region 12 with (fail)
  rw [HW.out.1]
  try rw [HW.out.2]
  clear HW
  go_wp2_with ((refine ld_whole (o := ⟨some 64, _, _, _, _, _⟩) 27 (.tmp 4) rfl (by rfl) BX rfl #[.int .u8 (tt : Int), .int .u8 (P : Int), .int .u16 (id : Int), .int .u32 (s : Int), .int .u32 (d : Int), .slice da n dc] 27 HX.out Try.underlying27 (by kernel_rfl) ?_; try simp only [Act.put, List.setIfInBounds_toArray, List.set_cons_zero, List.set_cons_succ]))
  refine (HA2.out _ da dc RP.out).mono ?_
  rintro e w15 ⟨rfl, b⟩
  replace HX := hide (below_block b HX.out (Nat.le_refl _))
  replace HY := hide (below_block b HY.out (Nat.le_refl _))
  replace HE1_ := hide (below_block b HE1_.out (Nat.le_refl _))
  replace HU1_ := hide (below_block b HU1_.out (Nat.le_refl _))
  replace HA1_ := hide (below_block b HA1_.out (Nat.le_refl _))
  replace HE2_ := hide (below_block b HE2_.out (Nat.le_refl _))
  replace HU2_ := hide (below_block b HU2_.out (Nat.le_refl _))
  replace RP := hide (RP.out.below b (Nat.le_refl _))
  replace RK := hide (RK.out.below b (Nat.le_refl _))
  replace OK := hide (owns_below OK.out b (Nat.le_refl _))
  replace HB := hide (HB.out.trans (b.mono HB.out.size))
  clear b 
  obtain ⟨w16, hwn, wb, HN1⟩ : ∃ W, w15.alloc (.cells #[.int .u8 0, .int .u8 0, .int .u16 0, .int .u32 0, .int .u32 0, .slice none 0 0] 27) = W ∧ Below w15.heap.size w15 W ∧ Hid (W.heap[w15.heap.size]? = some (.cells #[.int .u8 0, .int .u8 0, .int .u16 0, .int .u32 0, .int .u32 0, .slice none 0 0] 27 (0, 0))) := ⟨_, rfl, (Below.refl w15.heap.size w15).alloc (Nat.le_refl _) _, hide (heap_alloc_new w15 _)⟩
  obtain ⟨BA2_, hBn⟩ : ∃ B, w15.heap.size = B := ⟨_, rfl⟩
  rw [hBn] at HN1
  have HW := hide (And.intro hwn hBn)
  have HBo := HB
  have neK_A2_ := hide (own_ne (L := BA2_) OK.out (Nat.le_of_eq hBn))
  have nqX_A2_ := hide (blk_ne HX.out hBn)
  have nqY_A2_ := hide (blk_ne HY.out hBn)
  have nqE1__A2_ := hide (blk_ne HE1_.out hBn)
  have nqU1__A2_ := hide (blk_ne HU1_.out hBn)
  have nqA1__A2_ := hide (blk_ne HA1_.out hBn)
  have nqE2__A2_ := hide (blk_ne HE2_.out hBn)
  have nqU2__A2_ := hide (blk_ne HU2_.out hBn)
  clear hwn hBn
  replace HX := hide (below_block wb HX.out (Nat.le_refl _))
  replace HY := hide (below_block wb HY.out (Nat.le_refl _))
  replace HE1_ := hide (below_block wb HE1_.out (Nat.le_refl _))
  replace HU1_ := hide (below_block wb HU1_.out (Nat.le_refl _))
  replace HA1_ := hide (below_block wb HA1_.out (Nat.le_refl _))
  replace HE2_ := hide (below_block wb HE2_.out (Nat.le_refl _))
  replace HU2_ := hide (below_block wb HU2_.out (Nat.le_refl _))
  replace RP := hide (RP.out.below wb (Nat.le_refl _))
  replace RK := hide (RK.out.below wb (Nat.le_refl _))
  replace OK := hide (owns_below OK.out wb (Nat.le_refl _))
  replace HB := hide (HB.out.trans (wb.mono HB.out.size))
  have HA2_ := HN1
  have NA2_ := hide (show w.heap.size ≤ BA2_ by rw [← HW.out.2]; exact HBo.out.size)
  clear wb HN1 HBo
  go_upto_region 13 with (fail)
  rw [HW.out.1]
  try rw [HW.out.2]
  clear HW
  clear HE1 HU1 HA1 HE2 HU2 HA2
  go_wp2_with (first | (refine ld_whole (o := ⟨some 82, _, _, _, _, _⟩) 27 (.tmp 8) rfl (by rfl) BE1_ rfl #[.int .u8 0, .int .u8 0, .int .u16 0, .int .u32 0, .int .u32 0, .slice none 0 0] 27 HE1_.out Try.underlying27 (by kernel_rfl) ?_; try simp only [Act.put, List.setIfInBounds_toArray, List.set_cons_zero, List.set_cons_succ]) | (refine ld_whole (o := ⟨some 83, _, _, _, _, _⟩) 27 (.tmp 14) rfl (by rfl) BE2_ rfl #[.int .u8 0, .int .u8 0, .int .u16 0, .int .u32 0, .int .u32 0, .slice none 0 0] 27 HE2_.out Try.underlying27 (by kernel_rfl) ?_; try simp only [Act.put, List.setIfInBounds_toArray, List.set_cons_zero, List.set_cons_succ]))
  refine (same4_any _ 0 0 0 0 0 none none [] 0 0 0 (fun h => absurd rfl h) (fun h => absurd rfl h) rfl).mono ?_
  rintro e w17 ⟨rfl, b⟩
  replace HX := hide (below_block b HX.out (Nat.le_refl _))
  replace HY := hide (below_block b HY.out (Nat.le_refl _))
  replace HE1_ := hide (below_block b HE1_.out (Nat.le_refl _))
  replace HU1_ := hide (below_block b HU1_.out (Nat.le_refl _))
  replace HA1_ := hide (below_block b HA1_.out (Nat.le_refl _))
  replace HE2_ := hide (below_block b HE2_.out (Nat.le_refl _))
  replace HU2_ := hide (below_block b HU2_.out (Nat.le_refl _))
  replace HA2_ := hide (below_block b HA2_.out (Nat.le_refl _))
  replace RP := hide (RP.out.below b (Nat.le_refl _))
  replace RK := hide (RK.out.below b (Nat.le_refl _))
  replace OK := hide (owns_below OK.out b (Nat.le_refl _))
  replace HB := hide (HB.out.trans (b.mono HB.out.size))
  clear b 
  go_wp2_with (first | (refine ld_whole (o := ⟨some 88, _, _, _, _, _⟩) 27 (.tmp 10) rfl (by rfl) BU1_ rfl #[.int .u8 0, .int .u8 0, .int .u16 0, .int .u32 0, .int .u32 0, .slice none 0 0] 27 HU1_.out Try.underlying27 (by kernel_rfl) ?_; try simp only [Act.put, List.setIfInBounds_toArray, List.set_cons_zero, List.set_cons_succ]) | (refine ld_whole (o := ⟨some 89, _, _, _, _, _⟩) 27 (.tmp 16) rfl (by rfl) BU2_ rfl #[.int .u8 0, .int .u8 0, .int .u16 0, .int .u32 0, .int .u32 0, .slice none 0 0] 27 HU2_.out Try.underlying27 (by kernel_rfl) ?_; try simp only [Act.put, List.setIfInBounds_toArray, List.set_cons_zero, List.set_cons_succ]))
  refine (same4_any _ 0 0 0 0 0 none none [] 0 0 0 (fun h => absurd rfl h) (fun h => absurd rfl h) rfl).mono ?_
  rintro e w18 ⟨rfl, b⟩
  replace HX := hide (below_block b HX.out (Nat.le_refl _))
  replace HY := hide (below_block b HY.out (Nat.le_refl _))
  replace HE1_ := hide (below_block b HE1_.out (Nat.le_refl _))
  replace HU1_ := hide (below_block b HU1_.out (Nat.le_refl _))
  replace HA1_ := hide (below_block b HA1_.out (Nat.le_refl _))
  replace HE2_ := hide (below_block b HE2_.out (Nat.le_refl _))
  replace HU2_ := hide (below_block b HU2_.out (Nat.le_refl _))
  replace HA2_ := hide (below_block b HA2_.out (Nat.le_refl _))
  replace RP := hide (RP.out.below b (Nat.le_refl _))
  replace RK := hide (RK.out.below b (Nat.le_refl _))
  replace OK := hide (owns_below OK.out b (Nat.le_refl _))
  replace HB := hide (HB.out.trans (b.mono HB.out.size))
  clear b 
  go_wp2_with (first | (refine ld_whole (o := ⟨some 94, _, _, _, _, _⟩) 27 (.tmp 12) rfl (by rfl) BA1_ rfl #[.int .u8 0, .int .u8 0, .int .u16 0, .int .u32 0, .int .u32 0, .slice none 0 0] 27 HA1_.out Try.underlying27 (by kernel_rfl) ?_; try simp only [Act.put, List.setIfInBounds_toArray, List.set_cons_zero, List.set_cons_succ]) | (refine ld_whole (o := ⟨some 95, _, _, _, _, _⟩) 27 (.tmp 18) rfl (by rfl) BA2_ rfl #[.int .u8 0, .int .u8 0, .int .u16 0, .int .u32 0, .int .u32 0, .slice none 0 0] 27 HA2_.out Try.underlying27 (by kernel_rfl) ?_; try simp only [Act.put, List.setIfInBounds_toArray, List.set_cons_zero, List.set_cons_succ]))
  refine (same4_any _ 0 0 0 0 0 none none [] 0 0 0 (fun h => absurd rfl h) (fun h => absurd rfl h) rfl).mono ?_
  rintro e w19 ⟨rfl, b⟩
  replace HX := hide (below_block b HX.out (Nat.le_refl _))
  replace HY := hide (below_block b HY.out (Nat.le_refl _))
  replace HE1_ := hide (below_block b HE1_.out (Nat.le_refl _))
  replace HU1_ := hide (below_block b HU1_.out (Nat.le_refl _))
  replace HA1_ := hide (below_block b HA1_.out (Nat.le_refl _))
  replace HE2_ := hide (below_block b HE2_.out (Nat.le_refl _))
  replace HU2_ := hide (below_block b HU2_.out (Nat.le_refl _))
  replace HA2_ := hide (below_block b HA2_.out (Nat.le_refl _))
  replace RP := hide (RP.out.below b (Nat.le_refl _))
  replace RK := hide (RK.out.below b (Nat.le_refl _))
  replace OK := hide (owns_below OK.out b (Nat.le_refl _))
  replace HB := hide (HB.out.trans (b.mono HB.out.size))
  clear b 
  go_upto_region 15 with (fail)
  have HQ1 := hide (fun (W : World) (hB : Below w19.heap.size w19 W) => HM1.out W aK cK (RK.out.below hB (Nat.le_refl _)))
  have HQ2 := hide (fun (W : World) (hB : Below w19.heap.size w19 W) => HM2.out W da dc (RP.out.below hB (Nat.le_refl _)))
  have HQ3 := hide (fun (W : World) (hB : Below w19.heap.size w19 W) => same4_any W (tt : Int) (P : Int) (id : Int) (s : Int) (d : Int) aK da xs n cK dc (RK.out.below hB (Nat.le_refl _)).row (RP.out.below hB (Nat.le_refl _)).row HL.out)
  clear HM1 HM2
  clear HE1_ NE1_ HU1_ NU1_ HA1_ NA1_ HE2_ NE2_ HU2_ NU2_ HA2_ NA2_
  have k0Y0 : w19.cell? ⟨BY, 0, none⟩ = some (.int .u8 (tt : Int)) := cell_at HY.out 0 rfl
  have k0Y1 : w19.cell? ⟨BY, 1, none⟩ = some (.int .u8 (P : Int)) := cell_at HY.out 1 rfl
  have k0Y2 : w19.cell? ⟨BY, 2, none⟩ = some (.int .u16 (id : Int)) := cell_at HY.out 2 rfl
  have k0Y3 : w19.cell? ⟨BY, 3, none⟩ = some (.int .u32 (s : Int)) := cell_at HY.out 3 rfl
  have k0Y4 : w19.cell? ⟨BY, 4, none⟩ = some (.int .u32 (d : Int)) := cell_at HY.out 4 rfl
  have k0Y5 : w19.cell? ⟨BY, 5, none⟩ = some (.slice aK n cK) := cell_at HY.out 5 rfl
  have hlY := lt_of_block HY.out
  have k0X0 : w19.cell? ⟨BX, 0, none⟩ = some (.int .u8 (tt : Int)) := cell_at HX.out 0 rfl
  have k0X1 : w19.cell? ⟨BX, 1, none⟩ = some (.int .u8 (P : Int)) := cell_at HX.out 1 rfl
  have k0X2 : w19.cell? ⟨BX, 2, none⟩ = some (.int .u16 (id : Int)) := cell_at HX.out 2 rfl
  have k0X3 : w19.cell? ⟨BX, 3, none⟩ = some (.int .u32 (s : Int)) := cell_at HX.out 3 rfl
  have k0X4 : w19.cell? ⟨BX, 4, none⟩ = some (.int .u32 (d : Int)) := cell_at HX.out 4 rfl
  have k0X5 : w19.cell? ⟨BX, 5, none⟩ = some (.slice da n dc) := cell_at HX.out 5 rfl
  have hlX := lt_of_block HX.out
  have HBB := hide (Below.refl w19.heap.size w19)
  go_region_held3 (fun w' => w'.cell? ⟨BY, 0, none⟩ = some (.int .u8 (tt : Int)) ∧ w'.cell? ⟨BY, 1, none⟩ = some (.int .u8 (P : Int)) ∧ w'.cell? ⟨BY, 2, none⟩ = some (.int .u16 (id : Int)) ∧ w'.cell? ⟨BY, 3, none⟩ = some (.int .u32 (s : Int)) ∧ w'.cell? ⟨BY, 4, none⟩ = some (.int .u32 (d : Int)) ∧ w'.cell? ⟨BY, 5, none⟩ = some (.slice aK n cK) ∧ w'.cell? ⟨BX, 0, none⟩ = some (.int .u8 (tt : Int)) ∧ w'.cell? ⟨BX, 1, none⟩ = some (.int .u8 (P : Int)) ∧ w'.cell? ⟨BX, 2, none⟩ = some (.int .u16 (id : Int)) ∧ w'.cell? ⟨BX, 3, none⟩ = some (.int .u32 (s : Int)) ∧ w'.cell? ⟨BX, 4, none⟩ = some (.int .u32 (d : Int)) ∧ w'.cell? ⟨BX, 5, none⟩ = some (.slice da n dc)) (go_keep) (first
      | (go_at_call 24; (with_reducible refine (HQ1.out _ (by first | exact HBB.out | exact HBB.out.drew)).mono ?_); rintro e z1 ⟨rfl, b⟩; (try replace b := below_of_drew b); have HBB := hide (HBB.out.trans (b.mono HBB.out.size)); have k1Y0 := (bcell HBB.out BY 0 hlY).trans k0Y0; have k1Y1 := (bcell HBB.out BY 1 hlY).trans k0Y1; have k1Y2 := (bcell HBB.out BY 2 hlY).trans k0Y2; have k1Y3 := (bcell HBB.out BY 3 hlY).trans k0Y3; have k1Y4 := (bcell HBB.out BY 4 hlY).trans k0Y4; have k1Y5 := (bcell HBB.out BY 5 hlY).trans k0Y5; have k1X0 := (bcell HBB.out BX 0 hlX).trans k0X0; have k1X1 := (bcell HBB.out BX 1 hlX).trans k0X1; have k1X2 := (bcell HBB.out BX 2 hlX).trans k0X2; have k1X3 := (bcell HBB.out BX 3 hlX).trans k0X3; have k1X4 := (bcell HBB.out BX 4 hlX).trans k0X4; have k1X5 := (bcell HBB.out BX 5 hlX).trans k0X5; clear b)
      | (go_at_call 25; (with_reducible refine (HQ2.out _ (by first | exact HBB.out | exact HBB.out.drew)).mono ?_); rintro e z2 ⟨rfl, b⟩; (try replace b := below_of_drew b); have HBB := hide (HBB.out.trans (b.mono HBB.out.size)); have k2Y0 := (bcell HBB.out BY 0 hlY).trans k0Y0; have k2Y1 := (bcell HBB.out BY 1 hlY).trans k0Y1; have k2Y2 := (bcell HBB.out BY 2 hlY).trans k0Y2; have k2Y3 := (bcell HBB.out BY 3 hlY).trans k0Y3; have k2Y4 := (bcell HBB.out BY 4 hlY).trans k0Y4; have k2Y5 := (bcell HBB.out BY 5 hlY).trans k0Y5; have k2X0 := (bcell HBB.out BX 0 hlX).trans k0X0; have k2X1 := (bcell HBB.out BX 1 hlX).trans k0X1; have k2X2 := (bcell HBB.out BX 2 hlX).trans k0X2; have k2X3 := (bcell HBB.out BX 3 hlX).trans k0X3; have k2X4 := (bcell HBB.out BX 4 hlX).trans k0X4; have k2X5 := (bcell HBB.out BX 5 hlX).trans k0X5; clear b)
      | (go_at_call 13; (with_reducible refine (HQ3.out _ (by first | exact HBB.out | exact HBB.out.drew)).mono ?_); rintro e z3 ⟨rfl, b⟩; (try replace b := below_of_drew b); have HBB := hide (HBB.out.trans (b.mono HBB.out.size)); have k3Y0 := (bcell HBB.out BY 0 hlY).trans k0Y0; have k3Y1 := (bcell HBB.out BY 1 hlY).trans k0Y1; have k3Y2 := (bcell HBB.out BY 2 hlY).trans k0Y2; have k3Y3 := (bcell HBB.out BY 3 hlY).trans k0Y3; have k3Y4 := (bcell HBB.out BY 4 hlY).trans k0Y4; have k3Y5 := (bcell HBB.out BY 5 hlY).trans k0Y5; have k3X0 := (bcell HBB.out BX 0 hlX).trans k0X0; have k3X1 := (bcell HBB.out BX 1 hlX).trans k0X1; have k3X2 := (bcell HBB.out BX 2 hlX).trans k0X2; have k3X3 := (bcell HBB.out BX 3 hlX).trans k0X3; have k3X4 := (bcell HBB.out BX 4 hlX).trans k0X4; have k3X5 := (bcell HBB.out BX 5 hlX).trans k0X5; clear b)
      | fail)
  all_goals (try go_wp2_with fail)
  all_goals go_ret
  all_goals exact ⟨by simp, HB.out.trans (HBB.out.mono HB.out.size)⟩
set_option maxHeartbeats 4000000 in
theorem icmpTells_ny (w : World) (own code : Nat) (tt P id s d : Nat) (da : Option Addr) (xs : List Int) (n dc : Nat) (hLx : Lies w da xs n dc) (hl : xs.length = n) (hb : ∀ x ∈ xs, 0 ≤ x ∧ x ≤ 255) (ht : tt ≤ 255) (hP : P ≤ 255) (hid : id ≤ 65535) (hs : s ≤ 4294967295) (hd : d ≤ 4294967295) (hc : code ≤ 255) (hn : ¬ 3000 < n) (hm : icMay P s d xs = false) (ha : ansOk P xs = true) :
    Calls Try.prog 6 #[.int .u32 (own : Int), .agg #[.int .u8 (tt : Int), .int .u8 (P : Int), .int .u16 (id : Int), .int .u32 (s : Int), .int .u32 (d : Int), .slice da n dc], .int .u8 (code : Int)] w fun e w' => e = .returned (.bool true) ∧ Below w.heap.size w w' := by
  have hd3 : decide ((3000 : Int) < (n : Int)) = false := by simp; omega
  have HE1 := hide (fun (W : World) (A : Option Addr) (C : Nat) (hL : Lies W A xs n C) => exc_no W own tt P id s d A xs n C hL hl hb ht hP hid hs hd hm)
  have HU1 := hide (fun (W : World) (A : Option Addr) (C : Nat) (hL : Lies W A xs n C) => unr_no W own code tt P id s d A xs n C hL hl hb ht hP hid hs hd hm)
  have HE2 := hide (fun (W : World) (A : Option Addr) (C : Nat) (hL : Lies W A xs n C) => rerr_no W own 11 0 tt P id s d A xs n C hL hl hb ht hP hid hs hd hm)
  have HU2 := hide (fun (W : World) (A : Option Addr) (C : Nat) (hL : Lies W A xs n C) => rerr_no W own 3 code tt P id s d A xs n C hL hl hb ht hP hid hs hd hm)
  have HA1 := hide (fun (W : World) (A : Option Addr) (C : Nat) (hL : Lies W A xs n C) => ans_yes W tt P id s d A xs n C hL hl hb ht hP hid hs hd ha)
  have HA2 := hide (fun (W : World) (A : Option Addr) (C : Nat) (hL : Lies W A xs n C) => rans_yes W tt P id s d A xs n C hL hl hb ht hP hid hs hd ha)
  have HM1 := hide (fun (W : World) (A : Option Addr) (C : Nat) (hL : Lies W A xs n C) => may_any W tt P id s d A xs n C hL hl hb ht hP hid hs hd)
  have HM2 := hide (fun (W : World) (A : Option Addr) (C : Nat) (hL : Lies W A xs n C) => rmay_any W tt P id s d A xs n C hL hl hb ht hP hid hs hd)
  rw [hm] at HM1 HM2
  have HDN := hide (show (icmpB 0 0 (msgOf xs).r (msgOf xs).ds).length = 8 + (msgOf xs).ds.length by rw [icmpB_len])
  have HL := hide hl
  have HN := hide hn
  clear hm hl hb hn ha
  generalize msgOf xs = mo at *
  obtain ⟨V1, hV1⟩ : ∃ V, w.alloc (.cells #[.int .u8 (tt : Int), .int .u8 (P : Int), .int .u16 (id : Int), .int .u32 (s : Int), .int .u32 (d : Int), .slice da n dc] 27) = V := ⟨_, rfl⟩
  have hz1 : V1.heap.size = w.heap.size + 1 := by rw [← hV1]; simp
  have hb1 : Below w.heap.size w V1 := by rw [← hV1]; exact (Below.refl _ _).alloc (Nat.le_refl _) _
  have hp1_1 : V1.heap[w.heap.size]? = some (.cells #[.int .u8 (tt : Int), .int .u8 (P : Int), .int .u16 (id : Int), .int .u32 (s : Int), .int .u32 (d : Int), .slice da n dc] 27 (0, 0)) := by rw [← hV1]; exact heap_alloc_new _ _
  obtain ⟨BX, hBX⟩ : ∃ B, w.heap.size = B := ⟨_, rfl⟩
  have hw0 : w.heap.size ≤ BX := by omega
  have HX := hide (show V1.heap[BX]? = some (.cells #[.int .u8 (tt : Int), .int .u8 (P : Int), .int .u16 (id : Int), .int .u32 (s : Int), .int .u32 (d : Int), .slice da n dc] 27 (0, 0)) by rw [← hBX]; exact hp1_1)
  have NX : Hid (w.heap.size ≤ BX) := hide hw0
  have AP := hide hLx
  have RP := hide (hLx.below hb1 (Nat.le_refl _))
  have HB := hide hb1
  have HE := hide (And.intro (And.intro trivial trivial) (And.intro hV1 (And.intro hBX (trivial))))
  clear hw0 hV1 hz1 hb1  hp1_1 hBX hLx
  go_enter Try.func6, Try.ntmps6
  go_upto_region 1 with (fail)
  rw [HE.out.2.1]
  try rw [HE.out.2.2.1]
  clear HE
  go_wp2_with fail
  refine (speaks13 _).mono ?_
  rintro e w1 ⟨rfl, b⟩
  replace HX := hide (below_block b HX.out (Nat.le_refl _))
  replace RP := hide (RP.out.below b (Nat.le_refl _))
  replace HB := hide (HB.out.trans (b.mono HB.out.size))
  clear b 
  have qX_5 : w1.cell? ⟨BX, 5, none⟩ = some (.slice da n dc) := cell_at HX.out 5 rfl
  go_upto_region 5 with (fail)
  clear qX_5
  obtain ⟨w2, hwn, wb, HN1⟩ : ∃ W, w1.alloc (.cells #[.int .u8 (tt : Int), .int .u8 (P : Int), .int .u16 (id : Int), .int .u32 (s : Int), .int .u32 (d : Int), .slice da n dc] 27) = W ∧ Below w1.heap.size w1 W ∧ Hid (W.heap[w1.heap.size]? = some (.cells #[.int .u8 (tt : Int), .int .u8 (P : Int), .int .u16 (id : Int), .int .u32 (s : Int), .int .u32 (d : Int), .slice da n dc] 27 (0, 0))) := ⟨_, rfl, (Below.refl w1.heap.size w1).alloc (Nat.le_refl _) _, hide (heap_alloc_new w1 _)⟩
  obtain ⟨BY, hBn⟩ : ∃ B, w1.heap.size = B := ⟨_, rfl⟩
  rw [hBn] at HN1
  have HW := hide (And.intro hwn hBn)
  have HBo := HB
  have nqX_Y := hide (blk_ne HX.out hBn)
  clear hwn hBn
  have EX := HX
  replace HX := hide (below_block wb HX.out (Nat.le_refl _))
  replace RP := hide (RP.out.below wb (Nat.le_refl _))
  replace HB := hide (HB.out.trans (wb.mono HB.out.size))
  have HY := HN1
  have NY := hide (show w.heap.size ≤ BY by rw [← HW.out.2]; exact HBo.out.size)
  clear wb HN1 HBo
  go_upto_region 6 with ((refine ld_whole (o := ⟨some 26, _, _, _, _, _⟩) 27 (.tmp 4) rfl (by rfl) BX rfl #[.int .u8 (tt : Int), .int .u8 (P : Int), .int .u16 (id : Int), .int .u32 (s : Int), .int .u32 (d : Int), .slice da n dc] 27 EX.out Try.underlying27 (by kernel_rfl) ?_; try simp only [Act.put, List.setIfInBounds_toArray, List.set_cons_zero, List.set_cons_succ]))
  rw [HW.out.1]
  try rw [HW.out.2]
  clear HW
  clear EX
  obtain ⟨vq, v3, hrun, oq, bq, _⟩ := app_own2 (w2.alloc (.cells #[] 5)) w2.heap.size (.slice (some ⟨w2.heap.size, 0, none⟩) 0 0) 0 [] (World.ownsRow_lit w2 #[] 0 (Nat.le_refl _) (by unfold maxLen; omega) rfl) da (xs) (n) dc (RP.out.row.below ((Below.refl w2.heap.size w2).alloc (Nat.le_refl _) _) (Nat.le_refl _)) HL.out RP.out.no (by have := HN.out; omega) (by simp)
  rw [show 0 + (n) = n by omega, List.nil_append] at oq
  obtain ⟨aK, cK, rfl⟩ := slice_form oq
  have HRUN := hide hrun
  have bz := ((Below.refl w2.heap.size w2).alloc (Nat.le_refl _) (.cells #[] 5)).trans bq
  have neK_X := hide (own_ne_lt oq (lt_of_block HX.out))
  have neK_Y := hide (own_ne_lt oq (lt_of_block HY.out))
  have lbK := hide HB.out.size
  have Hm := below_block bz HY.out (Nat.le_refl _)
  have HBm := HB.out.trans (bz.mono HB.out.size)
  have fz := free_at Hm 5
  have qz : v3.cell? ⟨BY, 5, none⟩ = some (.slice da n dc) := cell_at Hm 5 rfl
  obtain ⟨w4, hVn, hVH, hVB, hVo, hVs⟩ := set1 (i := 5) (.slice aK n cK) (c' := #[.int .u8 (tt : Int), .int .u8 (P : Int), .int .u16 (id : Int), .int .u32 (s : Int), .int .u32 (d : Int), .slice aK n cK]) Hm HBm NY.out (by kernel_rfl)
  have HVn := hide hVn
  clear hVn
  have HG := hide (gb_part HBm hVB hVo hVs)
  have HXn := hide ((hVo _ nqX_Y.out).trans (below_block bz HX.out (Nat.le_refl _)))
  have HYn := hide hVH
  have RPn := hide (AP.out.below hVB (Nat.le_refl _))
  have OK := hide (owns_kept oq HG.out neK_Y.out)
  have RK := hide (Lies.of_owns OK.out)
  have HBn := hide hVB
  clear hVH hVB hVo hVs HG hrun oq bq bz Hm HBm
  have qP_ : w2.cell? ⟨BX, 5, none⟩ = some (.slice da (n) dc) := cell_at HX.out 5 rfl
  have qe_ : (w2.alloc (.cells #[] 5)).cell? ⟨BX, 5, none⟩ = some (.slice da (n) dc) := cell_at (below_block ((Below.refl w2.heap.size w2).alloc (Nat.le_refl _) (.cells #[] 5)) HX.out (Nat.le_refl _)) 5 rfl
  go_upto_region 7 with ((at_builtin; refine Lib.wpList_append_run _ rfl _ _ _ _ rfl _ _ rfl rfl _ _ HRUN.out ?_))
  rw [HVn.out]
  clear HVn fz qz qP_ qe_ HRUN
  replace HX := HXn
  clear HXn
  replace HY := HYn
  clear HYn
  replace RP := RPn
  clear RPn
  replace HB := HBn
  clear HBn
  go_wp2_with ((refine ld_whole (o := ⟨some 34, _, _, _, _, _⟩) 27 (.tmp 7) rfl (by rfl) BY rfl #[.int .u8 (tt : Int), .int .u8 (P : Int), .int .u16 (id : Int), .int .u32 (s : Int), .int .u32 (d : Int), .slice aK n cK] 27 HY.out Try.underlying27 (by kernel_rfl) ?_; try simp only [Act.put, List.setIfInBounds_toArray, List.set_cons_zero, List.set_cons_succ]))
  refine (HE1.out _ aK cK RK.out).mono ?_
  rintro e w5 ⟨rfl, b⟩
  replace HX := hide (below_block b HX.out (Nat.le_refl _))
  replace HY := hide (below_block b HY.out (Nat.le_refl _))
  replace RP := hide (RP.out.below b (Nat.le_refl _))
  replace RK := hide (RK.out.below b (Nat.le_refl _))
  replace OK := hide (owns_below OK.out b (Nat.le_refl _))
  replace HB := hide (HB.out.trans (b.mono HB.out.size))
  clear b 
  obtain ⟨w6, hwn, wb, HN1⟩ : ∃ W, w5.alloc (.cells #[.int .u8 0, .int .u8 0, .int .u16 0, .int .u32 0, .int .u32 0, .slice none 0 0] 27) = W ∧ Below w5.heap.size w5 W ∧ Hid (W.heap[w5.heap.size]? = some (.cells #[.int .u8 0, .int .u8 0, .int .u16 0, .int .u32 0, .int .u32 0, .slice none 0 0] 27 (0, 0))) := ⟨_, rfl, (Below.refl w5.heap.size w5).alloc (Nat.le_refl _) _, hide (heap_alloc_new w5 _)⟩
  obtain ⟨BE1_, hBn⟩ : ∃ B, w5.heap.size = B := ⟨_, rfl⟩
  rw [hBn] at HN1
  have HW := hide (And.intro hwn hBn)
  have HBo := HB
  have neK_E1_ := hide (own_ne (L := BE1_) OK.out (Nat.le_of_eq hBn))
  have nqX_E1_ := hide (blk_ne HX.out hBn)
  have nqY_E1_ := hide (blk_ne HY.out hBn)
  clear hwn hBn
  replace HX := hide (below_block wb HX.out (Nat.le_refl _))
  replace HY := hide (below_block wb HY.out (Nat.le_refl _))
  replace RP := hide (RP.out.below wb (Nat.le_refl _))
  replace RK := hide (RK.out.below wb (Nat.le_refl _))
  replace OK := hide (owns_below OK.out wb (Nat.le_refl _))
  replace HB := hide (HB.out.trans (wb.mono HB.out.size))
  have HE1_ := HN1
  have NE1_ := hide (show w.heap.size ≤ BE1_ by rw [← HW.out.2]; exact HBo.out.size)
  clear wb HN1 HBo
  go_upto_region 8 with (fail)
  rw [HW.out.1]
  try rw [HW.out.2]
  clear HW
  go_wp2_with ((refine ld_whole (o := ⟨some 40, _, _, _, _, _⟩) 27 (.tmp 7) rfl (by rfl) BY rfl #[.int .u8 (tt : Int), .int .u8 (P : Int), .int .u16 (id : Int), .int .u32 (s : Int), .int .u32 (d : Int), .slice aK n cK] 27 HY.out Try.underlying27 (by kernel_rfl) ?_; try simp only [Act.put, List.setIfInBounds_toArray, List.set_cons_zero, List.set_cons_succ]))
  refine (HU1.out _ aK cK RK.out).mono ?_
  rintro e w7 ⟨rfl, b⟩
  replace HX := hide (below_block b HX.out (Nat.le_refl _))
  replace HY := hide (below_block b HY.out (Nat.le_refl _))
  replace HE1_ := hide (below_block b HE1_.out (Nat.le_refl _))
  replace RP := hide (RP.out.below b (Nat.le_refl _))
  replace RK := hide (RK.out.below b (Nat.le_refl _))
  replace OK := hide (owns_below OK.out b (Nat.le_refl _))
  replace HB := hide (HB.out.trans (b.mono HB.out.size))
  clear b 
  obtain ⟨w8, hwn, wb, HN1⟩ : ∃ W, w7.alloc (.cells #[.int .u8 0, .int .u8 0, .int .u16 0, .int .u32 0, .int .u32 0, .slice none 0 0] 27) = W ∧ Below w7.heap.size w7 W ∧ Hid (W.heap[w7.heap.size]? = some (.cells #[.int .u8 0, .int .u8 0, .int .u16 0, .int .u32 0, .int .u32 0, .slice none 0 0] 27 (0, 0))) := ⟨_, rfl, (Below.refl w7.heap.size w7).alloc (Nat.le_refl _) _, hide (heap_alloc_new w7 _)⟩
  obtain ⟨BU1_, hBn⟩ : ∃ B, w7.heap.size = B := ⟨_, rfl⟩
  rw [hBn] at HN1
  have HW := hide (And.intro hwn hBn)
  have HBo := HB
  have neK_U1_ := hide (own_ne (L := BU1_) OK.out (Nat.le_of_eq hBn))
  have nqX_U1_ := hide (blk_ne HX.out hBn)
  have nqY_U1_ := hide (blk_ne HY.out hBn)
  have nqE1__U1_ := hide (blk_ne HE1_.out hBn)
  clear hwn hBn
  replace HX := hide (below_block wb HX.out (Nat.le_refl _))
  replace HY := hide (below_block wb HY.out (Nat.le_refl _))
  replace HE1_ := hide (below_block wb HE1_.out (Nat.le_refl _))
  replace RP := hide (RP.out.below wb (Nat.le_refl _))
  replace RK := hide (RK.out.below wb (Nat.le_refl _))
  replace OK := hide (owns_below OK.out wb (Nat.le_refl _))
  replace HB := hide (HB.out.trans (wb.mono HB.out.size))
  have HU1_ := HN1
  have NU1_ := hide (show w.heap.size ≤ BU1_ by rw [← HW.out.2]; exact HBo.out.size)
  clear wb HN1 HBo
  go_upto_region 9 with (fail)
  rw [HW.out.1]
  try rw [HW.out.2]
  clear HW
  go_wp2_with ((refine ld_whole (o := ⟨some 46, _, _, _, _, _⟩) 27 (.tmp 7) rfl (by rfl) BY rfl #[.int .u8 (tt : Int), .int .u8 (P : Int), .int .u16 (id : Int), .int .u32 (s : Int), .int .u32 (d : Int), .slice aK n cK] 27 HY.out Try.underlying27 (by kernel_rfl) ?_; try simp only [Act.put, List.setIfInBounds_toArray, List.set_cons_zero, List.set_cons_succ]))
  refine (HA1.out _ aK cK RK.out).mono ?_
  rintro e w9 ⟨aA1_, cA1_, rfl, o, b⟩
  replace HX := hide (below_block b HX.out (Nat.le_refl _))
  replace HY := hide (below_block b HY.out (Nat.le_refl _))
  replace HE1_ := hide (below_block b HE1_.out (Nat.le_refl _))
  replace HU1_ := hide (below_block b HU1_.out (Nat.le_refl _))
  replace RP := hide (RP.out.below b (Nat.le_refl _))
  replace RK := hide (RK.out.below b (Nat.le_refl _))
  replace OK := hide (owns_below OK.out b (Nat.le_refl _))
  replace HB := hide (HB.out.trans (b.mono HB.out.size))
  have RRA1_ := hide (Lies.of_owns o)
  clear b o
  obtain ⟨w10, hwn, wb, HN1⟩ : ∃ W, w9.alloc (.cells #[.int .u8 64, .int .u8 1, .int .u16 (id : Int), .int .u32 (d : Int), .int .u32 (s : Int), .slice aA1_ (8 + mo.ds.length) cA1_] 27) = W ∧ Below w9.heap.size w9 W ∧ Hid (W.heap[w9.heap.size]? = some (.cells #[.int .u8 64, .int .u8 1, .int .u16 (id : Int), .int .u32 (d : Int), .int .u32 (s : Int), .slice aA1_ (8 + mo.ds.length) cA1_] 27 (0, 0))) := ⟨_, rfl, (Below.refl w9.heap.size w9).alloc (Nat.le_refl _) _, hide (heap_alloc_new w9 _)⟩
  obtain ⟨BA1_, hBn⟩ : ∃ B, w9.heap.size = B := ⟨_, rfl⟩
  rw [hBn] at HN1
  have HW := hide (And.intro hwn hBn)
  have HBo := HB
  have neK_A1_ := hide (own_ne (L := BA1_) OK.out (Nat.le_of_eq hBn))
  have nqX_A1_ := hide (blk_ne HX.out hBn)
  have nqY_A1_ := hide (blk_ne HY.out hBn)
  have nqE1__A1_ := hide (blk_ne HE1_.out hBn)
  have nqU1__A1_ := hide (blk_ne HU1_.out hBn)
  clear hwn hBn
  replace HX := hide (below_block wb HX.out (Nat.le_refl _))
  replace HY := hide (below_block wb HY.out (Nat.le_refl _))
  replace HE1_ := hide (below_block wb HE1_.out (Nat.le_refl _))
  replace HU1_ := hide (below_block wb HU1_.out (Nat.le_refl _))
  replace RP := hide (RP.out.below wb (Nat.le_refl _))
  replace RK := hide (RK.out.below wb (Nat.le_refl _))
  replace RRA1_ := hide (RRA1_.out.below wb (Nat.le_refl _))
  replace OK := hide (owns_below OK.out wb (Nat.le_refl _))
  replace HB := hide (HB.out.trans (wb.mono HB.out.size))
  have HA1_ := HN1
  have NA1_ := hide (show w.heap.size ≤ BA1_ by rw [← HW.out.2]; exact HBo.out.size)
  clear wb HN1 HBo
  go_upto_region 10 with (fail)
  rw [HW.out.1]
  try rw [HW.out.2]
  clear HW
  go_wp2_with ((refine ld_whole (o := ⟨some 52, _, _, _, _, _⟩) 27 (.tmp 4) rfl (by rfl) BX rfl #[.int .u8 (tt : Int), .int .u8 (P : Int), .int .u16 (id : Int), .int .u32 (s : Int), .int .u32 (d : Int), .slice da n dc] 27 HX.out Try.underlying27 (by kernel_rfl) ?_; try simp only [Act.put, List.setIfInBounds_toArray, List.set_cons_zero, List.set_cons_succ]))
  refine (HE2.out _ da dc RP.out).mono ?_
  rintro e w11 ⟨rfl, b⟩
  replace HX := hide (below_block b HX.out (Nat.le_refl _))
  replace HY := hide (below_block b HY.out (Nat.le_refl _))
  replace HE1_ := hide (below_block b HE1_.out (Nat.le_refl _))
  replace HU1_ := hide (below_block b HU1_.out (Nat.le_refl _))
  replace HA1_ := hide (below_block b HA1_.out (Nat.le_refl _))
  replace RP := hide (RP.out.below b (Nat.le_refl _))
  replace RK := hide (RK.out.below b (Nat.le_refl _))
  replace RRA1_ := hide (RRA1_.out.below b (Nat.le_refl _))
  replace OK := hide (owns_below OK.out b (Nat.le_refl _))
  replace HB := hide (HB.out.trans (b.mono HB.out.size))
  clear b 
  obtain ⟨w12, hwn, wb, HN1⟩ : ∃ W, w11.alloc (.cells #[.int .u8 0, .int .u8 0, .int .u16 0, .int .u32 0, .int .u32 0, .slice none 0 0] 27) = W ∧ Below w11.heap.size w11 W ∧ Hid (W.heap[w11.heap.size]? = some (.cells #[.int .u8 0, .int .u8 0, .int .u16 0, .int .u32 0, .int .u32 0, .slice none 0 0] 27 (0, 0))) := ⟨_, rfl, (Below.refl w11.heap.size w11).alloc (Nat.le_refl _) _, hide (heap_alloc_new w11 _)⟩
  obtain ⟨BE2_, hBn⟩ : ∃ B, w11.heap.size = B := ⟨_, rfl⟩
  rw [hBn] at HN1
  have HW := hide (And.intro hwn hBn)
  have HBo := HB
  have neK_E2_ := hide (own_ne (L := BE2_) OK.out (Nat.le_of_eq hBn))
  have nqX_E2_ := hide (blk_ne HX.out hBn)
  have nqY_E2_ := hide (blk_ne HY.out hBn)
  have nqE1__E2_ := hide (blk_ne HE1_.out hBn)
  have nqU1__E2_ := hide (blk_ne HU1_.out hBn)
  have nqA1__E2_ := hide (blk_ne HA1_.out hBn)
  clear hwn hBn
  replace HX := hide (below_block wb HX.out (Nat.le_refl _))
  replace HY := hide (below_block wb HY.out (Nat.le_refl _))
  replace HE1_ := hide (below_block wb HE1_.out (Nat.le_refl _))
  replace HU1_ := hide (below_block wb HU1_.out (Nat.le_refl _))
  replace HA1_ := hide (below_block wb HA1_.out (Nat.le_refl _))
  replace RP := hide (RP.out.below wb (Nat.le_refl _))
  replace RK := hide (RK.out.below wb (Nat.le_refl _))
  replace RRA1_ := hide (RRA1_.out.below wb (Nat.le_refl _))
  replace OK := hide (owns_below OK.out wb (Nat.le_refl _))
  replace HB := hide (HB.out.trans (wb.mono HB.out.size))
  have HE2_ := HN1
  have NE2_ := hide (show w.heap.size ≤ BE2_ by rw [← HW.out.2]; exact HBo.out.size)
  clear wb HN1 HBo
  go_upto_region 11 with (fail)
  rw [HW.out.1]
  try rw [HW.out.2]
  clear HW
  go_wp2_with ((refine ld_whole (o := ⟨some 58, _, _, _, _, _⟩) 27 (.tmp 4) rfl (by rfl) BX rfl #[.int .u8 (tt : Int), .int .u8 (P : Int), .int .u16 (id : Int), .int .u32 (s : Int), .int .u32 (d : Int), .slice da n dc] 27 HX.out Try.underlying27 (by kernel_rfl) ?_; try simp only [Act.put, List.setIfInBounds_toArray, List.set_cons_zero, List.set_cons_succ]))
  refine (HU2.out _ da dc RP.out).mono ?_
  rintro e w13 ⟨rfl, b⟩
  replace HX := hide (below_block b HX.out (Nat.le_refl _))
  replace HY := hide (below_block b HY.out (Nat.le_refl _))
  replace HE1_ := hide (below_block b HE1_.out (Nat.le_refl _))
  replace HU1_ := hide (below_block b HU1_.out (Nat.le_refl _))
  replace HA1_ := hide (below_block b HA1_.out (Nat.le_refl _))
  replace HE2_ := hide (below_block b HE2_.out (Nat.le_refl _))
  replace RP := hide (RP.out.below b (Nat.le_refl _))
  replace RK := hide (RK.out.below b (Nat.le_refl _))
  replace RRA1_ := hide (RRA1_.out.below b (Nat.le_refl _))
  replace OK := hide (owns_below OK.out b (Nat.le_refl _))
  replace HB := hide (HB.out.trans (b.mono HB.out.size))
  clear b 
  obtain ⟨w14, hwn, wb, HN1⟩ : ∃ W, w13.alloc (.cells #[.int .u8 0, .int .u8 0, .int .u16 0, .int .u32 0, .int .u32 0, .slice none 0 0] 27) = W ∧ Below w13.heap.size w13 W ∧ Hid (W.heap[w13.heap.size]? = some (.cells #[.int .u8 0, .int .u8 0, .int .u16 0, .int .u32 0, .int .u32 0, .slice none 0 0] 27 (0, 0))) := ⟨_, rfl, (Below.refl w13.heap.size w13).alloc (Nat.le_refl _) _, hide (heap_alloc_new w13 _)⟩
  obtain ⟨BU2_, hBn⟩ : ∃ B, w13.heap.size = B := ⟨_, rfl⟩
  rw [hBn] at HN1
  have HW := hide (And.intro hwn hBn)
  have HBo := HB
  have neK_U2_ := hide (own_ne (L := BU2_) OK.out (Nat.le_of_eq hBn))
  have nqX_U2_ := hide (blk_ne HX.out hBn)
  have nqY_U2_ := hide (blk_ne HY.out hBn)
  have nqE1__U2_ := hide (blk_ne HE1_.out hBn)
  have nqU1__U2_ := hide (blk_ne HU1_.out hBn)
  have nqA1__U2_ := hide (blk_ne HA1_.out hBn)
  have nqE2__U2_ := hide (blk_ne HE2_.out hBn)
  clear hwn hBn
  replace HX := hide (below_block wb HX.out (Nat.le_refl _))
  replace HY := hide (below_block wb HY.out (Nat.le_refl _))
  replace HE1_ := hide (below_block wb HE1_.out (Nat.le_refl _))
  replace HU1_ := hide (below_block wb HU1_.out (Nat.le_refl _))
  replace HA1_ := hide (below_block wb HA1_.out (Nat.le_refl _))
  replace HE2_ := hide (below_block wb HE2_.out (Nat.le_refl _))
  replace RP := hide (RP.out.below wb (Nat.le_refl _))
  replace RK := hide (RK.out.below wb (Nat.le_refl _))
  replace RRA1_ := hide (RRA1_.out.below wb (Nat.le_refl _))
  replace OK := hide (owns_below OK.out wb (Nat.le_refl _))
  replace HB := hide (HB.out.trans (wb.mono HB.out.size))
  have HU2_ := HN1
  have NU2_ := hide (show w.heap.size ≤ BU2_ by rw [← HW.out.2]; exact HBo.out.size)
  clear wb HN1 HBo
  go_upto_region 12 with (fail)
  rw [HW.out.1]
  try rw [HW.out.2]
  clear HW
  go_wp2_with ((refine ld_whole (o := ⟨some 64, _, _, _, _, _⟩) 27 (.tmp 4) rfl (by rfl) BX rfl #[.int .u8 (tt : Int), .int .u8 (P : Int), .int .u16 (id : Int), .int .u32 (s : Int), .int .u32 (d : Int), .slice da n dc] 27 HX.out Try.underlying27 (by kernel_rfl) ?_; try simp only [Act.put, List.setIfInBounds_toArray, List.set_cons_zero, List.set_cons_succ]))
  refine (HA2.out _ da dc RP.out).mono ?_
  rintro e w15 ⟨aA2_, cA2_, rfl, o, b⟩
  replace HX := hide (below_block b HX.out (Nat.le_refl _))
  replace HY := hide (below_block b HY.out (Nat.le_refl _))
  replace HE1_ := hide (below_block b HE1_.out (Nat.le_refl _))
  replace HU1_ := hide (below_block b HU1_.out (Nat.le_refl _))
  replace HA1_ := hide (below_block b HA1_.out (Nat.le_refl _))
  replace HE2_ := hide (below_block b HE2_.out (Nat.le_refl _))
  replace HU2_ := hide (below_block b HU2_.out (Nat.le_refl _))
  replace RP := hide (RP.out.below b (Nat.le_refl _))
  replace RK := hide (RK.out.below b (Nat.le_refl _))
  replace RRA1_ := hide (RRA1_.out.below b (Nat.le_refl _))
  replace OK := hide (owns_below OK.out b (Nat.le_refl _))
  replace HB := hide (HB.out.trans (b.mono HB.out.size))
  have RRA2_ := hide (Lies.of_owns o)
  clear b o
  obtain ⟨w16, hwn, wb, HN1⟩ : ∃ W, w15.alloc (.cells #[.int .u8 64, .int .u8 1, .int .u16 (id : Int), .int .u32 (d : Int), .int .u32 (s : Int), .slice aA2_ (8 + mo.ds.length) cA2_] 27) = W ∧ Below w15.heap.size w15 W ∧ Hid (W.heap[w15.heap.size]? = some (.cells #[.int .u8 64, .int .u8 1, .int .u16 (id : Int), .int .u32 (d : Int), .int .u32 (s : Int), .slice aA2_ (8 + mo.ds.length) cA2_] 27 (0, 0))) := ⟨_, rfl, (Below.refl w15.heap.size w15).alloc (Nat.le_refl _) _, hide (heap_alloc_new w15 _)⟩
  obtain ⟨BA2_, hBn⟩ : ∃ B, w15.heap.size = B := ⟨_, rfl⟩
  rw [hBn] at HN1
  have HW := hide (And.intro hwn hBn)
  have HBo := HB
  have neK_A2_ := hide (own_ne (L := BA2_) OK.out (Nat.le_of_eq hBn))
  have nqX_A2_ := hide (blk_ne HX.out hBn)
  have nqY_A2_ := hide (blk_ne HY.out hBn)
  have nqE1__A2_ := hide (blk_ne HE1_.out hBn)
  have nqU1__A2_ := hide (blk_ne HU1_.out hBn)
  have nqA1__A2_ := hide (blk_ne HA1_.out hBn)
  have nqE2__A2_ := hide (blk_ne HE2_.out hBn)
  have nqU2__A2_ := hide (blk_ne HU2_.out hBn)
  clear hwn hBn
  replace HX := hide (below_block wb HX.out (Nat.le_refl _))
  replace HY := hide (below_block wb HY.out (Nat.le_refl _))
  replace HE1_ := hide (below_block wb HE1_.out (Nat.le_refl _))
  replace HU1_ := hide (below_block wb HU1_.out (Nat.le_refl _))
  replace HA1_ := hide (below_block wb HA1_.out (Nat.le_refl _))
  replace HE2_ := hide (below_block wb HE2_.out (Nat.le_refl _))
  replace HU2_ := hide (below_block wb HU2_.out (Nat.le_refl _))
  replace RP := hide (RP.out.below wb (Nat.le_refl _))
  replace RK := hide (RK.out.below wb (Nat.le_refl _))
  replace RRA1_ := hide (RRA1_.out.below wb (Nat.le_refl _))
  replace RRA2_ := hide (RRA2_.out.below wb (Nat.le_refl _))
  replace OK := hide (owns_below OK.out wb (Nat.le_refl _))
  replace HB := hide (HB.out.trans (wb.mono HB.out.size))
  have HA2_ := HN1
  have NA2_ := hide (show w.heap.size ≤ BA2_ by rw [← HW.out.2]; exact HBo.out.size)
  clear wb HN1 HBo
  go_upto_region 13 with (fail)
  rw [HW.out.1]
  try rw [HW.out.2]
  clear HW
  clear HE1 HU1 HA1 HE2 HU2 HA2
  go_wp2_with (first | (refine ld_whole (o := ⟨some 82, _, _, _, _, _⟩) 27 (.tmp 8) rfl (by rfl) BE1_ rfl #[.int .u8 0, .int .u8 0, .int .u16 0, .int .u32 0, .int .u32 0, .slice none 0 0] 27 HE1_.out Try.underlying27 (by kernel_rfl) ?_; try simp only [Act.put, List.setIfInBounds_toArray, List.set_cons_zero, List.set_cons_succ]) | (refine ld_whole (o := ⟨some 83, _, _, _, _, _⟩) 27 (.tmp 14) rfl (by rfl) BE2_ rfl #[.int .u8 0, .int .u8 0, .int .u16 0, .int .u32 0, .int .u32 0, .slice none 0 0] 27 HE2_.out Try.underlying27 (by kernel_rfl) ?_; try simp only [Act.put, List.setIfInBounds_toArray, List.set_cons_zero, List.set_cons_succ]))
  refine (same4_any _ 0 0 0 0 0 none none [] 0 0 0 (fun h => absurd rfl h) (fun h => absurd rfl h) rfl).mono ?_
  rintro e w17 ⟨rfl, b⟩
  replace HX := hide (below_block b HX.out (Nat.le_refl _))
  replace HY := hide (below_block b HY.out (Nat.le_refl _))
  replace HE1_ := hide (below_block b HE1_.out (Nat.le_refl _))
  replace HU1_ := hide (below_block b HU1_.out (Nat.le_refl _))
  replace HA1_ := hide (below_block b HA1_.out (Nat.le_refl _))
  replace HE2_ := hide (below_block b HE2_.out (Nat.le_refl _))
  replace HU2_ := hide (below_block b HU2_.out (Nat.le_refl _))
  replace HA2_ := hide (below_block b HA2_.out (Nat.le_refl _))
  replace RP := hide (RP.out.below b (Nat.le_refl _))
  replace RK := hide (RK.out.below b (Nat.le_refl _))
  replace RRA1_ := hide (RRA1_.out.below b (Nat.le_refl _))
  replace RRA2_ := hide (RRA2_.out.below b (Nat.le_refl _))
  replace OK := hide (owns_below OK.out b (Nat.le_refl _))
  replace HB := hide (HB.out.trans (b.mono HB.out.size))
  clear b 
  go_wp2_with (first | (refine ld_whole (o := ⟨some 88, _, _, _, _, _⟩) 27 (.tmp 10) rfl (by rfl) BU1_ rfl #[.int .u8 0, .int .u8 0, .int .u16 0, .int .u32 0, .int .u32 0, .slice none 0 0] 27 HU1_.out Try.underlying27 (by kernel_rfl) ?_; try simp only [Act.put, List.setIfInBounds_toArray, List.set_cons_zero, List.set_cons_succ]) | (refine ld_whole (o := ⟨some 89, _, _, _, _, _⟩) 27 (.tmp 16) rfl (by rfl) BU2_ rfl #[.int .u8 0, .int .u8 0, .int .u16 0, .int .u32 0, .int .u32 0, .slice none 0 0] 27 HU2_.out Try.underlying27 (by kernel_rfl) ?_; try simp only [Act.put, List.setIfInBounds_toArray, List.set_cons_zero, List.set_cons_succ]))
  refine (same4_any _ 0 0 0 0 0 none none [] 0 0 0 (fun h => absurd rfl h) (fun h => absurd rfl h) rfl).mono ?_
  rintro e w18 ⟨rfl, b⟩
  replace HX := hide (below_block b HX.out (Nat.le_refl _))
  replace HY := hide (below_block b HY.out (Nat.le_refl _))
  replace HE1_ := hide (below_block b HE1_.out (Nat.le_refl _))
  replace HU1_ := hide (below_block b HU1_.out (Nat.le_refl _))
  replace HA1_ := hide (below_block b HA1_.out (Nat.le_refl _))
  replace HE2_ := hide (below_block b HE2_.out (Nat.le_refl _))
  replace HU2_ := hide (below_block b HU2_.out (Nat.le_refl _))
  replace HA2_ := hide (below_block b HA2_.out (Nat.le_refl _))
  replace RP := hide (RP.out.below b (Nat.le_refl _))
  replace RK := hide (RK.out.below b (Nat.le_refl _))
  replace RRA1_ := hide (RRA1_.out.below b (Nat.le_refl _))
  replace RRA2_ := hide (RRA2_.out.below b (Nat.le_refl _))
  replace OK := hide (owns_below OK.out b (Nat.le_refl _))
  replace HB := hide (HB.out.trans (b.mono HB.out.size))
  clear b 
  go_wp2_with (first | (refine ld_whole (o := ⟨some 94, _, _, _, _, _⟩) 27 (.tmp 12) rfl (by rfl) BA1_ rfl #[.int .u8 64, .int .u8 1, .int .u16 (id : Int), .int .u32 (d : Int), .int .u32 (s : Int), .slice aA1_ (8 + mo.ds.length) cA1_] 27 HA1_.out Try.underlying27 (by kernel_rfl) ?_; try simp only [Act.put, List.setIfInBounds_toArray, List.set_cons_zero, List.set_cons_succ]) | (refine ld_whole (o := ⟨some 95, _, _, _, _, _⟩) 27 (.tmp 18) rfl (by rfl) BA2_ rfl #[.int .u8 64, .int .u8 1, .int .u16 (id : Int), .int .u32 (d : Int), .int .u32 (s : Int), .slice aA2_ (8 + mo.ds.length) cA2_] 27 HA2_.out Try.underlying27 (by kernel_rfl) ?_; try simp only [Act.put, List.setIfInBounds_toArray, List.set_cons_zero, List.set_cons_succ]))
  refine (same4_any _ _ _ _ _ _ aA1_ aA2_ _ _ cA1_ cA2_ RRA1_.out.row RRA2_.out.row HDN.out).mono ?_
  rintro e w19 ⟨rfl, b⟩
  replace HX := hide (below_block b HX.out (Nat.le_refl _))
  replace HY := hide (below_block b HY.out (Nat.le_refl _))
  replace HE1_ := hide (below_block b HE1_.out (Nat.le_refl _))
  replace HU1_ := hide (below_block b HU1_.out (Nat.le_refl _))
  replace HA1_ := hide (below_block b HA1_.out (Nat.le_refl _))
  replace HE2_ := hide (below_block b HE2_.out (Nat.le_refl _))
  replace HU2_ := hide (below_block b HU2_.out (Nat.le_refl _))
  replace HA2_ := hide (below_block b HA2_.out (Nat.le_refl _))
  replace RP := hide (RP.out.below b (Nat.le_refl _))
  replace RK := hide (RK.out.below b (Nat.le_refl _))
  replace RRA1_ := hide (RRA1_.out.below b (Nat.le_refl _))
  replace RRA2_ := hide (RRA2_.out.below b (Nat.le_refl _))
  replace OK := hide (owns_below OK.out b (Nat.le_refl _))
  replace HB := hide (HB.out.trans (b.mono HB.out.size))
  clear b 
  go_upto_region 15 with (fail)
  have HQ1 := hide (fun (W : World) (hB : Below w19.heap.size w19 W) => HM1.out W aK cK (RK.out.below hB (Nat.le_refl _)))
  have HQ2 := hide (fun (W : World) (hB : Below w19.heap.size w19 W) => HM2.out W da dc (RP.out.below hB (Nat.le_refl _)))
  have HQ3 := hide (fun (W : World) (hB : Below w19.heap.size w19 W) => same4_any W (tt : Int) (P : Int) (id : Int) (s : Int) (d : Int) aK da xs n cK dc (RK.out.below hB (Nat.le_refl _)).row (RP.out.below hB (Nat.le_refl _)).row HL.out)
  clear HM1 HM2
  clear HE1_ NE1_ HU1_ NU1_ HA1_ NA1_ HE2_ NE2_ HU2_ NU2_ HA2_ NA2_ RRA1_ RRA2_
  have k0Y0 : w19.cell? ⟨BY, 0, none⟩ = some (.int .u8 (tt : Int)) := cell_at HY.out 0 rfl
  have k0Y1 : w19.cell? ⟨BY, 1, none⟩ = some (.int .u8 (P : Int)) := cell_at HY.out 1 rfl
  have k0Y2 : w19.cell? ⟨BY, 2, none⟩ = some (.int .u16 (id : Int)) := cell_at HY.out 2 rfl
  have k0Y3 : w19.cell? ⟨BY, 3, none⟩ = some (.int .u32 (s : Int)) := cell_at HY.out 3 rfl
  have k0Y4 : w19.cell? ⟨BY, 4, none⟩ = some (.int .u32 (d : Int)) := cell_at HY.out 4 rfl
  have k0Y5 : w19.cell? ⟨BY, 5, none⟩ = some (.slice aK n cK) := cell_at HY.out 5 rfl
  have hlY := lt_of_block HY.out
  have k0X0 : w19.cell? ⟨BX, 0, none⟩ = some (.int .u8 (tt : Int)) := cell_at HX.out 0 rfl
  have k0X1 : w19.cell? ⟨BX, 1, none⟩ = some (.int .u8 (P : Int)) := cell_at HX.out 1 rfl
  have k0X2 : w19.cell? ⟨BX, 2, none⟩ = some (.int .u16 (id : Int)) := cell_at HX.out 2 rfl
  have k0X3 : w19.cell? ⟨BX, 3, none⟩ = some (.int .u32 (s : Int)) := cell_at HX.out 3 rfl
  have k0X4 : w19.cell? ⟨BX, 4, none⟩ = some (.int .u32 (d : Int)) := cell_at HX.out 4 rfl
  have k0X5 : w19.cell? ⟨BX, 5, none⟩ = some (.slice da n dc) := cell_at HX.out 5 rfl
  have hlX := lt_of_block HX.out
  have HBB := hide (Below.refl w19.heap.size w19)
  go_region_held3 (fun w' => w'.cell? ⟨BY, 0, none⟩ = some (.int .u8 (tt : Int)) ∧ w'.cell? ⟨BY, 1, none⟩ = some (.int .u8 (P : Int)) ∧ w'.cell? ⟨BY, 2, none⟩ = some (.int .u16 (id : Int)) ∧ w'.cell? ⟨BY, 3, none⟩ = some (.int .u32 (s : Int)) ∧ w'.cell? ⟨BY, 4, none⟩ = some (.int .u32 (d : Int)) ∧ w'.cell? ⟨BY, 5, none⟩ = some (.slice aK n cK) ∧ w'.cell? ⟨BX, 0, none⟩ = some (.int .u8 (tt : Int)) ∧ w'.cell? ⟨BX, 1, none⟩ = some (.int .u8 (P : Int)) ∧ w'.cell? ⟨BX, 2, none⟩ = some (.int .u16 (id : Int)) ∧ w'.cell? ⟨BX, 3, none⟩ = some (.int .u32 (s : Int)) ∧ w'.cell? ⟨BX, 4, none⟩ = some (.int .u32 (d : Int)) ∧ w'.cell? ⟨BX, 5, none⟩ = some (.slice da n dc)) (go_keep) (first
      | (go_at_call 24; (with_reducible refine (HQ1.out _ (by first | exact HBB.out | exact HBB.out.drew)).mono ?_); rintro e z1 ⟨rfl, b⟩; (try replace b := below_of_drew b); have HBB := hide (HBB.out.trans (b.mono HBB.out.size)); have k1Y0 := (bcell HBB.out BY 0 hlY).trans k0Y0; have k1Y1 := (bcell HBB.out BY 1 hlY).trans k0Y1; have k1Y2 := (bcell HBB.out BY 2 hlY).trans k0Y2; have k1Y3 := (bcell HBB.out BY 3 hlY).trans k0Y3; have k1Y4 := (bcell HBB.out BY 4 hlY).trans k0Y4; have k1Y5 := (bcell HBB.out BY 5 hlY).trans k0Y5; have k1X0 := (bcell HBB.out BX 0 hlX).trans k0X0; have k1X1 := (bcell HBB.out BX 1 hlX).trans k0X1; have k1X2 := (bcell HBB.out BX 2 hlX).trans k0X2; have k1X3 := (bcell HBB.out BX 3 hlX).trans k0X3; have k1X4 := (bcell HBB.out BX 4 hlX).trans k0X4; have k1X5 := (bcell HBB.out BX 5 hlX).trans k0X5; clear b)
      | (go_at_call 25; (with_reducible refine (HQ2.out _ (by first | exact HBB.out | exact HBB.out.drew)).mono ?_); rintro e z2 ⟨rfl, b⟩; (try replace b := below_of_drew b); have HBB := hide (HBB.out.trans (b.mono HBB.out.size)); have k2Y0 := (bcell HBB.out BY 0 hlY).trans k0Y0; have k2Y1 := (bcell HBB.out BY 1 hlY).trans k0Y1; have k2Y2 := (bcell HBB.out BY 2 hlY).trans k0Y2; have k2Y3 := (bcell HBB.out BY 3 hlY).trans k0Y3; have k2Y4 := (bcell HBB.out BY 4 hlY).trans k0Y4; have k2Y5 := (bcell HBB.out BY 5 hlY).trans k0Y5; have k2X0 := (bcell HBB.out BX 0 hlX).trans k0X0; have k2X1 := (bcell HBB.out BX 1 hlX).trans k0X1; have k2X2 := (bcell HBB.out BX 2 hlX).trans k0X2; have k2X3 := (bcell HBB.out BX 3 hlX).trans k0X3; have k2X4 := (bcell HBB.out BX 4 hlX).trans k0X4; have k2X5 := (bcell HBB.out BX 5 hlX).trans k0X5; clear b)
      | (go_at_call 13; (with_reducible refine (HQ3.out _ (by first | exact HBB.out | exact HBB.out.drew)).mono ?_); rintro e z3 ⟨rfl, b⟩; (try replace b := below_of_drew b); have HBB := hide (HBB.out.trans (b.mono HBB.out.size)); have k3Y0 := (bcell HBB.out BY 0 hlY).trans k0Y0; have k3Y1 := (bcell HBB.out BY 1 hlY).trans k0Y1; have k3Y2 := (bcell HBB.out BY 2 hlY).trans k0Y2; have k3Y3 := (bcell HBB.out BY 3 hlY).trans k0Y3; have k3Y4 := (bcell HBB.out BY 4 hlY).trans k0Y4; have k3Y5 := (bcell HBB.out BY 5 hlY).trans k0Y5; have k3X0 := (bcell HBB.out BX 0 hlX).trans k0X0; have k3X1 := (bcell HBB.out BX 1 hlX).trans k0X1; have k3X2 := (bcell HBB.out BX 2 hlX).trans k0X2; have k3X3 := (bcell HBB.out BX 3 hlX).trans k0X3; have k3X4 := (bcell HBB.out BX 4 hlX).trans k0X4; have k3X5 := (bcell HBB.out BX 5 hlX).trans k0X5; clear b)
      | fail)
  all_goals (try go_wp2_with fail)
  all_goals go_ret
  all_goals exact ⟨by simp, HB.out.trans (HBB.out.mono HB.out.size)⟩
set_option maxHeartbeats 4000000 in
theorem icmpTells_yn (w : World) (own code : Nat) (tt P id s d : Nat) (da : Option Addr) (xs : List Int) (n dc : Nat) (hLx : Lies w da xs n dc) (hl : xs.length = n) (hb : ∀ x ∈ xs, 0 ≤ x ∧ x ≤ 255) (ht : tt ≤ 255) (hP : P ≤ 255) (hid : id ≤ 65535) (hs : s ≤ 4294967295) (hd : d ≤ 4294967295) (hc : code ≤ 255) (hn : ¬ 3000 < n) (M : Nat) (hm : icMay P s d xs = true) (hM : M = min (20 + n) 28) (ha : ansOk P xs = false) :
    Calls Try.prog 6 #[.int .u32 (own : Int), .agg #[.int .u8 (tt : Int), .int .u8 (P : Int), .int .u16 (id : Int), .int .u32 (s : Int), .int .u32 (d : Int), .slice da n dc], .int .u8 (code : Int)] w fun e w' => e = .returned (.bool true) ∧ Below w.heap.size w w' := by
  have hd3 : decide ((3000 : Int) < (n : Int)) = false := by simp; omega
  have HE1 := hide (fun (W : World) (A : Option Addr) (C : Nat) (hL : Lies W A xs n C) => exc_yes W own M tt P id s d A xs n C hL hl hb ht hP hid hs hd hm hM)
  have HU1 := hide (fun (W : World) (A : Option Addr) (C : Nat) (hL : Lies W A xs n C) => unr_yes W own code M tt P id s d A xs n C hL hl hb ht hP hid hs hd hm hM hc)
  have HE2 := hide (fun (W : World) (A : Option Addr) (C : Nat) (hL : Lies W A xs n C) => rerr_yes W own 11 0 M tt P id s d A xs n C hL hl hb ht hP hid hs hd hm hM (by omega) (by omega))
  have HU2 := hide (fun (W : World) (A : Option Addr) (C : Nat) (hL : Lies W A xs n C) => rerr_yes W own 3 code M tt P id s d A xs n C hL hl hb ht hP hid hs hd hm hM (by omega) hc)
  have HA1 := hide (fun (W : World) (A : Option Addr) (C : Nat) (hL : Lies W A xs n C) => ans_no W tt P id s d A xs n C hL hl hb ha)
  have HA2 := hide (fun (W : World) (A : Option Addr) (C : Nat) (hL : Lies W A xs n C) => rans_no W tt P id s d A xs n C hL hl hb ha)
  have HM1 := hide (fun (W : World) (A : Option Addr) (C : Nat) (hL : Lies W A xs n C) => may_any W tt P id s d A xs n C hL hl hb ht hP hid hs hd)
  have HM2 := hide (fun (W : World) (A : Option Addr) (C : Nat) (hL : Lies W A xs n C) => rmay_any W tt P id s d A xs n C hL hl hb ht hP hid hs hd)
  rw [hm] at HM1 HM2
  have HDL := hide (show (icmpB 11 0 0 ((ipG tt P id s d xs).take M)).length = 8 + M by rw [icmpB_len, List.length_take, ipG_len, hl]; omega)
  have HDM := hide (show (icmpB 3 code 0 ((ipG tt P id s d xs).take M)).length = 8 + M by rw [icmpB_len, List.length_take, ipG_len, hl]; omega)
  have HL := hide hl
  have HN := hide hn
  clear hm hl hb hn hM ha
  obtain ⟨V1, hV1⟩ : ∃ V, w.alloc (.cells #[.int .u8 (tt : Int), .int .u8 (P : Int), .int .u16 (id : Int), .int .u32 (s : Int), .int .u32 (d : Int), .slice da n dc] 27) = V := ⟨_, rfl⟩
  have hz1 : V1.heap.size = w.heap.size + 1 := by rw [← hV1]; simp
  have hb1 : Below w.heap.size w V1 := by rw [← hV1]; exact (Below.refl _ _).alloc (Nat.le_refl _) _
  have hp1_1 : V1.heap[w.heap.size]? = some (.cells #[.int .u8 (tt : Int), .int .u8 (P : Int), .int .u16 (id : Int), .int .u32 (s : Int), .int .u32 (d : Int), .slice da n dc] 27 (0, 0)) := by rw [← hV1]; exact heap_alloc_new _ _
  obtain ⟨BX, hBX⟩ : ∃ B, w.heap.size = B := ⟨_, rfl⟩
  have hw0 : w.heap.size ≤ BX := by omega
  have HX := hide (show V1.heap[BX]? = some (.cells #[.int .u8 (tt : Int), .int .u8 (P : Int), .int .u16 (id : Int), .int .u32 (s : Int), .int .u32 (d : Int), .slice da n dc] 27 (0, 0)) by rw [← hBX]; exact hp1_1)
  have NX : Hid (w.heap.size ≤ BX) := hide hw0
  have AP := hide hLx
  have RP := hide (hLx.below hb1 (Nat.le_refl _))
  have HB := hide hb1
  have HE := hide (And.intro (And.intro trivial trivial) (And.intro hV1 (And.intro hBX (trivial))))
  clear hw0 hV1 hz1 hb1  hp1_1 hBX hLx
  go_enter Try.func6, Try.ntmps6
  go_upto_region 1 with (fail)
  rw [HE.out.2.1]
  try rw [HE.out.2.2.1]
  clear HE
  go_wp2_with fail
  refine (speaks13 _).mono ?_
  rintro e w1 ⟨rfl, b⟩
  replace HX := hide (below_block b HX.out (Nat.le_refl _))
  replace RP := hide (RP.out.below b (Nat.le_refl _))
  replace HB := hide (HB.out.trans (b.mono HB.out.size))
  clear b 
  have qX_5 : w1.cell? ⟨BX, 5, none⟩ = some (.slice da n dc) := cell_at HX.out 5 rfl
  go_upto_region 5 with (fail)
  clear qX_5
  obtain ⟨w2, hwn, wb, HN1⟩ : ∃ W, w1.alloc (.cells #[.int .u8 (tt : Int), .int .u8 (P : Int), .int .u16 (id : Int), .int .u32 (s : Int), .int .u32 (d : Int), .slice da n dc] 27) = W ∧ Below w1.heap.size w1 W ∧ Hid (W.heap[w1.heap.size]? = some (.cells #[.int .u8 (tt : Int), .int .u8 (P : Int), .int .u16 (id : Int), .int .u32 (s : Int), .int .u32 (d : Int), .slice da n dc] 27 (0, 0))) := ⟨_, rfl, (Below.refl w1.heap.size w1).alloc (Nat.le_refl _) _, hide (heap_alloc_new w1 _)⟩
  obtain ⟨BY, hBn⟩ : ∃ B, w1.heap.size = B := ⟨_, rfl⟩
  rw [hBn] at HN1
  have HW := hide (And.intro hwn hBn)
  have HBo := HB
  have nqX_Y := hide (blk_ne HX.out hBn)
  clear hwn hBn
  have EX := HX
  replace HX := hide (below_block wb HX.out (Nat.le_refl _))
  replace RP := hide (RP.out.below wb (Nat.le_refl _))
  replace HB := hide (HB.out.trans (wb.mono HB.out.size))
  have HY := HN1
  have NY := hide (show w.heap.size ≤ BY by rw [← HW.out.2]; exact HBo.out.size)
  clear wb HN1 HBo
  go_upto_region 6 with ((refine ld_whole (o := ⟨some 26, _, _, _, _, _⟩) 27 (.tmp 4) rfl (by rfl) BX rfl #[.int .u8 (tt : Int), .int .u8 (P : Int), .int .u16 (id : Int), .int .u32 (s : Int), .int .u32 (d : Int), .slice da n dc] 27 EX.out Try.underlying27 (by kernel_rfl) ?_; try simp only [Act.put, List.setIfInBounds_toArray, List.set_cons_zero, List.set_cons_succ]))
  rw [HW.out.1]
  try rw [HW.out.2]
  clear HW
  clear EX
  obtain ⟨vq, v3, hrun, oq, bq, _⟩ := app_own2 (w2.alloc (.cells #[] 5)) w2.heap.size (.slice (some ⟨w2.heap.size, 0, none⟩) 0 0) 0 [] (World.ownsRow_lit w2 #[] 0 (Nat.le_refl _) (by unfold maxLen; omega) rfl) da (xs) (n) dc (RP.out.row.below ((Below.refl w2.heap.size w2).alloc (Nat.le_refl _) _) (Nat.le_refl _)) HL.out RP.out.no (by have := HN.out; omega) (by simp)
  rw [show 0 + (n) = n by omega, List.nil_append] at oq
  obtain ⟨aK, cK, rfl⟩ := slice_form oq
  have HRUN := hide hrun
  have bz := ((Below.refl w2.heap.size w2).alloc (Nat.le_refl _) (.cells #[] 5)).trans bq
  have neK_X := hide (own_ne_lt oq (lt_of_block HX.out))
  have neK_Y := hide (own_ne_lt oq (lt_of_block HY.out))
  have lbK := hide HB.out.size
  have Hm := below_block bz HY.out (Nat.le_refl _)
  have HBm := HB.out.trans (bz.mono HB.out.size)
  have fz := free_at Hm 5
  have qz : v3.cell? ⟨BY, 5, none⟩ = some (.slice da n dc) := cell_at Hm 5 rfl
  obtain ⟨w4, hVn, hVH, hVB, hVo, hVs⟩ := set1 (i := 5) (.slice aK n cK) (c' := #[.int .u8 (tt : Int), .int .u8 (P : Int), .int .u16 (id : Int), .int .u32 (s : Int), .int .u32 (d : Int), .slice aK n cK]) Hm HBm NY.out (by kernel_rfl)
  have HVn := hide hVn
  clear hVn
  have HG := hide (gb_part HBm hVB hVo hVs)
  have HXn := hide ((hVo _ nqX_Y.out).trans (below_block bz HX.out (Nat.le_refl _)))
  have HYn := hide hVH
  have RPn := hide (AP.out.below hVB (Nat.le_refl _))
  have OK := hide (owns_kept oq HG.out neK_Y.out)
  have RK := hide (Lies.of_owns OK.out)
  have HBn := hide hVB
  clear hVH hVB hVo hVs HG hrun oq bq bz Hm HBm
  have qP_ : w2.cell? ⟨BX, 5, none⟩ = some (.slice da (n) dc) := cell_at HX.out 5 rfl
  have qe_ : (w2.alloc (.cells #[] 5)).cell? ⟨BX, 5, none⟩ = some (.slice da (n) dc) := cell_at (below_block ((Below.refl w2.heap.size w2).alloc (Nat.le_refl _) (.cells #[] 5)) HX.out (Nat.le_refl _)) 5 rfl
  go_upto_region 7 with ((at_builtin; refine Lib.wpList_append_run _ rfl _ _ _ _ rfl _ _ rfl rfl _ _ HRUN.out ?_))
  rw [HVn.out]
  clear HVn fz qz qP_ qe_ HRUN
  replace HX := HXn
  clear HXn
  replace HY := HYn
  clear HYn
  replace RP := RPn
  clear RPn
  replace HB := HBn
  clear HBn
  go_wp2_with ((refine ld_whole (o := ⟨some 34, _, _, _, _, _⟩) 27 (.tmp 7) rfl (by rfl) BY rfl #[.int .u8 (tt : Int), .int .u8 (P : Int), .int .u16 (id : Int), .int .u32 (s : Int), .int .u32 (d : Int), .slice aK n cK] 27 HY.out Try.underlying27 (by kernel_rfl) ?_; try simp only [Act.put, List.setIfInBounds_toArray, List.set_cons_zero, List.set_cons_succ]))
  refine (HE1.out _ aK cK RK.out).mono ?_
  rintro e w5 ⟨aE1_, cE1_, rfl, o, b⟩
  replace HX := hide (below_block b HX.out (Nat.le_refl _))
  replace HY := hide (below_block b HY.out (Nat.le_refl _))
  replace RP := hide (RP.out.below b (Nat.le_refl _))
  replace RK := hide (RK.out.below b (Nat.le_refl _))
  replace OK := hide (owns_below OK.out b (Nat.le_refl _))
  replace HB := hide (HB.out.trans (b.mono HB.out.size))
  have RRE1_ := hide (Lies.of_owns o)
  clear b o
  obtain ⟨w6, hwn, wb, HN1⟩ : ∃ W, w5.alloc (.cells #[.int .u8 64, .int .u8 1, .int .u16 0, .int .u32 (own : Int), .int .u32 (s : Int), .slice aE1_ (8 + M) cE1_] 27) = W ∧ Below w5.heap.size w5 W ∧ Hid (W.heap[w5.heap.size]? = some (.cells #[.int .u8 64, .int .u8 1, .int .u16 0, .int .u32 (own : Int), .int .u32 (s : Int), .slice aE1_ (8 + M) cE1_] 27 (0, 0))) := ⟨_, rfl, (Below.refl w5.heap.size w5).alloc (Nat.le_refl _) _, hide (heap_alloc_new w5 _)⟩
  obtain ⟨BE1_, hBn⟩ : ∃ B, w5.heap.size = B := ⟨_, rfl⟩
  rw [hBn] at HN1
  have HW := hide (And.intro hwn hBn)
  have HBo := HB
  have neK_E1_ := hide (own_ne (L := BE1_) OK.out (Nat.le_of_eq hBn))
  have nqX_E1_ := hide (blk_ne HX.out hBn)
  have nqY_E1_ := hide (blk_ne HY.out hBn)
  clear hwn hBn
  replace HX := hide (below_block wb HX.out (Nat.le_refl _))
  replace HY := hide (below_block wb HY.out (Nat.le_refl _))
  replace RP := hide (RP.out.below wb (Nat.le_refl _))
  replace RK := hide (RK.out.below wb (Nat.le_refl _))
  replace RRE1_ := hide (RRE1_.out.below wb (Nat.le_refl _))
  replace OK := hide (owns_below OK.out wb (Nat.le_refl _))
  replace HB := hide (HB.out.trans (wb.mono HB.out.size))
  have HE1_ := HN1
  have NE1_ := hide (show w.heap.size ≤ BE1_ by rw [← HW.out.2]; exact HBo.out.size)
  clear wb HN1 HBo
  go_upto_region 8 with (fail)
  rw [HW.out.1]
  try rw [HW.out.2]
  clear HW
  go_wp2_with ((refine ld_whole (o := ⟨some 40, _, _, _, _, _⟩) 27 (.tmp 7) rfl (by rfl) BY rfl #[.int .u8 (tt : Int), .int .u8 (P : Int), .int .u16 (id : Int), .int .u32 (s : Int), .int .u32 (d : Int), .slice aK n cK] 27 HY.out Try.underlying27 (by kernel_rfl) ?_; try simp only [Act.put, List.setIfInBounds_toArray, List.set_cons_zero, List.set_cons_succ]))
  refine (HU1.out _ aK cK RK.out).mono ?_
  rintro e w7 ⟨aU1_, cU1_, rfl, o, b⟩
  replace HX := hide (below_block b HX.out (Nat.le_refl _))
  replace HY := hide (below_block b HY.out (Nat.le_refl _))
  replace HE1_ := hide (below_block b HE1_.out (Nat.le_refl _))
  replace RP := hide (RP.out.below b (Nat.le_refl _))
  replace RK := hide (RK.out.below b (Nat.le_refl _))
  replace RRE1_ := hide (RRE1_.out.below b (Nat.le_refl _))
  replace OK := hide (owns_below OK.out b (Nat.le_refl _))
  replace HB := hide (HB.out.trans (b.mono HB.out.size))
  have RRU1_ := hide (Lies.of_owns o)
  clear b o
  obtain ⟨w8, hwn, wb, HN1⟩ : ∃ W, w7.alloc (.cells #[.int .u8 64, .int .u8 1, .int .u16 0, .int .u32 (own : Int), .int .u32 (s : Int), .slice aU1_ (8 + M) cU1_] 27) = W ∧ Below w7.heap.size w7 W ∧ Hid (W.heap[w7.heap.size]? = some (.cells #[.int .u8 64, .int .u8 1, .int .u16 0, .int .u32 (own : Int), .int .u32 (s : Int), .slice aU1_ (8 + M) cU1_] 27 (0, 0))) := ⟨_, rfl, (Below.refl w7.heap.size w7).alloc (Nat.le_refl _) _, hide (heap_alloc_new w7 _)⟩
  obtain ⟨BU1_, hBn⟩ : ∃ B, w7.heap.size = B := ⟨_, rfl⟩
  rw [hBn] at HN1
  have HW := hide (And.intro hwn hBn)
  have HBo := HB
  have neK_U1_ := hide (own_ne (L := BU1_) OK.out (Nat.le_of_eq hBn))
  have nqX_U1_ := hide (blk_ne HX.out hBn)
  have nqY_U1_ := hide (blk_ne HY.out hBn)
  have nqE1__U1_ := hide (blk_ne HE1_.out hBn)
  clear hwn hBn
  replace HX := hide (below_block wb HX.out (Nat.le_refl _))
  replace HY := hide (below_block wb HY.out (Nat.le_refl _))
  replace HE1_ := hide (below_block wb HE1_.out (Nat.le_refl _))
  replace RP := hide (RP.out.below wb (Nat.le_refl _))
  replace RK := hide (RK.out.below wb (Nat.le_refl _))
  replace RRE1_ := hide (RRE1_.out.below wb (Nat.le_refl _))
  replace RRU1_ := hide (RRU1_.out.below wb (Nat.le_refl _))
  replace OK := hide (owns_below OK.out wb (Nat.le_refl _))
  replace HB := hide (HB.out.trans (wb.mono HB.out.size))
  have HU1_ := HN1
  have NU1_ := hide (show w.heap.size ≤ BU1_ by rw [← HW.out.2]; exact HBo.out.size)
  clear wb HN1 HBo
  go_upto_region 9 with (fail)
  rw [HW.out.1]
  try rw [HW.out.2]
  clear HW
  go_wp2_with ((refine ld_whole (o := ⟨some 46, _, _, _, _, _⟩) 27 (.tmp 7) rfl (by rfl) BY rfl #[.int .u8 (tt : Int), .int .u8 (P : Int), .int .u16 (id : Int), .int .u32 (s : Int), .int .u32 (d : Int), .slice aK n cK] 27 HY.out Try.underlying27 (by kernel_rfl) ?_; try simp only [Act.put, List.setIfInBounds_toArray, List.set_cons_zero, List.set_cons_succ]))
  refine (HA1.out _ aK cK RK.out).mono ?_
  rintro e w9 ⟨rfl, b⟩
  replace HX := hide (below_block b HX.out (Nat.le_refl _))
  replace HY := hide (below_block b HY.out (Nat.le_refl _))
  replace HE1_ := hide (below_block b HE1_.out (Nat.le_refl _))
  replace HU1_ := hide (below_block b HU1_.out (Nat.le_refl _))
  replace RP := hide (RP.out.below b (Nat.le_refl _))
  replace RK := hide (RK.out.below b (Nat.le_refl _))
  replace RRE1_ := hide (RRE1_.out.below b (Nat.le_refl _))
  replace RRU1_ := hide (RRU1_.out.below b (Nat.le_refl _))
  replace OK := hide (owns_below OK.out b (Nat.le_refl _))
  replace HB := hide (HB.out.trans (b.mono HB.out.size))
  clear b 
  obtain ⟨w10, hwn, wb, HN1⟩ : ∃ W, w9.alloc (.cells #[.int .u8 0, .int .u8 0, .int .u16 0, .int .u32 0, .int .u32 0, .slice none 0 0] 27) = W ∧ Below w9.heap.size w9 W ∧ Hid (W.heap[w9.heap.size]? = some (.cells #[.int .u8 0, .int .u8 0, .int .u16 0, .int .u32 0, .int .u32 0, .slice none 0 0] 27 (0, 0))) := ⟨_, rfl, (Below.refl w9.heap.size w9).alloc (Nat.le_refl _) _, hide (heap_alloc_new w9 _)⟩
  obtain ⟨BA1_, hBn⟩ : ∃ B, w9.heap.size = B := ⟨_, rfl⟩
  rw [hBn] at HN1
  have HW := hide (And.intro hwn hBn)
  have HBo := HB
  have neK_A1_ := hide (own_ne (L := BA1_) OK.out (Nat.le_of_eq hBn))
  have nqX_A1_ := hide (blk_ne HX.out hBn)
  have nqY_A1_ := hide (blk_ne HY.out hBn)
  have nqE1__A1_ := hide (blk_ne HE1_.out hBn)
  have nqU1__A1_ := hide (blk_ne HU1_.out hBn)
  clear hwn hBn
  replace HX := hide (below_block wb HX.out (Nat.le_refl _))
  replace HY := hide (below_block wb HY.out (Nat.le_refl _))
  replace HE1_ := hide (below_block wb HE1_.out (Nat.le_refl _))
  replace HU1_ := hide (below_block wb HU1_.out (Nat.le_refl _))
  replace RP := hide (RP.out.below wb (Nat.le_refl _))
  replace RK := hide (RK.out.below wb (Nat.le_refl _))
  replace RRE1_ := hide (RRE1_.out.below wb (Nat.le_refl _))
  replace RRU1_ := hide (RRU1_.out.below wb (Nat.le_refl _))
  replace OK := hide (owns_below OK.out wb (Nat.le_refl _))
  replace HB := hide (HB.out.trans (wb.mono HB.out.size))
  have HA1_ := HN1
  have NA1_ := hide (show w.heap.size ≤ BA1_ by rw [← HW.out.2]; exact HBo.out.size)
  clear wb HN1 HBo
  go_upto_region 10 with (fail)
  rw [HW.out.1]
  try rw [HW.out.2]
  clear HW
  go_wp2_with ((refine ld_whole (o := ⟨some 52, _, _, _, _, _⟩) 27 (.tmp 4) rfl (by rfl) BX rfl #[.int .u8 (tt : Int), .int .u8 (P : Int), .int .u16 (id : Int), .int .u32 (s : Int), .int .u32 (d : Int), .slice da n dc] 27 HX.out Try.underlying27 (by kernel_rfl) ?_; try simp only [Act.put, List.setIfInBounds_toArray, List.set_cons_zero, List.set_cons_succ]))
  refine (HE2.out _ da dc RP.out).mono ?_
  rintro e w11 ⟨aE2_, cE2_, rfl, o, b⟩
  replace HX := hide (below_block b HX.out (Nat.le_refl _))
  replace HY := hide (below_block b HY.out (Nat.le_refl _))
  replace HE1_ := hide (below_block b HE1_.out (Nat.le_refl _))
  replace HU1_ := hide (below_block b HU1_.out (Nat.le_refl _))
  replace HA1_ := hide (below_block b HA1_.out (Nat.le_refl _))
  replace RP := hide (RP.out.below b (Nat.le_refl _))
  replace RK := hide (RK.out.below b (Nat.le_refl _))
  replace RRE1_ := hide (RRE1_.out.below b (Nat.le_refl _))
  replace RRU1_ := hide (RRU1_.out.below b (Nat.le_refl _))
  replace OK := hide (owns_below OK.out b (Nat.le_refl _))
  replace HB := hide (HB.out.trans (b.mono HB.out.size))
  have RRE2_ := hide (Lies.of_owns o)
  clear b o
  obtain ⟨w12, hwn, wb, HN1⟩ : ∃ W, w11.alloc (.cells #[.int .u8 64, .int .u8 1, .int .u16 0, .int .u32 (own : Int), .int .u32 (s : Int), .slice aE2_ (8 + M) cE2_] 27) = W ∧ Below w11.heap.size w11 W ∧ Hid (W.heap[w11.heap.size]? = some (.cells #[.int .u8 64, .int .u8 1, .int .u16 0, .int .u32 (own : Int), .int .u32 (s : Int), .slice aE2_ (8 + M) cE2_] 27 (0, 0))) := ⟨_, rfl, (Below.refl w11.heap.size w11).alloc (Nat.le_refl _) _, hide (heap_alloc_new w11 _)⟩
  obtain ⟨BE2_, hBn⟩ : ∃ B, w11.heap.size = B := ⟨_, rfl⟩
  rw [hBn] at HN1
  have HW := hide (And.intro hwn hBn)
  have HBo := HB
  have neK_E2_ := hide (own_ne (L := BE2_) OK.out (Nat.le_of_eq hBn))
  have nqX_E2_ := hide (blk_ne HX.out hBn)
  have nqY_E2_ := hide (blk_ne HY.out hBn)
  have nqE1__E2_ := hide (blk_ne HE1_.out hBn)
  have nqU1__E2_ := hide (blk_ne HU1_.out hBn)
  have nqA1__E2_ := hide (blk_ne HA1_.out hBn)
  clear hwn hBn
  replace HX := hide (below_block wb HX.out (Nat.le_refl _))
  replace HY := hide (below_block wb HY.out (Nat.le_refl _))
  replace HE1_ := hide (below_block wb HE1_.out (Nat.le_refl _))
  replace HU1_ := hide (below_block wb HU1_.out (Nat.le_refl _))
  replace HA1_ := hide (below_block wb HA1_.out (Nat.le_refl _))
  replace RP := hide (RP.out.below wb (Nat.le_refl _))
  replace RK := hide (RK.out.below wb (Nat.le_refl _))
  replace RRE1_ := hide (RRE1_.out.below wb (Nat.le_refl _))
  replace RRU1_ := hide (RRU1_.out.below wb (Nat.le_refl _))
  replace RRE2_ := hide (RRE2_.out.below wb (Nat.le_refl _))
  replace OK := hide (owns_below OK.out wb (Nat.le_refl _))
  replace HB := hide (HB.out.trans (wb.mono HB.out.size))
  have HE2_ := HN1
  have NE2_ := hide (show w.heap.size ≤ BE2_ by rw [← HW.out.2]; exact HBo.out.size)
  clear wb HN1 HBo
  go_upto_region 11 with (fail)
  rw [HW.out.1]
  try rw [HW.out.2]
  clear HW
  go_wp2_with ((refine ld_whole (o := ⟨some 58, _, _, _, _, _⟩) 27 (.tmp 4) rfl (by rfl) BX rfl #[.int .u8 (tt : Int), .int .u8 (P : Int), .int .u16 (id : Int), .int .u32 (s : Int), .int .u32 (d : Int), .slice da n dc] 27 HX.out Try.underlying27 (by kernel_rfl) ?_; try simp only [Act.put, List.setIfInBounds_toArray, List.set_cons_zero, List.set_cons_succ]))
  refine (HU2.out _ da dc RP.out).mono ?_
  rintro e w13 ⟨aU2_, cU2_, rfl, o, b⟩
  replace HX := hide (below_block b HX.out (Nat.le_refl _))
  replace HY := hide (below_block b HY.out (Nat.le_refl _))
  replace HE1_ := hide (below_block b HE1_.out (Nat.le_refl _))
  replace HU1_ := hide (below_block b HU1_.out (Nat.le_refl _))
  replace HA1_ := hide (below_block b HA1_.out (Nat.le_refl _))
  replace HE2_ := hide (below_block b HE2_.out (Nat.le_refl _))
  replace RP := hide (RP.out.below b (Nat.le_refl _))
  replace RK := hide (RK.out.below b (Nat.le_refl _))
  replace RRE1_ := hide (RRE1_.out.below b (Nat.le_refl _))
  replace RRU1_ := hide (RRU1_.out.below b (Nat.le_refl _))
  replace RRE2_ := hide (RRE2_.out.below b (Nat.le_refl _))
  replace OK := hide (owns_below OK.out b (Nat.le_refl _))
  replace HB := hide (HB.out.trans (b.mono HB.out.size))
  have RRU2_ := hide (Lies.of_owns o)
  clear b o
  obtain ⟨w14, hwn, wb, HN1⟩ : ∃ W, w13.alloc (.cells #[.int .u8 64, .int .u8 1, .int .u16 0, .int .u32 (own : Int), .int .u32 (s : Int), .slice aU2_ (8 + M) cU2_] 27) = W ∧ Below w13.heap.size w13 W ∧ Hid (W.heap[w13.heap.size]? = some (.cells #[.int .u8 64, .int .u8 1, .int .u16 0, .int .u32 (own : Int), .int .u32 (s : Int), .slice aU2_ (8 + M) cU2_] 27 (0, 0))) := ⟨_, rfl, (Below.refl w13.heap.size w13).alloc (Nat.le_refl _) _, hide (heap_alloc_new w13 _)⟩
  obtain ⟨BU2_, hBn⟩ : ∃ B, w13.heap.size = B := ⟨_, rfl⟩
  rw [hBn] at HN1
  have HW := hide (And.intro hwn hBn)
  have HBo := HB
  have neK_U2_ := hide (own_ne (L := BU2_) OK.out (Nat.le_of_eq hBn))
  have nqX_U2_ := hide (blk_ne HX.out hBn)
  have nqY_U2_ := hide (blk_ne HY.out hBn)
  have nqE1__U2_ := hide (blk_ne HE1_.out hBn)
  have nqU1__U2_ := hide (blk_ne HU1_.out hBn)
  have nqA1__U2_ := hide (blk_ne HA1_.out hBn)
  have nqE2__U2_ := hide (blk_ne HE2_.out hBn)
  clear hwn hBn
  replace HX := hide (below_block wb HX.out (Nat.le_refl _))
  replace HY := hide (below_block wb HY.out (Nat.le_refl _))
  replace HE1_ := hide (below_block wb HE1_.out (Nat.le_refl _))
  replace HU1_ := hide (below_block wb HU1_.out (Nat.le_refl _))
  replace HA1_ := hide (below_block wb HA1_.out (Nat.le_refl _))
  replace HE2_ := hide (below_block wb HE2_.out (Nat.le_refl _))
  replace RP := hide (RP.out.below wb (Nat.le_refl _))
  replace RK := hide (RK.out.below wb (Nat.le_refl _))
  replace RRE1_ := hide (RRE1_.out.below wb (Nat.le_refl _))
  replace RRU1_ := hide (RRU1_.out.below wb (Nat.le_refl _))
  replace RRE2_ := hide (RRE2_.out.below wb (Nat.le_refl _))
  replace RRU2_ := hide (RRU2_.out.below wb (Nat.le_refl _))
  replace OK := hide (owns_below OK.out wb (Nat.le_refl _))
  replace HB := hide (HB.out.trans (wb.mono HB.out.size))
  have HU2_ := HN1
  have NU2_ := hide (show w.heap.size ≤ BU2_ by rw [← HW.out.2]; exact HBo.out.size)
  clear wb HN1 HBo
  go_upto_region 12 with (fail)
  rw [HW.out.1]
  try rw [HW.out.2]
  clear HW
  go_wp2_with ((refine ld_whole (o := ⟨some 64, _, _, _, _, _⟩) 27 (.tmp 4) rfl (by rfl) BX rfl #[.int .u8 (tt : Int), .int .u8 (P : Int), .int .u16 (id : Int), .int .u32 (s : Int), .int .u32 (d : Int), .slice da n dc] 27 HX.out Try.underlying27 (by kernel_rfl) ?_; try simp only [Act.put, List.setIfInBounds_toArray, List.set_cons_zero, List.set_cons_succ]))
  refine (HA2.out _ da dc RP.out).mono ?_
  rintro e w15 ⟨rfl, b⟩
  replace HX := hide (below_block b HX.out (Nat.le_refl _))
  replace HY := hide (below_block b HY.out (Nat.le_refl _))
  replace HE1_ := hide (below_block b HE1_.out (Nat.le_refl _))
  replace HU1_ := hide (below_block b HU1_.out (Nat.le_refl _))
  replace HA1_ := hide (below_block b HA1_.out (Nat.le_refl _))
  replace HE2_ := hide (below_block b HE2_.out (Nat.le_refl _))
  replace HU2_ := hide (below_block b HU2_.out (Nat.le_refl _))
  replace RP := hide (RP.out.below b (Nat.le_refl _))
  replace RK := hide (RK.out.below b (Nat.le_refl _))
  replace RRE1_ := hide (RRE1_.out.below b (Nat.le_refl _))
  replace RRU1_ := hide (RRU1_.out.below b (Nat.le_refl _))
  replace RRE2_ := hide (RRE2_.out.below b (Nat.le_refl _))
  replace RRU2_ := hide (RRU2_.out.below b (Nat.le_refl _))
  replace OK := hide (owns_below OK.out b (Nat.le_refl _))
  replace HB := hide (HB.out.trans (b.mono HB.out.size))
  clear b 
  obtain ⟨w16, hwn, wb, HN1⟩ : ∃ W, w15.alloc (.cells #[.int .u8 0, .int .u8 0, .int .u16 0, .int .u32 0, .int .u32 0, .slice none 0 0] 27) = W ∧ Below w15.heap.size w15 W ∧ Hid (W.heap[w15.heap.size]? = some (.cells #[.int .u8 0, .int .u8 0, .int .u16 0, .int .u32 0, .int .u32 0, .slice none 0 0] 27 (0, 0))) := ⟨_, rfl, (Below.refl w15.heap.size w15).alloc (Nat.le_refl _) _, hide (heap_alloc_new w15 _)⟩
  obtain ⟨BA2_, hBn⟩ : ∃ B, w15.heap.size = B := ⟨_, rfl⟩
  rw [hBn] at HN1
  have HW := hide (And.intro hwn hBn)
  have HBo := HB
  have neK_A2_ := hide (own_ne (L := BA2_) OK.out (Nat.le_of_eq hBn))
  have nqX_A2_ := hide (blk_ne HX.out hBn)
  have nqY_A2_ := hide (blk_ne HY.out hBn)
  have nqE1__A2_ := hide (blk_ne HE1_.out hBn)
  have nqU1__A2_ := hide (blk_ne HU1_.out hBn)
  have nqA1__A2_ := hide (blk_ne HA1_.out hBn)
  have nqE2__A2_ := hide (blk_ne HE2_.out hBn)
  have nqU2__A2_ := hide (blk_ne HU2_.out hBn)
  clear hwn hBn
  replace HX := hide (below_block wb HX.out (Nat.le_refl _))
  replace HY := hide (below_block wb HY.out (Nat.le_refl _))
  replace HE1_ := hide (below_block wb HE1_.out (Nat.le_refl _))
  replace HU1_ := hide (below_block wb HU1_.out (Nat.le_refl _))
  replace HA1_ := hide (below_block wb HA1_.out (Nat.le_refl _))
  replace HE2_ := hide (below_block wb HE2_.out (Nat.le_refl _))
  replace HU2_ := hide (below_block wb HU2_.out (Nat.le_refl _))
  replace RP := hide (RP.out.below wb (Nat.le_refl _))
  replace RK := hide (RK.out.below wb (Nat.le_refl _))
  replace RRE1_ := hide (RRE1_.out.below wb (Nat.le_refl _))
  replace RRU1_ := hide (RRU1_.out.below wb (Nat.le_refl _))
  replace RRE2_ := hide (RRE2_.out.below wb (Nat.le_refl _))
  replace RRU2_ := hide (RRU2_.out.below wb (Nat.le_refl _))
  replace OK := hide (owns_below OK.out wb (Nat.le_refl _))
  replace HB := hide (HB.out.trans (wb.mono HB.out.size))
  have HA2_ := HN1
  have NA2_ := hide (show w.heap.size ≤ BA2_ by rw [← HW.out.2]; exact HBo.out.size)
  clear wb HN1 HBo
  go_upto_region 13 with (fail)
  rw [HW.out.1]
  try rw [HW.out.2]
  clear HW
  clear HE1 HU1 HA1 HE2 HU2 HA2
  go_wp2_with (first | (refine ld_whole (o := ⟨some 82, _, _, _, _, _⟩) 27 (.tmp 8) rfl (by rfl) BE1_ rfl #[.int .u8 64, .int .u8 1, .int .u16 0, .int .u32 (own : Int), .int .u32 (s : Int), .slice aE1_ (8 + M) cE1_] 27 HE1_.out Try.underlying27 (by kernel_rfl) ?_; try simp only [Act.put, List.setIfInBounds_toArray, List.set_cons_zero, List.set_cons_succ]) | (refine ld_whole (o := ⟨some 83, _, _, _, _, _⟩) 27 (.tmp 14) rfl (by rfl) BE2_ rfl #[.int .u8 64, .int .u8 1, .int .u16 0, .int .u32 (own : Int), .int .u32 (s : Int), .slice aE2_ (8 + M) cE2_] 27 HE2_.out Try.underlying27 (by kernel_rfl) ?_; try simp only [Act.put, List.setIfInBounds_toArray, List.set_cons_zero, List.set_cons_succ]))
  refine (same4_any _ _ _ _ _ _ aE1_ aE2_ _ _ cE1_ cE2_ RRE1_.out.row RRE2_.out.row HDL.out).mono ?_
  rintro e w17 ⟨rfl, b⟩
  replace HX := hide (below_block b HX.out (Nat.le_refl _))
  replace HY := hide (below_block b HY.out (Nat.le_refl _))
  replace HE1_ := hide (below_block b HE1_.out (Nat.le_refl _))
  replace HU1_ := hide (below_block b HU1_.out (Nat.le_refl _))
  replace HA1_ := hide (below_block b HA1_.out (Nat.le_refl _))
  replace HE2_ := hide (below_block b HE2_.out (Nat.le_refl _))
  replace HU2_ := hide (below_block b HU2_.out (Nat.le_refl _))
  replace HA2_ := hide (below_block b HA2_.out (Nat.le_refl _))
  replace RP := hide (RP.out.below b (Nat.le_refl _))
  replace RK := hide (RK.out.below b (Nat.le_refl _))
  replace RRE1_ := hide (RRE1_.out.below b (Nat.le_refl _))
  replace RRU1_ := hide (RRU1_.out.below b (Nat.le_refl _))
  replace RRE2_ := hide (RRE2_.out.below b (Nat.le_refl _))
  replace RRU2_ := hide (RRU2_.out.below b (Nat.le_refl _))
  replace OK := hide (owns_below OK.out b (Nat.le_refl _))
  replace HB := hide (HB.out.trans (b.mono HB.out.size))
  clear b 
  go_wp2_with (first | (refine ld_whole (o := ⟨some 88, _, _, _, _, _⟩) 27 (.tmp 10) rfl (by rfl) BU1_ rfl #[.int .u8 64, .int .u8 1, .int .u16 0, .int .u32 (own : Int), .int .u32 (s : Int), .slice aU1_ (8 + M) cU1_] 27 HU1_.out Try.underlying27 (by kernel_rfl) ?_; try simp only [Act.put, List.setIfInBounds_toArray, List.set_cons_zero, List.set_cons_succ]) | (refine ld_whole (o := ⟨some 89, _, _, _, _, _⟩) 27 (.tmp 16) rfl (by rfl) BU2_ rfl #[.int .u8 64, .int .u8 1, .int .u16 0, .int .u32 (own : Int), .int .u32 (s : Int), .slice aU2_ (8 + M) cU2_] 27 HU2_.out Try.underlying27 (by kernel_rfl) ?_; try simp only [Act.put, List.setIfInBounds_toArray, List.set_cons_zero, List.set_cons_succ]))
  refine (same4_any _ _ _ _ _ _ aU1_ aU2_ _ _ cU1_ cU2_ RRU1_.out.row RRU2_.out.row HDM.out).mono ?_
  rintro e w18 ⟨rfl, b⟩
  replace HX := hide (below_block b HX.out (Nat.le_refl _))
  replace HY := hide (below_block b HY.out (Nat.le_refl _))
  replace HE1_ := hide (below_block b HE1_.out (Nat.le_refl _))
  replace HU1_ := hide (below_block b HU1_.out (Nat.le_refl _))
  replace HA1_ := hide (below_block b HA1_.out (Nat.le_refl _))
  replace HE2_ := hide (below_block b HE2_.out (Nat.le_refl _))
  replace HU2_ := hide (below_block b HU2_.out (Nat.le_refl _))
  replace HA2_ := hide (below_block b HA2_.out (Nat.le_refl _))
  replace RP := hide (RP.out.below b (Nat.le_refl _))
  replace RK := hide (RK.out.below b (Nat.le_refl _))
  replace RRE1_ := hide (RRE1_.out.below b (Nat.le_refl _))
  replace RRU1_ := hide (RRU1_.out.below b (Nat.le_refl _))
  replace RRE2_ := hide (RRE2_.out.below b (Nat.le_refl _))
  replace RRU2_ := hide (RRU2_.out.below b (Nat.le_refl _))
  replace OK := hide (owns_below OK.out b (Nat.le_refl _))
  replace HB := hide (HB.out.trans (b.mono HB.out.size))
  clear b 
  go_wp2_with (first | (refine ld_whole (o := ⟨some 94, _, _, _, _, _⟩) 27 (.tmp 12) rfl (by rfl) BA1_ rfl #[.int .u8 0, .int .u8 0, .int .u16 0, .int .u32 0, .int .u32 0, .slice none 0 0] 27 HA1_.out Try.underlying27 (by kernel_rfl) ?_; try simp only [Act.put, List.setIfInBounds_toArray, List.set_cons_zero, List.set_cons_succ]) | (refine ld_whole (o := ⟨some 95, _, _, _, _, _⟩) 27 (.tmp 18) rfl (by rfl) BA2_ rfl #[.int .u8 0, .int .u8 0, .int .u16 0, .int .u32 0, .int .u32 0, .slice none 0 0] 27 HA2_.out Try.underlying27 (by kernel_rfl) ?_; try simp only [Act.put, List.setIfInBounds_toArray, List.set_cons_zero, List.set_cons_succ]))
  refine (same4_any _ 0 0 0 0 0 none none [] 0 0 0 (fun h => absurd rfl h) (fun h => absurd rfl h) rfl).mono ?_
  rintro e w19 ⟨rfl, b⟩
  replace HX := hide (below_block b HX.out (Nat.le_refl _))
  replace HY := hide (below_block b HY.out (Nat.le_refl _))
  replace HE1_ := hide (below_block b HE1_.out (Nat.le_refl _))
  replace HU1_ := hide (below_block b HU1_.out (Nat.le_refl _))
  replace HA1_ := hide (below_block b HA1_.out (Nat.le_refl _))
  replace HE2_ := hide (below_block b HE2_.out (Nat.le_refl _))
  replace HU2_ := hide (below_block b HU2_.out (Nat.le_refl _))
  replace HA2_ := hide (below_block b HA2_.out (Nat.le_refl _))
  replace RP := hide (RP.out.below b (Nat.le_refl _))
  replace RK := hide (RK.out.below b (Nat.le_refl _))
  replace RRE1_ := hide (RRE1_.out.below b (Nat.le_refl _))
  replace RRU1_ := hide (RRU1_.out.below b (Nat.le_refl _))
  replace RRE2_ := hide (RRE2_.out.below b (Nat.le_refl _))
  replace RRU2_ := hide (RRU2_.out.below b (Nat.le_refl _))
  replace OK := hide (owns_below OK.out b (Nat.le_refl _))
  replace HB := hide (HB.out.trans (b.mono HB.out.size))
  clear b 
  go_upto_region 15 with (fail)
  have HQ1 := hide (fun (W : World) (hB : Below w19.heap.size w19 W) => HM1.out W aK cK (RK.out.below hB (Nat.le_refl _)))
  have HQ2 := hide (fun (W : World) (hB : Below w19.heap.size w19 W) => HM2.out W da dc (RP.out.below hB (Nat.le_refl _)))
  have HQ3 := hide (fun (W : World) (hB : Below w19.heap.size w19 W) => same4_any W (tt : Int) (P : Int) (id : Int) (s : Int) (d : Int) aK da xs n cK dc (RK.out.below hB (Nat.le_refl _)).row (RP.out.below hB (Nat.le_refl _)).row HL.out)
  clear HM1 HM2
  clear HE1_ NE1_ HU1_ NU1_ HA1_ NA1_ HE2_ NE2_ HU2_ NU2_ HA2_ NA2_ RRE1_ RRU1_ RRE2_ RRU2_
  have k0Y0 : w19.cell? ⟨BY, 0, none⟩ = some (.int .u8 (tt : Int)) := cell_at HY.out 0 rfl
  have k0Y1 : w19.cell? ⟨BY, 1, none⟩ = some (.int .u8 (P : Int)) := cell_at HY.out 1 rfl
  have k0Y2 : w19.cell? ⟨BY, 2, none⟩ = some (.int .u16 (id : Int)) := cell_at HY.out 2 rfl
  have k0Y3 : w19.cell? ⟨BY, 3, none⟩ = some (.int .u32 (s : Int)) := cell_at HY.out 3 rfl
  have k0Y4 : w19.cell? ⟨BY, 4, none⟩ = some (.int .u32 (d : Int)) := cell_at HY.out 4 rfl
  have k0Y5 : w19.cell? ⟨BY, 5, none⟩ = some (.slice aK n cK) := cell_at HY.out 5 rfl
  have hlY := lt_of_block HY.out
  have k0X0 : w19.cell? ⟨BX, 0, none⟩ = some (.int .u8 (tt : Int)) := cell_at HX.out 0 rfl
  have k0X1 : w19.cell? ⟨BX, 1, none⟩ = some (.int .u8 (P : Int)) := cell_at HX.out 1 rfl
  have k0X2 : w19.cell? ⟨BX, 2, none⟩ = some (.int .u16 (id : Int)) := cell_at HX.out 2 rfl
  have k0X3 : w19.cell? ⟨BX, 3, none⟩ = some (.int .u32 (s : Int)) := cell_at HX.out 3 rfl
  have k0X4 : w19.cell? ⟨BX, 4, none⟩ = some (.int .u32 (d : Int)) := cell_at HX.out 4 rfl
  have k0X5 : w19.cell? ⟨BX, 5, none⟩ = some (.slice da n dc) := cell_at HX.out 5 rfl
  have hlX := lt_of_block HX.out
  have HBB := hide (Below.refl w19.heap.size w19)
  go_region_held3 (fun w' => w'.cell? ⟨BY, 0, none⟩ = some (.int .u8 (tt : Int)) ∧ w'.cell? ⟨BY, 1, none⟩ = some (.int .u8 (P : Int)) ∧ w'.cell? ⟨BY, 2, none⟩ = some (.int .u16 (id : Int)) ∧ w'.cell? ⟨BY, 3, none⟩ = some (.int .u32 (s : Int)) ∧ w'.cell? ⟨BY, 4, none⟩ = some (.int .u32 (d : Int)) ∧ w'.cell? ⟨BY, 5, none⟩ = some (.slice aK n cK) ∧ w'.cell? ⟨BX, 0, none⟩ = some (.int .u8 (tt : Int)) ∧ w'.cell? ⟨BX, 1, none⟩ = some (.int .u8 (P : Int)) ∧ w'.cell? ⟨BX, 2, none⟩ = some (.int .u16 (id : Int)) ∧ w'.cell? ⟨BX, 3, none⟩ = some (.int .u32 (s : Int)) ∧ w'.cell? ⟨BX, 4, none⟩ = some (.int .u32 (d : Int)) ∧ w'.cell? ⟨BX, 5, none⟩ = some (.slice da n dc)) (go_keep) (first
      | (go_at_call 24; (with_reducible refine (HQ1.out _ (by first | exact HBB.out | exact HBB.out.drew)).mono ?_); rintro e z1 ⟨rfl, b⟩; (try replace b := below_of_drew b); have HBB := hide (HBB.out.trans (b.mono HBB.out.size)); have k1Y0 := (bcell HBB.out BY 0 hlY).trans k0Y0; have k1Y1 := (bcell HBB.out BY 1 hlY).trans k0Y1; have k1Y2 := (bcell HBB.out BY 2 hlY).trans k0Y2; have k1Y3 := (bcell HBB.out BY 3 hlY).trans k0Y3; have k1Y4 := (bcell HBB.out BY 4 hlY).trans k0Y4; have k1Y5 := (bcell HBB.out BY 5 hlY).trans k0Y5; have k1X0 := (bcell HBB.out BX 0 hlX).trans k0X0; have k1X1 := (bcell HBB.out BX 1 hlX).trans k0X1; have k1X2 := (bcell HBB.out BX 2 hlX).trans k0X2; have k1X3 := (bcell HBB.out BX 3 hlX).trans k0X3; have k1X4 := (bcell HBB.out BX 4 hlX).trans k0X4; have k1X5 := (bcell HBB.out BX 5 hlX).trans k0X5; clear b)
      | (go_at_call 25; (with_reducible refine (HQ2.out _ (by first | exact HBB.out | exact HBB.out.drew)).mono ?_); rintro e z2 ⟨rfl, b⟩; (try replace b := below_of_drew b); have HBB := hide (HBB.out.trans (b.mono HBB.out.size)); have k2Y0 := (bcell HBB.out BY 0 hlY).trans k0Y0; have k2Y1 := (bcell HBB.out BY 1 hlY).trans k0Y1; have k2Y2 := (bcell HBB.out BY 2 hlY).trans k0Y2; have k2Y3 := (bcell HBB.out BY 3 hlY).trans k0Y3; have k2Y4 := (bcell HBB.out BY 4 hlY).trans k0Y4; have k2Y5 := (bcell HBB.out BY 5 hlY).trans k0Y5; have k2X0 := (bcell HBB.out BX 0 hlX).trans k0X0; have k2X1 := (bcell HBB.out BX 1 hlX).trans k0X1; have k2X2 := (bcell HBB.out BX 2 hlX).trans k0X2; have k2X3 := (bcell HBB.out BX 3 hlX).trans k0X3; have k2X4 := (bcell HBB.out BX 4 hlX).trans k0X4; have k2X5 := (bcell HBB.out BX 5 hlX).trans k0X5; clear b)
      | (go_at_call 13; (with_reducible refine (HQ3.out _ (by first | exact HBB.out | exact HBB.out.drew)).mono ?_); rintro e z3 ⟨rfl, b⟩; (try replace b := below_of_drew b); have HBB := hide (HBB.out.trans (b.mono HBB.out.size)); have k3Y0 := (bcell HBB.out BY 0 hlY).trans k0Y0; have k3Y1 := (bcell HBB.out BY 1 hlY).trans k0Y1; have k3Y2 := (bcell HBB.out BY 2 hlY).trans k0Y2; have k3Y3 := (bcell HBB.out BY 3 hlY).trans k0Y3; have k3Y4 := (bcell HBB.out BY 4 hlY).trans k0Y4; have k3Y5 := (bcell HBB.out BY 5 hlY).trans k0Y5; have k3X0 := (bcell HBB.out BX 0 hlX).trans k0X0; have k3X1 := (bcell HBB.out BX 1 hlX).trans k0X1; have k3X2 := (bcell HBB.out BX 2 hlX).trans k0X2; have k3X3 := (bcell HBB.out BX 3 hlX).trans k0X3; have k3X4 := (bcell HBB.out BX 4 hlX).trans k0X4; have k3X5 := (bcell HBB.out BX 5 hlX).trans k0X5; clear b)
      | fail)
  all_goals (try go_wp2_with fail)
  all_goals go_ret
  all_goals exact ⟨by simp, HB.out.trans (HBB.out.mono HB.out.size)⟩
set_option maxHeartbeats 4000000 in
theorem icmpTells_yy (w : World) (own code : Nat) (tt P id s d : Nat) (da : Option Addr) (xs : List Int) (n dc : Nat) (hLx : Lies w da xs n dc) (hl : xs.length = n) (hb : ∀ x ∈ xs, 0 ≤ x ∧ x ≤ 255) (ht : tt ≤ 255) (hP : P ≤ 255) (hid : id ≤ 65535) (hs : s ≤ 4294967295) (hd : d ≤ 4294967295) (hc : code ≤ 255) (hn : ¬ 3000 < n) (M : Nat) (hm : icMay P s d xs = true) (hM : M = min (20 + n) 28) (ha : ansOk P xs = true) :
    Calls Try.prog 6 #[.int .u32 (own : Int), .agg #[.int .u8 (tt : Int), .int .u8 (P : Int), .int .u16 (id : Int), .int .u32 (s : Int), .int .u32 (d : Int), .slice da n dc], .int .u8 (code : Int)] w fun e w' => e = .returned (.bool true) ∧ Below w.heap.size w w' := by
  have hd3 : decide ((3000 : Int) < (n : Int)) = false := by simp; omega
  have HE1 := hide (fun (W : World) (A : Option Addr) (C : Nat) (hL : Lies W A xs n C) => exc_yes W own M tt P id s d A xs n C hL hl hb ht hP hid hs hd hm hM)
  have HU1 := hide (fun (W : World) (A : Option Addr) (C : Nat) (hL : Lies W A xs n C) => unr_yes W own code M tt P id s d A xs n C hL hl hb ht hP hid hs hd hm hM hc)
  have HE2 := hide (fun (W : World) (A : Option Addr) (C : Nat) (hL : Lies W A xs n C) => rerr_yes W own 11 0 M tt P id s d A xs n C hL hl hb ht hP hid hs hd hm hM (by omega) (by omega))
  have HU2 := hide (fun (W : World) (A : Option Addr) (C : Nat) (hL : Lies W A xs n C) => rerr_yes W own 3 code M tt P id s d A xs n C hL hl hb ht hP hid hs hd hm hM (by omega) hc)
  have HA1 := hide (fun (W : World) (A : Option Addr) (C : Nat) (hL : Lies W A xs n C) => ans_yes W tt P id s d A xs n C hL hl hb ht hP hid hs hd ha)
  have HA2 := hide (fun (W : World) (A : Option Addr) (C : Nat) (hL : Lies W A xs n C) => rans_yes W tt P id s d A xs n C hL hl hb ht hP hid hs hd ha)
  have HM1 := hide (fun (W : World) (A : Option Addr) (C : Nat) (hL : Lies W A xs n C) => may_any W tt P id s d A xs n C hL hl hb ht hP hid hs hd)
  have HM2 := hide (fun (W : World) (A : Option Addr) (C : Nat) (hL : Lies W A xs n C) => rmay_any W tt P id s d A xs n C hL hl hb ht hP hid hs hd)
  rw [hm] at HM1 HM2
  have HDL := hide (show (icmpB 11 0 0 ((ipG tt P id s d xs).take M)).length = 8 + M by rw [icmpB_len, List.length_take, ipG_len, hl]; omega)
  have HDM := hide (show (icmpB 3 code 0 ((ipG tt P id s d xs).take M)).length = 8 + M by rw [icmpB_len, List.length_take, ipG_len, hl]; omega)
  have HDN := hide (show (icmpB 0 0 (msgOf xs).r (msgOf xs).ds).length = 8 + (msgOf xs).ds.length by rw [icmpB_len])
  have HL := hide hl
  have HN := hide hn
  clear hm hl hb hn hM ha
  generalize msgOf xs = mo at *
  obtain ⟨V1, hV1⟩ : ∃ V, w.alloc (.cells #[.int .u8 (tt : Int), .int .u8 (P : Int), .int .u16 (id : Int), .int .u32 (s : Int), .int .u32 (d : Int), .slice da n dc] 27) = V := ⟨_, rfl⟩
  have hz1 : V1.heap.size = w.heap.size + 1 := by rw [← hV1]; simp
  have hb1 : Below w.heap.size w V1 := by rw [← hV1]; exact (Below.refl _ _).alloc (Nat.le_refl _) _
  have hp1_1 : V1.heap[w.heap.size]? = some (.cells #[.int .u8 (tt : Int), .int .u8 (P : Int), .int .u16 (id : Int), .int .u32 (s : Int), .int .u32 (d : Int), .slice da n dc] 27 (0, 0)) := by rw [← hV1]; exact heap_alloc_new _ _
  obtain ⟨BX, hBX⟩ : ∃ B, w.heap.size = B := ⟨_, rfl⟩
  have hw0 : w.heap.size ≤ BX := by omega
  have HX := hide (show V1.heap[BX]? = some (.cells #[.int .u8 (tt : Int), .int .u8 (P : Int), .int .u16 (id : Int), .int .u32 (s : Int), .int .u32 (d : Int), .slice da n dc] 27 (0, 0)) by rw [← hBX]; exact hp1_1)
  have NX : Hid (w.heap.size ≤ BX) := hide hw0
  have AP := hide hLx
  have RP := hide (hLx.below hb1 (Nat.le_refl _))
  have HB := hide hb1
  have HE := hide (And.intro (And.intro trivial trivial) (And.intro hV1 (And.intro hBX (trivial))))
  clear hw0 hV1 hz1 hb1  hp1_1 hBX hLx
  go_enter Try.func6, Try.ntmps6
  go_upto_region 1 with (fail)
  rw [HE.out.2.1]
  try rw [HE.out.2.2.1]
  clear HE
  go_wp2_with fail
  refine (speaks13 _).mono ?_
  rintro e w1 ⟨rfl, b⟩
  replace HX := hide (below_block b HX.out (Nat.le_refl _))
  replace RP := hide (RP.out.below b (Nat.le_refl _))
  replace HB := hide (HB.out.trans (b.mono HB.out.size))
  clear b 
  have qX_5 : w1.cell? ⟨BX, 5, none⟩ = some (.slice da n dc) := cell_at HX.out 5 rfl
  go_upto_region 5 with (fail)
  clear qX_5
  obtain ⟨w2, hwn, wb, HN1⟩ : ∃ W, w1.alloc (.cells #[.int .u8 (tt : Int), .int .u8 (P : Int), .int .u16 (id : Int), .int .u32 (s : Int), .int .u32 (d : Int), .slice da n dc] 27) = W ∧ Below w1.heap.size w1 W ∧ Hid (W.heap[w1.heap.size]? = some (.cells #[.int .u8 (tt : Int), .int .u8 (P : Int), .int .u16 (id : Int), .int .u32 (s : Int), .int .u32 (d : Int), .slice da n dc] 27 (0, 0))) := ⟨_, rfl, (Below.refl w1.heap.size w1).alloc (Nat.le_refl _) _, hide (heap_alloc_new w1 _)⟩
  obtain ⟨BY, hBn⟩ : ∃ B, w1.heap.size = B := ⟨_, rfl⟩
  rw [hBn] at HN1
  have HW := hide (And.intro hwn hBn)
  have HBo := HB
  have nqX_Y := hide (blk_ne HX.out hBn)
  clear hwn hBn
  have EX := HX
  replace HX := hide (below_block wb HX.out (Nat.le_refl _))
  replace RP := hide (RP.out.below wb (Nat.le_refl _))
  replace HB := hide (HB.out.trans (wb.mono HB.out.size))
  have HY := HN1
  have NY := hide (show w.heap.size ≤ BY by rw [← HW.out.2]; exact HBo.out.size)
  clear wb HN1 HBo
  go_upto_region 6 with ((refine ld_whole (o := ⟨some 26, _, _, _, _, _⟩) 27 (.tmp 4) rfl (by rfl) BX rfl #[.int .u8 (tt : Int), .int .u8 (P : Int), .int .u16 (id : Int), .int .u32 (s : Int), .int .u32 (d : Int), .slice da n dc] 27 EX.out Try.underlying27 (by kernel_rfl) ?_; try simp only [Act.put, List.setIfInBounds_toArray, List.set_cons_zero, List.set_cons_succ]))
  rw [HW.out.1]
  try rw [HW.out.2]
  clear HW
  clear EX
  obtain ⟨vq, v3, hrun, oq, bq, _⟩ := app_own2 (w2.alloc (.cells #[] 5)) w2.heap.size (.slice (some ⟨w2.heap.size, 0, none⟩) 0 0) 0 [] (World.ownsRow_lit w2 #[] 0 (Nat.le_refl _) (by unfold maxLen; omega) rfl) da (xs) (n) dc (RP.out.row.below ((Below.refl w2.heap.size w2).alloc (Nat.le_refl _) _) (Nat.le_refl _)) HL.out RP.out.no (by have := HN.out; omega) (by simp)
  rw [show 0 + (n) = n by omega, List.nil_append] at oq
  obtain ⟨aK, cK, rfl⟩ := slice_form oq
  have HRUN := hide hrun
  have bz := ((Below.refl w2.heap.size w2).alloc (Nat.le_refl _) (.cells #[] 5)).trans bq
  have neK_X := hide (own_ne_lt oq (lt_of_block HX.out))
  have neK_Y := hide (own_ne_lt oq (lt_of_block HY.out))
  have lbK := hide HB.out.size
  have Hm := below_block bz HY.out (Nat.le_refl _)
  have HBm := HB.out.trans (bz.mono HB.out.size)
  have fz := free_at Hm 5
  have qz : v3.cell? ⟨BY, 5, none⟩ = some (.slice da n dc) := cell_at Hm 5 rfl
  obtain ⟨w4, hVn, hVH, hVB, hVo, hVs⟩ := set1 (i := 5) (.slice aK n cK) (c' := #[.int .u8 (tt : Int), .int .u8 (P : Int), .int .u16 (id : Int), .int .u32 (s : Int), .int .u32 (d : Int), .slice aK n cK]) Hm HBm NY.out (by kernel_rfl)
  have HVn := hide hVn
  clear hVn
  have HG := hide (gb_part HBm hVB hVo hVs)
  have HXn := hide ((hVo _ nqX_Y.out).trans (below_block bz HX.out (Nat.le_refl _)))
  have HYn := hide hVH
  have RPn := hide (AP.out.below hVB (Nat.le_refl _))
  have OK := hide (owns_kept oq HG.out neK_Y.out)
  have RK := hide (Lies.of_owns OK.out)
  have HBn := hide hVB
  clear hVH hVB hVo hVs HG hrun oq bq bz Hm HBm
  have qP_ : w2.cell? ⟨BX, 5, none⟩ = some (.slice da (n) dc) := cell_at HX.out 5 rfl
  have qe_ : (w2.alloc (.cells #[] 5)).cell? ⟨BX, 5, none⟩ = some (.slice da (n) dc) := cell_at (below_block ((Below.refl w2.heap.size w2).alloc (Nat.le_refl _) (.cells #[] 5)) HX.out (Nat.le_refl _)) 5 rfl
  go_upto_region 7 with ((at_builtin; refine Lib.wpList_append_run _ rfl _ _ _ _ rfl _ _ rfl rfl _ _ HRUN.out ?_))
  rw [HVn.out]
  clear HVn fz qz qP_ qe_ HRUN
  replace HX := HXn
  clear HXn
  replace HY := HYn
  clear HYn
  replace RP := RPn
  clear RPn
  replace HB := HBn
  clear HBn
  go_wp2_with ((refine ld_whole (o := ⟨some 34, _, _, _, _, _⟩) 27 (.tmp 7) rfl (by rfl) BY rfl #[.int .u8 (tt : Int), .int .u8 (P : Int), .int .u16 (id : Int), .int .u32 (s : Int), .int .u32 (d : Int), .slice aK n cK] 27 HY.out Try.underlying27 (by kernel_rfl) ?_; try simp only [Act.put, List.setIfInBounds_toArray, List.set_cons_zero, List.set_cons_succ]))
  refine (HE1.out _ aK cK RK.out).mono ?_
  rintro e w5 ⟨aE1_, cE1_, rfl, o, b⟩
  replace HX := hide (below_block b HX.out (Nat.le_refl _))
  replace HY := hide (below_block b HY.out (Nat.le_refl _))
  replace RP := hide (RP.out.below b (Nat.le_refl _))
  replace RK := hide (RK.out.below b (Nat.le_refl _))
  replace OK := hide (owns_below OK.out b (Nat.le_refl _))
  replace HB := hide (HB.out.trans (b.mono HB.out.size))
  have RRE1_ := hide (Lies.of_owns o)
  clear b o
  obtain ⟨w6, hwn, wb, HN1⟩ : ∃ W, w5.alloc (.cells #[.int .u8 64, .int .u8 1, .int .u16 0, .int .u32 (own : Int), .int .u32 (s : Int), .slice aE1_ (8 + M) cE1_] 27) = W ∧ Below w5.heap.size w5 W ∧ Hid (W.heap[w5.heap.size]? = some (.cells #[.int .u8 64, .int .u8 1, .int .u16 0, .int .u32 (own : Int), .int .u32 (s : Int), .slice aE1_ (8 + M) cE1_] 27 (0, 0))) := ⟨_, rfl, (Below.refl w5.heap.size w5).alloc (Nat.le_refl _) _, hide (heap_alloc_new w5 _)⟩
  obtain ⟨BE1_, hBn⟩ : ∃ B, w5.heap.size = B := ⟨_, rfl⟩
  rw [hBn] at HN1
  have HW := hide (And.intro hwn hBn)
  have HBo := HB
  have neK_E1_ := hide (own_ne (L := BE1_) OK.out (Nat.le_of_eq hBn))
  have nqX_E1_ := hide (blk_ne HX.out hBn)
  have nqY_E1_ := hide (blk_ne HY.out hBn)
  clear hwn hBn
  replace HX := hide (below_block wb HX.out (Nat.le_refl _))
  replace HY := hide (below_block wb HY.out (Nat.le_refl _))
  replace RP := hide (RP.out.below wb (Nat.le_refl _))
  replace RK := hide (RK.out.below wb (Nat.le_refl _))
  replace RRE1_ := hide (RRE1_.out.below wb (Nat.le_refl _))
  replace OK := hide (owns_below OK.out wb (Nat.le_refl _))
  replace HB := hide (HB.out.trans (wb.mono HB.out.size))
  have HE1_ := HN1
  have NE1_ := hide (show w.heap.size ≤ BE1_ by rw [← HW.out.2]; exact HBo.out.size)
  clear wb HN1 HBo
  go_upto_region 8 with (fail)
  rw [HW.out.1]
  try rw [HW.out.2]
  clear HW
  go_wp2_with ((refine ld_whole (o := ⟨some 40, _, _, _, _, _⟩) 27 (.tmp 7) rfl (by rfl) BY rfl #[.int .u8 (tt : Int), .int .u8 (P : Int), .int .u16 (id : Int), .int .u32 (s : Int), .int .u32 (d : Int), .slice aK n cK] 27 HY.out Try.underlying27 (by kernel_rfl) ?_; try simp only [Act.put, List.setIfInBounds_toArray, List.set_cons_zero, List.set_cons_succ]))
  refine (HU1.out _ aK cK RK.out).mono ?_
  rintro e w7 ⟨aU1_, cU1_, rfl, o, b⟩
  replace HX := hide (below_block b HX.out (Nat.le_refl _))
  replace HY := hide (below_block b HY.out (Nat.le_refl _))
  replace HE1_ := hide (below_block b HE1_.out (Nat.le_refl _))
  replace RP := hide (RP.out.below b (Nat.le_refl _))
  replace RK := hide (RK.out.below b (Nat.le_refl _))
  replace RRE1_ := hide (RRE1_.out.below b (Nat.le_refl _))
  replace OK := hide (owns_below OK.out b (Nat.le_refl _))
  replace HB := hide (HB.out.trans (b.mono HB.out.size))
  have RRU1_ := hide (Lies.of_owns o)
  clear b o
  obtain ⟨w8, hwn, wb, HN1⟩ : ∃ W, w7.alloc (.cells #[.int .u8 64, .int .u8 1, .int .u16 0, .int .u32 (own : Int), .int .u32 (s : Int), .slice aU1_ (8 + M) cU1_] 27) = W ∧ Below w7.heap.size w7 W ∧ Hid (W.heap[w7.heap.size]? = some (.cells #[.int .u8 64, .int .u8 1, .int .u16 0, .int .u32 (own : Int), .int .u32 (s : Int), .slice aU1_ (8 + M) cU1_] 27 (0, 0))) := ⟨_, rfl, (Below.refl w7.heap.size w7).alloc (Nat.le_refl _) _, hide (heap_alloc_new w7 _)⟩
  obtain ⟨BU1_, hBn⟩ : ∃ B, w7.heap.size = B := ⟨_, rfl⟩
  rw [hBn] at HN1
  have HW := hide (And.intro hwn hBn)
  have HBo := HB
  have neK_U1_ := hide (own_ne (L := BU1_) OK.out (Nat.le_of_eq hBn))
  have nqX_U1_ := hide (blk_ne HX.out hBn)
  have nqY_U1_ := hide (blk_ne HY.out hBn)
  have nqE1__U1_ := hide (blk_ne HE1_.out hBn)
  clear hwn hBn
  replace HX := hide (below_block wb HX.out (Nat.le_refl _))
  replace HY := hide (below_block wb HY.out (Nat.le_refl _))
  replace HE1_ := hide (below_block wb HE1_.out (Nat.le_refl _))
  replace RP := hide (RP.out.below wb (Nat.le_refl _))
  replace RK := hide (RK.out.below wb (Nat.le_refl _))
  replace RRE1_ := hide (RRE1_.out.below wb (Nat.le_refl _))
  replace RRU1_ := hide (RRU1_.out.below wb (Nat.le_refl _))
  replace OK := hide (owns_below OK.out wb (Nat.le_refl _))
  replace HB := hide (HB.out.trans (wb.mono HB.out.size))
  have HU1_ := HN1
  have NU1_ := hide (show w.heap.size ≤ BU1_ by rw [← HW.out.2]; exact HBo.out.size)
  clear wb HN1 HBo
  go_upto_region 9 with (fail)
  rw [HW.out.1]
  try rw [HW.out.2]
  clear HW
  go_wp2_with ((refine ld_whole (o := ⟨some 46, _, _, _, _, _⟩) 27 (.tmp 7) rfl (by rfl) BY rfl #[.int .u8 (tt : Int), .int .u8 (P : Int), .int .u16 (id : Int), .int .u32 (s : Int), .int .u32 (d : Int), .slice aK n cK] 27 HY.out Try.underlying27 (by kernel_rfl) ?_; try simp only [Act.put, List.setIfInBounds_toArray, List.set_cons_zero, List.set_cons_succ]))
  refine (HA1.out _ aK cK RK.out).mono ?_
  rintro e w9 ⟨aA1_, cA1_, rfl, o, b⟩
  replace HX := hide (below_block b HX.out (Nat.le_refl _))
  replace HY := hide (below_block b HY.out (Nat.le_refl _))
  replace HE1_ := hide (below_block b HE1_.out (Nat.le_refl _))
  replace HU1_ := hide (below_block b HU1_.out (Nat.le_refl _))
  replace RP := hide (RP.out.below b (Nat.le_refl _))
  replace RK := hide (RK.out.below b (Nat.le_refl _))
  replace RRE1_ := hide (RRE1_.out.below b (Nat.le_refl _))
  replace RRU1_ := hide (RRU1_.out.below b (Nat.le_refl _))
  replace OK := hide (owns_below OK.out b (Nat.le_refl _))
  replace HB := hide (HB.out.trans (b.mono HB.out.size))
  have RRA1_ := hide (Lies.of_owns o)
  clear b o
  obtain ⟨w10, hwn, wb, HN1⟩ : ∃ W, w9.alloc (.cells #[.int .u8 64, .int .u8 1, .int .u16 (id : Int), .int .u32 (d : Int), .int .u32 (s : Int), .slice aA1_ (8 + mo.ds.length) cA1_] 27) = W ∧ Below w9.heap.size w9 W ∧ Hid (W.heap[w9.heap.size]? = some (.cells #[.int .u8 64, .int .u8 1, .int .u16 (id : Int), .int .u32 (d : Int), .int .u32 (s : Int), .slice aA1_ (8 + mo.ds.length) cA1_] 27 (0, 0))) := ⟨_, rfl, (Below.refl w9.heap.size w9).alloc (Nat.le_refl _) _, hide (heap_alloc_new w9 _)⟩
  obtain ⟨BA1_, hBn⟩ : ∃ B, w9.heap.size = B := ⟨_, rfl⟩
  rw [hBn] at HN1
  have HW := hide (And.intro hwn hBn)
  have HBo := HB
  have neK_A1_ := hide (own_ne (L := BA1_) OK.out (Nat.le_of_eq hBn))
  have nqX_A1_ := hide (blk_ne HX.out hBn)
  have nqY_A1_ := hide (blk_ne HY.out hBn)
  have nqE1__A1_ := hide (blk_ne HE1_.out hBn)
  have nqU1__A1_ := hide (blk_ne HU1_.out hBn)
  clear hwn hBn
  replace HX := hide (below_block wb HX.out (Nat.le_refl _))
  replace HY := hide (below_block wb HY.out (Nat.le_refl _))
  replace HE1_ := hide (below_block wb HE1_.out (Nat.le_refl _))
  replace HU1_ := hide (below_block wb HU1_.out (Nat.le_refl _))
  replace RP := hide (RP.out.below wb (Nat.le_refl _))
  replace RK := hide (RK.out.below wb (Nat.le_refl _))
  replace RRE1_ := hide (RRE1_.out.below wb (Nat.le_refl _))
  replace RRU1_ := hide (RRU1_.out.below wb (Nat.le_refl _))
  replace RRA1_ := hide (RRA1_.out.below wb (Nat.le_refl _))
  replace OK := hide (owns_below OK.out wb (Nat.le_refl _))
  replace HB := hide (HB.out.trans (wb.mono HB.out.size))
  have HA1_ := HN1
  have NA1_ := hide (show w.heap.size ≤ BA1_ by rw [← HW.out.2]; exact HBo.out.size)
  clear wb HN1 HBo
  go_upto_region 10 with (fail)
  rw [HW.out.1]
  try rw [HW.out.2]
  clear HW
  go_wp2_with ((refine ld_whole (o := ⟨some 52, _, _, _, _, _⟩) 27 (.tmp 4) rfl (by rfl) BX rfl #[.int .u8 (tt : Int), .int .u8 (P : Int), .int .u16 (id : Int), .int .u32 (s : Int), .int .u32 (d : Int), .slice da n dc] 27 HX.out Try.underlying27 (by kernel_rfl) ?_; try simp only [Act.put, List.setIfInBounds_toArray, List.set_cons_zero, List.set_cons_succ]))
  refine (HE2.out _ da dc RP.out).mono ?_
  rintro e w11 ⟨aE2_, cE2_, rfl, o, b⟩
  replace HX := hide (below_block b HX.out (Nat.le_refl _))
  replace HY := hide (below_block b HY.out (Nat.le_refl _))
  replace HE1_ := hide (below_block b HE1_.out (Nat.le_refl _))
  replace HU1_ := hide (below_block b HU1_.out (Nat.le_refl _))
  replace HA1_ := hide (below_block b HA1_.out (Nat.le_refl _))
  replace RP := hide (RP.out.below b (Nat.le_refl _))
  replace RK := hide (RK.out.below b (Nat.le_refl _))
  replace RRE1_ := hide (RRE1_.out.below b (Nat.le_refl _))
  replace RRU1_ := hide (RRU1_.out.below b (Nat.le_refl _))
  replace RRA1_ := hide (RRA1_.out.below b (Nat.le_refl _))
  replace OK := hide (owns_below OK.out b (Nat.le_refl _))
  replace HB := hide (HB.out.trans (b.mono HB.out.size))
  have RRE2_ := hide (Lies.of_owns o)
  clear b o
  obtain ⟨w12, hwn, wb, HN1⟩ : ∃ W, w11.alloc (.cells #[.int .u8 64, .int .u8 1, .int .u16 0, .int .u32 (own : Int), .int .u32 (s : Int), .slice aE2_ (8 + M) cE2_] 27) = W ∧ Below w11.heap.size w11 W ∧ Hid (W.heap[w11.heap.size]? = some (.cells #[.int .u8 64, .int .u8 1, .int .u16 0, .int .u32 (own : Int), .int .u32 (s : Int), .slice aE2_ (8 + M) cE2_] 27 (0, 0))) := ⟨_, rfl, (Below.refl w11.heap.size w11).alloc (Nat.le_refl _) _, hide (heap_alloc_new w11 _)⟩
  obtain ⟨BE2_, hBn⟩ : ∃ B, w11.heap.size = B := ⟨_, rfl⟩
  rw [hBn] at HN1
  have HW := hide (And.intro hwn hBn)
  have HBo := HB
  have neK_E2_ := hide (own_ne (L := BE2_) OK.out (Nat.le_of_eq hBn))
  have nqX_E2_ := hide (blk_ne HX.out hBn)
  have nqY_E2_ := hide (blk_ne HY.out hBn)
  have nqE1__E2_ := hide (blk_ne HE1_.out hBn)
  have nqU1__E2_ := hide (blk_ne HU1_.out hBn)
  have nqA1__E2_ := hide (blk_ne HA1_.out hBn)
  clear hwn hBn
  replace HX := hide (below_block wb HX.out (Nat.le_refl _))
  replace HY := hide (below_block wb HY.out (Nat.le_refl _))
  replace HE1_ := hide (below_block wb HE1_.out (Nat.le_refl _))
  replace HU1_ := hide (below_block wb HU1_.out (Nat.le_refl _))
  replace HA1_ := hide (below_block wb HA1_.out (Nat.le_refl _))
  replace RP := hide (RP.out.below wb (Nat.le_refl _))
  replace RK := hide (RK.out.below wb (Nat.le_refl _))
  replace RRE1_ := hide (RRE1_.out.below wb (Nat.le_refl _))
  replace RRU1_ := hide (RRU1_.out.below wb (Nat.le_refl _))
  replace RRA1_ := hide (RRA1_.out.below wb (Nat.le_refl _))
  replace RRE2_ := hide (RRE2_.out.below wb (Nat.le_refl _))
  replace OK := hide (owns_below OK.out wb (Nat.le_refl _))
  replace HB := hide (HB.out.trans (wb.mono HB.out.size))
  have HE2_ := HN1
  have NE2_ := hide (show w.heap.size ≤ BE2_ by rw [← HW.out.2]; exact HBo.out.size)
  clear wb HN1 HBo
  go_upto_region 11 with (fail)
  rw [HW.out.1]
  try rw [HW.out.2]
  clear HW
  go_wp2_with ((refine ld_whole (o := ⟨some 58, _, _, _, _, _⟩) 27 (.tmp 4) rfl (by rfl) BX rfl #[.int .u8 (tt : Int), .int .u8 (P : Int), .int .u16 (id : Int), .int .u32 (s : Int), .int .u32 (d : Int), .slice da n dc] 27 HX.out Try.underlying27 (by kernel_rfl) ?_; try simp only [Act.put, List.setIfInBounds_toArray, List.set_cons_zero, List.set_cons_succ]))
  refine (HU2.out _ da dc RP.out).mono ?_
  rintro e w13 ⟨aU2_, cU2_, rfl, o, b⟩
  replace HX := hide (below_block b HX.out (Nat.le_refl _))
  replace HY := hide (below_block b HY.out (Nat.le_refl _))
  replace HE1_ := hide (below_block b HE1_.out (Nat.le_refl _))
  replace HU1_ := hide (below_block b HU1_.out (Nat.le_refl _))
  replace HA1_ := hide (below_block b HA1_.out (Nat.le_refl _))
  replace HE2_ := hide (below_block b HE2_.out (Nat.le_refl _))
  replace RP := hide (RP.out.below b (Nat.le_refl _))
  replace RK := hide (RK.out.below b (Nat.le_refl _))
  replace RRE1_ := hide (RRE1_.out.below b (Nat.le_refl _))
  replace RRU1_ := hide (RRU1_.out.below b (Nat.le_refl _))
  replace RRA1_ := hide (RRA1_.out.below b (Nat.le_refl _))
  replace RRE2_ := hide (RRE2_.out.below b (Nat.le_refl _))
  replace OK := hide (owns_below OK.out b (Nat.le_refl _))
  replace HB := hide (HB.out.trans (b.mono HB.out.size))
  have RRU2_ := hide (Lies.of_owns o)
  clear b o
  obtain ⟨w14, hwn, wb, HN1⟩ : ∃ W, w13.alloc (.cells #[.int .u8 64, .int .u8 1, .int .u16 0, .int .u32 (own : Int), .int .u32 (s : Int), .slice aU2_ (8 + M) cU2_] 27) = W ∧ Below w13.heap.size w13 W ∧ Hid (W.heap[w13.heap.size]? = some (.cells #[.int .u8 64, .int .u8 1, .int .u16 0, .int .u32 (own : Int), .int .u32 (s : Int), .slice aU2_ (8 + M) cU2_] 27 (0, 0))) := ⟨_, rfl, (Below.refl w13.heap.size w13).alloc (Nat.le_refl _) _, hide (heap_alloc_new w13 _)⟩
  obtain ⟨BU2_, hBn⟩ : ∃ B, w13.heap.size = B := ⟨_, rfl⟩
  rw [hBn] at HN1
  have HW := hide (And.intro hwn hBn)
  have HBo := HB
  have neK_U2_ := hide (own_ne (L := BU2_) OK.out (Nat.le_of_eq hBn))
  have nqX_U2_ := hide (blk_ne HX.out hBn)
  have nqY_U2_ := hide (blk_ne HY.out hBn)
  have nqE1__U2_ := hide (blk_ne HE1_.out hBn)
  have nqU1__U2_ := hide (blk_ne HU1_.out hBn)
  have nqA1__U2_ := hide (blk_ne HA1_.out hBn)
  have nqE2__U2_ := hide (blk_ne HE2_.out hBn)
  clear hwn hBn
  replace HX := hide (below_block wb HX.out (Nat.le_refl _))
  replace HY := hide (below_block wb HY.out (Nat.le_refl _))
  replace HE1_ := hide (below_block wb HE1_.out (Nat.le_refl _))
  replace HU1_ := hide (below_block wb HU1_.out (Nat.le_refl _))
  replace HA1_ := hide (below_block wb HA1_.out (Nat.le_refl _))
  replace HE2_ := hide (below_block wb HE2_.out (Nat.le_refl _))
  replace RP := hide (RP.out.below wb (Nat.le_refl _))
  replace RK := hide (RK.out.below wb (Nat.le_refl _))
  replace RRE1_ := hide (RRE1_.out.below wb (Nat.le_refl _))
  replace RRU1_ := hide (RRU1_.out.below wb (Nat.le_refl _))
  replace RRA1_ := hide (RRA1_.out.below wb (Nat.le_refl _))
  replace RRE2_ := hide (RRE2_.out.below wb (Nat.le_refl _))
  replace RRU2_ := hide (RRU2_.out.below wb (Nat.le_refl _))
  replace OK := hide (owns_below OK.out wb (Nat.le_refl _))
  replace HB := hide (HB.out.trans (wb.mono HB.out.size))
  have HU2_ := HN1
  have NU2_ := hide (show w.heap.size ≤ BU2_ by rw [← HW.out.2]; exact HBo.out.size)
  clear wb HN1 HBo
  go_upto_region 12 with (fail)
  rw [HW.out.1]
  try rw [HW.out.2]
  clear HW
  go_wp2_with ((refine ld_whole (o := ⟨some 64, _, _, _, _, _⟩) 27 (.tmp 4) rfl (by rfl) BX rfl #[.int .u8 (tt : Int), .int .u8 (P : Int), .int .u16 (id : Int), .int .u32 (s : Int), .int .u32 (d : Int), .slice da n dc] 27 HX.out Try.underlying27 (by kernel_rfl) ?_; try simp only [Act.put, List.setIfInBounds_toArray, List.set_cons_zero, List.set_cons_succ]))
  refine (HA2.out _ da dc RP.out).mono ?_
  rintro e w15 ⟨aA2_, cA2_, rfl, o, b⟩
  replace HX := hide (below_block b HX.out (Nat.le_refl _))
  replace HY := hide (below_block b HY.out (Nat.le_refl _))
  replace HE1_ := hide (below_block b HE1_.out (Nat.le_refl _))
  replace HU1_ := hide (below_block b HU1_.out (Nat.le_refl _))
  replace HA1_ := hide (below_block b HA1_.out (Nat.le_refl _))
  replace HE2_ := hide (below_block b HE2_.out (Nat.le_refl _))
  replace HU2_ := hide (below_block b HU2_.out (Nat.le_refl _))
  replace RP := hide (RP.out.below b (Nat.le_refl _))
  replace RK := hide (RK.out.below b (Nat.le_refl _))
  replace RRE1_ := hide (RRE1_.out.below b (Nat.le_refl _))
  replace RRU1_ := hide (RRU1_.out.below b (Nat.le_refl _))
  replace RRA1_ := hide (RRA1_.out.below b (Nat.le_refl _))
  replace RRE2_ := hide (RRE2_.out.below b (Nat.le_refl _))
  replace RRU2_ := hide (RRU2_.out.below b (Nat.le_refl _))
  replace OK := hide (owns_below OK.out b (Nat.le_refl _))
  replace HB := hide (HB.out.trans (b.mono HB.out.size))
  have RRA2_ := hide (Lies.of_owns o)
  clear b o
  obtain ⟨w16, hwn, wb, HN1⟩ : ∃ W, w15.alloc (.cells #[.int .u8 64, .int .u8 1, .int .u16 (id : Int), .int .u32 (d : Int), .int .u32 (s : Int), .slice aA2_ (8 + mo.ds.length) cA2_] 27) = W ∧ Below w15.heap.size w15 W ∧ Hid (W.heap[w15.heap.size]? = some (.cells #[.int .u8 64, .int .u8 1, .int .u16 (id : Int), .int .u32 (d : Int), .int .u32 (s : Int), .slice aA2_ (8 + mo.ds.length) cA2_] 27 (0, 0))) := ⟨_, rfl, (Below.refl w15.heap.size w15).alloc (Nat.le_refl _) _, hide (heap_alloc_new w15 _)⟩
  obtain ⟨BA2_, hBn⟩ : ∃ B, w15.heap.size = B := ⟨_, rfl⟩
  rw [hBn] at HN1
  have HW := hide (And.intro hwn hBn)
  have HBo := HB
  have neK_A2_ := hide (own_ne (L := BA2_) OK.out (Nat.le_of_eq hBn))
  have nqX_A2_ := hide (blk_ne HX.out hBn)
  have nqY_A2_ := hide (blk_ne HY.out hBn)
  have nqE1__A2_ := hide (blk_ne HE1_.out hBn)
  have nqU1__A2_ := hide (blk_ne HU1_.out hBn)
  have nqA1__A2_ := hide (blk_ne HA1_.out hBn)
  have nqE2__A2_ := hide (blk_ne HE2_.out hBn)
  have nqU2__A2_ := hide (blk_ne HU2_.out hBn)
  clear hwn hBn
  replace HX := hide (below_block wb HX.out (Nat.le_refl _))
  replace HY := hide (below_block wb HY.out (Nat.le_refl _))
  replace HE1_ := hide (below_block wb HE1_.out (Nat.le_refl _))
  replace HU1_ := hide (below_block wb HU1_.out (Nat.le_refl _))
  replace HA1_ := hide (below_block wb HA1_.out (Nat.le_refl _))
  replace HE2_ := hide (below_block wb HE2_.out (Nat.le_refl _))
  replace HU2_ := hide (below_block wb HU2_.out (Nat.le_refl _))
  replace RP := hide (RP.out.below wb (Nat.le_refl _))
  replace RK := hide (RK.out.below wb (Nat.le_refl _))
  replace RRE1_ := hide (RRE1_.out.below wb (Nat.le_refl _))
  replace RRU1_ := hide (RRU1_.out.below wb (Nat.le_refl _))
  replace RRA1_ := hide (RRA1_.out.below wb (Nat.le_refl _))
  replace RRE2_ := hide (RRE2_.out.below wb (Nat.le_refl _))
  replace RRU2_ := hide (RRU2_.out.below wb (Nat.le_refl _))
  replace RRA2_ := hide (RRA2_.out.below wb (Nat.le_refl _))
  replace OK := hide (owns_below OK.out wb (Nat.le_refl _))
  replace HB := hide (HB.out.trans (wb.mono HB.out.size))
  have HA2_ := HN1
  have NA2_ := hide (show w.heap.size ≤ BA2_ by rw [← HW.out.2]; exact HBo.out.size)
  clear wb HN1 HBo
  go_upto_region 13 with (fail)
  rw [HW.out.1]
  try rw [HW.out.2]
  clear HW
  clear HE1 HU1 HA1 HE2 HU2 HA2
  go_wp2_with (first | (refine ld_whole (o := ⟨some 82, _, _, _, _, _⟩) 27 (.tmp 8) rfl (by rfl) BE1_ rfl #[.int .u8 64, .int .u8 1, .int .u16 0, .int .u32 (own : Int), .int .u32 (s : Int), .slice aE1_ (8 + M) cE1_] 27 HE1_.out Try.underlying27 (by kernel_rfl) ?_; try simp only [Act.put, List.setIfInBounds_toArray, List.set_cons_zero, List.set_cons_succ]) | (refine ld_whole (o := ⟨some 83, _, _, _, _, _⟩) 27 (.tmp 14) rfl (by rfl) BE2_ rfl #[.int .u8 64, .int .u8 1, .int .u16 0, .int .u32 (own : Int), .int .u32 (s : Int), .slice aE2_ (8 + M) cE2_] 27 HE2_.out Try.underlying27 (by kernel_rfl) ?_; try simp only [Act.put, List.setIfInBounds_toArray, List.set_cons_zero, List.set_cons_succ]))
  refine (same4_any _ _ _ _ _ _ aE1_ aE2_ _ _ cE1_ cE2_ RRE1_.out.row RRE2_.out.row HDL.out).mono ?_
  rintro e w17 ⟨rfl, b⟩
  replace HX := hide (below_block b HX.out (Nat.le_refl _))
  replace HY := hide (below_block b HY.out (Nat.le_refl _))
  replace HE1_ := hide (below_block b HE1_.out (Nat.le_refl _))
  replace HU1_ := hide (below_block b HU1_.out (Nat.le_refl _))
  replace HA1_ := hide (below_block b HA1_.out (Nat.le_refl _))
  replace HE2_ := hide (below_block b HE2_.out (Nat.le_refl _))
  replace HU2_ := hide (below_block b HU2_.out (Nat.le_refl _))
  replace HA2_ := hide (below_block b HA2_.out (Nat.le_refl _))
  replace RP := hide (RP.out.below b (Nat.le_refl _))
  replace RK := hide (RK.out.below b (Nat.le_refl _))
  replace RRE1_ := hide (RRE1_.out.below b (Nat.le_refl _))
  replace RRU1_ := hide (RRU1_.out.below b (Nat.le_refl _))
  replace RRA1_ := hide (RRA1_.out.below b (Nat.le_refl _))
  replace RRE2_ := hide (RRE2_.out.below b (Nat.le_refl _))
  replace RRU2_ := hide (RRU2_.out.below b (Nat.le_refl _))
  replace RRA2_ := hide (RRA2_.out.below b (Nat.le_refl _))
  replace OK := hide (owns_below OK.out b (Nat.le_refl _))
  replace HB := hide (HB.out.trans (b.mono HB.out.size))
  clear b 
  go_wp2_with (first | (refine ld_whole (o := ⟨some 88, _, _, _, _, _⟩) 27 (.tmp 10) rfl (by rfl) BU1_ rfl #[.int .u8 64, .int .u8 1, .int .u16 0, .int .u32 (own : Int), .int .u32 (s : Int), .slice aU1_ (8 + M) cU1_] 27 HU1_.out Try.underlying27 (by kernel_rfl) ?_; try simp only [Act.put, List.setIfInBounds_toArray, List.set_cons_zero, List.set_cons_succ]) | (refine ld_whole (o := ⟨some 89, _, _, _, _, _⟩) 27 (.tmp 16) rfl (by rfl) BU2_ rfl #[.int .u8 64, .int .u8 1, .int .u16 0, .int .u32 (own : Int), .int .u32 (s : Int), .slice aU2_ (8 + M) cU2_] 27 HU2_.out Try.underlying27 (by kernel_rfl) ?_; try simp only [Act.put, List.setIfInBounds_toArray, List.set_cons_zero, List.set_cons_succ]))
  refine (same4_any _ _ _ _ _ _ aU1_ aU2_ _ _ cU1_ cU2_ RRU1_.out.row RRU2_.out.row HDM.out).mono ?_
  rintro e w18 ⟨rfl, b⟩
  replace HX := hide (below_block b HX.out (Nat.le_refl _))
  replace HY := hide (below_block b HY.out (Nat.le_refl _))
  replace HE1_ := hide (below_block b HE1_.out (Nat.le_refl _))
  replace HU1_ := hide (below_block b HU1_.out (Nat.le_refl _))
  replace HA1_ := hide (below_block b HA1_.out (Nat.le_refl _))
  replace HE2_ := hide (below_block b HE2_.out (Nat.le_refl _))
  replace HU2_ := hide (below_block b HU2_.out (Nat.le_refl _))
  replace HA2_ := hide (below_block b HA2_.out (Nat.le_refl _))
  replace RP := hide (RP.out.below b (Nat.le_refl _))
  replace RK := hide (RK.out.below b (Nat.le_refl _))
  replace RRE1_ := hide (RRE1_.out.below b (Nat.le_refl _))
  replace RRU1_ := hide (RRU1_.out.below b (Nat.le_refl _))
  replace RRA1_ := hide (RRA1_.out.below b (Nat.le_refl _))
  replace RRE2_ := hide (RRE2_.out.below b (Nat.le_refl _))
  replace RRU2_ := hide (RRU2_.out.below b (Nat.le_refl _))
  replace RRA2_ := hide (RRA2_.out.below b (Nat.le_refl _))
  replace OK := hide (owns_below OK.out b (Nat.le_refl _))
  replace HB := hide (HB.out.trans (b.mono HB.out.size))
  clear b 
  go_wp2_with (first | (refine ld_whole (o := ⟨some 94, _, _, _, _, _⟩) 27 (.tmp 12) rfl (by rfl) BA1_ rfl #[.int .u8 64, .int .u8 1, .int .u16 (id : Int), .int .u32 (d : Int), .int .u32 (s : Int), .slice aA1_ (8 + mo.ds.length) cA1_] 27 HA1_.out Try.underlying27 (by kernel_rfl) ?_; try simp only [Act.put, List.setIfInBounds_toArray, List.set_cons_zero, List.set_cons_succ]) | (refine ld_whole (o := ⟨some 95, _, _, _, _, _⟩) 27 (.tmp 18) rfl (by rfl) BA2_ rfl #[.int .u8 64, .int .u8 1, .int .u16 (id : Int), .int .u32 (d : Int), .int .u32 (s : Int), .slice aA2_ (8 + mo.ds.length) cA2_] 27 HA2_.out Try.underlying27 (by kernel_rfl) ?_; try simp only [Act.put, List.setIfInBounds_toArray, List.set_cons_zero, List.set_cons_succ]))
  refine (same4_any _ _ _ _ _ _ aA1_ aA2_ _ _ cA1_ cA2_ RRA1_.out.row RRA2_.out.row HDN.out).mono ?_
  rintro e w19 ⟨rfl, b⟩
  replace HX := hide (below_block b HX.out (Nat.le_refl _))
  replace HY := hide (below_block b HY.out (Nat.le_refl _))
  replace HE1_ := hide (below_block b HE1_.out (Nat.le_refl _))
  replace HU1_ := hide (below_block b HU1_.out (Nat.le_refl _))
  replace HA1_ := hide (below_block b HA1_.out (Nat.le_refl _))
  replace HE2_ := hide (below_block b HE2_.out (Nat.le_refl _))
  replace HU2_ := hide (below_block b HU2_.out (Nat.le_refl _))
  replace HA2_ := hide (below_block b HA2_.out (Nat.le_refl _))
  replace RP := hide (RP.out.below b (Nat.le_refl _))
  replace RK := hide (RK.out.below b (Nat.le_refl _))
  replace RRE1_ := hide (RRE1_.out.below b (Nat.le_refl _))
  replace RRU1_ := hide (RRU1_.out.below b (Nat.le_refl _))
  replace RRA1_ := hide (RRA1_.out.below b (Nat.le_refl _))
  replace RRE2_ := hide (RRE2_.out.below b (Nat.le_refl _))
  replace RRU2_ := hide (RRU2_.out.below b (Nat.le_refl _))
  replace RRA2_ := hide (RRA2_.out.below b (Nat.le_refl _))
  replace OK := hide (owns_below OK.out b (Nat.le_refl _))
  replace HB := hide (HB.out.trans (b.mono HB.out.size))
  clear b 
  go_upto_region 15 with (fail)
  have HQ1 := hide (fun (W : World) (hB : Below w19.heap.size w19 W) => HM1.out W aK cK (RK.out.below hB (Nat.le_refl _)))
  have HQ2 := hide (fun (W : World) (hB : Below w19.heap.size w19 W) => HM2.out W da dc (RP.out.below hB (Nat.le_refl _)))
  have HQ3 := hide (fun (W : World) (hB : Below w19.heap.size w19 W) => same4_any W (tt : Int) (P : Int) (id : Int) (s : Int) (d : Int) aK da xs n cK dc (RK.out.below hB (Nat.le_refl _)).row (RP.out.below hB (Nat.le_refl _)).row HL.out)
  clear HM1 HM2
  clear HE1_ NE1_ HU1_ NU1_ HA1_ NA1_ HE2_ NE2_ HU2_ NU2_ HA2_ NA2_ RRE1_ RRU1_ RRE2_ RRU2_ RRA1_ RRA2_
  have k0Y0 : w19.cell? ⟨BY, 0, none⟩ = some (.int .u8 (tt : Int)) := cell_at HY.out 0 rfl
  have k0Y1 : w19.cell? ⟨BY, 1, none⟩ = some (.int .u8 (P : Int)) := cell_at HY.out 1 rfl
  have k0Y2 : w19.cell? ⟨BY, 2, none⟩ = some (.int .u16 (id : Int)) := cell_at HY.out 2 rfl
  have k0Y3 : w19.cell? ⟨BY, 3, none⟩ = some (.int .u32 (s : Int)) := cell_at HY.out 3 rfl
  have k0Y4 : w19.cell? ⟨BY, 4, none⟩ = some (.int .u32 (d : Int)) := cell_at HY.out 4 rfl
  have k0Y5 : w19.cell? ⟨BY, 5, none⟩ = some (.slice aK n cK) := cell_at HY.out 5 rfl
  have hlY := lt_of_block HY.out
  have k0X0 : w19.cell? ⟨BX, 0, none⟩ = some (.int .u8 (tt : Int)) := cell_at HX.out 0 rfl
  have k0X1 : w19.cell? ⟨BX, 1, none⟩ = some (.int .u8 (P : Int)) := cell_at HX.out 1 rfl
  have k0X2 : w19.cell? ⟨BX, 2, none⟩ = some (.int .u16 (id : Int)) := cell_at HX.out 2 rfl
  have k0X3 : w19.cell? ⟨BX, 3, none⟩ = some (.int .u32 (s : Int)) := cell_at HX.out 3 rfl
  have k0X4 : w19.cell? ⟨BX, 4, none⟩ = some (.int .u32 (d : Int)) := cell_at HX.out 4 rfl
  have k0X5 : w19.cell? ⟨BX, 5, none⟩ = some (.slice da n dc) := cell_at HX.out 5 rfl
  have hlX := lt_of_block HX.out
  have HBB := hide (Below.refl w19.heap.size w19)
  go_region_held3 (fun w' => w'.cell? ⟨BY, 0, none⟩ = some (.int .u8 (tt : Int)) ∧ w'.cell? ⟨BY, 1, none⟩ = some (.int .u8 (P : Int)) ∧ w'.cell? ⟨BY, 2, none⟩ = some (.int .u16 (id : Int)) ∧ w'.cell? ⟨BY, 3, none⟩ = some (.int .u32 (s : Int)) ∧ w'.cell? ⟨BY, 4, none⟩ = some (.int .u32 (d : Int)) ∧ w'.cell? ⟨BY, 5, none⟩ = some (.slice aK n cK) ∧ w'.cell? ⟨BX, 0, none⟩ = some (.int .u8 (tt : Int)) ∧ w'.cell? ⟨BX, 1, none⟩ = some (.int .u8 (P : Int)) ∧ w'.cell? ⟨BX, 2, none⟩ = some (.int .u16 (id : Int)) ∧ w'.cell? ⟨BX, 3, none⟩ = some (.int .u32 (s : Int)) ∧ w'.cell? ⟨BX, 4, none⟩ = some (.int .u32 (d : Int)) ∧ w'.cell? ⟨BX, 5, none⟩ = some (.slice da n dc)) (go_keep) (first
      | (go_at_call 24; (with_reducible refine (HQ1.out _ (by first | exact HBB.out | exact HBB.out.drew)).mono ?_); rintro e z1 ⟨rfl, b⟩; (try replace b := below_of_drew b); have HBB := hide (HBB.out.trans (b.mono HBB.out.size)); have k1Y0 := (bcell HBB.out BY 0 hlY).trans k0Y0; have k1Y1 := (bcell HBB.out BY 1 hlY).trans k0Y1; have k1Y2 := (bcell HBB.out BY 2 hlY).trans k0Y2; have k1Y3 := (bcell HBB.out BY 3 hlY).trans k0Y3; have k1Y4 := (bcell HBB.out BY 4 hlY).trans k0Y4; have k1Y5 := (bcell HBB.out BY 5 hlY).trans k0Y5; have k1X0 := (bcell HBB.out BX 0 hlX).trans k0X0; have k1X1 := (bcell HBB.out BX 1 hlX).trans k0X1; have k1X2 := (bcell HBB.out BX 2 hlX).trans k0X2; have k1X3 := (bcell HBB.out BX 3 hlX).trans k0X3; have k1X4 := (bcell HBB.out BX 4 hlX).trans k0X4; have k1X5 := (bcell HBB.out BX 5 hlX).trans k0X5; clear b)
      | (go_at_call 25; (with_reducible refine (HQ2.out _ (by first | exact HBB.out | exact HBB.out.drew)).mono ?_); rintro e z2 ⟨rfl, b⟩; (try replace b := below_of_drew b); have HBB := hide (HBB.out.trans (b.mono HBB.out.size)); have k2Y0 := (bcell HBB.out BY 0 hlY).trans k0Y0; have k2Y1 := (bcell HBB.out BY 1 hlY).trans k0Y1; have k2Y2 := (bcell HBB.out BY 2 hlY).trans k0Y2; have k2Y3 := (bcell HBB.out BY 3 hlY).trans k0Y3; have k2Y4 := (bcell HBB.out BY 4 hlY).trans k0Y4; have k2Y5 := (bcell HBB.out BY 5 hlY).trans k0Y5; have k2X0 := (bcell HBB.out BX 0 hlX).trans k0X0; have k2X1 := (bcell HBB.out BX 1 hlX).trans k0X1; have k2X2 := (bcell HBB.out BX 2 hlX).trans k0X2; have k2X3 := (bcell HBB.out BX 3 hlX).trans k0X3; have k2X4 := (bcell HBB.out BX 4 hlX).trans k0X4; have k2X5 := (bcell HBB.out BX 5 hlX).trans k0X5; clear b)
      | (go_at_call 13; (with_reducible refine (HQ3.out _ (by first | exact HBB.out | exact HBB.out.drew)).mono ?_); rintro e z3 ⟨rfl, b⟩; (try replace b := below_of_drew b); have HBB := hide (HBB.out.trans (b.mono HBB.out.size)); have k3Y0 := (bcell HBB.out BY 0 hlY).trans k0Y0; have k3Y1 := (bcell HBB.out BY 1 hlY).trans k0Y1; have k3Y2 := (bcell HBB.out BY 2 hlY).trans k0Y2; have k3Y3 := (bcell HBB.out BY 3 hlY).trans k0Y3; have k3Y4 := (bcell HBB.out BY 4 hlY).trans k0Y4; have k3Y5 := (bcell HBB.out BY 5 hlY).trans k0Y5; have k3X0 := (bcell HBB.out BX 0 hlX).trans k0X0; have k3X1 := (bcell HBB.out BX 1 hlX).trans k0X1; have k3X2 := (bcell HBB.out BX 2 hlX).trans k0X2; have k3X3 := (bcell HBB.out BX 3 hlX).trans k0X3; have k3X4 := (bcell HBB.out BX 4 hlX).trans k0X4; have k3X5 := (bcell HBB.out BX 5 hlX).trans k0X5; clear b)
      | fail)
  all_goals (try go_wp2_with fail)
  all_goals go_ret
  all_goals exact ⟨by simp, HB.out.trans (HBB.out.mono HB.out.size)⟩
theorem icmpTells_any (w : World) (own code : Nat) (tt P id s d : Nat) (da : Option Addr) (xs : List Int) (n dc : Nat) (hLx : Lies w da xs n dc) (hl : xs.length = n) (hb : ∀ x ∈ xs, 0 ≤ x ∧ x ≤ 255) (ht : tt ≤ 255) (hP : P ≤ 255) (hid : id ≤ 65535) (hs : s ≤ 4294967295) (hd : d ≤ 4294967295) (hc : code ≤ 255) :
    Calls Try.prog 6 #[.int .u32 (own : Int), .agg #[.int .u8 (tt : Int), .int .u8 (P : Int), .int .u16 (id : Int), .int .u32 (s : Int), .int .u32 (d : Int), .slice da n dc], .int .u8 (code : Int)] w fun e w' => e = .returned (.bool true) ∧ Below w.heap.size w w' := by
  by_cases h : 3000 < n
  · exact icmpTells_long w own code tt P id s d da n dc h
  cases hm : icMay P s d xs with
  | false =>
    cases ha : ansOk P xs with
    | false => exact icmpTells_nn w own code tt P id s d da xs n dc hLx hl hb ht hP hid hs hd hc h hm ha
    | true => exact icmpTells_ny w own code tt P id s d da xs n dc hLx hl hb ht hP hid hs hd hc h hm ha
  | true =>
    cases ha : ansOk P xs with
    | false => exact icmpTells_yn w own code tt P id s d da xs n dc hLx hl hb ht hP hid hs hd hc h _ hm rfl ha
    | true => exact icmpTells_yy w own code tt P id s d da xs n dc hLx hl hb ht hP hid hs hd hc h _ hm rfl ha
end Go.Proofs.Ytgggcapgaikbeaa
