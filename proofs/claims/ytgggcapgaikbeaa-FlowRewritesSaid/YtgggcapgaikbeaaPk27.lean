/- The law that packets are let go between other ends. -/
import Derived.Test.YtgggcapgaikbeaaPk26
import Derived.Test.YtgggcapgaikbeaaPk01
import Derived.ProofKit
import Derived.OpenShut
import Derived.ShutString
import Derived.ChangeOld
import Derived.Below
import Derived.Test.YtgggcapgaikbeaaRows
import Derived.LaidMore
namespace Go.Proofs.Ytgggcapgaikbeaa
open Go.RowKit
set_option linter.unusedVariables false
set_option linter.unusedSimpArgs false
set_option maxRecDepth 100000
set_option maxHeartbeats 1600000 in
theorem same4_any (w : World) (tt P id s d : Int) (a1 a2 : Option Addr) (xs : List Int) (n c1 c2 : Nat) (h1 : Row .u8 w a1 xs) (h2 : Row .u8 w a2 xs) (hl : xs.length = n) :
    Calls Try.prog 13 #[.agg #[.int .u8 tt, .int .u8 P, .int .u16 id, .int .u32 s, .int .u32 d, .slice a1 n c1], .agg #[.int .u8 tt, .int .u8 P, .int .u16 id, .int .u32 s, .int .u32 d, .slice a2 n c2]] w fun e w' => e = .returned (.bool true) ∧ Below w.heap.size w w' := by
  obtain ⟨V1, hV1⟩ : ∃ V, w.alloc (.cells #[.int .u8 tt, .int .u8 P, .int .u16 id, .int .u32 s, .int .u32 d, .slice a1 n c1] 27) = V := ⟨_, rfl⟩
  obtain ⟨V2, hV2⟩ : ∃ V, V1.alloc (.cells #[.int .u8 tt, .int .u8 P, .int .u16 id, .int .u32 s, .int .u32 d, .slice a2 n c2] 27) = V := ⟨_, rfl⟩
  have hz1 : V1.heap.size = w.heap.size + 1 := by rw [← hV1]; simp
  have hz2 : V2.heap.size = w.heap.size + 1 + 1 := by rw [← hV2]; simp [hz1]
  have hb1 : Below w.heap.size w V1 := by rw [← hV1]; exact (Below.refl _ _).alloc (Nat.le_refl _) _
  have hc2 : Below V1.heap.size V1 V2 := by rw [← hV2]; exact (Below.refl _ _).alloc (Nat.le_refl _) _
  have hb2 := hb1.trans (hc2.mono hb1.size)
  have hp1_1 : V1.heap[w.heap.size]? = some (.cells #[.int .u8 tt, .int .u8 P, .int .u16 id, .int .u32 s, .int .u32 d, .slice a1 n c1] 27 (0, 0)) := by rw [← hV1]; exact heap_alloc_new _ _
  have hp1_2 := below_block hc2 hp1_1 (Nat.le_refl _)
  have hp2_2 : V2.heap[w.heap.size + 1]? = some (.cells #[.int .u8 tt, .int .u8 P, .int .u16 id, .int .u32 s, .int .u32 d, .slice a2 n c2] 27 (0, 0)) := by rw [← hV2, ← hz1]; exact heap_alloc_new _ _
  obtain ⟨BX, hBX⟩ : ∃ B, w.heap.size = B := ⟨_, rfl⟩
  obtain ⟨BY, hBY⟩ : ∃ B, w.heap.size + 1 = B := ⟨_, rfl⟩
  have hw0 : w.heap.size ≤ BX ∧ w.heap.size ≤ BY := by omega
  have HX := hide (show V2.heap[BX]? = some (.cells #[.int .u8 tt, .int .u8 P, .int .u16 id, .int .u32 s, .int .u32 d, .slice a1 n c1] 27 (0, 0)) by rw [← hBX]; exact hp1_2)
  have NX : Hid (w.heap.size ≤ BX) := hide hw0.1
  have HY := hide (show V2.heap[BY]? = some (.cells #[.int .u8 tt, .int .u8 P, .int .u16 id, .int .u32 s, .int .u32 d, .slice a2 n c2] 27 (0, 0)) by rw [← hBY]; exact hp2_2)
  have NY : Hid (w.heap.size ≤ BY) := hide hw0.2
  have nqX_Y : Hid (BX ≠ BY) := hide (by omega)
  have HB := hide hb2
  have HE := hide (And.intro (And.intro trivial trivial) (And.intro hV1 ( And.intro hV2 (And.intro hBX ( And.intro hBY (trivial))))))
  clear hw0 hV1 hz1 hb1 hV2 hz2 hb2 hc2 hp1_1 hp1_2 hp2_2 hBX hBY 
  go_enter Try.func13, Try.ntmps13
  go_upto_region 1 with (fail)
  rw [HE.out.2.1]
  try rw [HE.out.2.2.1]
  try rw [HE.out.2.2.2.2.1]
  try rw [HE.out.2.2.2.1]
  clear HE
  have hc1 := conv_any a1 xs c1 _ (h1.below HB.out (Nat.le_refl _))
  have hc2 := conv_any a2 xs c2 _ (h2.below HB.out (Nat.le_refl _))
  rw [hl] at hc1 hc2
  clear h1 h2 hl
  have qX_0 : V2.cell? ⟨BX, 0, none⟩ = some (.int .u8 tt) := cell_at HX.out 0 rfl
  have qY_0 : V2.cell? ⟨BY, 0, none⟩ = some (.int .u8 tt) := cell_at HY.out 0 rfl
  have qX_1 : V2.cell? ⟨BX, 1, none⟩ = some (.int .u8 P) := cell_at HX.out 1 rfl
  have qY_1 : V2.cell? ⟨BY, 1, none⟩ = some (.int .u8 P) := cell_at HY.out 1 rfl
  have qX_2 : V2.cell? ⟨BX, 2, none⟩ = some (.int .u16 id) := cell_at HX.out 2 rfl
  have qY_2 : V2.cell? ⟨BY, 2, none⟩ = some (.int .u16 id) := cell_at HY.out 2 rfl
  have qX_3 : V2.cell? ⟨BX, 3, none⟩ = some (.int .u32 s) := cell_at HX.out 3 rfl
  have qY_3 : V2.cell? ⟨BY, 3, none⟩ = some (.int .u32 s) := cell_at HY.out 3 rfl
  have qX_4 : V2.cell? ⟨BX, 4, none⟩ = some (.int .u32 d) := cell_at HX.out 4 rfl
  have qY_4 : V2.cell? ⟨BY, 4, none⟩ = some (.int .u32 d) := cell_at HY.out 4 rfl
  have qX_5 : V2.cell? ⟨BX, 5, none⟩ = some (.slice a1 n c1) := cell_at HX.out 5 rfl
  have qY_5 : V2.cell? ⟨BY, 5, none⟩ = some (.slice a2 n c2) := cell_at HY.out 5 rfl
  go_wp2_with fail
  go_ret
  exact ⟨rfl, HB.out⟩
set_option maxHeartbeats 4000000 in
theorem flowRewrites_long (w : World) (tt P id S D : Nat) (da : Option Addr) (xs : List Int) (n dc : Nat) (fp fs fd ff ft : Nat) (hn : 3000 < n) :
    Calls Try.prog 3 #[.agg #[.int .u8 (tt : Int), .int .u8 (P : Int), .int .u16 (id : Int), .int .u32 (S : Int), .int .u32 (D : Int), .slice da n dc], .agg #[.int .u8 (fp : Int), .int .u32 (fs : Int), .int .u32 (fd : Int), .int .u16 (ff : Int), .int .u16 (ft : Int)]] w fun e w' => e = .returned (.bool true) ∧ Below w.heap.size w w' := by
  have hd3 : decide ((3000 : Int) < (n : Int)) = true := by simp; omega
  obtain ⟨V1, hV1⟩ : ∃ V, w.alloc (.cells #[.int .u8 (tt : Int), .int .u8 (P : Int), .int .u16 (id : Int), .int .u32 (S : Int), .int .u32 (D : Int), .slice da n dc] 27) = V := ⟨_, rfl⟩
  obtain ⟨V2, hV2⟩ : ∃ V, V1.alloc (.cells #[.int .u8 (fp : Int), .int .u32 (fs : Int), .int .u32 (fd : Int), .int .u16 (ff : Int), .int .u16 (ft : Int)] 29) = V := ⟨_, rfl⟩
  have hz1 : V1.heap.size = w.heap.size + 1 := by rw [← hV1]; simp
  have hz2 : V2.heap.size = w.heap.size + 1 + 1 := by rw [← hV2]; simp [hz1]
  have hb1 : Below w.heap.size w V1 := by rw [← hV1]; exact (Below.refl _ _).alloc (Nat.le_refl _) _
  have hc2 : Below V1.heap.size V1 V2 := by rw [← hV2]; exact (Below.refl _ _).alloc (Nat.le_refl _) _
  have hb2 := hb1.trans (hc2.mono hb1.size)
  have hp1_1 : V1.heap[w.heap.size]? = some (.cells #[.int .u8 (tt : Int), .int .u8 (P : Int), .int .u16 (id : Int), .int .u32 (S : Int), .int .u32 (D : Int), .slice da n dc] 27 (0, 0)) := by rw [← hV1]; exact heap_alloc_new _ _
  have hp1_2 := below_block hc2 hp1_1 (Nat.le_refl _)
  have hp2_2 : V2.heap[w.heap.size + 1]? = some (.cells #[.int .u8 (fp : Int), .int .u32 (fs : Int), .int .u32 (fd : Int), .int .u16 (ff : Int), .int .u16 (ft : Int)] 29 (0, 0)) := by rw [← hV2, ← hz1]; exact heap_alloc_new _ _
  obtain ⟨BX, hBX⟩ : ∃ B, w.heap.size = B := ⟨_, rfl⟩
  obtain ⟨BF, hBF⟩ : ∃ B, w.heap.size + 1 = B := ⟨_, rfl⟩
  have hw0 : w.heap.size ≤ BX ∧ w.heap.size ≤ BF := by omega
  have HX := hide (show V2.heap[BX]? = some (.cells #[.int .u8 (tt : Int), .int .u8 (P : Int), .int .u16 (id : Int), .int .u32 (S : Int), .int .u32 (D : Int), .slice da n dc] 27 (0, 0)) by rw [← hBX]; exact hp1_2)
  have NX : Hid (w.heap.size ≤ BX) := hide hw0.1
  have HF := hide (show V2.heap[BF]? = some (.cells #[.int .u8 (fp : Int), .int .u32 (fs : Int), .int .u32 (fd : Int), .int .u16 (ff : Int), .int .u16 (ft : Int)] 29 (0, 0)) by rw [← hBF]; exact hp2_2)
  have NF : Hid (w.heap.size ≤ BF) := hide hw0.2
  have nqX_F : Hid (BX ≠ BF) := hide (by omega)
  have HB := hide hb2
  have HE := hide (And.intro (And.intro trivial trivial) (And.intro hV1 ( And.intro hV2 (And.intro hBX ( And.intro hBF (trivial))))))
  clear hw0 hV1 hz1 hb1 hV2 hz2 hb2 hc2 hp1_1 hp1_2 hp2_2 hBX hBF 
  go_enter Try.func3, Try.ntmps3
  go_upto_region 1 with (fail)
  rw [HE.out.2.1]
  try rw [HE.out.2.2.1]
  try rw [HE.out.2.2.2.2.1]
  try rw [HE.out.2.2.2.1]
  clear HE
  go_wp2_with fail
  refine (speaks_any _).mono ?_
  rintro e w1 ⟨rfl, b⟩
  replace HX := hide (below_block b HX.out (Nat.le_refl _))
  replace HF := hide (below_block b HF.out (Nat.le_refl _))
  replace HB := hide (HB.out.trans (b.mono HB.out.size))
  clear b 
  have qX_5 : w1.cell? ⟨BX, 5, none⟩ = some (.slice da n dc) := cell_at HX.out 5 rfl
  go_wp2_with fail
  go_ret
  exact ⟨rfl, HB.out⟩
set_option maxHeartbeats 4000000 in
theorem flowRewrites_no (w : World) (tt P id S D : Nat) (da : Option Addr) (xs : List Int) (n dc : Nat) (fp fs fd ff ft : Nat) (hLx : Lies w da xs n dc) (hl : xs.length = n) (hb : ∀ x ∈ xs, 0 ≤ x ∧ x ≤ 255) (hS : S ≤ 4294967295) (hD : D ≤ 4294967295) (hn : ¬ 3000 < n) (t2 P2 i2 S2 D2 : Nat) (body : List Int) (code : Nat) (hans : RwAns tt P id S D xs t2 P2 i2 S2 D2 body code) (hboth : ∀ (w : World) (da : Option Addr) (dc : Nat), Lies w da xs n dc → RwP 11 w (.agg #[.int .u8 (tt : Int), .int .u8 (P : Int), .int .u16 (id : Int), .int .u32 (S : Int), .int .u32 (D : Int), .slice da n dc]) (.agg #[.int .u8 (fp : Int), .int .u32 (fs : Int), .int .u32 (fd : Int), .int .u16 (ff : Int), .int .u16 (ft : Int)]) t2 P2 i2 S2 D2 body code ∧ RwP 12 w (.agg #[.int .u8 (tt : Int), .int .u8 (P : Int), .int .u16 (id : Int), .int .u32 (S : Int), .int .u32 (D : Int), .slice da n dc]) (.agg #[.int .u8 (fp : Int), .int .u32 (fs : Int), .int .u32 (fd : Int), .int .u16 (ff : Int), .int .u16 (ft : Int)]) t2 P2 i2 S2 D2 body code) (hc : code ≠ 0) :
    Calls Try.prog 3 #[.agg #[.int .u8 (tt : Int), .int .u8 (P : Int), .int .u16 (id : Int), .int .u32 (S : Int), .int .u32 (D : Int), .slice da n dc], .agg #[.int .u8 (fp : Int), .int .u32 (fs : Int), .int .u32 (fd : Int), .int .u16 (ff : Int), .int .u16 (ft : Int)]] w fun e w' => e = .returned (.bool true) ∧ Below w.heap.size w w' := by
  have hd3 : decide ((3000 : Int) < (n : Int)) = false := by simp; omega
  have HRP := hide (fun (W : World) (a : Option Addr) (c : Nat) (h : Lies W a xs n c) => (hboth W a c h).1)
  have HRD := hide (fun (W : World) (a : Option Addr) (c : Nat) (h : Lies W a xs n c) => (hboth W a c h).2)
  unfold RwP at HRP HRD
  have hcc : ((code : Int) != 0) = true := by simp; omega
  clear hboth
  have HL := hide hl
  have HN := hide hn
  have HCC := hide hcc
  clear hl hb hn hcc hc hans hS hD
  obtain ⟨V1, hV1⟩ : ∃ V, w.alloc (.cells #[.int .u8 (tt : Int), .int .u8 (P : Int), .int .u16 (id : Int), .int .u32 (S : Int), .int .u32 (D : Int), .slice da n dc] 27) = V := ⟨_, rfl⟩
  obtain ⟨V2, hV2⟩ : ∃ V, V1.alloc (.cells #[.int .u8 (fp : Int), .int .u32 (fs : Int), .int .u32 (fd : Int), .int .u16 (ff : Int), .int .u16 (ft : Int)] 29) = V := ⟨_, rfl⟩
  have hz1 : V1.heap.size = w.heap.size + 1 := by rw [← hV1]; simp
  have hz2 : V2.heap.size = w.heap.size + 1 + 1 := by rw [← hV2]; simp [hz1]
  have hb1 : Below w.heap.size w V1 := by rw [← hV1]; exact (Below.refl _ _).alloc (Nat.le_refl _) _
  have hc2 : Below V1.heap.size V1 V2 := by rw [← hV2]; exact (Below.refl _ _).alloc (Nat.le_refl _) _
  have hb2 := hb1.trans (hc2.mono hb1.size)
  have hp1_1 : V1.heap[w.heap.size]? = some (.cells #[.int .u8 (tt : Int), .int .u8 (P : Int), .int .u16 (id : Int), .int .u32 (S : Int), .int .u32 (D : Int), .slice da n dc] 27 (0, 0)) := by rw [← hV1]; exact heap_alloc_new _ _
  have hp1_2 := below_block hc2 hp1_1 (Nat.le_refl _)
  have hp2_2 : V2.heap[w.heap.size + 1]? = some (.cells #[.int .u8 (fp : Int), .int .u32 (fs : Int), .int .u32 (fd : Int), .int .u16 (ff : Int), .int .u16 (ft : Int)] 29 (0, 0)) := by rw [← hV2, ← hz1]; exact heap_alloc_new _ _
  obtain ⟨BX, hBX⟩ : ∃ B, w.heap.size = B := ⟨_, rfl⟩
  obtain ⟨BF, hBF⟩ : ∃ B, w.heap.size + 1 = B := ⟨_, rfl⟩
  have hw0 : w.heap.size ≤ BX ∧ w.heap.size ≤ BF := by omega
  have HX := hide (show V2.heap[BX]? = some (.cells #[.int .u8 (tt : Int), .int .u8 (P : Int), .int .u16 (id : Int), .int .u32 (S : Int), .int .u32 (D : Int), .slice da n dc] 27 (0, 0)) by rw [← hBX]; exact hp1_2)
  have NX : Hid (w.heap.size ≤ BX) := hide hw0.1
  have HF := hide (show V2.heap[BF]? = some (.cells #[.int .u8 (fp : Int), .int .u32 (fs : Int), .int .u32 (fd : Int), .int .u16 (ff : Int), .int .u16 (ft : Int)] 29 (0, 0)) by rw [← hBF]; exact hp2_2)
  have NF : Hid (w.heap.size ≤ BF) := hide hw0.2
  have nqX_F : Hid (BX ≠ BF) := hide (by omega)
  have AP := hide hLx
  have RP := hide (hLx.below hb2 (Nat.le_refl _))
  have HB := hide hb2
  have HE := hide (And.intro (And.intro trivial trivial) (And.intro hV1 ( And.intro hV2 (And.intro hBX ( And.intro hBF (trivial))))))
  clear hw0 hV1 hz1 hb1 hV2 hz2 hb2 hc2 hp1_1 hp1_2 hp2_2 hBX hBF hLx
  go_enter Try.func3, Try.ntmps3
  go_upto_region 1 with (fail)
  rw [HE.out.2.1]
  try rw [HE.out.2.2.1]
  try rw [HE.out.2.2.2.2.1]
  try rw [HE.out.2.2.2.1]
  clear HE
  go_wp2_with fail
  refine (speaks_any _).mono ?_
  rintro e w1 ⟨rfl, b⟩
  replace HX := hide (below_block b HX.out (Nat.le_refl _))
  replace HF := hide (below_block b HF.out (Nat.le_refl _))
  replace RP := hide (RP.out.below b (Nat.le_refl _))
  replace HB := hide (HB.out.trans (b.mono HB.out.size))
  clear b 
  have qX_5 : w1.cell? ⟨BX, 5, none⟩ = some (.slice da n dc) := cell_at HX.out 5 rfl
  go_upto_region 5 with (fail)
  clear qX_5
  obtain ⟨w2, hwn, wb, HN1⟩ : ∃ W, w1.alloc (.cells #[.int .u8 (tt : Int), .int .u8 (P : Int), .int .u16 (id : Int), .int .u32 (S : Int), .int .u32 (D : Int), .slice da n dc] 27) = W ∧ Below w1.heap.size w1 W ∧ Hid (W.heap[w1.heap.size]? = some (.cells #[.int .u8 (tt : Int), .int .u8 (P : Int), .int .u16 (id : Int), .int .u32 (S : Int), .int .u32 (D : Int), .slice da n dc] 27 (0, 0))) := ⟨_, rfl, (Below.refl w1.heap.size w1).alloc (Nat.le_refl _) _, hide (heap_alloc_new w1 _)⟩
  obtain ⟨BY, hBn⟩ : ∃ B, w1.heap.size = B := ⟨_, rfl⟩
  rw [hBn] at HN1
  have HW := hide (And.intro hwn hBn)
  have HBo := HB
  have nqX_Y := hide (blk_ne HX.out hBn)
  have nqF_Y := hide (blk_ne HF.out hBn)
  clear hwn hBn
  have EX := HX
  have EF := HF
  replace HX := hide (below_block wb HX.out (Nat.le_refl _))
  replace HF := hide (below_block wb HF.out (Nat.le_refl _))
  replace RP := hide (RP.out.below wb (Nat.le_refl _))
  replace HB := hide (HB.out.trans (wb.mono HB.out.size))
  have HY := HN1
  have NY := hide (show w.heap.size ≤ BY by rw [← HW.out.2]; exact HBo.out.size)
  clear wb HN1 HBo
  go_upto_region 6 with ((refine ld_whole (o := ⟨some 22, _, _, _, _, _⟩) 27 (.tmp 2) rfl (by rfl) BX rfl #[.int .u8 (tt : Int), .int .u8 (P : Int), .int .u16 (id : Int), .int .u32 (S : Int), .int .u32 (D : Int), .slice da n dc] 27 EX.out Try.underlying27 (by kernel_rfl) ?_; try simp only [Act.put, List.setIfInBounds_toArray, List.set_cons_zero, List.set_cons_succ]))
  rw [HW.out.1]
  try rw [HW.out.2]
  clear HW
  clear EX EF
  obtain ⟨vq, v3, hrun, oq, bq, _⟩ := app_own2 (w2.alloc (.cells #[] 5)) w2.heap.size (.slice (some ⟨w2.heap.size, 0, none⟩) 0 0) 0 [] (World.ownsRow_lit w2 #[] 0 (Nat.le_refl _) (by unfold maxLen; omega) rfl) da (xs) (n) dc (RP.out.row.below ((Below.refl w2.heap.size w2).alloc (Nat.le_refl _) _) (Nat.le_refl _)) HL.out RP.out.no (by have := HN.out; omega) (by simp)
  rw [show 0 + (n) = n by omega, List.nil_append] at oq
  obtain ⟨aK, cK, rfl⟩ := slice_form oq
  have HRUN := hide hrun
  have bz := ((Below.refl w2.heap.size w2).alloc (Nat.le_refl _) (.cells #[] 5)).trans bq
  have neK_X := hide (own_ne_lt oq (lt_of_block HX.out))
  have neK_F := hide (own_ne_lt oq (lt_of_block HF.out))
  have neK_Y := hide (own_ne_lt oq (lt_of_block HY.out))
  have lbK := hide HB.out.size
  have Hm := below_block bz HY.out (Nat.le_refl _)
  have HBm := HB.out.trans (bz.mono HB.out.size)
  have fz := free_at Hm 5
  have qz : v3.cell? ⟨BY, 5, none⟩ = some (.slice da n dc) := cell_at Hm 5 rfl
  obtain ⟨w4, hVn, hVH, hVB, hVo, hVs⟩ := set1 (i := 5) (.slice aK n cK) (c' := #[.int .u8 (tt : Int), .int .u8 (P : Int), .int .u16 (id : Int), .int .u32 (S : Int), .int .u32 (D : Int), .slice aK n cK]) Hm HBm NY.out (by kernel_rfl)
  have HVn := hide hVn
  clear hVn
  have HG := hide (gb_part HBm hVB hVo hVs)
  have HXn := hide ((hVo _ nqX_Y.out).trans (below_block bz HX.out (Nat.le_refl _)))
  have HFn := hide ((hVo _ nqF_Y.out).trans (below_block bz HF.out (Nat.le_refl _)))
  have HYn := hide hVH
  have RPn := hide (AP.out.below hVB (Nat.le_refl _))
  have OK := hide (owns_kept oq HG.out neK_Y.out)
  have RK := hide (Lies.of_owns OK.out)
  have HBn := hide hVB
  clear hVH hVB hVo hVs HG hrun oq bq bz Hm HBm
  have qP_ : w2.cell? ⟨BX, 5, none⟩ = some (.slice da (n) dc) := cell_at HX.out 5 rfl
  have qe_ : (w2.alloc (.cells #[] 5)).cell? ⟨BX, 5, none⟩ = some (.slice da (n) dc) := cell_at (below_block ((Below.refl w2.heap.size w2).alloc (Nat.le_refl _) (.cells #[] 5)) HX.out (Nat.le_refl _)) 5 rfl
  go_upto_region 7 with ((at_builtin; refine Lib.wpList_append_run _ rfl _ _ _ _ rfl _ _ rfl rfl _ _ HRUN.out ?_))
  rw [HVn.out]
  clear HVn fz qz qP_ qe_ HRUN
  replace HX := HXn
  clear HXn
  replace HF := HFn
  clear HFn
  replace HY := HYn
  clear HYn
  replace RP := RPn
  clear RPn
  replace HB := HBn
  clear HBn
  go_wp2_with (first | (refine ld_whole (o := ⟨some 29, _, _, _, _, _⟩) 27 (.tmp 5) rfl (by rfl) BY rfl #[.int .u8 (tt : Int), .int .u8 (P : Int), .int .u16 (id : Int), .int .u32 (S : Int), .int .u32 (D : Int), .slice aK n cK] 27 HY.out Try.underlying27 (by kernel_rfl) ?_; try simp only [Act.put, List.setIfInBounds_toArray, List.set_cons_zero, List.set_cons_succ]) | (refine ld_whole (o := ⟨some 30, _, _, _, _, _⟩) 29 (.tmp 3) rfl (by rfl) BF rfl #[.int .u8 (fp : Int), .int .u32 (fs : Int), .int .u32 (fd : Int), .int .u16 (ff : Int), .int .u16 (ft : Int)] 29 HF.out Try.underlying29 (by kernel_rfl) ?_; try simp only [Act.put, List.setIfInBounds_toArray, List.set_cons_zero, List.set_cons_succ]))
  refine (HRP.out _ aK cK RK.out).mono ?_
  rintro e w5 ⟨a1, c1, rfl, l1, b⟩
  replace HX := hide (below_block b HX.out (Nat.le_refl _))
  replace HF := hide (below_block b HF.out (Nat.le_refl _))
  replace HY := hide (below_block b HY.out (Nat.le_refl _))
  replace RP := hide (RP.out.below b (Nat.le_refl _))
  replace RK := hide (RK.out.below b (Nat.le_refl _))
  replace OK := hide (owns_below OK.out b (Nat.le_refl _))
  replace HB := hide (HB.out.trans (b.mono HB.out.size))
  have RB1 := hide (l1)
  clear b l1
  obtain ⟨w6, hwn, wb, HN1⟩ : ∃ W, w5.alloc (.cells #[.int .u8 (t2 : Int), .int .u8 (P2 : Int), .int .u16 (i2 : Int), .int .u32 (S2 : Int), .int .u32 (D2 : Int), .slice a1 body.length c1] 27) = W ∧ Below w5.heap.size w5 W ∧ Hid (W.heap[w5.heap.size]? = some (.cells #[.int .u8 (t2 : Int), .int .u8 (P2 : Int), .int .u16 (i2 : Int), .int .u32 (S2 : Int), .int .u32 (D2 : Int), .slice a1 body.length c1] 27 (0, 0))) := ⟨_, rfl, (Below.refl w5.heap.size w5).alloc (Nat.le_refl _) _, hide (heap_alloc_new w5 _)⟩
  obtain ⟨BQ, hBn⟩ : ∃ B, w5.heap.size = B := ⟨_, rfl⟩
  rw [hBn] at HN1
  have HW := hide (And.intro hwn hBn)
  have HBo := HB
  have neK_Q := hide (own_ne (L := BQ) OK.out (Nat.le_of_eq hBn))
  have nqX_Q := hide (blk_ne HX.out hBn)
  have nqF_Q := hide (blk_ne HF.out hBn)
  have nqY_Q := hide (blk_ne HY.out hBn)
  clear hwn hBn
  replace HX := hide (below_block wb HX.out (Nat.le_refl _))
  replace HF := hide (below_block wb HF.out (Nat.le_refl _))
  replace HY := hide (below_block wb HY.out (Nat.le_refl _))
  replace RP := hide (RP.out.below wb (Nat.le_refl _))
  replace RK := hide (RK.out.below wb (Nat.le_refl _))
  replace RB1 := hide (RB1.out.below wb (Nat.le_refl _))
  replace OK := hide (owns_below OK.out wb (Nat.le_refl _))
  replace HB := hide (HB.out.trans (wb.mono HB.out.size))
  have HQ := HN1
  have NQ := hide (show w.heap.size ≤ BQ by rw [← HW.out.2]; exact HBo.out.size)
  clear wb HN1 HBo
  go_upto_region 8 with (fail)
  rw [HW.out.1]
  try rw [HW.out.2]
  clear HW
  go_wp2_with (first | (refine ld_whole (o := ⟨some 35, _, _, _, _, _⟩) 27 (.tmp 2) rfl (by rfl) BX rfl #[.int .u8 (tt : Int), .int .u8 (P : Int), .int .u16 (id : Int), .int .u32 (S : Int), .int .u32 (D : Int), .slice da n dc] 27 HX.out Try.underlying27 (by kernel_rfl) ?_; try simp only [Act.put, List.setIfInBounds_toArray, List.set_cons_zero, List.set_cons_succ]) | (refine ld_whole (o := ⟨some 36, _, _, _, _, _⟩) 29 (.tmp 3) rfl (by rfl) BF rfl #[.int .u8 (fp : Int), .int .u32 (fs : Int), .int .u32 (fd : Int), .int .u16 (ff : Int), .int .u16 (ft : Int)] 29 HF.out Try.underlying29 (by kernel_rfl) ?_; try simp only [Act.put, List.setIfInBounds_toArray, List.set_cons_zero, List.set_cons_succ]))
  refine (HRD.out _ da dc RP.out).mono ?_
  rintro e w7 ⟨a2, c2, rfl, l2, b⟩
  replace HX := hide (below_block b HX.out (Nat.le_refl _))
  replace HF := hide (below_block b HF.out (Nat.le_refl _))
  replace HY := hide (below_block b HY.out (Nat.le_refl _))
  replace HQ := hide (below_block b HQ.out (Nat.le_refl _))
  replace RP := hide (RP.out.below b (Nat.le_refl _))
  replace RK := hide (RK.out.below b (Nat.le_refl _))
  replace RB1 := hide (RB1.out.below b (Nat.le_refl _))
  replace OK := hide (owns_below OK.out b (Nat.le_refl _))
  replace HB := hide (HB.out.trans (b.mono HB.out.size))
  have RB2 := hide (l2)
  clear b l2
  obtain ⟨w8, hwn, wb, HN1⟩ : ∃ W, w7.alloc (.cells #[.int .u8 (t2 : Int), .int .u8 (P2 : Int), .int .u16 (i2 : Int), .int .u32 (S2 : Int), .int .u32 (D2 : Int), .slice a2 body.length c2] 27) = W ∧ Below w7.heap.size w7 W ∧ Hid (W.heap[w7.heap.size]? = some (.cells #[.int .u8 (t2 : Int), .int .u8 (P2 : Int), .int .u16 (i2 : Int), .int .u32 (S2 : Int), .int .u32 (D2 : Int), .slice a2 body.length c2] 27 (0, 0))) := ⟨_, rfl, (Below.refl w7.heap.size w7).alloc (Nat.le_refl _) _, hide (heap_alloc_new w7 _)⟩
  obtain ⟨BZ, hBn⟩ : ∃ B, w7.heap.size = B := ⟨_, rfl⟩
  rw [hBn] at HN1
  have HW := hide (And.intro hwn hBn)
  have HBo := HB
  have neK_Z := hide (own_ne (L := BZ) OK.out (Nat.le_of_eq hBn))
  have nqX_Z := hide (blk_ne HX.out hBn)
  have nqF_Z := hide (blk_ne HF.out hBn)
  have nqY_Z := hide (blk_ne HY.out hBn)
  have nqQ_Z := hide (blk_ne HQ.out hBn)
  clear hwn hBn
  replace HX := hide (below_block wb HX.out (Nat.le_refl _))
  replace HF := hide (below_block wb HF.out (Nat.le_refl _))
  replace HY := hide (below_block wb HY.out (Nat.le_refl _))
  replace HQ := hide (below_block wb HQ.out (Nat.le_refl _))
  replace RP := hide (RP.out.below wb (Nat.le_refl _))
  replace RK := hide (RK.out.below wb (Nat.le_refl _))
  replace RB1 := hide (RB1.out.below wb (Nat.le_refl _))
  replace RB2 := hide (RB2.out.below wb (Nat.le_refl _))
  replace OK := hide (owns_below OK.out wb (Nat.le_refl _))
  replace HB := hide (HB.out.trans (wb.mono HB.out.size))
  have HZ := HN1
  have NZ := hide (show w.heap.size ≤ BZ by rw [← HW.out.2]; exact HBo.out.size)
  clear wb HN1 HBo
  go_upto_region 9 with (fail)
  rw [HW.out.1]
  try rw [HW.out.2]
  clear HW
  go_wp2_with (first | (refine ld_whole (o := ⟨some 44, _, _, _, _, _⟩) 27 (.tmp 6) rfl (by rfl) BQ rfl #[.int .u8 (t2 : Int), .int .u8 (P2 : Int), .int .u16 (i2 : Int), .int .u32 (S2 : Int), .int .u32 (D2 : Int), .slice a1 body.length c1] 27 HQ.out Try.underlying27 (by kernel_rfl) ?_; try simp only [Act.put, List.setIfInBounds_toArray, List.set_cons_zero, List.set_cons_succ]) | (refine ld_whole (o := ⟨some 45, _, _, _, _, _⟩) 27 (.tmp 8) rfl (by rfl) BZ rfl #[.int .u8 (t2 : Int), .int .u8 (P2 : Int), .int .u16 (i2 : Int), .int .u32 (S2 : Int), .int .u32 (D2 : Int), .slice a2 body.length c2] 27 HZ.out Try.underlying27 (by kernel_rfl) ?_; try simp only [Act.put, List.setIfInBounds_toArray, List.set_cons_zero, List.set_cons_succ]))
  refine (same4_any _ _ _ _ _ _ a1 a2 body _ c1 c2 RB1.out.row RB2.out.row rfl).mono ?_
  rintro e w9 ⟨rfl, b⟩
  replace HX := hide (below_block b HX.out (Nat.le_refl _))
  replace HF := hide (below_block b HF.out (Nat.le_refl _))
  replace HY := hide (below_block b HY.out (Nat.le_refl _))
  replace HQ := hide (below_block b HQ.out (Nat.le_refl _))
  replace HZ := hide (below_block b HZ.out (Nat.le_refl _))
  replace RP := hide (RP.out.below b (Nat.le_refl _))
  replace RK := hide (RK.out.below b (Nat.le_refl _))
  replace RB1 := hide (RB1.out.below b (Nat.le_refl _))
  replace RB2 := hide (RB2.out.below b (Nat.le_refl _))
  replace OK := hide (owns_below OK.out b (Nat.le_refl _))
  replace HB := hide (HB.out.trans (b.mono HB.out.size))
  clear b 
  go_wp2_with (first | (refine ld_whole (o := ⟨some 50, _, _, _, _, _⟩) 27 (.tmp 5) rfl (by rfl) BY rfl #[.int .u8 (tt : Int), .int .u8 (P : Int), .int .u16 (id : Int), .int .u32 (S : Int), .int .u32 (D : Int), .slice aK n cK] 27 HY.out Try.underlying27 (by kernel_rfl) ?_; try simp only [Act.put, List.setIfInBounds_toArray, List.set_cons_zero, List.set_cons_succ]) | (refine ld_whole (o := ⟨some 51, _, _, _, _, _⟩) 27 (.tmp 2) rfl (by rfl) BX rfl #[.int .u8 (tt : Int), .int .u8 (P : Int), .int .u16 (id : Int), .int .u32 (S : Int), .int .u32 (D : Int), .slice da n dc] 27 HX.out Try.underlying27 (by kernel_rfl) ?_; try simp only [Act.put, List.setIfInBounds_toArray, List.set_cons_zero, List.set_cons_succ]))
  refine (same4_any _ _ _ _ _ _ aK da xs _ cK dc RK.out.row RP.out.row HL.out).mono ?_
  rintro e w10 ⟨rfl, b⟩
  replace HX := hide (below_block b HX.out (Nat.le_refl _))
  replace HF := hide (below_block b HF.out (Nat.le_refl _))
  replace HY := hide (below_block b HY.out (Nat.le_refl _))
  replace HQ := hide (below_block b HQ.out (Nat.le_refl _))
  replace HZ := hide (below_block b HZ.out (Nat.le_refl _))
  replace RP := hide (RP.out.below b (Nat.le_refl _))
  replace RK := hide (RK.out.below b (Nat.le_refl _))
  replace RB1 := hide (RB1.out.below b (Nat.le_refl _))
  replace RB2 := hide (RB2.out.below b (Nat.le_refl _))
  replace OK := hide (owns_below OK.out b (Nat.le_refl _))
  replace HB := hide (HB.out.trans (b.mono HB.out.size))
  clear b 
  have hcc := HCC.out
  go_wp2_with fail
  go_ret
  exact ⟨rfl, HB.out⟩
set_option maxHeartbeats 4000000 in
theorem flowRewrites_ok (w : World) (tt P id S D : Nat) (da : Option Addr) (xs : List Int) (n dc : Nat) (fp fs fd ff ft : Nat) (hLx : Lies w da xs n dc) (hl : xs.length = n) (hb : ∀ x ∈ xs, 0 ≤ x ∧ x ≤ 255) (hS : S ≤ 4294967295) (hD : D ≤ 4294967295) (hn : ¬ 3000 < n) (t2 P2 i2 S2 D2 : Nat) (body : List Int) (code : Nat) (hans : RwAns tt P id S D xs t2 P2 i2 S2 D2 body code) (hboth : ∀ (w : World) (da : Option Addr) (dc : Nat), Lies w da xs n dc → RwP 11 w (.agg #[.int .u8 (tt : Int), .int .u8 (P : Int), .int .u16 (id : Int), .int .u32 (S : Int), .int .u32 (D : Int), .slice da n dc]) (.agg #[.int .u8 (fp : Int), .int .u32 (fs : Int), .int .u32 (fd : Int), .int .u16 (ff : Int), .int .u16 (ft : Int)]) t2 P2 i2 S2 D2 body code ∧ RwP 12 w (.agg #[.int .u8 (tt : Int), .int .u8 (P : Int), .int .u16 (id : Int), .int .u32 (S : Int), .int .u32 (D : Int), .slice da n dc]) (.agg #[.int .u8 (fp : Int), .int .u32 (fs : Int), .int .u32 (fd : Int), .int .u16 (ff : Int), .int .u16 (ft : Int)]) t2 P2 i2 S2 D2 body code) (hc : code = 0) :
    Calls Try.prog 3 #[.agg #[.int .u8 (tt : Int), .int .u8 (P : Int), .int .u16 (id : Int), .int .u32 (S : Int), .int .u32 (D : Int), .slice da n dc], .agg #[.int .u8 (fp : Int), .int .u32 (fs : Int), .int .u32 (fd : Int), .int .u16 (ff : Int), .int .u16 (ft : Int)]] w fun e w' => e = .returned (.bool true) ∧ Below w.heap.size w w' := by
  have hd3 : decide ((3000 : Int) < (n : Int)) = false := by simp; omega
  have HRP := hide (fun (W : World) (a : Option Addr) (c : Nat) (h : Lies W a xs n c) => (hboth W a c h).1)
  have HRD := hide (fun (W : World) (a : Option Addr) (c : Nat) (h : Lies W a xs n c) => (hboth W a c h).2)
  unfold RwP at HRP HRD
  have hcc : ((code : Int) != 0) = false := by simp; omega
  clear hboth
  obtain ⟨h1, h2, h3, h4, h5, h6, h7, h8, h9⟩ := hans.ok hc
  subst h1 h2 h3
  have HOF := hide (fun (W : World) (hL : Lies W da xs n dc) => rof_any W (t2 : Int) (i2 : Int) P2 S D da n dc xs hL hl hb hS hD)
  have HO2 := hide (fun (W : World) (a : Option Addr) (c : Nat) (hL : Lies W a body body.length c) => of_any W (t2 : Int) (i2 : Int) P2 S2 D2 a body.length c body hL rfl h7 h5 h6)
  rw [h4] at HOF
  rw [h8, h9] at HO2
  generalize ofKind P2 S D xs = kk at *
  generalize ofFl P2 S D xs = y at *
  generalize ofFl P2 S2 D2 body = z at *
  obtain ⟨op, os, od, of, ot⟩ := y
  obtain ⟨zp, zs, zd, zf, zt⟩ := z
  unfold Fl.v at HOF HO2
  dsimp only at HOF HO2
  clear h4 h5 h6 h7 h8 h9
  have HL := hide hl
  have HN := hide hn
  have HCC := hide hcc
  clear hl hb hn hcc hc hans hS hD
  obtain ⟨V1, hV1⟩ : ∃ V, w.alloc (.cells #[.int .u8 (t2 : Int), .int .u8 (P2 : Int), .int .u16 (i2 : Int), .int .u32 (S : Int), .int .u32 (D : Int), .slice da n dc] 27) = V := ⟨_, rfl⟩
  obtain ⟨V2, hV2⟩ : ∃ V, V1.alloc (.cells #[.int .u8 (fp : Int), .int .u32 (fs : Int), .int .u32 (fd : Int), .int .u16 (ff : Int), .int .u16 (ft : Int)] 29) = V := ⟨_, rfl⟩
  have hz1 : V1.heap.size = w.heap.size + 1 := by rw [← hV1]; simp
  have hz2 : V2.heap.size = w.heap.size + 1 + 1 := by rw [← hV2]; simp [hz1]
  have hb1 : Below w.heap.size w V1 := by rw [← hV1]; exact (Below.refl _ _).alloc (Nat.le_refl _) _
  have hc2 : Below V1.heap.size V1 V2 := by rw [← hV2]; exact (Below.refl _ _).alloc (Nat.le_refl _) _
  have hb2 := hb1.trans (hc2.mono hb1.size)
  have hp1_1 : V1.heap[w.heap.size]? = some (.cells #[.int .u8 (t2 : Int), .int .u8 (P2 : Int), .int .u16 (i2 : Int), .int .u32 (S : Int), .int .u32 (D : Int), .slice da n dc] 27 (0, 0)) := by rw [← hV1]; exact heap_alloc_new _ _
  have hp1_2 := below_block hc2 hp1_1 (Nat.le_refl _)
  have hp2_2 : V2.heap[w.heap.size + 1]? = some (.cells #[.int .u8 (fp : Int), .int .u32 (fs : Int), .int .u32 (fd : Int), .int .u16 (ff : Int), .int .u16 (ft : Int)] 29 (0, 0)) := by rw [← hV2, ← hz1]; exact heap_alloc_new _ _
  obtain ⟨BX, hBX⟩ : ∃ B, w.heap.size = B := ⟨_, rfl⟩
  obtain ⟨BF, hBF⟩ : ∃ B, w.heap.size + 1 = B := ⟨_, rfl⟩
  have hw0 : w.heap.size ≤ BX ∧ w.heap.size ≤ BF := by omega
  have HX := hide (show V2.heap[BX]? = some (.cells #[.int .u8 (t2 : Int), .int .u8 (P2 : Int), .int .u16 (i2 : Int), .int .u32 (S : Int), .int .u32 (D : Int), .slice da n dc] 27 (0, 0)) by rw [← hBX]; exact hp1_2)
  have NX : Hid (w.heap.size ≤ BX) := hide hw0.1
  have HF := hide (show V2.heap[BF]? = some (.cells #[.int .u8 (fp : Int), .int .u32 (fs : Int), .int .u32 (fd : Int), .int .u16 (ff : Int), .int .u16 (ft : Int)] 29 (0, 0)) by rw [← hBF]; exact hp2_2)
  have NF : Hid (w.heap.size ≤ BF) := hide hw0.2
  have nqX_F : Hid (BX ≠ BF) := hide (by omega)
  have AP := hide hLx
  have RP := hide (hLx.below hb2 (Nat.le_refl _))
  have HB := hide hb2
  have HE := hide (And.intro (And.intro trivial trivial) (And.intro hV1 ( And.intro hV2 (And.intro hBX ( And.intro hBF (trivial))))))
  clear hw0 hV1 hz1 hb1 hV2 hz2 hb2 hc2 hp1_1 hp1_2 hp2_2 hBX hBF hLx
  go_enter Try.func3, Try.ntmps3
  go_upto_region 1 with (fail)
  rw [HE.out.2.1]
  try rw [HE.out.2.2.1]
  try rw [HE.out.2.2.2.2.1]
  try rw [HE.out.2.2.2.1]
  clear HE
  go_wp2_with fail
  refine (speaks_any _).mono ?_
  rintro e w1 ⟨rfl, b⟩
  replace HX := hide (below_block b HX.out (Nat.le_refl _))
  replace HF := hide (below_block b HF.out (Nat.le_refl _))
  replace RP := hide (RP.out.below b (Nat.le_refl _))
  replace HB := hide (HB.out.trans (b.mono HB.out.size))
  clear b 
  have qX_5 : w1.cell? ⟨BX, 5, none⟩ = some (.slice da n dc) := cell_at HX.out 5 rfl
  go_upto_region 5 with (fail)
  clear qX_5
  obtain ⟨w2, hwn, wb, HN1⟩ : ∃ W, w1.alloc (.cells #[.int .u8 (t2 : Int), .int .u8 (P2 : Int), .int .u16 (i2 : Int), .int .u32 (S : Int), .int .u32 (D : Int), .slice da n dc] 27) = W ∧ Below w1.heap.size w1 W ∧ Hid (W.heap[w1.heap.size]? = some (.cells #[.int .u8 (t2 : Int), .int .u8 (P2 : Int), .int .u16 (i2 : Int), .int .u32 (S : Int), .int .u32 (D : Int), .slice da n dc] 27 (0, 0))) := ⟨_, rfl, (Below.refl w1.heap.size w1).alloc (Nat.le_refl _) _, hide (heap_alloc_new w1 _)⟩
  obtain ⟨BY, hBn⟩ : ∃ B, w1.heap.size = B := ⟨_, rfl⟩
  rw [hBn] at HN1
  have HW := hide (And.intro hwn hBn)
  have HBo := HB
  have nqX_Y := hide (blk_ne HX.out hBn)
  have nqF_Y := hide (blk_ne HF.out hBn)
  clear hwn hBn
  have EX := HX
  have EF := HF
  replace HX := hide (below_block wb HX.out (Nat.le_refl _))
  replace HF := hide (below_block wb HF.out (Nat.le_refl _))
  replace RP := hide (RP.out.below wb (Nat.le_refl _))
  replace HB := hide (HB.out.trans (wb.mono HB.out.size))
  have HY := HN1
  have NY := hide (show w.heap.size ≤ BY by rw [← HW.out.2]; exact HBo.out.size)
  clear wb HN1 HBo
  go_upto_region 6 with ((refine ld_whole (o := ⟨some 22, _, _, _, _, _⟩) 27 (.tmp 2) rfl (by rfl) BX rfl #[.int .u8 (t2 : Int), .int .u8 (P2 : Int), .int .u16 (i2 : Int), .int .u32 (S : Int), .int .u32 (D : Int), .slice da n dc] 27 EX.out Try.underlying27 (by kernel_rfl) ?_; try simp only [Act.put, List.setIfInBounds_toArray, List.set_cons_zero, List.set_cons_succ]))
  rw [HW.out.1]
  try rw [HW.out.2]
  clear HW
  clear EX EF
  obtain ⟨vq, v3, hrun, oq, bq, _⟩ := app_own2 (w2.alloc (.cells #[] 5)) w2.heap.size (.slice (some ⟨w2.heap.size, 0, none⟩) 0 0) 0 [] (World.ownsRow_lit w2 #[] 0 (Nat.le_refl _) (by unfold maxLen; omega) rfl) da (xs) (n) dc (RP.out.row.below ((Below.refl w2.heap.size w2).alloc (Nat.le_refl _) _) (Nat.le_refl _)) HL.out RP.out.no (by have := HN.out; omega) (by simp)
  rw [show 0 + (n) = n by omega, List.nil_append] at oq
  obtain ⟨aK, cK, rfl⟩ := slice_form oq
  have HRUN := hide hrun
  have bz := ((Below.refl w2.heap.size w2).alloc (Nat.le_refl _) (.cells #[] 5)).trans bq
  have neK_X := hide (own_ne_lt oq (lt_of_block HX.out))
  have neK_F := hide (own_ne_lt oq (lt_of_block HF.out))
  have neK_Y := hide (own_ne_lt oq (lt_of_block HY.out))
  have lbK := hide HB.out.size
  have Hm := below_block bz HY.out (Nat.le_refl _)
  have HBm := HB.out.trans (bz.mono HB.out.size)
  have fz := free_at Hm 5
  have qz : v3.cell? ⟨BY, 5, none⟩ = some (.slice da n dc) := cell_at Hm 5 rfl
  obtain ⟨w4, hVn, hVH, hVB, hVo, hVs⟩ := set1 (i := 5) (.slice aK n cK) (c' := #[.int .u8 (t2 : Int), .int .u8 (P2 : Int), .int .u16 (i2 : Int), .int .u32 (S : Int), .int .u32 (D : Int), .slice aK n cK]) Hm HBm NY.out (by kernel_rfl)
  have HVn := hide hVn
  clear hVn
  have HG := hide (gb_part HBm hVB hVo hVs)
  have HXn := hide ((hVo _ nqX_Y.out).trans (below_block bz HX.out (Nat.le_refl _)))
  have HFn := hide ((hVo _ nqF_Y.out).trans (below_block bz HF.out (Nat.le_refl _)))
  have HYn := hide hVH
  have RPn := hide (AP.out.below hVB (Nat.le_refl _))
  have OK := hide (owns_kept oq HG.out neK_Y.out)
  have RK := hide (Lies.of_owns OK.out)
  have HBn := hide hVB
  clear hVH hVB hVo hVs HG hrun oq bq bz Hm HBm
  have qP_ : w2.cell? ⟨BX, 5, none⟩ = some (.slice da (n) dc) := cell_at HX.out 5 rfl
  have qe_ : (w2.alloc (.cells #[] 5)).cell? ⟨BX, 5, none⟩ = some (.slice da (n) dc) := cell_at (below_block ((Below.refl w2.heap.size w2).alloc (Nat.le_refl _) (.cells #[] 5)) HX.out (Nat.le_refl _)) 5 rfl
  go_upto_region 7 with ((at_builtin; refine Lib.wpList_append_run _ rfl _ _ _ _ rfl _ _ rfl rfl _ _ HRUN.out ?_))
  rw [HVn.out]
  clear HVn fz qz qP_ qe_ HRUN
  replace HX := HXn
  clear HXn
  replace HF := HFn
  clear HFn
  replace HY := HYn
  clear HYn
  replace RP := RPn
  clear RPn
  replace HB := HBn
  clear HBn
  go_wp2_with (first | (refine ld_whole (o := ⟨some 29, _, _, _, _, _⟩) 27 (.tmp 5) rfl (by rfl) BY rfl #[.int .u8 (t2 : Int), .int .u8 (P2 : Int), .int .u16 (i2 : Int), .int .u32 (S : Int), .int .u32 (D : Int), .slice aK n cK] 27 HY.out Try.underlying27 (by kernel_rfl) ?_; try simp only [Act.put, List.setIfInBounds_toArray, List.set_cons_zero, List.set_cons_succ]) | (refine ld_whole (o := ⟨some 30, _, _, _, _, _⟩) 29 (.tmp 3) rfl (by rfl) BF rfl #[.int .u8 (fp : Int), .int .u32 (fs : Int), .int .u32 (fd : Int), .int .u16 (ff : Int), .int .u16 (ft : Int)] 29 HF.out Try.underlying29 (by kernel_rfl) ?_; try simp only [Act.put, List.setIfInBounds_toArray, List.set_cons_zero, List.set_cons_succ]))
  refine (HRP.out _ aK cK RK.out).mono ?_
  rintro e w5 ⟨a1, c1, rfl, l1, b⟩
  replace HX := hide (below_block b HX.out (Nat.le_refl _))
  replace HF := hide (below_block b HF.out (Nat.le_refl _))
  replace HY := hide (below_block b HY.out (Nat.le_refl _))
  replace RP := hide (RP.out.below b (Nat.le_refl _))
  replace RK := hide (RK.out.below b (Nat.le_refl _))
  replace OK := hide (owns_below OK.out b (Nat.le_refl _))
  replace HB := hide (HB.out.trans (b.mono HB.out.size))
  have RB1 := hide (l1)
  clear b l1
  obtain ⟨w6, hwn, wb, HN1⟩ : ∃ W, w5.alloc (.cells #[.int .u8 (t2 : Int), .int .u8 (P2 : Int), .int .u16 (i2 : Int), .int .u32 (S2 : Int), .int .u32 (D2 : Int), .slice a1 body.length c1] 27) = W ∧ Below w5.heap.size w5 W ∧ Hid (W.heap[w5.heap.size]? = some (.cells #[.int .u8 (t2 : Int), .int .u8 (P2 : Int), .int .u16 (i2 : Int), .int .u32 (S2 : Int), .int .u32 (D2 : Int), .slice a1 body.length c1] 27 (0, 0))) := ⟨_, rfl, (Below.refl w5.heap.size w5).alloc (Nat.le_refl _) _, hide (heap_alloc_new w5 _)⟩
  obtain ⟨BQ, hBn⟩ : ∃ B, w5.heap.size = B := ⟨_, rfl⟩
  rw [hBn] at HN1
  have HW := hide (And.intro hwn hBn)
  have HBo := HB
  have neK_Q := hide (own_ne (L := BQ) OK.out (Nat.le_of_eq hBn))
  have nqX_Q := hide (blk_ne HX.out hBn)
  have nqF_Q := hide (blk_ne HF.out hBn)
  have nqY_Q := hide (blk_ne HY.out hBn)
  clear hwn hBn
  replace HX := hide (below_block wb HX.out (Nat.le_refl _))
  replace HF := hide (below_block wb HF.out (Nat.le_refl _))
  replace HY := hide (below_block wb HY.out (Nat.le_refl _))
  replace RP := hide (RP.out.below wb (Nat.le_refl _))
  replace RK := hide (RK.out.below wb (Nat.le_refl _))
  replace RB1 := hide (RB1.out.below wb (Nat.le_refl _))
  replace OK := hide (owns_below OK.out wb (Nat.le_refl _))
  replace HB := hide (HB.out.trans (wb.mono HB.out.size))
  have HQ := HN1
  have NQ := hide (show w.heap.size ≤ BQ by rw [← HW.out.2]; exact HBo.out.size)
  clear wb HN1 HBo
  go_upto_region 8 with (fail)
  rw [HW.out.1]
  try rw [HW.out.2]
  clear HW
  go_wp2_with (first | (refine ld_whole (o := ⟨some 35, _, _, _, _, _⟩) 27 (.tmp 2) rfl (by rfl) BX rfl #[.int .u8 (t2 : Int), .int .u8 (P2 : Int), .int .u16 (i2 : Int), .int .u32 (S : Int), .int .u32 (D : Int), .slice da n dc] 27 HX.out Try.underlying27 (by kernel_rfl) ?_; try simp only [Act.put, List.setIfInBounds_toArray, List.set_cons_zero, List.set_cons_succ]) | (refine ld_whole (o := ⟨some 36, _, _, _, _, _⟩) 29 (.tmp 3) rfl (by rfl) BF rfl #[.int .u8 (fp : Int), .int .u32 (fs : Int), .int .u32 (fd : Int), .int .u16 (ff : Int), .int .u16 (ft : Int)] 29 HF.out Try.underlying29 (by kernel_rfl) ?_; try simp only [Act.put, List.setIfInBounds_toArray, List.set_cons_zero, List.set_cons_succ]))
  refine (HRD.out _ da dc RP.out).mono ?_
  rintro e w7 ⟨a2, c2, rfl, l2, b⟩
  replace HX := hide (below_block b HX.out (Nat.le_refl _))
  replace HF := hide (below_block b HF.out (Nat.le_refl _))
  replace HY := hide (below_block b HY.out (Nat.le_refl _))
  replace HQ := hide (below_block b HQ.out (Nat.le_refl _))
  replace RP := hide (RP.out.below b (Nat.le_refl _))
  replace RK := hide (RK.out.below b (Nat.le_refl _))
  replace RB1 := hide (RB1.out.below b (Nat.le_refl _))
  replace OK := hide (owns_below OK.out b (Nat.le_refl _))
  replace HB := hide (HB.out.trans (b.mono HB.out.size))
  have RB2 := hide (l2)
  clear b l2
  obtain ⟨w8, hwn, wb, HN1⟩ : ∃ W, w7.alloc (.cells #[.int .u8 (t2 : Int), .int .u8 (P2 : Int), .int .u16 (i2 : Int), .int .u32 (S2 : Int), .int .u32 (D2 : Int), .slice a2 body.length c2] 27) = W ∧ Below w7.heap.size w7 W ∧ Hid (W.heap[w7.heap.size]? = some (.cells #[.int .u8 (t2 : Int), .int .u8 (P2 : Int), .int .u16 (i2 : Int), .int .u32 (S2 : Int), .int .u32 (D2 : Int), .slice a2 body.length c2] 27 (0, 0))) := ⟨_, rfl, (Below.refl w7.heap.size w7).alloc (Nat.le_refl _) _, hide (heap_alloc_new w7 _)⟩
  obtain ⟨BZ, hBn⟩ : ∃ B, w7.heap.size = B := ⟨_, rfl⟩
  rw [hBn] at HN1
  have HW := hide (And.intro hwn hBn)
  have HBo := HB
  have neK_Z := hide (own_ne (L := BZ) OK.out (Nat.le_of_eq hBn))
  have nqX_Z := hide (blk_ne HX.out hBn)
  have nqF_Z := hide (blk_ne HF.out hBn)
  have nqY_Z := hide (blk_ne HY.out hBn)
  have nqQ_Z := hide (blk_ne HQ.out hBn)
  clear hwn hBn
  replace HX := hide (below_block wb HX.out (Nat.le_refl _))
  replace HF := hide (below_block wb HF.out (Nat.le_refl _))
  replace HY := hide (below_block wb HY.out (Nat.le_refl _))
  replace HQ := hide (below_block wb HQ.out (Nat.le_refl _))
  replace RP := hide (RP.out.below wb (Nat.le_refl _))
  replace RK := hide (RK.out.below wb (Nat.le_refl _))
  replace RB1 := hide (RB1.out.below wb (Nat.le_refl _))
  replace RB2 := hide (RB2.out.below wb (Nat.le_refl _))
  replace OK := hide (owns_below OK.out wb (Nat.le_refl _))
  replace HB := hide (HB.out.trans (wb.mono HB.out.size))
  have HZ := HN1
  have NZ := hide (show w.heap.size ≤ BZ by rw [← HW.out.2]; exact HBo.out.size)
  clear wb HN1 HBo
  go_upto_region 9 with (fail)
  rw [HW.out.1]
  try rw [HW.out.2]
  clear HW
  go_wp2_with (first | (refine ld_whole (o := ⟨some 44, _, _, _, _, _⟩) 27 (.tmp 6) rfl (by rfl) BQ rfl #[.int .u8 (t2 : Int), .int .u8 (P2 : Int), .int .u16 (i2 : Int), .int .u32 (S2 : Int), .int .u32 (D2 : Int), .slice a1 body.length c1] 27 HQ.out Try.underlying27 (by kernel_rfl) ?_; try simp only [Act.put, List.setIfInBounds_toArray, List.set_cons_zero, List.set_cons_succ]) | (refine ld_whole (o := ⟨some 45, _, _, _, _, _⟩) 27 (.tmp 8) rfl (by rfl) BZ rfl #[.int .u8 (t2 : Int), .int .u8 (P2 : Int), .int .u16 (i2 : Int), .int .u32 (S2 : Int), .int .u32 (D2 : Int), .slice a2 body.length c2] 27 HZ.out Try.underlying27 (by kernel_rfl) ?_; try simp only [Act.put, List.setIfInBounds_toArray, List.set_cons_zero, List.set_cons_succ]))
  refine (same4_any _ _ _ _ _ _ a1 a2 body _ c1 c2 RB1.out.row RB2.out.row rfl).mono ?_
  rintro e w9 ⟨rfl, b⟩
  replace HX := hide (below_block b HX.out (Nat.le_refl _))
  replace HF := hide (below_block b HF.out (Nat.le_refl _))
  replace HY := hide (below_block b HY.out (Nat.le_refl _))
  replace HQ := hide (below_block b HQ.out (Nat.le_refl _))
  replace HZ := hide (below_block b HZ.out (Nat.le_refl _))
  replace RP := hide (RP.out.below b (Nat.le_refl _))
  replace RK := hide (RK.out.below b (Nat.le_refl _))
  replace RB1 := hide (RB1.out.below b (Nat.le_refl _))
  replace RB2 := hide (RB2.out.below b (Nat.le_refl _))
  replace OK := hide (owns_below OK.out b (Nat.le_refl _))
  replace HB := hide (HB.out.trans (b.mono HB.out.size))
  clear b 
  go_wp2_with (first | (refine ld_whole (o := ⟨some 50, _, _, _, _, _⟩) 27 (.tmp 5) rfl (by rfl) BY rfl #[.int .u8 (t2 : Int), .int .u8 (P2 : Int), .int .u16 (i2 : Int), .int .u32 (S : Int), .int .u32 (D : Int), .slice aK n cK] 27 HY.out Try.underlying27 (by kernel_rfl) ?_; try simp only [Act.put, List.setIfInBounds_toArray, List.set_cons_zero, List.set_cons_succ]) | (refine ld_whole (o := ⟨some 51, _, _, _, _, _⟩) 27 (.tmp 2) rfl (by rfl) BX rfl #[.int .u8 (t2 : Int), .int .u8 (P2 : Int), .int .u16 (i2 : Int), .int .u32 (S : Int), .int .u32 (D : Int), .slice da n dc] 27 HX.out Try.underlying27 (by kernel_rfl) ?_; try simp only [Act.put, List.setIfInBounds_toArray, List.set_cons_zero, List.set_cons_succ]))
  refine (same4_any _ _ _ _ _ _ aK da xs _ cK dc RK.out.row RP.out.row HL.out).mono ?_
  rintro e w10 ⟨rfl, b⟩
  replace HX := hide (below_block b HX.out (Nat.le_refl _))
  replace HF := hide (below_block b HF.out (Nat.le_refl _))
  replace HY := hide (below_block b HY.out (Nat.le_refl _))
  replace HQ := hide (below_block b HQ.out (Nat.le_refl _))
  replace HZ := hide (below_block b HZ.out (Nat.le_refl _))
  replace RP := hide (RP.out.below b (Nat.le_refl _))
  replace RK := hide (RK.out.below b (Nat.le_refl _))
  replace RB1 := hide (RB1.out.below b (Nat.le_refl _))
  replace RB2 := hide (RB2.out.below b (Nat.le_refl _))
  replace OK := hide (owns_below OK.out b (Nat.le_refl _))
  replace HB := hide (HB.out.trans (b.mono HB.out.size))
  clear b 
  have hcc := HCC.out
  go_upto_region 13 with (fail)
  clear hcc
  go_wp2_with ((refine ld_whole (o := ⟨some 58, _, _, _, _, _⟩) 27 (.tmp 2) rfl (by rfl) BX rfl #[.int .u8 (t2 : Int), .int .u8 (P2 : Int), .int .u16 (i2 : Int), .int .u32 (S : Int), .int .u32 (D : Int), .slice da n dc] 27 HX.out Try.underlying27 (by kernel_rfl) ?_; try simp only [Act.put, List.setIfInBounds_toArray, List.set_cons_zero, List.set_cons_succ]))
  refine (HOF.out _ RP.out).mono ?_
  rintro e w11 ⟨rfl, b⟩
  replace HX := hide (below_block b HX.out (Nat.le_refl _))
  replace HF := hide (below_block b HF.out (Nat.le_refl _))
  replace HY := hide (below_block b HY.out (Nat.le_refl _))
  replace HQ := hide (below_block b HQ.out (Nat.le_refl _))
  replace HZ := hide (below_block b HZ.out (Nat.le_refl _))
  replace RP := hide (RP.out.below b (Nat.le_refl _))
  replace RK := hide (RK.out.below b (Nat.le_refl _))
  replace RB1 := hide (RB1.out.below b (Nat.le_refl _))
  replace RB2 := hide (RB2.out.below b (Nat.le_refl _))
  replace OK := hide (owns_below OK.out b (Nat.le_refl _))
  replace HB := hide (HB.out.trans (b.mono HB.out.size))
  clear b 
  obtain ⟨w12, hwn, wb, HN1⟩ : ∃ W, w11.alloc (.cells #[.int .u8 (op : Int), .int .u32 (os : Int), .int .u32 (od : Int), .int .u16 (of : Int), .int .u16 (ot : Int)] 29) = W ∧ Below w11.heap.size w11 W ∧ Hid (W.heap[w11.heap.size]? = some (.cells #[.int .u8 (op : Int), .int .u32 (os : Int), .int .u32 (od : Int), .int .u16 (of : Int), .int .u16 (ot : Int)] 29 (0, 0))) := ⟨_, rfl, (Below.refl w11.heap.size w11).alloc (Nat.le_refl _) _, hide (heap_alloc_new w11 _)⟩
  obtain ⟨BO, hBn⟩ : ∃ B, w11.heap.size = B := ⟨_, rfl⟩
  rw [hBn] at HN1
  have HW := hide (And.intro hwn hBn)
  have HBo := HB
  have neK_O := hide (own_ne (L := BO) OK.out (Nat.le_of_eq hBn))
  have nqX_O := hide (blk_ne HX.out hBn)
  have nqF_O := hide (blk_ne HF.out hBn)
  have nqY_O := hide (blk_ne HY.out hBn)
  have nqQ_O := hide (blk_ne HQ.out hBn)
  have nqZ_O := hide (blk_ne HZ.out hBn)
  clear hwn hBn
  replace HX := hide (below_block wb HX.out (Nat.le_refl _))
  replace HF := hide (below_block wb HF.out (Nat.le_refl _))
  replace HY := hide (below_block wb HY.out (Nat.le_refl _))
  replace HQ := hide (below_block wb HQ.out (Nat.le_refl _))
  replace HZ := hide (below_block wb HZ.out (Nat.le_refl _))
  replace RP := hide (RP.out.below wb (Nat.le_refl _))
  replace RK := hide (RK.out.below wb (Nat.le_refl _))
  replace RB1 := hide (RB1.out.below wb (Nat.le_refl _))
  replace RB2 := hide (RB2.out.below wb (Nat.le_refl _))
  replace OK := hide (owns_below OK.out wb (Nat.le_refl _))
  replace HB := hide (HB.out.trans (wb.mono HB.out.size))
  have HO := HN1
  have NO := hide (show w.heap.size ≤ BO by rw [← HW.out.2]; exact HBo.out.size)
  clear wb HN1 HBo
  go_upto_region 14 with (fail)
  rw [HW.out.1]
  try rw [HW.out.2]
  clear HW
  go_wp2_with ((refine ld_whole (o := ⟨some 64, _, _, _, _, _⟩) 27 (.tmp 6) rfl (by rfl) BQ rfl #[.int .u8 (t2 : Int), .int .u8 (P2 : Int), .int .u16 (i2 : Int), .int .u32 (S2 : Int), .int .u32 (D2 : Int), .slice a1 body.length c1] 27 HQ.out Try.underlying27 (by kernel_rfl) ?_; try simp only [Act.put, List.setIfInBounds_toArray, List.set_cons_zero, List.set_cons_succ]))
  refine (HO2.out _ a1 c1 RB1.out).mono ?_
  rintro e w13 ⟨rfl, b⟩
  replace HX := hide (below_block b HX.out (Nat.le_refl _))
  replace HF := hide (below_block b HF.out (Nat.le_refl _))
  replace HY := hide (below_block b HY.out (Nat.le_refl _))
  replace HQ := hide (below_block b HQ.out (Nat.le_refl _))
  replace HZ := hide (below_block b HZ.out (Nat.le_refl _))
  replace HO := hide (below_block b HO.out (Nat.le_refl _))
  replace RP := hide (RP.out.below b (Nat.le_refl _))
  replace RK := hide (RK.out.below b (Nat.le_refl _))
  replace RB1 := hide (RB1.out.below b (Nat.le_refl _))
  replace RB2 := hide (RB2.out.below b (Nat.le_refl _))
  replace OK := hide (owns_below OK.out b (Nat.le_refl _))
  replace HB := hide (HB.out.trans (b.mono HB.out.size))
  clear b 
  obtain ⟨w14, hwn, wb, HN1⟩ : ∃ W, w13.alloc (.cells #[.int .u8 (zp : Int), .int .u32 (zs : Int), .int .u32 (zd : Int), .int .u16 (zf : Int), .int .u16 (zt : Int)] 29) = W ∧ Below w13.heap.size w13 W ∧ Hid (W.heap[w13.heap.size]? = some (.cells #[.int .u8 (zp : Int), .int .u32 (zs : Int), .int .u32 (zd : Int), .int .u16 (zf : Int), .int .u16 (zt : Int)] 29 (0, 0))) := ⟨_, rfl, (Below.refl w13.heap.size w13).alloc (Nat.le_refl _) _, hide (heap_alloc_new w13 _)⟩
  obtain ⟨BN, hBn⟩ : ∃ B, w13.heap.size = B := ⟨_, rfl⟩
  rw [hBn] at HN1
  have HW := hide (And.intro hwn hBn)
  have HBo := HB
  have neK_N := hide (own_ne (L := BN) OK.out (Nat.le_of_eq hBn))
  have nqX_N := hide (blk_ne HX.out hBn)
  have nqF_N := hide (blk_ne HF.out hBn)
  have nqY_N := hide (blk_ne HY.out hBn)
  have nqQ_N := hide (blk_ne HQ.out hBn)
  have nqZ_N := hide (blk_ne HZ.out hBn)
  have nqO_N := hide (blk_ne HO.out hBn)
  clear hwn hBn
  replace HX := hide (below_block wb HX.out (Nat.le_refl _))
  replace HF := hide (below_block wb HF.out (Nat.le_refl _))
  replace HY := hide (below_block wb HY.out (Nat.le_refl _))
  replace HQ := hide (below_block wb HQ.out (Nat.le_refl _))
  replace HZ := hide (below_block wb HZ.out (Nat.le_refl _))
  replace HO := hide (below_block wb HO.out (Nat.le_refl _))
  replace RP := hide (RP.out.below wb (Nat.le_refl _))
  replace RK := hide (RK.out.below wb (Nat.le_refl _))
  replace RB1 := hide (RB1.out.below wb (Nat.le_refl _))
  replace RB2 := hide (RB2.out.below wb (Nat.le_refl _))
  replace OK := hide (owns_below OK.out wb (Nat.le_refl _))
  replace HB := hide (HB.out.trans (wb.mono HB.out.size))
  have HN := HN1
  have NN := hide (show w.heap.size ≤ BN by rw [← HW.out.2]; exact HBo.out.size)
  clear wb HN1 HBo
  go_upto_region 15 with (fail)
  rw [HW.out.1]
  try rw [HW.out.2]
  clear HW
  have qQ_0 : w14.cell? ⟨BQ, 0, none⟩ = some (.int .u8 (t2 : Int)) := cell_at HQ.out 0 rfl
  have qX_0 : w14.cell? ⟨BX, 0, none⟩ = some (.int .u8 (t2 : Int)) := cell_at HX.out 0 rfl
  have qQ_2 : w14.cell? ⟨BQ, 2, none⟩ = some (.int .u16 (i2 : Int)) := cell_at HQ.out 2 rfl
  have qX_2 : w14.cell? ⟨BX, 2, none⟩ = some (.int .u16 (i2 : Int)) := cell_at HX.out 2 rfl
  go_wp2_with fail
  go_ret
  exact ⟨rfl, HB.out⟩
theorem flowRewrites_any (w : World) (tt P id S D : Nat) (da : Option Addr) (xs : List Int) (n dc : Nat) (fp fs fd ff ft : Nat) (hLx : Lies w da xs n dc) (hl : xs.length = n) (hb : ∀ x ∈ xs, 0 ≤ x ∧ x ≤ 255) (hS : S ≤ 4294967295) (hD : D ≤ 4294967295) (hfp : fp ≤ 255) (hfs : fs ≤ 4294967295) (hfd : fd ≤ 4294967295) (hff : ff ≤ 65535) (hft : ft ≤ 65535) :
    Calls Try.prog 3 #[.agg #[.int .u8 (tt : Int), .int .u8 (P : Int), .int .u16 (id : Int), .int .u32 (S : Int), .int .u32 (D : Int), .slice da n dc], .agg #[.int .u8 (fp : Int), .int .u32 (fs : Int), .int .u32 (fd : Int), .int .u16 (ff : Int), .int .u16 (ft : Int)]] w fun e w' => e = .returned (.bool true) ∧ Below w.heap.size w w' := by
  by_cases h : 3000 < n
  · exact flowRewrites_long w tt P id S D da xs n dc fp fs fd ff ft h
  obtain ⟨t2, P2, i2, S2, D2, body, code, hans, hboth⟩ := rw_both tt P id S D xs n fp fs fd ff ft hl hb hS hD hfp hfs hfd hff hft
  by_cases hc : code = 0
  · exact flowRewrites_ok w tt P id S D da xs n dc fp fs fd ff ft hLx hl hb hS hD h t2 P2 i2 S2 D2 body code hans hboth hc
  · exact flowRewrites_no w tt P id S D da xs n dc fp fs fd ff ft hLx hl hb hS hD h t2 P2 i2 S2 D2 body code hans hboth hc
end Go.Proofs.Ytgggcapgaikbeaa

/- What the walks are told of a slice of integers that came in, as the readings of this seat say it. -/
namespace Go.Proofs.Ytgggcapgaikbeaa
open Go.ChangeShapes Go.WideShapes Go.ChangeAt Go.RowKit

/-- A slice of integers that came in: it is nil; or it leads to a row of 'cap' cells, the numbers 'zs' (the first 'len' are its elements, the rest its spare room), each fitting its kind. -/
def IsRow (k : IntKind) (w : World) (a : Option Addr) (len cap : Nat) (zs : List Int) : Prop :=
  (a = none ∧ len = 0 ∧ cap = 0 ∧ zs = []) ∨
  ∃ x, a = some x ∧ len ≤ cap ∧ cap ≤ maxLen ∧ zs.length = cap ∧ (∀ i, i < zs.length → w.cell? (x.add i) = some (.int k (zs.getD i 0))) ∧ ∀ n ∈ zs, (Lit.int k n).wf = true

theorem IsRow.row {k : IntKind} {w : World} {a : Option Addr} {len cap : Nat} {zs : List Int} (h : IsRow k w a len cap zs) :
    ∃ xs, xs.length = len ∧ Row k w a xs ∧ ∀ n ∈ xs, (Lit.int k n).wf = true := by
  rcases h with ⟨rfl, rfl, rfl, rfl⟩ | ⟨x, rfl, h1, h2, h3, h4, h5⟩
  · exact ⟨[], rfl, fun h => absurd rfl h, by simp⟩
  · have hl : (zs.take len).length = len := by rw [List.length_take]; omega
    refine ⟨zs.take len, hl, ?_, fun n hn => h5 n (List.mem_of_mem_take hn)⟩
    intro hne
    have hp : 0 < len := by
      rcases Nat.eq_zero_or_pos len with h | h
      · subst h; simp at hne
      · exact h
    obtain ⟨b, off, rfl, hc⟩ := ints_at h4 (by omega)
    refine ⟨b, off, rfl, World.block_lt_of_cell? w ⟨b, off + 0, none⟩ (hc 0 (by omega)), fun i hi => ?_⟩
    rw [hc i (by omega), List.getElem?_take_of_lt (by omega), List.getD_eq_getElem?_getD]

theorem IsRow.row2 {k : IntKind} {w : World} {a : Option Addr} {len cap : Nat} {zs : List Int} (h : IsRow k w a len cap zs) : (a = none → cap = 0) ∧ len < 9223372036854775808 := by
  rcases h with ⟨rfl, rfl, rfl, rfl⟩ | ⟨x, rfl, h1, h2, h3, h4, h5⟩
  · exact ⟨fun _ => rfl, by omega⟩
  · exact ⟨fun h => (by cases h), by unfold maxLen at h2; omega⟩

theorem wf_u8 {xs : List Int} (h : ∀ n ∈ xs, (Lit.int .u8 n).wf = true) : ∀ x ∈ xs, 0 ≤ x ∧ x ≤ 255 := fun x hx => bounds_u8 (h x hx)
end Go.Proofs.Ytgggcapgaikbeaa

/- Flows and packets that came in, as the readings of this seat say them. -/
namespace Go.Proofs.Ytgggcapgaikbeaa
open Go.ChangeShapes Go.WideShapes Go.ChangeAt Go.RowKit
set_option linter.unusedVariables false
set_option maxRecDepth 100000
section
variable {H : Type} {enc : TypeId × Value → H} {W : World} {base : Nat} {spare : Nat → Bool} {held : Bool}
theorem open_row {fuel : Nat} {c : Value} {x : DataW H × List MemPlace} (h : DataW.trod enc Try.prog W base (fun _ => true) held fuel 25 [c] = some x) :
    ∃ a len cap zs, c = .slice a len cap ∧ IsRow .u8 W a len cap zs := by
  rcases open_ints Try.underlying25 Try.underlying5 (by kernel_rfl) h with ⟨hcs, _⟩ | ⟨x, l, c, zs, hcs, _, hl, hm, hz, _, hcell, hwz⟩
  · simp at hcs
    exact ⟨none, 0, 0, [], hcs, .inl ⟨rfl, rfl, rfl, rfl⟩⟩
  · simp at hcs
    exact ⟨_, _, _, zs, hcs, .inr ⟨_, rfl, hl, hm, by simpa using hz, hcell, hwz⟩⟩
theorem open_flow {r : Reach} {b0 : Nat} {v : Value} {dd : DataW H} {p : List MemPlace} (hv : Value.okWide Try.prog W r b0 29 v) (h : DataW.Trod enc Try.prog W base (fun _ => true) held 29 v dd p) :
    ∃ (x0 : Nat) (x1 : Nat) (x2 : Nat) (x3 : Nat) (x4 : Nat), v = .agg #[.int .u8 (x0 : Int), .int .u32 (x1 : Int), .int .u32 (x2 : Int), .int .u16 (x3 : Int), .int .u16 (x4 : Int)] ∧ x0 ≤ 255 ∧ x1 ≤ 4294967295 ∧ x2 ≤ 4294967295 ∧ x3 ≤ 65535 ∧ x4 ≤ 65535 := by
  obtain ⟨cs, rfl, hsz⟩ := okWide_struct Try.underlying29 hv
  have hC : Try.prog.cellsOf 29 = 5 := by kernel_rfl
  obtain ⟨l⟩ := cs
  have hl : l.length = 5 := by simpa [hC] using hsz
  obtain ⟨fuel, hf⟩ := h
  obtain ⟨xs, n, _, hx, _, hlen, hg⟩ := DataW.trod_struct Try.underlying29 hf
  match l, hl with
  | [c0, c1, c2, c3, c4], _ =>
    match xs, hlen with
    | [y0, y1, y2, y3, y4], _ =>
      have g0 := hg 0 _ rfl
      have g1 := hg 1 _ rfl
      have g2 := hg 2 _ rfl
      have g3 := hg 3 _ rfl
      have g4 := hg 4 _ rfl
      simp only [Value.cells] at g0 g1 g2 g3 g4
      obtain ⟨x0, e0, _, w0⟩ := DataW.trod_int Try.underlying5 (show DataW.trod enc Try.prog W base (fun _ => true) held n 5 [c0] = some y0 from g0)
      have b0 := bounds_u8 w0
      obtain ⟨x1, e1, _, w1⟩ := DataW.trod_int Try.underlying24 (show DataW.trod enc Try.prog W base (fun _ => true) held n 24 [c1] = some y1 from g1)
      have b1 := bounds_u32 w1
      obtain ⟨x2, e2, _, w2⟩ := DataW.trod_int Try.underlying24 (show DataW.trod enc Try.prog W base (fun _ => true) held n 24 [c2] = some y2 from g2)
      have b2 := bounds_u32 w2
      obtain ⟨x3, e3, _, w3⟩ := DataW.trod_int Try.underlying22 (show DataW.trod enc Try.prog W base (fun _ => true) held n 22 [c3] = some y3 from g3)
      have b3 := bounds_u16 w3
      obtain ⟨x4, e4, _, w4⟩ := DataW.trod_int Try.underlying22 (show DataW.trod enc Try.prog W base (fun _ => true) held n 22 [c4] = some y4 from g4)
      have b4 := bounds_u16 w4
      simp only [List.cons.injEq, and_true] at e0 e1 e2 e3 e4
      subst e0 e1 e2 e3 e4
      refine ⟨x0.toNat, x1.toNat, x2.toNat, x3.toNat, x4.toNat, ?_, by omega, by omega, by omega, by omega, by omega⟩
      rw [show ((x0.toNat : Nat) : Int) = x0 by omega, show ((x1.toNat : Nat) : Int) = x1 by omega, show ((x2.toNat : Nat) : Int) = x2 by omega, show ((x3.toNat : Nat) : Int) = x3 by omega, show ((x4.toNat : Nat) : Int) = x4 by omega]
theorem open_packet {r : Reach} {b0 : Nat} {v : Value} {dd : DataW H} {p : List MemPlace} (hv : Value.okWide Try.prog W r b0 27 v) (h : DataW.Trod enc Try.prog W base (fun _ => true) held 27 v dd p) :
    ∃ (x0 : Nat) (x1 : Nat) (x2 : Nat) (x3 : Nat) (x4 : Nat) (a5 : Option Addr) (len5 cap5 : Nat) (z5 : List Int), v = .agg #[.int .u8 (x0 : Int), .int .u8 (x1 : Int), .int .u16 (x2 : Int), .int .u32 (x3 : Int), .int .u32 (x4 : Int), .slice a5 len5 cap5] ∧ x0 ≤ 255 ∧ x1 ≤ 255 ∧ x2 ≤ 65535 ∧ x3 ≤ 4294967295 ∧ x4 ≤ 4294967295 ∧ IsRow .u8 W a5 len5 cap5 z5 := by
  obtain ⟨cs, rfl, hsz⟩ := okWide_struct Try.underlying27 hv
  have hC : Try.prog.cellsOf 27 = 6 := by kernel_rfl
  obtain ⟨l⟩ := cs
  have hl : l.length = 6 := by simpa [hC] using hsz
  obtain ⟨fuel, hf⟩ := h
  obtain ⟨xs, n, _, hx, _, hlen, hg⟩ := DataW.trod_struct Try.underlying27 hf
  match l, hl with
  | [c0, c1, c2, c3, c4, c5], _ =>
    match xs, hlen with
    | [y0, y1, y2, y3, y4, y5], _ =>
      have g0 := hg 0 _ rfl
      have g1 := hg 1 _ rfl
      have g2 := hg 2 _ rfl
      have g3 := hg 3 _ rfl
      have g4 := hg 4 _ rfl
      have g5 := hg 5 _ rfl
      simp only [Value.cells] at g0 g1 g2 g3 g4 g5
      obtain ⟨x0, e0, _, w0⟩ := DataW.trod_int Try.underlying5 (show DataW.trod enc Try.prog W base (fun _ => true) held n 5 [c0] = some y0 from g0)
      have b0 := bounds_u8 w0
      obtain ⟨x1, e1, _, w1⟩ := DataW.trod_int Try.underlying5 (show DataW.trod enc Try.prog W base (fun _ => true) held n 5 [c1] = some y1 from g1)
      have b1 := bounds_u8 w1
      obtain ⟨x2, e2, _, w2⟩ := DataW.trod_int Try.underlying22 (show DataW.trod enc Try.prog W base (fun _ => true) held n 22 [c2] = some y2 from g2)
      have b2 := bounds_u16 w2
      obtain ⟨x3, e3, _, w3⟩ := DataW.trod_int Try.underlying24 (show DataW.trod enc Try.prog W base (fun _ => true) held n 24 [c3] = some y3 from g3)
      have b3 := bounds_u32 w3
      obtain ⟨x4, e4, _, w4⟩ := DataW.trod_int Try.underlying24 (show DataW.trod enc Try.prog W base (fun _ => true) held n 24 [c4] = some y4 from g4)
      have b4 := bounds_u32 w4
      obtain ⟨a5, len5, cap5, z5, e5, r5⟩ := open_row (show DataW.trod enc Try.prog W base (fun _ => true) held n 25 [c5] = some y5 from g5)
      simp only [List.cons.injEq, and_true] at e0 e1 e2 e3 e4
      subst e0 e1 e2 e3 e4 e5
      refine ⟨x0.toNat, x1.toNat, x2.toNat, x3.toNat, x4.toNat, a5, len5, cap5, z5, ?_, by omega, by omega, by omega, by omega, by omega, r5⟩
      rw [show ((x0.toNat : Nat) : Int) = x0 by omega, show ((x1.toNat : Nat) : Int) = x1 by omega, show ((x2.toNat : Nat) : Int) = x2 by omega, show ((x3.toNat : Nat) : Int) = x3 by omega, show ((x4.toNat : Nat) : Int) = x4 by omega]
end
end Go.Proofs.Ytgggcapgaikbeaa
