/- icmp: an echo question's answer: the program. -/
import Derived.Test.YtgggcapgaikbeaaPk17
namespace Go.Proofs.Ytgggcapgaikbeaa
open Go.RowKit
set_option linter.unusedVariables false
set_option linter.unusedSimpArgs false
set_option maxRecDepth 100000
def ansOk (P : Nat) (xs : List Int) : Bool := !decide (P ≠ 1) && (!decide (msgCode xs ≠ 0) && (!decide ((msgOf xs).p ≠ 8) && !decide ((msgOf xs).q ≠ 0)))
theorem msg_len (xs : List Int) (h : msgCode xs = 0) : (msgOf xs).ds.length ≤ 1472 := by
  unfold msgOf
  rw [if_pos h]
  unfold msgCode at h
  simp only [List.length_drop]
  split at h
  · omega
  split at h
  · omega
  · omega
set_option maxHeartbeats 1600000 in
theorem ans_no (w : World) (tt P id s d : Nat) (da : Option Addr) (xs : List Int) (n dc : Nat) (hLx : Lies w da xs n dc) (hl : xs.length = n) (hb : ∀ x ∈ xs, 0 ≤ x ∧ x ≤ 255) (hm : ansOk P xs = false) :
    Calls Try.prog 21 #[.agg #[.int .u8 (tt : Int), .int .u8 (P : Int), .int .u16 (id : Int), .int .u32 (s : Int), .int .u32 (d : Int), .slice da n dc]] w fun e w' => e = .returned (.tuple #[.agg #[.int .u8 0, .int .u8 0, .int .u16 0, .int .u32 0, .int .u32 0, .slice none 0 0], .bool false]) ∧ Below w.heap.size w w' := by
  have HRI := hide (fun (W : World) (hL : Lies W da xs n dc) => (readICMP_both xs n hl hb).1 W da dc hL)
  obtain ⟨p1, hp1⟩ : ∃ x, decide (P ≠ 1) = x := ⟨_, rfl⟩
  have hp1' : ((P : Int) != 1) = p1 := (ne_dec P 1).trans hp1
  obtain ⟨c1, hc1⟩ : ∃ x, decide (msgCode xs ≠ 0) = x := ⟨_, rfl⟩
  have hc1' : (((msgCode xs : Nat) : Int) != 0) = c1 := (ne_dec _ 0).trans hc1
  obtain ⟨t8, ht8⟩ : ∃ x, decide ((msgOf xs).p ≠ 8) = x := ⟨_, rfl⟩
  have ht8' : ((((msgOf xs).p : Nat) : Int) != 8) = t8 := (ne_dec _ 8).trans ht8
  obtain ⟨q0, hq0⟩ : ∃ x, decide ((msgOf xs).q ≠ 0) = x := ⟨_, rfl⟩
  have hq0' : ((((msgOf xs).q : Nat) : Int) != 0) = q0 := (ne_dec _ 0).trans hq0
  unfold ansOk at hm
  rw [hp1, hc1, ht8, hq0] at hm
  clear hl hb
  clear hp1 hc1 ht8 hq0
  unfold MsgAns at HRI
  generalize hmc : msgCode xs = mc at *
  generalize hmo : msgOf xs = mo at *
  obtain ⟨mp, mq, mr, mds⟩ := mo
  dsimp only at *
  obtain ⟨mc', hmc2⟩ : ∃ x, (mc : Int) = x := ⟨_, rfl⟩
  rw [hmc2] at HRI hc1'
  clear hmc2 hmc hmo
  have hcs : p1 = true ∨ (p1 = false ∧ c1 = true) ∨ (p1 = false ∧ c1 = false ∧ t8 = true) ∨ (p1 = false ∧ c1 = false ∧ t8 = false ∧ q0 = true) := by revert hm; cases p1 <;> cases c1 <;> cases t8 <;> cases q0 <;> simp
  clear hm
  rcases hcs with rfl | ⟨rfl, rfl⟩ | ⟨rfl, rfl, rfl⟩ | ⟨rfl, rfl, rfl, rfl⟩
  · skip
    obtain ⟨V1, hV1⟩ : ∃ V, w.alloc (.cells #[.int .u8 (tt : Int), .int .u8 (P : Int), .int .u16 (id : Int), .int .u32 (s : Int), .int .u32 (d : Int), .slice da n dc] 27) = V := ⟨_, rfl⟩
    obtain ⟨V2, hV2⟩ : ∃ V, V1.alloc (.cells #[.int .u8 0, .int .u8 0, .int .u16 0, .int .u32 0, .int .u32 0, .slice none 0 0] 27) = V := ⟨_, rfl⟩
    have hz1 : V1.heap.size = w.heap.size + 1 := by rw [← hV1]; simp
    have hz2 : V2.heap.size = w.heap.size + 1 + 1 := by rw [← hV2]; simp [hz1]
    have hb1 : Below w.heap.size w V1 := by rw [← hV1]; exact (Below.refl _ _).alloc (Nat.le_refl _) _
    have hc2 : Below V1.heap.size V1 V2 := by rw [← hV2]; exact (Below.refl _ _).alloc (Nat.le_refl _) _
    have hb2 := hb1.trans (hc2.mono hb1.size)
    have hp1_1 : V1.heap[w.heap.size]? = some (.cells #[.int .u8 (tt : Int), .int .u8 (P : Int), .int .u16 (id : Int), .int .u32 (s : Int), .int .u32 (d : Int), .slice da n dc] 27 (0, 0)) := by rw [← hV1]; exact heap_alloc_new _ _
    have hp1_2 := below_block hc2 hp1_1 (Nat.le_refl _)
    have hp2_2 : V2.heap[w.heap.size + 1]? = some (.cells #[.int .u8 0, .int .u8 0, .int .u16 0, .int .u32 0, .int .u32 0, .slice none 0 0] 27 (0, 0)) := by rw [← hV2, ← hz1]; exact heap_alloc_new _ _
    obtain ⟨BX, hBX⟩ : ∃ B, w.heap.size = B := ⟨_, rfl⟩
    obtain ⟨BR, hBR⟩ : ∃ B, w.heap.size + 1 = B := ⟨_, rfl⟩
    have hw0 : w.heap.size ≤ BX ∧ w.heap.size ≤ BR := by omega
    have HX := hide (show V2.heap[BX]? = some (.cells #[.int .u8 (tt : Int), .int .u8 (P : Int), .int .u16 (id : Int), .int .u32 (s : Int), .int .u32 (d : Int), .slice da n dc] 27 (0, 0)) by rw [← hBX]; exact hp1_2)
    have NX : Hid (w.heap.size ≤ BX) := hide hw0.1
    have HR := hide (show V2.heap[BR]? = some (.cells #[.int .u8 0, .int .u8 0, .int .u16 0, .int .u32 0, .int .u32 0, .slice none 0 0] 27 (0, 0)) by rw [← hBR]; exact hp2_2)
    have NR : Hid (w.heap.size ≤ BR) := hide hw0.2
    have nqX_R : Hid (BX ≠ BR) := hide (by omega)
    have AP := hide hLx
    have RP := hide (hLx.below hb2 (Nat.le_refl _))
    have HB := hide hb2
    have HE := hide (And.intro (And.intro trivial trivial) (And.intro hV1 ( And.intro hV2 (And.intro hBX ( And.intro hBR (trivial))))))
    clear hw0 hV1 hz1 hb1 hV2 hz2 hb2 hc2 hp1_1 hp1_2 hp2_2 hBX hBR hLx
    go_enter Try.func21, Try.ntmps21
    go_upto_region 1 with (fail)
    rw [HE.out.2.1]
    try rw [HE.out.2.2.1]
    try rw [HE.out.2.2.2.2.1]
    try rw [HE.out.2.2.2.1]
    clear HE
    have qX_1 : V2.cell? ⟨BX, 1, none⟩ = some (.int .u8 (P : Int)) := cell_at HX.out 1 rfl
    go_wp2_with ((refine st_part (o := ⟨none, _, _, _, _, _⟩) 27 (.tmp 2) (.tmp 9) rfl (by rfl) BR 0 rfl #[.int .u8 0, .int .u8 0, .int .u16 0, .int .u32 0, .int .u32 0, .slice none 0 0] 27 #[.int .u8 0, .int .u8 0, .int .u16 0, .int .u32 0, .int .u32 0, .slice none 0 0] rfl HR.out rfl (by kernel_rfl) (by kernel_rfl) HB.out NR.out ?_; rintro w9 w9h w9b w9o w9s; try simp only [Act.put, List.setIfInBounds_toArray, List.set_cons_zero, List.set_cons_succ]))
    rw [upd_whole (by rfl)] at w9h
    exact bodyPost_ret (v := .tuple #[.agg #[.int .u8 0, .int .u8 0, .int .u16 0, .int .u32 0, .int .u32 0, .slice none 0 0], .bool false]) (results_cell_tmp Try.results21 _ w9 BR _ _ _ _ rfl w9h Try.underlying27 rfl (by kernel_rfl) _ rfl) rfl ⟨rfl, w9b⟩
  · skip
    obtain ⟨V1, hV1⟩ : ∃ V, w.alloc (.cells #[.int .u8 (tt : Int), .int .u8 (P : Int), .int .u16 (id : Int), .int .u32 (s : Int), .int .u32 (d : Int), .slice da n dc] 27) = V := ⟨_, rfl⟩
    obtain ⟨V2, hV2⟩ : ∃ V, V1.alloc (.cells #[.int .u8 0, .int .u8 0, .int .u16 0, .int .u32 0, .int .u32 0, .slice none 0 0] 27) = V := ⟨_, rfl⟩
    have hz1 : V1.heap.size = w.heap.size + 1 := by rw [← hV1]; simp
    have hz2 : V2.heap.size = w.heap.size + 1 + 1 := by rw [← hV2]; simp [hz1]
    have hb1 : Below w.heap.size w V1 := by rw [← hV1]; exact (Below.refl _ _).alloc (Nat.le_refl _) _
    have hc2 : Below V1.heap.size V1 V2 := by rw [← hV2]; exact (Below.refl _ _).alloc (Nat.le_refl _) _
    have hb2 := hb1.trans (hc2.mono hb1.size)
    have hp1_1 : V1.heap[w.heap.size]? = some (.cells #[.int .u8 (tt : Int), .int .u8 (P : Int), .int .u16 (id : Int), .int .u32 (s : Int), .int .u32 (d : Int), .slice da n dc] 27 (0, 0)) := by rw [← hV1]; exact heap_alloc_new _ _
    have hp1_2 := below_block hc2 hp1_1 (Nat.le_refl _)
    have hp2_2 : V2.heap[w.heap.size + 1]? = some (.cells #[.int .u8 0, .int .u8 0, .int .u16 0, .int .u32 0, .int .u32 0, .slice none 0 0] 27 (0, 0)) := by rw [← hV2, ← hz1]; exact heap_alloc_new _ _
    obtain ⟨BX, hBX⟩ : ∃ B, w.heap.size = B := ⟨_, rfl⟩
    obtain ⟨BR, hBR⟩ : ∃ B, w.heap.size + 1 = B := ⟨_, rfl⟩
    have hw0 : w.heap.size ≤ BX ∧ w.heap.size ≤ BR := by omega
    have HX := hide (show V2.heap[BX]? = some (.cells #[.int .u8 (tt : Int), .int .u8 (P : Int), .int .u16 (id : Int), .int .u32 (s : Int), .int .u32 (d : Int), .slice da n dc] 27 (0, 0)) by rw [← hBX]; exact hp1_2)
    have NX : Hid (w.heap.size ≤ BX) := hide hw0.1
    have HR := hide (show V2.heap[BR]? = some (.cells #[.int .u8 0, .int .u8 0, .int .u16 0, .int .u32 0, .int .u32 0, .slice none 0 0] 27 (0, 0)) by rw [← hBR]; exact hp2_2)
    have NR : Hid (w.heap.size ≤ BR) := hide hw0.2
    have nqX_R : Hid (BX ≠ BR) := hide (by omega)
    have AP := hide hLx
    have RP := hide (hLx.below hb2 (Nat.le_refl _))
    have HB := hide hb2
    have HE := hide (And.intro (And.intro trivial trivial) (And.intro hV1 ( And.intro hV2 (And.intro hBX ( And.intro hBR (trivial))))))
    clear hw0 hV1 hz1 hb1 hV2 hz2 hb2 hc2 hp1_1 hp1_2 hp2_2 hBX hBR hLx
    go_enter Try.func21, Try.ntmps21
    go_upto_region 1 with (fail)
    rw [HE.out.2.1]
    try rw [HE.out.2.2.1]
    try rw [HE.out.2.2.2.2.1]
    try rw [HE.out.2.2.2.1]
    clear HE
    have qX_1 : V2.cell? ⟨BX, 1, none⟩ = some (.int .u8 (P : Int)) := cell_at HX.out 1 rfl
    have qX_5 : V2.cell? ⟨BX, 5, none⟩ = some (.slice da n dc) := cell_at HX.out 5 rfl
    go_wp2_with fail
    have ltD_X := hide (lt_of_block HX.out)
    have ltD_R := hide (lt_of_block HR.out)
    have lbD := hide HB.out.size
    refine (HRI.out _ RP.out).mono ?_
    rintro e w1 ⟨a1, k1, rfl, o, b⟩
    clear qX_1 qX_5
    replace HX := hide (below_block b HX.out (Nat.le_refl _))
    replace HR := hide (below_block b HR.out (Nat.le_refl _))
    replace RP := hide (RP.out.below b (Nat.le_refl _))
    replace HB := hide (HB.out.trans (b.mono HB.out.size))
    have OD := hide o
    have neD_X := hide (own_ne_lt o ltD_X.out)
    clear ltD_X
    have neD_R := hide (own_ne_lt o ltD_R.out)
    clear ltD_R
    clear b  o
    obtain ⟨w2, hwn, wb, HN1⟩ : ∃ W, w1.alloc (.cells #[.int .u8 (mp : Int), .int .u8 (mq : Int), .int .u32 (mr : Int), .slice a1 mds.length k1] 55) = W ∧ Below w1.heap.size w1 W ∧ Hid (W.heap[w1.heap.size]? = some (.cells #[.int .u8 (mp : Int), .int .u8 (mq : Int), .int .u32 (mr : Int), .slice a1 mds.length k1] 55 (0, 0))) := ⟨_, rfl, (Below.refl w1.heap.size w1).alloc (Nat.le_refl _) _, hide (heap_alloc_new w1 _)⟩
    obtain ⟨BM, hBn⟩ : ∃ B, w1.heap.size = B := ⟨_, rfl⟩
    rw [hBn] at HN1
    have HW := hide (And.intro hwn hBn)
    have HBo := HB
    have neD_M := hide (own_ne (L := BM) OD.out (Nat.le_of_eq hBn))
    have nqX_M := hide (blk_ne HX.out hBn)
    have nqR_M := hide (blk_ne HR.out hBn)
    clear hwn hBn
    replace HX := hide (below_block wb HX.out (Nat.le_refl _))
    replace HR := hide (below_block wb HR.out (Nat.le_refl _))
    replace RP := hide (RP.out.below wb (Nat.le_refl _))
    replace OD := hide (owns_below OD.out wb (Nat.le_refl _))
    replace HB := hide (HB.out.trans (wb.mono HB.out.size))
    have HM := HN1
    have NM := hide (show w.heap.size ≤ BM by rw [← HW.out.2]; exact HBo.out.size)
    clear wb HN1 HBo
    go_upto_region 4 with (fail)
    rw [HW.out.1]
    try rw [HW.out.2]
    clear HW
    have qM_0 : w2.cell? ⟨BM, 0, none⟩ = some (.int .u8 (mp : Int)) := cell_at HM.out 0 rfl
    have qM_1 : w2.cell? ⟨BM, 1, none⟩ = some (.int .u8 (mq : Int)) := cell_at HM.out 1 rfl
    go_wp2_with ((refine st_part (o := ⟨none, _, _, _, _, _⟩) 27 (.tmp 2) (.tmp 28) rfl (by rfl) BR 0 rfl #[.int .u8 0, .int .u8 0, .int .u16 0, .int .u32 0, .int .u32 0, .slice none 0 0] 27 #[.int .u8 0, .int .u8 0, .int .u16 0, .int .u32 0, .int .u32 0, .slice none 0 0] rfl HR.out rfl (by kernel_rfl) (by kernel_rfl) HB.out NR.out ?_; rintro w9 w9h w9b w9o w9s; try simp only [Act.put, List.setIfInBounds_toArray, List.set_cons_zero, List.set_cons_succ]))
    rw [upd_whole (by rfl)] at w9h
    exact bodyPost_ret (v := .tuple #[.agg #[.int .u8 0, .int .u8 0, .int .u16 0, .int .u32 0, .int .u32 0, .slice none 0 0], .bool false]) (results_cell_tmp Try.results21 _ w9 BR _ _ _ _ rfl w9h Try.underlying27 rfl (by kernel_rfl) _ rfl) rfl ⟨rfl, w9b⟩
  · skip
    obtain ⟨V1, hV1⟩ : ∃ V, w.alloc (.cells #[.int .u8 (tt : Int), .int .u8 (P : Int), .int .u16 (id : Int), .int .u32 (s : Int), .int .u32 (d : Int), .slice da n dc] 27) = V := ⟨_, rfl⟩
    obtain ⟨V2, hV2⟩ : ∃ V, V1.alloc (.cells #[.int .u8 0, .int .u8 0, .int .u16 0, .int .u32 0, .int .u32 0, .slice none 0 0] 27) = V := ⟨_, rfl⟩
    have hz1 : V1.heap.size = w.heap.size + 1 := by rw [← hV1]; simp
    have hz2 : V2.heap.size = w.heap.size + 1 + 1 := by rw [← hV2]; simp [hz1]
    have hb1 : Below w.heap.size w V1 := by rw [← hV1]; exact (Below.refl _ _).alloc (Nat.le_refl _) _
    have hc2 : Below V1.heap.size V1 V2 := by rw [← hV2]; exact (Below.refl _ _).alloc (Nat.le_refl _) _
    have hb2 := hb1.trans (hc2.mono hb1.size)
    have hp1_1 : V1.heap[w.heap.size]? = some (.cells #[.int .u8 (tt : Int), .int .u8 (P : Int), .int .u16 (id : Int), .int .u32 (s : Int), .int .u32 (d : Int), .slice da n dc] 27 (0, 0)) := by rw [← hV1]; exact heap_alloc_new _ _
    have hp1_2 := below_block hc2 hp1_1 (Nat.le_refl _)
    have hp2_2 : V2.heap[w.heap.size + 1]? = some (.cells #[.int .u8 0, .int .u8 0, .int .u16 0, .int .u32 0, .int .u32 0, .slice none 0 0] 27 (0, 0)) := by rw [← hV2, ← hz1]; exact heap_alloc_new _ _
    obtain ⟨BX, hBX⟩ : ∃ B, w.heap.size = B := ⟨_, rfl⟩
    obtain ⟨BR, hBR⟩ : ∃ B, w.heap.size + 1 = B := ⟨_, rfl⟩
    have hw0 : w.heap.size ≤ BX ∧ w.heap.size ≤ BR := by omega
    have HX := hide (show V2.heap[BX]? = some (.cells #[.int .u8 (tt : Int), .int .u8 (P : Int), .int .u16 (id : Int), .int .u32 (s : Int), .int .u32 (d : Int), .slice da n dc] 27 (0, 0)) by rw [← hBX]; exact hp1_2)
    have NX : Hid (w.heap.size ≤ BX) := hide hw0.1
    have HR := hide (show V2.heap[BR]? = some (.cells #[.int .u8 0, .int .u8 0, .int .u16 0, .int .u32 0, .int .u32 0, .slice none 0 0] 27 (0, 0)) by rw [← hBR]; exact hp2_2)
    have NR : Hid (w.heap.size ≤ BR) := hide hw0.2
    have nqX_R : Hid (BX ≠ BR) := hide (by omega)
    have AP := hide hLx
    have RP := hide (hLx.below hb2 (Nat.le_refl _))
    have HB := hide hb2
    have HE := hide (And.intro (And.intro trivial trivial) (And.intro hV1 ( And.intro hV2 (And.intro hBX ( And.intro hBR (trivial))))))
    clear hw0 hV1 hz1 hb1 hV2 hz2 hb2 hc2 hp1_1 hp1_2 hp2_2 hBX hBR hLx
    go_enter Try.func21, Try.ntmps21
    go_upto_region 1 with (fail)
    rw [HE.out.2.1]
    try rw [HE.out.2.2.1]
    try rw [HE.out.2.2.2.2.1]
    try rw [HE.out.2.2.2.1]
    clear HE
    have qX_1 : V2.cell? ⟨BX, 1, none⟩ = some (.int .u8 (P : Int)) := cell_at HX.out 1 rfl
    have qX_5 : V2.cell? ⟨BX, 5, none⟩ = some (.slice da n dc) := cell_at HX.out 5 rfl
    go_wp2_with fail
    have ltD_X := hide (lt_of_block HX.out)
    have ltD_R := hide (lt_of_block HR.out)
    have lbD := hide HB.out.size
    refine (HRI.out _ RP.out).mono ?_
    rintro e w1 ⟨a1, k1, rfl, o, b⟩
    clear qX_1 qX_5
    replace HX := hide (below_block b HX.out (Nat.le_refl _))
    replace HR := hide (below_block b HR.out (Nat.le_refl _))
    replace RP := hide (RP.out.below b (Nat.le_refl _))
    replace HB := hide (HB.out.trans (b.mono HB.out.size))
    have OD := hide o
    have neD_X := hide (own_ne_lt o ltD_X.out)
    clear ltD_X
    have neD_R := hide (own_ne_lt o ltD_R.out)
    clear ltD_R
    clear b  o
    obtain ⟨w2, hwn, wb, HN1⟩ : ∃ W, w1.alloc (.cells #[.int .u8 (mp : Int), .int .u8 (mq : Int), .int .u32 (mr : Int), .slice a1 mds.length k1] 55) = W ∧ Below w1.heap.size w1 W ∧ Hid (W.heap[w1.heap.size]? = some (.cells #[.int .u8 (mp : Int), .int .u8 (mq : Int), .int .u32 (mr : Int), .slice a1 mds.length k1] 55 (0, 0))) := ⟨_, rfl, (Below.refl w1.heap.size w1).alloc (Nat.le_refl _) _, hide (heap_alloc_new w1 _)⟩
    obtain ⟨BM, hBn⟩ : ∃ B, w1.heap.size = B := ⟨_, rfl⟩
    rw [hBn] at HN1
    have HW := hide (And.intro hwn hBn)
    have HBo := HB
    have neD_M := hide (own_ne (L := BM) OD.out (Nat.le_of_eq hBn))
    have nqX_M := hide (blk_ne HX.out hBn)
    have nqR_M := hide (blk_ne HR.out hBn)
    clear hwn hBn
    replace HX := hide (below_block wb HX.out (Nat.le_refl _))
    replace HR := hide (below_block wb HR.out (Nat.le_refl _))
    replace RP := hide (RP.out.below wb (Nat.le_refl _))
    replace OD := hide (owns_below OD.out wb (Nat.le_refl _))
    replace HB := hide (HB.out.trans (wb.mono HB.out.size))
    have HM := HN1
    have NM := hide (show w.heap.size ≤ BM by rw [← HW.out.2]; exact HBo.out.size)
    clear wb HN1 HBo
    go_upto_region 4 with (fail)
    rw [HW.out.1]
    try rw [HW.out.2]
    clear HW
    have qM_0 : w2.cell? ⟨BM, 0, none⟩ = some (.int .u8 (mp : Int)) := cell_at HM.out 0 rfl
    have qM_1 : w2.cell? ⟨BM, 1, none⟩ = some (.int .u8 (mq : Int)) := cell_at HM.out 1 rfl
    go_wp2_with ((refine st_part (o := ⟨none, _, _, _, _, _⟩) 27 (.tmp 2) (.tmp 28) rfl (by rfl) BR 0 rfl #[.int .u8 0, .int .u8 0, .int .u16 0, .int .u32 0, .int .u32 0, .slice none 0 0] 27 #[.int .u8 0, .int .u8 0, .int .u16 0, .int .u32 0, .int .u32 0, .slice none 0 0] rfl HR.out rfl (by kernel_rfl) (by kernel_rfl) HB.out NR.out ?_; rintro w9 w9h w9b w9o w9s; try simp only [Act.put, List.setIfInBounds_toArray, List.set_cons_zero, List.set_cons_succ]))
    rw [upd_whole (by rfl)] at w9h
    exact bodyPost_ret (v := .tuple #[.agg #[.int .u8 0, .int .u8 0, .int .u16 0, .int .u32 0, .int .u32 0, .slice none 0 0], .bool false]) (results_cell_tmp Try.results21 _ w9 BR _ _ _ _ rfl w9h Try.underlying27 rfl (by kernel_rfl) _ rfl) rfl ⟨rfl, w9b⟩
  · skip
    obtain ⟨V1, hV1⟩ : ∃ V, w.alloc (.cells #[.int .u8 (tt : Int), .int .u8 (P : Int), .int .u16 (id : Int), .int .u32 (s : Int), .int .u32 (d : Int), .slice da n dc] 27) = V := ⟨_, rfl⟩
    obtain ⟨V2, hV2⟩ : ∃ V, V1.alloc (.cells #[.int .u8 0, .int .u8 0, .int .u16 0, .int .u32 0, .int .u32 0, .slice none 0 0] 27) = V := ⟨_, rfl⟩
    have hz1 : V1.heap.size = w.heap.size + 1 := by rw [← hV1]; simp
    have hz2 : V2.heap.size = w.heap.size + 1 + 1 := by rw [← hV2]; simp [hz1]
    have hb1 : Below w.heap.size w V1 := by rw [← hV1]; exact (Below.refl _ _).alloc (Nat.le_refl _) _
    have hc2 : Below V1.heap.size V1 V2 := by rw [← hV2]; exact (Below.refl _ _).alloc (Nat.le_refl _) _
    have hb2 := hb1.trans (hc2.mono hb1.size)
    have hp1_1 : V1.heap[w.heap.size]? = some (.cells #[.int .u8 (tt : Int), .int .u8 (P : Int), .int .u16 (id : Int), .int .u32 (s : Int), .int .u32 (d : Int), .slice da n dc] 27 (0, 0)) := by rw [← hV1]; exact heap_alloc_new _ _
    have hp1_2 := below_block hc2 hp1_1 (Nat.le_refl _)
    have hp2_2 : V2.heap[w.heap.size + 1]? = some (.cells #[.int .u8 0, .int .u8 0, .int .u16 0, .int .u32 0, .int .u32 0, .slice none 0 0] 27 (0, 0)) := by rw [← hV2, ← hz1]; exact heap_alloc_new _ _
    obtain ⟨BX, hBX⟩ : ∃ B, w.heap.size = B := ⟨_, rfl⟩
    obtain ⟨BR, hBR⟩ : ∃ B, w.heap.size + 1 = B := ⟨_, rfl⟩
    have hw0 : w.heap.size ≤ BX ∧ w.heap.size ≤ BR := by omega
    have HX := hide (show V2.heap[BX]? = some (.cells #[.int .u8 (tt : Int), .int .u8 (P : Int), .int .u16 (id : Int), .int .u32 (s : Int), .int .u32 (d : Int), .slice da n dc] 27 (0, 0)) by rw [← hBX]; exact hp1_2)
    have NX : Hid (w.heap.size ≤ BX) := hide hw0.1
    have HR := hide (show V2.heap[BR]? = some (.cells #[.int .u8 0, .int .u8 0, .int .u16 0, .int .u32 0, .int .u32 0, .slice none 0 0] 27 (0, 0)) by rw [← hBR]; exact hp2_2)
    have NR : Hid (w.heap.size ≤ BR) := hide hw0.2
    have nqX_R : Hid (BX ≠ BR) := hide (by omega)
    have AP := hide hLx
    have RP := hide (hLx.below hb2 (Nat.le_refl _))
    have HB := hide hb2
    have HE := hide (And.intro (And.intro trivial trivial) (And.intro hV1 ( And.intro hV2 (And.intro hBX ( And.intro hBR (trivial))))))
    clear hw0 hV1 hz1 hb1 hV2 hz2 hb2 hc2 hp1_1 hp1_2 hp2_2 hBX hBR hLx
    go_enter Try.func21, Try.ntmps21
    go_upto_region 1 with (fail)
    rw [HE.out.2.1]
    try rw [HE.out.2.2.1]
    try rw [HE.out.2.2.2.2.1]
    try rw [HE.out.2.2.2.1]
    clear HE
    have qX_1 : V2.cell? ⟨BX, 1, none⟩ = some (.int .u8 (P : Int)) := cell_at HX.out 1 rfl
    have qX_5 : V2.cell? ⟨BX, 5, none⟩ = some (.slice da n dc) := cell_at HX.out 5 rfl
    go_wp2_with fail
    have ltD_X := hide (lt_of_block HX.out)
    have ltD_R := hide (lt_of_block HR.out)
    have lbD := hide HB.out.size
    refine (HRI.out _ RP.out).mono ?_
    rintro e w1 ⟨a1, k1, rfl, o, b⟩
    clear qX_1 qX_5
    replace HX := hide (below_block b HX.out (Nat.le_refl _))
    replace HR := hide (below_block b HR.out (Nat.le_refl _))
    replace RP := hide (RP.out.below b (Nat.le_refl _))
    replace HB := hide (HB.out.trans (b.mono HB.out.size))
    have OD := hide o
    have neD_X := hide (own_ne_lt o ltD_X.out)
    clear ltD_X
    have neD_R := hide (own_ne_lt o ltD_R.out)
    clear ltD_R
    clear b  o
    obtain ⟨w2, hwn, wb, HN1⟩ : ∃ W, w1.alloc (.cells #[.int .u8 (mp : Int), .int .u8 (mq : Int), .int .u32 (mr : Int), .slice a1 mds.length k1] 55) = W ∧ Below w1.heap.size w1 W ∧ Hid (W.heap[w1.heap.size]? = some (.cells #[.int .u8 (mp : Int), .int .u8 (mq : Int), .int .u32 (mr : Int), .slice a1 mds.length k1] 55 (0, 0))) := ⟨_, rfl, (Below.refl w1.heap.size w1).alloc (Nat.le_refl _) _, hide (heap_alloc_new w1 _)⟩
    obtain ⟨BM, hBn⟩ : ∃ B, w1.heap.size = B := ⟨_, rfl⟩
    rw [hBn] at HN1
    have HW := hide (And.intro hwn hBn)
    have HBo := HB
    have neD_M := hide (own_ne (L := BM) OD.out (Nat.le_of_eq hBn))
    have nqX_M := hide (blk_ne HX.out hBn)
    have nqR_M := hide (blk_ne HR.out hBn)
    clear hwn hBn
    replace HX := hide (below_block wb HX.out (Nat.le_refl _))
    replace HR := hide (below_block wb HR.out (Nat.le_refl _))
    replace RP := hide (RP.out.below wb (Nat.le_refl _))
    replace OD := hide (owns_below OD.out wb (Nat.le_refl _))
    replace HB := hide (HB.out.trans (wb.mono HB.out.size))
    have HM := HN1
    have NM := hide (show w.heap.size ≤ BM by rw [← HW.out.2]; exact HBo.out.size)
    clear wb HN1 HBo
    go_upto_region 4 with (fail)
    rw [HW.out.1]
    try rw [HW.out.2]
    clear HW
    have qM_0 : w2.cell? ⟨BM, 0, none⟩ = some (.int .u8 (mp : Int)) := cell_at HM.out 0 rfl
    have qM_1 : w2.cell? ⟨BM, 1, none⟩ = some (.int .u8 (mq : Int)) := cell_at HM.out 1 rfl
    go_wp2_with ((refine st_part (o := ⟨none, _, _, _, _, _⟩) 27 (.tmp 2) (.tmp 28) rfl (by rfl) BR 0 rfl #[.int .u8 0, .int .u8 0, .int .u16 0, .int .u32 0, .int .u32 0, .slice none 0 0] 27 #[.int .u8 0, .int .u8 0, .int .u16 0, .int .u32 0, .int .u32 0, .slice none 0 0] rfl HR.out rfl (by kernel_rfl) (by kernel_rfl) HB.out NR.out ?_; rintro w9 w9h w9b w9o w9s; try simp only [Act.put, List.setIfInBounds_toArray, List.set_cons_zero, List.set_cons_succ]))
    rw [upd_whole (by rfl)] at w9h
    exact bodyPost_ret (v := .tuple #[.agg #[.int .u8 0, .int .u8 0, .int .u16 0, .int .u32 0, .int .u32 0, .slice none 0 0], .bool false]) (results_cell_tmp Try.results21 _ w9 BR _ _ _ _ rfl w9h Try.underlying27 rfl (by kernel_rfl) _ rfl) rfl ⟨rfl, w9b⟩
set_option maxHeartbeats 1600000 in
theorem ans_yes (w : World) (tt P id s d : Nat) (da : Option Addr) (xs : List Int) (n dc : Nat) (hLx : Lies w da xs n dc) (hl : xs.length = n) (hb : ∀ x ∈ xs, 0 ≤ x ∧ x ≤ 255) (ht : tt ≤ 255) (hP : P ≤ 255) (hid : id ≤ 65535) (hs : s ≤ 4294967295) (hd : d ≤ 4294967295) (hm : ansOk P xs = true) :
    Calls Try.prog 21 #[.agg #[.int .u8 (tt : Int), .int .u8 (P : Int), .int .u16 (id : Int), .int .u32 (s : Int), .int .u32 (d : Int), .slice da n dc]] w fun e w' => ∃ a c,
      e = .returned (.tuple #[.agg #[.int .u8 64, .int .u8 1, .int .u16 (id : Int), .int .u32 (d : Int), .int .u32 (s : Int), .slice a (8 + (msgOf xs).ds.length) c], .bool true]) ∧ w'.ownsRow w.heap.size 5 1 (.slice a (8 + (msgOf xs).ds.length) c) (8 + (msgOf xs).ds.length) ((icmpB 0 0 (msgOf xs).r (msgOf xs).ds).map (Value.int .u8)) ∧ Below w.heap.size w w' := by
  have HRI := hide (fun (W : World) (hL : Lies W da xs n dc) => (readICMP_both xs n hl hb).1 W da dc hL)
  obtain ⟨p1, hp1⟩ : ∃ x, decide (P ≠ 1) = x := ⟨_, rfl⟩
  have hp1' : ((P : Int) != 1) = p1 := (ne_dec P 1).trans hp1
  obtain ⟨c1, hc1⟩ : ∃ x, decide (msgCode xs ≠ 0) = x := ⟨_, rfl⟩
  have hc1' : (((msgCode xs : Nat) : Int) != 0) = c1 := (ne_dec _ 0).trans hc1
  obtain ⟨t8, ht8⟩ : ∃ x, decide ((msgOf xs).p ≠ 8) = x := ⟨_, rfl⟩
  have ht8' : ((((msgOf xs).p : Nat) : Int) != 8) = t8 := (ne_dec _ 8).trans ht8
  obtain ⟨q0, hq0⟩ : ∃ x, decide ((msgOf xs).q ≠ 0) = x := ⟨_, rfl⟩
  have hq0' : ((((msgOf xs).q : Nat) : Int) != 0) = q0 := (ne_dec _ 0).trans hq0
  unfold ansOk at hm
  rw [hp1, hc1, ht8, hq0] at hm
  have hcs : p1 = false ∧ c1 = false ∧ t8 = false ∧ q0 = false := by revert hm; cases p1 <;> cases c1 <;> cases t8 <;> cases q0 <;> simp
  obtain ⟨rfl, rfl, rfl, rfl⟩ := hcs
  have hq00 : (msgOf xs).q = 0 := by simpa using hq0
  have hok := msgOf_ok xs hb
  have hml := msg_len xs (by simpa using hc1)
  clear hm hl hb
  have HCA := hide (fun (W : World) (a : Option Addr) (c : Nat) (hL : Lies W a (msgOf xs).ds (msgOf xs).ds.length c) => carry_any W 0 0 (msgOf xs).r d s id a (msgOf xs).ds (msgOf xs).ds.length c hL rfl hok.2.2.2.1 hml (by omega) (by omega) hok.2.2.1)
  clear hok hml
  clear hp1 hc1 ht8 hq0
  unfold MsgAns at HRI
  generalize hmc : msgCode xs = mc at *
  generalize hmo : msgOf xs = mo at *
  obtain ⟨mp, mq, mr, mds⟩ := mo
  dsimp only at *
  obtain ⟨mc', hmc2⟩ : ∃ x, (mc : Int) = x := ⟨_, rfl⟩
  rw [hmc2] at HRI hc1'
  clear hmc2 hmc hmo
  obtain rfl := hq00
  obtain ⟨V1, hV1⟩ : ∃ V, w.alloc (.cells #[.int .u8 (tt : Int), .int .u8 (P : Int), .int .u16 (id : Int), .int .u32 (s : Int), .int .u32 (d : Int), .slice da n dc] 27) = V := ⟨_, rfl⟩
  obtain ⟨V2, hV2⟩ : ∃ V, V1.alloc (.cells #[.int .u8 0, .int .u8 0, .int .u16 0, .int .u32 0, .int .u32 0, .slice none 0 0] 27) = V := ⟨_, rfl⟩
  have hz1 : V1.heap.size = w.heap.size + 1 := by rw [← hV1]; simp
  have hz2 : V2.heap.size = w.heap.size + 1 + 1 := by rw [← hV2]; simp [hz1]
  have hb1 : Below w.heap.size w V1 := by rw [← hV1]; exact (Below.refl _ _).alloc (Nat.le_refl _) _
  have hc2 : Below V1.heap.size V1 V2 := by rw [← hV2]; exact (Below.refl _ _).alloc (Nat.le_refl _) _
  have hb2 := hb1.trans (hc2.mono hb1.size)
  have hp1_1 : V1.heap[w.heap.size]? = some (.cells #[.int .u8 (tt : Int), .int .u8 (P : Int), .int .u16 (id : Int), .int .u32 (s : Int), .int .u32 (d : Int), .slice da n dc] 27 (0, 0)) := by rw [← hV1]; exact heap_alloc_new _ _
  have hp1_2 := below_block hc2 hp1_1 (Nat.le_refl _)
  have hp2_2 : V2.heap[w.heap.size + 1]? = some (.cells #[.int .u8 0, .int .u8 0, .int .u16 0, .int .u32 0, .int .u32 0, .slice none 0 0] 27 (0, 0)) := by rw [← hV2, ← hz1]; exact heap_alloc_new _ _
  obtain ⟨BX, hBX⟩ : ∃ B, w.heap.size = B := ⟨_, rfl⟩
  obtain ⟨BR, hBR⟩ : ∃ B, w.heap.size + 1 = B := ⟨_, rfl⟩
  have hw0 : w.heap.size ≤ BX ∧ w.heap.size ≤ BR := by omega
  have HX := hide (show V2.heap[BX]? = some (.cells #[.int .u8 (tt : Int), .int .u8 (P : Int), .int .u16 (id : Int), .int .u32 (s : Int), .int .u32 (d : Int), .slice da n dc] 27 (0, 0)) by rw [← hBX]; exact hp1_2)
  have NX : Hid (w.heap.size ≤ BX) := hide hw0.1
  have HR := hide (show V2.heap[BR]? = some (.cells #[.int .u8 0, .int .u8 0, .int .u16 0, .int .u32 0, .int .u32 0, .slice none 0 0] 27 (0, 0)) by rw [← hBR]; exact hp2_2)
  have NR : Hid (w.heap.size ≤ BR) := hide hw0.2
  have nqX_R : Hid (BX ≠ BR) := hide (by omega)
  have AP := hide hLx
  have RP := hide (hLx.below hb2 (Nat.le_refl _))
  have HB := hide hb2
  have HE := hide (And.intro (And.intro trivial trivial) (And.intro hV1 ( And.intro hV2 (And.intro hBX ( And.intro hBR (trivial))))))
  clear hw0 hV1 hz1 hb1 hV2 hz2 hb2 hc2 hp1_1 hp1_2 hp2_2 hBX hBR hLx
  go_enter Try.func21, Try.ntmps21
  go_upto_region 1 with (fail)
  rw [HE.out.2.1]
  try rw [HE.out.2.2.1]
  try rw [HE.out.2.2.2.2.1]
  try rw [HE.out.2.2.2.1]
  clear HE
  have qX_1 : V2.cell? ⟨BX, 1, none⟩ = some (.int .u8 (P : Int)) := cell_at HX.out 1 rfl
  have qX_5 : V2.cell? ⟨BX, 5, none⟩ = some (.slice da n dc) := cell_at HX.out 5 rfl
  go_wp2_with fail
  have ltD_X := hide (lt_of_block HX.out)
  have ltD_R := hide (lt_of_block HR.out)
  have lbD := hide HB.out.size
  refine (HRI.out _ RP.out).mono ?_
  rintro e w1 ⟨a1, k1, rfl, o, b⟩
  clear qX_1 qX_5
  replace HX := hide (below_block b HX.out (Nat.le_refl _))
  replace HR := hide (below_block b HR.out (Nat.le_refl _))
  replace RP := hide (RP.out.below b (Nat.le_refl _))
  replace HB := hide (HB.out.trans (b.mono HB.out.size))
  have OD := hide o
  have neD_X := hide (own_ne_lt o ltD_X.out)
  clear ltD_X
  have neD_R := hide (own_ne_lt o ltD_R.out)
  clear ltD_R
  clear b  o
  obtain ⟨w2, hwn, wb, HN1⟩ : ∃ W, w1.alloc (.cells #[.int .u8 (mp : Int), .int .u8 0, .int .u32 (mr : Int), .slice a1 mds.length k1] 55) = W ∧ Below w1.heap.size w1 W ∧ Hid (W.heap[w1.heap.size]? = some (.cells #[.int .u8 (mp : Int), .int .u8 0, .int .u32 (mr : Int), .slice a1 mds.length k1] 55 (0, 0))) := ⟨_, rfl, (Below.refl w1.heap.size w1).alloc (Nat.le_refl _) _, hide (heap_alloc_new w1 _)⟩
  obtain ⟨BM, hBn⟩ : ∃ B, w1.heap.size = B := ⟨_, rfl⟩
  rw [hBn] at HN1
  have HW := hide (And.intro hwn hBn)
  have HBo := HB
  have neD_M := hide (own_ne (L := BM) OD.out (Nat.le_of_eq hBn))
  have nqX_M := hide (blk_ne HX.out hBn)
  have nqR_M := hide (blk_ne HR.out hBn)
  clear hwn hBn
  replace HX := hide (below_block wb HX.out (Nat.le_refl _))
  replace HR := hide (below_block wb HR.out (Nat.le_refl _))
  replace RP := hide (RP.out.below wb (Nat.le_refl _))
  replace OD := hide (owns_below OD.out wb (Nat.le_refl _))
  replace HB := hide (HB.out.trans (wb.mono HB.out.size))
  have HM := HN1
  have NM := hide (show w.heap.size ≤ BM by rw [← HW.out.2]; exact HBo.out.size)
  clear wb HN1 HBo
  go_upto_region 4 with (fail)
  rw [HW.out.1]
  try rw [HW.out.2]
  clear HW
  have qM_0 : w2.cell? ⟨BM, 0, none⟩ = some (.int .u8 (mp : Int)) := cell_at HM.out 0 rfl
  have qM_1 : w2.cell? ⟨BM, 1, none⟩ = some (.int .u8 0) := cell_at HM.out 1 rfl
  go_upto_region 6 with (fail)
  clear qM_0 qM_1
  have fz := free_at HM.out 0
  have qM_0 : w2.cell? ⟨BM, 0, none⟩ = some (.int .u8 (mp : Int)) := cell_at HM.out 0 rfl
  obtain ⟨w3, hVn, hVH, hVB, hVo, hVs⟩ := set1 (i := 0) (.int .u8 0) (c' := #[.int .u8 0, .int .u8 0, .int .u32 (mr : Int), .slice a1 mds.length k1]) HM.out HB.out NM.out (by kernel_rfl)
  have HVn := hide hVn
  clear hVn
  have HG := hide (gb_part HB.out hVB hVo hVs)
  have HXn := hide ((hVo _ nqX_M.out).trans HX.out)
  have HRn := hide ((hVo _ nqR_M.out).trans HR.out)
  have HMn := hide hVH
  have RPn := hide (AP.out.below hVB (Nat.le_refl _))
  have ODn := hide (owns_kept OD.out HG.out neD_M.out)
  have HBn := hide hVB
  clear hVH hVB hVo hVs HG
  go_upto_region 7 with (fail)
  rw [HVn.out]
  clear HVn fz
  clear qM_0
  replace HX := HXn
  clear HXn
  replace HR := HRn
  clear HRn
  replace HM := HMn
  clear HMn
  replace RP := RPn
  clear RPn
  replace OD := ODn
  clear ODn
  replace HB := HBn
  clear HBn
  have qX_2 : w3.cell? ⟨BX, 2, none⟩ = some (.int .u16 (id : Int)) := cell_at HX.out 2 rfl
  have qX_3 : w3.cell? ⟨BX, 3, none⟩ = some (.int .u32 (s : Int)) := cell_at HX.out 3 rfl
  have qX_4 : w3.cell? ⟨BX, 4, none⟩ = some (.int .u32 (d : Int)) := cell_at HX.out 4 rfl
  go_wp2_with ((refine ld_whole (o := ⟨some 30, _, _, _, _, _⟩) 55 (.tmp 4) rfl (by rfl) BM rfl #[.int .u8 0, .int .u8 0, .int .u32 (mr : Int), .slice a1 mds.length k1] 55 HM.out Try.underlying55 (by kernel_rfl) ?_; try simp only [Act.put, List.setIfInBounds_toArray, List.set_cons_zero, List.set_cons_succ]))
  have ltZ_X := hide (lt_of_block HX.out)
  have ltZ_R := hide (lt_of_block HR.out)
  have ltZ_M := hide (lt_of_block HM.out)
  have lbZ := hide HB.out.size
  refine (HCA.out _ a1 k1 (Lies.of_owns OD.out)).mono ?_
  rintro e w4 ⟨a, c, rfl, o, b⟩
  clear qX_2 qX_3 qX_4
  replace HX := hide (below_block b HX.out (Nat.le_refl _))
  replace HR := hide (below_block b HR.out (Nat.le_refl _))
  replace HM := hide (below_block b HM.out (Nat.le_refl _))
  replace RP := hide (RP.out.below b (Nat.le_refl _))
  replace OD := hide (owns_below OD.out b (Nat.le_refl _))
  replace HB := hide (HB.out.trans (b.mono HB.out.size))
  have OZ := hide o
  have neZ_X := hide (own_ne_lt o ltZ_X.out)
  clear ltZ_X
  have neZ_R := hide (own_ne_lt o ltZ_R.out)
  clear ltZ_R
  have neZ_M := hide (own_ne_lt o ltZ_M.out)
  clear ltZ_M
  clear b  o
  go_wp2_with ((refine st_part (o := ⟨none, _, _, _, _, _⟩) 27 (.tmp 2) (.tmp 37) rfl (by rfl) BR 0 rfl #[.int .u8 0, .int .u8 0, .int .u16 0, .int .u32 0, .int .u32 0, .slice none 0 0] 27 #[.int .u8 64, .int .u8 1, .int .u16 (id : Int), .int .u32 (d : Int), .int .u32 (s : Int), .slice a (8 + mds.length) c] rfl HR.out rfl (by kernel_rfl) (by kernel_rfl) HB.out NR.out ?_; rintro w9 w9h w9b w9o w9s; try simp only [Act.put, List.setIfInBounds_toArray, List.set_cons_zero, List.set_cons_succ]))
  rw [upd_whole (by rfl)] at w9h
  exact bodyPost_ret (v := .tuple #[.agg #[.int .u8 64, .int .u8 1, .int .u16 (id : Int), .int .u32 (d : Int), .int .u32 (s : Int), .slice a (8 + mds.length) c], .bool true]) (results_cell_tmp Try.results21 _ w9 BR _ _ _ _ rfl w9h Try.underlying27 rfl (by kernel_rfl) _ rfl) rfl ⟨a, c, rfl, owns_mono (owns_kept OZ.out (gb_part HB.out w9b w9o w9s) neZ_R.out) lbZ.out, w9b⟩
end Go.Proofs.Ytgggcapgaikbeaa
