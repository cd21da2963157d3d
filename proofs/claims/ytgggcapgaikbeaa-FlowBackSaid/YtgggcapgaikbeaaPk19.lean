/- icmp: the document's answers. -/
import Derived.Test.YtgggcapgaikbeaaPk18
namespace Go.Proofs.Ytgggcapgaikbeaa
open Go.RowKit
set_option linter.unusedVariables false
set_option linter.unusedSimpArgs false
set_option maxRecDepth 100000
set_option maxHeartbeats 1600000 in
theorem same4_any (w : World) (tt P id s d : Int) (a1 a2 : Option Addr) (xs : List Int) (n c1 c2 : Nat) (h1 : Row .u8 w a1 xs) (h2 : Row .u8 w a2 xs) (hl : xs.length = n) :
    Calls Try.prog 13 #[.agg #[.int .u8 tt, .int .u8 P, .int .u16 id, .int .u32 s, .int .u32 d, .slice a1 n c1], .agg #[.int .u8 tt, .int .u8 P, .int .u16 id, .int .u32 s, .int .u32 d, .slice a2 n c2]] w fun e w' => e = .returned (.bool true) ∧ Below w.heap.size w w' := by
  obtain ⟨V1, hV1⟩ : ∃ V, w.alloc (.cells #[.int .u8 tt, .int .u8 P, .int .u16 id, .int .u32 s, .int .u32 d, .slice a1 n c1] 27) = V := ⟨_, rfl⟩
  obtain ⟨V2, hV2⟩ : ∃ V, V1.alloc (.cells #[.int .u8 tt, .int .u8 P, .int .u16 id, .int .u32 s, .int .u32 d, .slice a2 n c2] 27) = V := ⟨_, rfl⟩
  have hz1 : V1.heap.size = w.heap.size + 1 := by rw [← hV1]; simp
  have hz2 : V2.heap.size = w.heap.size + 1 + 1 := by rw [← hV2]; simp [hz1]
  have hb1 : Below w.heap.size w V1 := by rw [← hV1]; exact (Below.refl _ _).alloc (Nat.le_refl _) _
  have hc2 : Below V1.heap.size V1 V2 := by rw [← hV2]; exact (Below.refl _ _).alloc (Nat.le_refl _) _
  have hb2 := hb1.trans (hc2.mono hb1.size)
  have hp1_1 : V1.heap[w.heap.size]? = some (.cells #[.int .u8 tt, .int .u8 P, .int .u16 id, .int .u32 s, .int .u32 d, .slice a1 n c1] 27 (0, 0)) := by rw [← hV1]; exact heap_alloc_new _ _
  have hp1_2 := below_block hc2 hp1_1 (Nat.le_refl _)
  have hp2_2 : V2.heap[w.heap.size + 1]? = some (.cells #[.int .u8 tt, .int .u8 P, .int .u16 id, .int .u32 s, .int .u32 d, .slice a2 n c2] 27 (0, 0)) := by rw [← hV2, ← hz1]; exact heap_alloc_new _ _
  obtain ⟨BX, hBX⟩ : ∃ B, w.heap.size = B := ⟨_, rfl⟩
  obtain ⟨BY, hBY⟩ : ∃ B, w.heap.size + 1 = B := ⟨_, rfl⟩
  have hw0 : w.heap.size ≤ BX ∧ w.heap.size ≤ BY := by omega
  have HX := hide (show V2.heap[BX]? = some (.cells #[.int .u8 tt, .int .u8 P, .int .u16 id, .int .u32 s, .int .u32 d, .slice a1 n c1] 27 (0, 0)) by rw [← hBX]; exact hp1_2)
  have NX : Hid (w.heap.size ≤ BX) := hide hw0.1
  have HY := hide (show V2.heap[BY]? = some (.cells #[.int .u8 tt, .int .u8 P, .int .u16 id, .int .u32 s, .int .u32 d, .slice a2 n c2] 27 (0, 0)) by rw [← hBY]; exact hp2_2)
  have NY : Hid (w.heap.size ≤ BY) := hide hw0.2
  have nqX_Y : Hid (BX ≠ BY) := hide (by omega)
  have HB := hide hb2
  have HE := hide (And.intro (And.intro trivial trivial) (And.intro hV1 ( And.intro hV2 (And.intro hBX ( And.intro hBY (trivial))))))
  clear hw0 hV1 hz1 hb1 hV2 hz2 hb2 hc2 hp1_1 hp1_2 hp2_2 hBX hBY 
  go_enter Try.func13, Try.ntmps13
  go_upto_region 1 with (fail)
  rw [HE.out.2.1]
  try rw [HE.out.2.2.1]
  try rw [HE.out.2.2.2.2.1]
  try rw [HE.out.2.2.2.1]
  clear HE
  have hc1 := conv_any a1 xs c1 _ (h1.below HB.out (Nat.le_refl _))
  have hc2 := conv_any a2 xs c2 _ (h2.below HB.out (Nat.le_refl _))
  rw [hl] at hc1 hc2
  clear h1 h2 hl
  have qX_0 : V2.cell? ⟨BX, 0, none⟩ = some (.int .u8 tt) := cell_at HX.out 0 rfl
  have qY_0 : V2.cell? ⟨BY, 0, none⟩ = some (.int .u8 tt) := cell_at HY.out 0 rfl
  have qX_1 : V2.cell? ⟨BX, 1, none⟩ = some (.int .u8 P) := cell_at HX.out 1 rfl
  have qY_1 : V2.cell? ⟨BY, 1, none⟩ = some (.int .u8 P) := cell_at HY.out 1 rfl
  have qX_2 : V2.cell? ⟨BX, 2, none⟩ = some (.int .u16 id) := cell_at HX.out 2 rfl
  have qY_2 : V2.cell? ⟨BY, 2, none⟩ = some (.int .u16 id) := cell_at HY.out 2 rfl
  have qX_3 : V2.cell? ⟨BX, 3, none⟩ = some (.int .u32 s) := cell_at HX.out 3 rfl
  have qY_3 : V2.cell? ⟨BY, 3, none⟩ = some (.int .u32 s) := cell_at HY.out 3 rfl
  have qX_4 : V2.cell? ⟨BX, 4, none⟩ = some (.int .u32 d) := cell_at HX.out 4 rfl
  have qY_4 : V2.cell? ⟨BY, 4, none⟩ = some (.int .u32 d) := cell_at HY.out 4 rfl
  have qX_5 : V2.cell? ⟨BX, 5, none⟩ = some (.slice a1 n c1) := cell_at HX.out 5 rfl
  have qY_5 : V2.cell? ⟨BY, 5, none⟩ = some (.slice a2 n c2) := cell_at HY.out 5 rfl
  go_wp2_with fail
  go_ret
  exact ⟨rfl, HB.out⟩
set_option maxHeartbeats 4000000 in
theorem rmay_any (w : World) (tt P id s d : Nat) (da : Option Addr) (xs : List Int) (n dc : Nat) (hLx : Lies w da xs n dc) (hl : xs.length = n) (hb : ∀ x ∈ xs, 0 ≤ x ∧ x ≤ 255) (ht : tt ≤ 255) (hP : P ≤ 255) (hid : id ≤ 65535) (hs : s ≤ 4294967295) (hd : d ≤ 4294967295) :
    Calls Try.prog 25 #[.agg #[.int .u8 (tt : Int), .int .u8 (P : Int), .int .u16 (id : Int), .int .u32 (s : Int), .int .u32 (d : Int), .slice da n dc]] w fun e w' => e = .returned (.bool (icMay P s d xs)) ∧ Below w.heap.size w w' := by
  have HRI := hide (fun (W : World) (hL : Lies W da xs n dc) => (readICMP_both xs n hl hb).2 W da dc hL)
  obtain ⟨e1, he1⟩ : ∃ x, decide (P = 1) = x := ⟨_, rfl⟩
  have he1' : ((P : Int) == 1) = e1 := (eq_dec P 1).trans he1
  have he2 : decide (P ≠ 1) = !e1 := by rw [← he1]; simp
  obtain ⟨c1, hc1⟩ : ∃ x, decide (msgCode xs ≠ 0) = x := ⟨_, rfl⟩
  have hc1' : (((msgCode xs : Nat) : Int) != 0) = c1 := (ne_dec _ 0).trans hc1
  have hc2 : decide (msgCode xs = 0) = !c1 := by rw [← hc1]; simp
  obtain ⟨t0, ht0⟩ : ∃ x, decide ((msgOf xs).p ≠ 0) = x := ⟨_, rfl⟩
  have ht0' : ((((msgOf xs).p : Nat) : Int) != 0) = t0 := (ne_dec _ 0).trans ht0
  have ht02 : decide ((msgOf xs).p = 0) = !t0 := by rw [← ht0]; simp
  obtain ⟨t8, ht8⟩ : ∃ x, decide ((msgOf xs).p ≠ 8) = x := ⟨_, rfl⟩
  have ht8' : ((((msgOf xs).p : Nat) : Int) != 8) = t8 := (ne_dec _ 8).trans ht8
  have ht82 : decide ((msgOf xs).p = 8) = !t8 := by rw [← ht8]; simp
  obtain ⟨s0, hs0⟩ : ∃ x, decide (s = 0) = x := ⟨_, rfl⟩
  have hs0' : ((s : Int) == 0) = s0 := (eq_dec s 0).trans hs0
  have hs02 : decide (s ≠ 0) = !s0 := by rw [← hs0]; simp
  obtain ⟨sF, hsF⟩ : ∃ x, decide (s = 4294967295) = x := ⟨_, rfl⟩
  have hsF' : ((s : Int) == 4294967295) = sF := (eq_dec s 4294967295).trans hsF
  obtain ⟨s14, hs14⟩ : ∃ x, decide (upN s = 14) = x := ⟨_, rfl⟩
  have hs14' : (((upN s : Nat) : Int) == 14) = s14 := (eq_dec _ 14).trans hs14
  have hs142 : decide (upN s ≠ 14) = !s14 := by rw [← hs14]; simp
  obtain ⟨s15, hs15⟩ : ∃ x, decide (upN s = 15) = x := ⟨_, rfl⟩
  have hs15' : (((upN s : Nat) : Int) == 15) = s15 := (eq_dec _ 15).trans hs15
  have hs152 : decide (upN s ≠ 15) = !s15 := by rw [← hs15]; simp
  obtain ⟨dF, hdF⟩ : ∃ x, decide (d = 4294967295) = x := ⟨_, rfl⟩
  have hdF' : ((d : Int) == 4294967295) = dF := (eq_dec d 4294967295).trans hdF
  have hdF2 : decide (d ≠ 4294967295) = !dF := by rw [← hdF]; simp
  obtain ⟨d14, hd14⟩ : ∃ x, decide (upN d = 14) = x := ⟨_, rfl⟩
  have hd14' : (((upN d : Nat) : Int) == 14) = d14 := (eq_dec _ 14).trans hd14
  have hd142 : decide (upN d ≠ 14) = !d14 := by rw [← hd14]; simp
  obtain ⟨L, hL⟩ : ∃ x, decide (n ≤ 1480) = x := ⟨_, rfl⟩
  have hL' : decide ((n : Int) ≤ 1480) = L := by rw [← hL]; by_cases h : n ≤ 1480 <;> simp [h] <;> omega
  have hFF := hide (show sF = true → s15 = true by rw [← hsF, ← hs15]; intro h; simp at h ⊢; subst h; rfl)
  have hm : icMay P s d xs = (L && (!e1 || (!c1 && (!t0 || !t8))) && (!s0 && !s14 && !s15) && (!dF && !d14)) := by
    unfold icMay mayOf mayTo isOneA
    rw [hl, hL, he2, hc2, ht02, ht82, hs02, hs142, hs152, hdF2, hd142]
  rw [hm]
  have hdS : (s : Int) / 268435456 = ((upN s : Nat) : Int) := by unfold upN; omega
  have hdD : (d : Int) / 268435456 = ((upN d : Nat) : Int) := by unfold upN; omega
  clear hm he1 he2 hc1 hc2 ht0 ht02 ht8 ht82 hs0 hs02 hsF hs14 hs142 hs15 hs152 hdF hdF2 hd14 hd142 hL hl hb
  unfold MsgAns at HRI
  generalize msgCode xs = mc at *
  generalize msgOf xs = mo at *
  generalize upN s = us at *
  generalize upN d = ud at *
  obtain ⟨mp, mq, mr, mds⟩ := mo
  dsimp only at *
  obtain ⟨mp', hmp⟩ : ∃ x, (mp : Int) = x := ⟨_, rfl⟩
  obtain ⟨mc', hmc⟩ : ∃ x, (mc : Int) = x := ⟨_, rfl⟩
  rw [hmp] at HRI ht0' ht8'
  rw [hmc] at HRI hc1'
  clear hmp hmc
  have hcs : e1 = false ∨ (e1 = true ∧ c1 = true) ∨ (e1 = true ∧ c1 = false ∧ t0 = true ∧ t8 = true) ∨ (e1 = true ∧ c1 = false ∧ t0 = false) ∨ (e1 = true ∧ c1 = false ∧ t0 = true ∧ t8 = false) := by cases e1 <;> cases c1 <;> cases t0 <;> cases t8 <;> simp
  rcases hcs with rfl | ⟨rfl, rfl⟩ | ⟨rfl, rfl, rfl, rfl⟩ | ⟨rfl, rfl, rfl⟩ | ⟨rfl, rfl, rfl, rfl⟩
  · skip
    obtain ⟨V1, hV1⟩ : ∃ V, w.alloc (.cells #[.int .u8 (tt : Int), .int .u8 (P : Int), .int .u16 (id : Int), .int .u32 (s : Int), .int .u32 (d : Int), .slice da n dc] 27) = V := ⟨_, rfl⟩
    have hz1 : V1.heap.size = w.heap.size + 1 := by rw [← hV1]; simp
    have hb1 : Below w.heap.size w V1 := by rw [← hV1]; exact (Below.refl _ _).alloc (Nat.le_refl _) _
    have hp1_1 : V1.heap[w.heap.size]? = some (.cells #[.int .u8 (tt : Int), .int .u8 (P : Int), .int .u16 (id : Int), .int .u32 (s : Int), .int .u32 (d : Int), .slice da n dc] 27 (0, 0)) := by rw [← hV1]; exact heap_alloc_new _ _
    obtain ⟨BX, hBX⟩ : ∃ B, w.heap.size = B := ⟨_, rfl⟩
    have hw0 : w.heap.size ≤ BX := by omega
    have HX := hide (show V1.heap[BX]? = some (.cells #[.int .u8 (tt : Int), .int .u8 (P : Int), .int .u16 (id : Int), .int .u32 (s : Int), .int .u32 (d : Int), .slice da n dc] 27 (0, 0)) by rw [← hBX]; exact hp1_1)
    have NX : Hid (w.heap.size ≤ BX) := hide hw0
    have AP := hide hLx
    have RP := hide (hLx.below hb1 (Nat.le_refl _))
    have HB := hide hb1
    have HE := hide (And.intro (And.intro trivial trivial) (And.intro hV1 (And.intro hBX (trivial))))
    clear hw0 hV1 hz1 hb1  hp1_1 hBX hLx
    go_enter Try.func25, Try.ntmps25
    go_upto_region 1 with (fail)
    rw [HE.out.2.1]
    try rw [HE.out.2.2.1]
    clear HE
    have qX_1 : V1.cell? ⟨BX, 1, none⟩ = some (.int .u8 (P : Int)) := cell_at HX.out 1 rfl
    go_wp2_with fail
    clear qX_1
    clear RP
    have qX_3 : V1.cell? ⟨BX, 3, none⟩ = some (.int .u32 (s : Int)) := cell_at HX.out 3 rfl
    have qX_4 : V1.cell? ⟨BX, 4, none⟩ = some (.int .u32 (d : Int)) := cell_at HX.out 4 rfl
    go_quiet (fail)
    obtain ⟨w1, hVq, wb⟩ : ∃ V, V1.drewN nq = V ∧ Below V1.heap.size V1 V := ⟨_, rfl, bdrewN (Below.refl _ _) _⟩
    rw [hVq]
    clear hVq
    clear qX_3 qX_4
    replace HX := hide (below_block wb HX.out (Nat.le_refl _))
    replace HB := hide (HB.out.trans (wb.mono HB.out.size))
    clear wb
    have qX_3 : w1.cell? ⟨BX, 3, none⟩ = some (.int .u32 (s : Int)) := cell_at HX.out 3 rfl
    have qX_4 : w1.cell? ⟨BX, 4, none⟩ = some (.int .u32 (d : Int)) := cell_at HX.out 4 rfl
    have qX_5 : w1.cell? ⟨BX, 5, none⟩ = some (.slice da n dc) := cell_at HX.out 5 rfl
    go_wp2_with fail
    have hFF2 := hFF.out
    all_goals
      go_ret
      exact ⟨by first | (simp [*]; done) | (cases sF <;> simp_all), HB.out⟩
  · skip
    obtain ⟨V1, hV1⟩ : ∃ V, w.alloc (.cells #[.int .u8 (tt : Int), .int .u8 (P : Int), .int .u16 (id : Int), .int .u32 (s : Int), .int .u32 (d : Int), .slice da n dc] 27) = V := ⟨_, rfl⟩
    have hz1 : V1.heap.size = w.heap.size + 1 := by rw [← hV1]; simp
    have hb1 : Below w.heap.size w V1 := by rw [← hV1]; exact (Below.refl _ _).alloc (Nat.le_refl _) _
    have hp1_1 : V1.heap[w.heap.size]? = some (.cells #[.int .u8 (tt : Int), .int .u8 (P : Int), .int .u16 (id : Int), .int .u32 (s : Int), .int .u32 (d : Int), .slice da n dc] 27 (0, 0)) := by rw [← hV1]; exact heap_alloc_new _ _
    obtain ⟨BX, hBX⟩ : ∃ B, w.heap.size = B := ⟨_, rfl⟩
    have hw0 : w.heap.size ≤ BX := by omega
    have HX := hide (show V1.heap[BX]? = some (.cells #[.int .u8 (tt : Int), .int .u8 (P : Int), .int .u16 (id : Int), .int .u32 (s : Int), .int .u32 (d : Int), .slice da n dc] 27 (0, 0)) by rw [← hBX]; exact hp1_1)
    have NX : Hid (w.heap.size ≤ BX) := hide hw0
    have AP := hide hLx
    have RP := hide (hLx.below hb1 (Nat.le_refl _))
    have HB := hide hb1
    have HE := hide (And.intro (And.intro trivial trivial) (And.intro hV1 (And.intro hBX (trivial))))
    clear hw0 hV1 hz1 hb1  hp1_1 hBX hLx
    go_enter Try.func25, Try.ntmps25
    go_upto_region 1 with (fail)
    rw [HE.out.2.1]
    try rw [HE.out.2.2.1]
    clear HE
    have qX_1 : V1.cell? ⟨BX, 1, none⟩ = some (.int .u8 (P : Int)) := cell_at HX.out 1 rfl
    have qX_5 : V1.cell? ⟨BX, 5, none⟩ = some (.slice da n dc) := cell_at HX.out 5 rfl
    go_wp2_with fail
    refine (HRI.out _ RP.out).mono ?_
    rintro e w1 ⟨a1, k1, rfl, o, b⟩
    clear qX_1 qX_5
    replace HX := hide (below_block b HX.out (Nat.le_refl _))
    replace RP := hide (RP.out.below b (Nat.le_refl _))
    replace HB := hide (HB.out.trans (b.mono HB.out.size))
    clear b o
    obtain ⟨w2, hwn, wb, HN1⟩ : ∃ W, w1.alloc (.cells #[.int .u8 mp', .int .u8 (mq : Int), .int .u32 (mr : Int), .slice a1 mds.length k1] 55) = W ∧ Below w1.heap.size w1 W ∧ Hid (W.heap[w1.heap.size]? = some (.cells #[.int .u8 mp', .int .u8 (mq : Int), .int .u32 (mr : Int), .slice a1 mds.length k1] 55 (0, 0))) := ⟨_, rfl, (Below.refl w1.heap.size w1).alloc (Nat.le_refl _) _, hide (heap_alloc_new w1 _)⟩
    obtain ⟨BM, hBn⟩ : ∃ B, w1.heap.size = B := ⟨_, rfl⟩
    rw [hBn] at HN1
    have HW := hide (And.intro hwn hBn)
    have HBo := HB
    have nqX_M := hide (blk_ne HX.out hBn)
    clear hwn hBn
    replace HX := hide (below_block wb HX.out (Nat.le_refl _))
    replace RP := hide (RP.out.below wb (Nat.le_refl _))
    replace HB := hide (HB.out.trans (wb.mono HB.out.size))
    have HM := HN1
    have NM := hide (show w.heap.size ≤ BM by rw [← HW.out.2]; exact HBo.out.size)
    clear wb HN1 HBo
    go_upto_region 3 with (fail)
    rw [HW.out.1]
    try rw [HW.out.2]
    clear HW
    have qM_0 : w2.cell? ⟨BM, 0, none⟩ = some (.int .u8 mp') := cell_at HM.out 0 rfl
    go_wp2_with fail
    go_ret
    exact ⟨by simp, HB.out⟩
  · skip
    obtain ⟨V1, hV1⟩ : ∃ V, w.alloc (.cells #[.int .u8 (tt : Int), .int .u8 (P : Int), .int .u16 (id : Int), .int .u32 (s : Int), .int .u32 (d : Int), .slice da n dc] 27) = V := ⟨_, rfl⟩
    have hz1 : V1.heap.size = w.heap.size + 1 := by rw [← hV1]; simp
    have hb1 : Below w.heap.size w V1 := by rw [← hV1]; exact (Below.refl _ _).alloc (Nat.le_refl _) _
    have hp1_1 : V1.heap[w.heap.size]? = some (.cells #[.int .u8 (tt : Int), .int .u8 (P : Int), .int .u16 (id : Int), .int .u32 (s : Int), .int .u32 (d : Int), .slice da n dc] 27 (0, 0)) := by rw [← hV1]; exact heap_alloc_new _ _
    obtain ⟨BX, hBX⟩ : ∃ B, w.heap.size = B := ⟨_, rfl⟩
    have hw0 : w.heap.size ≤ BX := by omega
    have HX := hide (show V1.heap[BX]? = some (.cells #[.int .u8 (tt : Int), .int .u8 (P : Int), .int .u16 (id : Int), .int .u32 (s : Int), .int .u32 (d : Int), .slice da n dc] 27 (0, 0)) by rw [← hBX]; exact hp1_1)
    have NX : Hid (w.heap.size ≤ BX) := hide hw0
    have AP := hide hLx
    have RP := hide (hLx.below hb1 (Nat.le_refl _))
    have HB := hide hb1
    have HE := hide (And.intro (And.intro trivial trivial) (And.intro hV1 (And.intro hBX (trivial))))
    clear hw0 hV1 hz1 hb1  hp1_1 hBX hLx
    go_enter Try.func25, Try.ntmps25
    go_upto_region 1 with (fail)
    rw [HE.out.2.1]
    try rw [HE.out.2.2.1]
    clear HE
    have qX_1 : V1.cell? ⟨BX, 1, none⟩ = some (.int .u8 (P : Int)) := cell_at HX.out 1 rfl
    have qX_5 : V1.cell? ⟨BX, 5, none⟩ = some (.slice da n dc) := cell_at HX.out 5 rfl
    go_wp2_with fail
    refine (HRI.out _ RP.out).mono ?_
    rintro e w1 ⟨a1, k1, rfl, o, b⟩
    clear qX_1 qX_5
    replace HX := hide (below_block b HX.out (Nat.le_refl _))
    replace RP := hide (RP.out.below b (Nat.le_refl _))
    replace HB := hide (HB.out.trans (b.mono HB.out.size))
    clear b o
    obtain ⟨w2, hwn, wb, HN1⟩ : ∃ W, w1.alloc (.cells #[.int .u8 mp', .int .u8 (mq : Int), .int .u32 (mr : Int), .slice a1 mds.length k1] 55) = W ∧ Below w1.heap.size w1 W ∧ Hid (W.heap[w1.heap.size]? = some (.cells #[.int .u8 mp', .int .u8 (mq : Int), .int .u32 (mr : Int), .slice a1 mds.length k1] 55 (0, 0))) := ⟨_, rfl, (Below.refl w1.heap.size w1).alloc (Nat.le_refl _) _, hide (heap_alloc_new w1 _)⟩
    obtain ⟨BM, hBn⟩ : ∃ B, w1.heap.size = B := ⟨_, rfl⟩
    rw [hBn] at HN1
    have HW := hide (And.intro hwn hBn)
    have HBo := HB
    have nqX_M := hide (blk_ne HX.out hBn)
    clear hwn hBn
    replace HX := hide (below_block wb HX.out (Nat.le_refl _))
    replace RP := hide (RP.out.below wb (Nat.le_refl _))
    replace HB := hide (HB.out.trans (wb.mono HB.out.size))
    have HM := HN1
    have NM := hide (show w.heap.size ≤ BM by rw [← HW.out.2]; exact HBo.out.size)
    clear wb HN1 HBo
    go_upto_region 3 with (fail)
    rw [HW.out.1]
    try rw [HW.out.2]
    clear HW
    have qM_0 : w2.cell? ⟨BM, 0, none⟩ = some (.int .u8 mp') := cell_at HM.out 0 rfl
    go_wp2_with fail
    go_ret
    exact ⟨by simp, HB.out⟩
  · skip
    obtain ⟨V1, hV1⟩ : ∃ V, w.alloc (.cells #[.int .u8 (tt : Int), .int .u8 (P : Int), .int .u16 (id : Int), .int .u32 (s : Int), .int .u32 (d : Int), .slice da n dc] 27) = V := ⟨_, rfl⟩
    have hz1 : V1.heap.size = w.heap.size + 1 := by rw [← hV1]; simp
    have hb1 : Below w.heap.size w V1 := by rw [← hV1]; exact (Below.refl _ _).alloc (Nat.le_refl _) _
    have hp1_1 : V1.heap[w.heap.size]? = some (.cells #[.int .u8 (tt : Int), .int .u8 (P : Int), .int .u16 (id : Int), .int .u32 (s : Int), .int .u32 (d : Int), .slice da n dc] 27 (0, 0)) := by rw [← hV1]; exact heap_alloc_new _ _
    obtain ⟨BX, hBX⟩ : ∃ B, w.heap.size = B := ⟨_, rfl⟩
    have hw0 : w.heap.size ≤ BX := by omega
    have HX := hide (show V1.heap[BX]? = some (.cells #[.int .u8 (tt : Int), .int .u8 (P : Int), .int .u16 (id : Int), .int .u32 (s : Int), .int .u32 (d : Int), .slice da n dc] 27 (0, 0)) by rw [← hBX]; exact hp1_1)
    have NX : Hid (w.heap.size ≤ BX) := hide hw0
    have AP := hide hLx
    have RP := hide (hLx.below hb1 (Nat.le_refl _))
    have HB := hide hb1
    have HE := hide (And.intro (And.intro trivial trivial) (And.intro hV1 (And.intro hBX (trivial))))
    clear hw0 hV1 hz1 hb1  hp1_1 hBX hLx
    go_enter Try.func25, Try.ntmps25
    go_upto_region 1 with (fail)
    rw [HE.out.2.1]
    try rw [HE.out.2.2.1]
    clear HE
    have qX_1 : V1.cell? ⟨BX, 1, none⟩ = some (.int .u8 (P : Int)) := cell_at HX.out 1 rfl
    have qX_5 : V1.cell? ⟨BX, 5, none⟩ = some (.slice da n dc) := cell_at HX.out 5 rfl
    go_wp2_with fail
    refine (HRI.out _ RP.out).mono ?_
    rintro e w1 ⟨a1, k1, rfl, o, b⟩
    clear qX_1 qX_5
    replace HX := hide (below_block b HX.out (Nat.le_refl _))
    replace RP := hide (RP.out.below b (Nat.le_refl _))
    replace HB := hide (HB.out.trans (b.mono HB.out.size))
    clear b o
    obtain ⟨w2, hwn, wb, HN1⟩ : ∃ W, w1.alloc (.cells #[.int .u8 mp', .int .u8 (mq : Int), .int .u32 (mr : Int), .slice a1 mds.length k1] 55) = W ∧ Below w1.heap.size w1 W ∧ Hid (W.heap[w1.heap.size]? = some (.cells #[.int .u8 mp', .int .u8 (mq : Int), .int .u32 (mr : Int), .slice a1 mds.length k1] 55 (0, 0))) := ⟨_, rfl, (Below.refl w1.heap.size w1).alloc (Nat.le_refl _) _, hide (heap_alloc_new w1 _)⟩
    obtain ⟨BM, hBn⟩ : ∃ B, w1.heap.size = B := ⟨_, rfl⟩
    rw [hBn] at HN1
    have HW := hide (And.intro hwn hBn)
    have HBo := HB
    have nqX_M := hide (blk_ne HX.out hBn)
    clear hwn hBn
    replace HX := hide (below_block wb HX.out (Nat.le_refl _))
    replace RP := hide (RP.out.below wb (Nat.le_refl _))
    replace HB := hide (HB.out.trans (wb.mono HB.out.size))
    have HM := HN1
    have NM := hide (show w.heap.size ≤ BM by rw [← HW.out.2]; exact HBo.out.size)
    clear wb HN1 HBo
    go_upto_region 3 with (fail)
    rw [HW.out.1]
    try rw [HW.out.2]
    clear HW
    have qM_0 : w2.cell? ⟨BM, 0, none⟩ = some (.int .u8 mp') := cell_at HM.out 0 rfl
    go_wp2_with fail
    clear qM_0
    clear RP
    have qX_3 : w2.cell? ⟨BX, 3, none⟩ = some (.int .u32 (s : Int)) := cell_at HX.out 3 rfl
    have qX_4 : w2.cell? ⟨BX, 4, none⟩ = some (.int .u32 (d : Int)) := cell_at HX.out 4 rfl
    go_quiet (fail)
    obtain ⟨w3, hVq, wb⟩ : ∃ V, w2.drewN nq = V ∧ Below w2.heap.size w2 V := ⟨_, rfl, bdrewN (Below.refl _ _) _⟩
    rw [hVq]
    clear hVq
    clear qX_3 qX_4
    replace HX := hide (below_block wb HX.out (Nat.le_refl _))
    replace HM := hide (below_block wb HM.out (Nat.le_refl _))
    replace HB := hide (HB.out.trans (wb.mono HB.out.size))
    clear wb
    have qX_3 : w3.cell? ⟨BX, 3, none⟩ = some (.int .u32 (s : Int)) := cell_at HX.out 3 rfl
    have qX_4 : w3.cell? ⟨BX, 4, none⟩ = some (.int .u32 (d : Int)) := cell_at HX.out 4 rfl
    have qX_5 : w3.cell? ⟨BX, 5, none⟩ = some (.slice da n dc) := cell_at HX.out 5 rfl
    go_wp2_with fail
    have hFF2 := hFF.out
    all_goals
      go_ret
      exact ⟨by first | (simp [*]; done) | (cases sF <;> simp_all), HB.out⟩
  · skip
    obtain ⟨V1, hV1⟩ : ∃ V, w.alloc (.cells #[.int .u8 (tt : Int), .int .u8 (P : Int), .int .u16 (id : Int), .int .u32 (s : Int), .int .u32 (d : Int), .slice da n dc] 27) = V := ⟨_, rfl⟩
    have hz1 : V1.heap.size = w.heap.size + 1 := by rw [← hV1]; simp
    have hb1 : Below w.heap.size w V1 := by rw [← hV1]; exact (Below.refl _ _).alloc (Nat.le_refl _) _
    have hp1_1 : V1.heap[w.heap.size]? = some (.cells #[.int .u8 (tt : Int), .int .u8 (P : Int), .int .u16 (id : Int), .int .u32 (s : Int), .int .u32 (d : Int), .slice da n dc] 27 (0, 0)) := by rw [← hV1]; exact heap_alloc_new _ _
    obtain ⟨BX, hBX⟩ : ∃ B, w.heap.size = B := ⟨_, rfl⟩
    have hw0 : w.heap.size ≤ BX := by omega
    have HX := hide (show V1.heap[BX]? = some (.cells #[.int .u8 (tt : Int), .int .u8 (P : Int), .int .u16 (id : Int), .int .u32 (s : Int), .int .u32 (d : Int), .slice da n dc] 27 (0, 0)) by rw [← hBX]; exact hp1_1)
    have NX : Hid (w.heap.size ≤ BX) := hide hw0
    have AP := hide hLx
    have RP := hide (hLx.below hb1 (Nat.le_refl _))
    have HB := hide hb1
    have HE := hide (And.intro (And.intro trivial trivial) (And.intro hV1 (And.intro hBX (trivial))))
    clear hw0 hV1 hz1 hb1  hp1_1 hBX hLx
    go_enter Try.func25, Try.ntmps25
    go_upto_region 1 with (fail)
    rw [HE.out.2.1]
    try rw [HE.out.2.2.1]
    clear HE
    have qX_1 : V1.cell? ⟨BX, 1, none⟩ = some (.int .u8 (P : Int)) := cell_at HX.out 1 rfl
    have qX_5 : V1.cell? ⟨BX, 5, none⟩ = some (.slice da n dc) := cell_at HX.out 5 rfl
    go_wp2_with fail
    refine (HRI.out _ RP.out).mono ?_
    rintro e w1 ⟨a1, k1, rfl, o, b⟩
    clear qX_1 qX_5
    replace HX := hide (below_block b HX.out (Nat.le_refl _))
    replace RP := hide (RP.out.below b (Nat.le_refl _))
    replace HB := hide (HB.out.trans (b.mono HB.out.size))
    clear b o
    obtain ⟨w2, hwn, wb, HN1⟩ : ∃ W, w1.alloc (.cells #[.int .u8 mp', .int .u8 (mq : Int), .int .u32 (mr : Int), .slice a1 mds.length k1] 55) = W ∧ Below w1.heap.size w1 W ∧ Hid (W.heap[w1.heap.size]? = some (.cells #[.int .u8 mp', .int .u8 (mq : Int), .int .u32 (mr : Int), .slice a1 mds.length k1] 55 (0, 0))) := ⟨_, rfl, (Below.refl w1.heap.size w1).alloc (Nat.le_refl _) _, hide (heap_alloc_new w1 _)⟩
    obtain ⟨BM, hBn⟩ : ∃ B, w1.heap.size = B := ⟨_, rfl⟩
    rw [hBn] at HN1
    have HW := hide (And.intro hwn hBn)
    have HBo := HB
    have nqX_M := hide (blk_ne HX.out hBn)
    clear hwn hBn
    replace HX := hide (below_block wb HX.out (Nat.le_refl _))
    replace RP := hide (RP.out.below wb (Nat.le_refl _))
    replace HB := hide (HB.out.trans (wb.mono HB.out.size))
    have HM := HN1
    have NM := hide (show w.heap.size ≤ BM by rw [← HW.out.2]; exact HBo.out.size)
    clear wb HN1 HBo
    go_upto_region 3 with (fail)
    rw [HW.out.1]
    try rw [HW.out.2]
    clear HW
    have qM_0 : w2.cell? ⟨BM, 0, none⟩ = some (.int .u8 mp') := cell_at HM.out 0 rfl
    go_wp2_with fail
    clear qM_0
    clear RP
    have qX_3 : w2.cell? ⟨BX, 3, none⟩ = some (.int .u32 (s : Int)) := cell_at HX.out 3 rfl
    have qX_4 : w2.cell? ⟨BX, 4, none⟩ = some (.int .u32 (d : Int)) := cell_at HX.out 4 rfl
    go_quiet (fail)
    obtain ⟨w3, hVq, wb⟩ : ∃ V, w2.drewN nq = V ∧ Below w2.heap.size w2 V := ⟨_, rfl, bdrewN (Below.refl _ _) _⟩
    rw [hVq]
    clear hVq
    clear qX_3 qX_4
    replace HX := hide (below_block wb HX.out (Nat.le_refl _))
    replace HM := hide (below_block wb HM.out (Nat.le_refl _))
    replace HB := hide (HB.out.trans (wb.mono HB.out.size))
    clear wb
    have qX_3 : w3.cell? ⟨BX, 3, none⟩ = some (.int .u32 (s : Int)) := cell_at HX.out 3 rfl
    have qX_4 : w3.cell? ⟨BX, 4, none⟩ = some (.int .u32 (d : Int)) := cell_at HX.out 4 rfl
    have qX_5 : w3.cell? ⟨BX, 5, none⟩ = some (.slice da n dc) := cell_at HX.out 5 rfl
    go_wp2_with fail
    have hFF2 := hFF.out
    all_goals
      go_ret
      exact ⟨by first | (simp [*]; done) | (cases sF <;> simp_all), HB.out⟩
set_option maxHeartbeats 1600000 in
theorem rerr_no (w : World) (own kind code : Nat) (tt P id s d : Nat) (da : Option Addr) (xs : List Int) (n dc : Nat) (hLx : Lies w da xs n dc) (hl : xs.length = n) (hb : ∀ x ∈ xs, 0 ≤ x ∧ x ≤ 255) (ht : tt ≤ 255) (hP : P ≤ 255) (hid : id ≤ 65535) (hs : s ≤ 4294967295) (hd : d ≤ 4294967295) (hm : icMay P s d xs = false) :
    Calls Try.prog 22 #[.int .u32 (own : Int), .agg #[.int .u8 (tt : Int), .int .u8 (P : Int), .int .u16 (id : Int), .int .u32 (s : Int), .int .u32 (d : Int), .slice da n dc], .int .u8 (kind : Int), .int .u8 (code : Int)] w fun e w' => e = .returned (.tuple #[.agg #[.int .u8 0, .int .u8 0, .int .u16 0, .int .u32 0, .int .u32 0, .slice none 0 0], .bool false]) ∧ Below w.heap.size w w' := by
  have HMA := hide (fun (W : World) (hL : Lies W da xs n dc) => rmay_any W tt P id s d da xs n dc hL hl hb ht hP hid hs hd)
  rw [hm] at HMA
  obtain ⟨V1, hV1⟩ : ∃ V, w.alloc (.cells #[.int .u8 (tt : Int), .int .u8 (P : Int), .int .u16 (id : Int), .int .u32 (s : Int), .int .u32 (d : Int), .slice da n dc] 27) = V := ⟨_, rfl⟩
  obtain ⟨V2, hV2⟩ : ∃ V, V1.alloc (.cells #[.int .u8 0, .int .u8 0, .int .u16 0, .int .u32 0, .int .u32 0, .slice none 0 0] 27) = V := ⟨_, rfl⟩
  have hz1 : V1.heap.size = w.heap.size + 1 := by rw [← hV1]; simp
  have hz2 : V2.heap.size = w.heap.size + 1 + 1 := by rw [← hV2]; simp [hz1]
  have hb1 : Below w.heap.size w V1 := by rw [← hV1]; exact (Below.refl _ _).alloc (Nat.le_refl _) _
  have hc2 : Below V1.heap.size V1 V2 := by rw [← hV2]; exact (Below.refl _ _).alloc (Nat.le_refl _) _
  have hb2 := hb1.trans (hc2.mono hb1.size)
  have hp1_1 : V1.heap[w.heap.size]? = some (.cells #[.int .u8 (tt : Int), .int .u8 (P : Int), .int .u16 (id : Int), .int .u32 (s : Int), .int .u32 (d : Int), .slice da n dc] 27 (0, 0)) := by rw [← hV1]; exact heap_alloc_new _ _
  have hp1_2 := below_block hc2 hp1_1 (Nat.le_refl _)
  have hp2_2 : V2.heap[w.heap.size + 1]? = some (.cells #[.int .u8 0, .int .u8 0, .int .u16 0, .int .u32 0, .int .u32 0, .slice none 0 0] 27 (0, 0)) := by rw [← hV2, ← hz1]; exact heap_alloc_new _ _
  obtain ⟨BX, hBX⟩ : ∃ B, w.heap.size = B := ⟨_, rfl⟩
  obtain ⟨BR, hBR⟩ : ∃ B, w.heap.size + 1 = B := ⟨_, rfl⟩
  have hw0 : w.heap.size ≤ BX ∧ w.heap.size ≤ BR := by omega
  have HX := hide (show V2.heap[BX]? = some (.cells #[.int .u8 (tt : Int), .int .u8 (P : Int), .int .u16 (id : Int), .int .u32 (s : Int), .int .u32 (d : Int), .slice da n dc] 27 (0, 0)) by rw [← hBX]; exact hp1_2)
  have NX : Hid (w.heap.size ≤ BX) := hide hw0.1
  have HR := hide (show V2.heap[BR]? = some (.cells #[.int .u8 0, .int .u8 0, .int .u16 0, .int .u32 0, .int .u32 0, .slice none 0 0] 27 (0, 0)) by rw [← hBR]; exact hp2_2)
  have NR : Hid (w.heap.size ≤ BR) := hide hw0.2
  have nqX_R : Hid (BX ≠ BR) := hide (by omega)
  have AP := hide hLx
  have RP := hide (hLx.below hb2 (Nat.le_refl _))
  have HB := hide hb2
  have HE := hide (And.intro (And.intro trivial trivial) (And.intro hV1 ( And.intro hV2 (And.intro hBX ( And.intro hBR (trivial))))))
  clear hw0 hV1 hz1 hb1 hV2 hz2 hb2 hc2 hp1_1 hp1_2 hp2_2 hBX hBR hLx
  go_enter Try.func22, Try.ntmps22
  go_upto_region 1 with (fail)
  rw [HE.out.2.1]
  try rw [HE.out.2.2.1]
  try rw [HE.out.2.2.2.2.1]
  try rw [HE.out.2.2.2.1]
  clear HE
  go_wp2_with ((refine ld_whole (o := ⟨some 14, _, _, _, _, _⟩) 27 (.tmp 5) rfl (by rfl) BX rfl #[.int .u8 (tt : Int), .int .u8 (P : Int), .int .u16 (id : Int), .int .u32 (s : Int), .int .u32 (d : Int), .slice da n dc] 27 HX.out Try.underlying27 (by kernel_rfl) ?_; try simp only [Act.put, List.setIfInBounds_toArray, List.set_cons_zero, List.set_cons_succ]))
  refine (HMA.out _ RP.out).mono ?_
  rintro e w1 ⟨rfl, b⟩
  replace HX := hide (below_block b HX.out (Nat.le_refl _))
  replace HR := hide (below_block b HR.out (Nat.le_refl _))
  replace RP := hide (RP.out.below b (Nat.le_refl _))
  replace HB := hide (HB.out.trans (b.mono HB.out.size))
  clear b 
  go_wp2_with ((refine st_part (o := ⟨none, _, _, _, _, _⟩) 27 (.tmp 8) (.tmp 17) rfl (by rfl) BR 0 rfl #[.int .u8 0, .int .u8 0, .int .u16 0, .int .u32 0, .int .u32 0, .slice none 0 0] 27 #[.int .u8 0, .int .u8 0, .int .u16 0, .int .u32 0, .int .u32 0, .slice none 0 0] rfl HR.out rfl (by kernel_rfl) (by kernel_rfl) HB.out NR.out ?_; rintro w9 w9h w9b w9o w9s; try simp only [Act.put, List.setIfInBounds_toArray, List.set_cons_zero, List.set_cons_succ]))
  rw [upd_whole (by rfl)] at w9h
  exact bodyPost_ret (v := .tuple #[.agg #[.int .u8 0, .int .u8 0, .int .u16 0, .int .u32 0, .int .u32 0, .slice none 0 0], .bool false]) (results_cell_tmp Try.results22 _ w9 BR _ _ _ _ rfl w9h Try.underlying27 rfl (by kernel_rfl) _ rfl) rfl ⟨rfl, w9b⟩
set_option maxHeartbeats 1600000 in
theorem rerr_yes (w : World) (own kind code M : Nat) (tt P id s d : Nat) (da : Option Addr) (xs : List Int) (n dc : Nat) (hLx : Lies w da xs n dc) (hl : xs.length = n) (hb : ∀ x ∈ xs, 0 ≤ x ∧ x ≤ 255) (ht : tt ≤ 255) (hP : P ≤ 255) (hid : id ≤ 65535) (hs : s ≤ 4294967295) (hd : d ≤ 4294967295) (hm : icMay P s d xs = true) (hM : M = min (20 + n) 28) (hk : kind ≤ 255) (hc : code ≤ 255) :
    Calls Try.prog 22 #[.int .u32 (own : Int), .agg #[.int .u8 (tt : Int), .int .u8 (P : Int), .int .u16 (id : Int), .int .u32 (s : Int), .int .u32 (d : Int), .slice da n dc], .int .u8 (kind : Int), .int .u8 (code : Int)] w fun e w' => ∃ a c,
      e = .returned (.tuple #[.agg #[.int .u8 64, .int .u8 1, .int .u16 0, .int .u32 (own : Int), .int .u32 (s : Int), .slice a (8 + M) c], .bool true]) ∧ w'.ownsRow w.heap.size 5 1 (.slice a (8 + M) c) (8 + M) ((icmpB kind code 0 ((ipG tt P id s d xs).take M)).map (Value.int .u8)) ∧ Below w.heap.size w w' := by
  have h1 : n ≤ 1480 := by unfold icMay at hm; simp at hm; omega
  have HMA := hide (fun (W : World) (hL : Lies W da xs n dc) => rmay_any W tt P id s d da xs n dc hL hl hb ht hP hid hs hd)
  rw [hm] at HMA
  have HWO := hide (fun (W : World) (hL : Lies W da xs n dc) => rwip_ok W tt P id s d da xs n dc hL.row hL.no hl h1 ht hP hid hs hd)
  have HGL := hide (show (ipG tt P id s d xs).length = 20 + n by rw [ipG_len, hl])
  have HGR := hide (show ∀ x ∈ ipG tt P id s d xs, 0 ≤ x ∧ x ≤ 255 by
    intro x hx
    unfold ipG at hx
    rcases List.mem_append.1 hx with h | h
    · exact ipH_rng _ _ _ _ _ _ _ ht hP x h
    · exact hb x h)
  have HCA := hide (fun (W : World) (a : Option Addr) (c : Nat) (hL : Lies W a ((ipG tt P id s d xs).take M) M c) => rwicmp_ok W kind code 0 a ((ipG tt P id s d xs).take M) M c hL.row hL.no (by rw [List.length_take, HGL.out]; omega) (fun x hx => HGR.out x (List.mem_of_mem_take hx)) (by omega) hk hc (by omega))
  clear hm hl hb
  obtain ⟨V1, hV1⟩ : ∃ V, w.alloc (.cells #[.int .u8 (tt : Int), .int .u8 (P : Int), .int .u16 (id : Int), .int .u32 (s : Int), .int .u32 (d : Int), .slice da n dc] 27) = V := ⟨_, rfl⟩
  obtain ⟨V2, hV2⟩ : ∃ V, V1.alloc (.cells #[.int .u8 0, .int .u8 0, .int .u16 0, .int .u32 0, .int .u32 0, .slice none 0 0] 27) = V := ⟨_, rfl⟩
  have hz1 : V1.heap.size = w.heap.size + 1 := by rw [← hV1]; simp
  have hz2 : V2.heap.size = w.heap.size + 1 + 1 := by rw [← hV2]; simp [hz1]
  have hb1 : Below w.heap.size w V1 := by rw [← hV1]; exact (Below.refl _ _).alloc (Nat.le_refl _) _
  have hc2 : Below V1.heap.size V1 V2 := by rw [← hV2]; exact (Below.refl _ _).alloc (Nat.le_refl _) _
  have hb2 := hb1.trans (hc2.mono hb1.size)
  have hp1_1 : V1.heap[w.heap.size]? = some (.cells #[.int .u8 (tt : Int), .int .u8 (P : Int), .int .u16 (id : Int), .int .u32 (s : Int), .int .u32 (d : Int), .slice da n dc] 27 (0, 0)) := by rw [← hV1]; exact heap_alloc_new _ _
  have hp1_2 := below_block hc2 hp1_1 (Nat.le_refl _)
  have hp2_2 : V2.heap[w.heap.size + 1]? = some (.cells #[.int .u8 0, .int .u8 0, .int .u16 0, .int .u32 0, .int .u32 0, .slice none 0 0] 27 (0, 0)) := by rw [← hV2, ← hz1]; exact heap_alloc_new _ _
  obtain ⟨BX, hBX⟩ : ∃ B, w.heap.size = B := ⟨_, rfl⟩
  obtain ⟨BR, hBR⟩ : ∃ B, w.heap.size + 1 = B := ⟨_, rfl⟩
  have hw0 : w.heap.size ≤ BX ∧ w.heap.size ≤ BR := by omega
  have HX := hide (show V2.heap[BX]? = some (.cells #[.int .u8 (tt : Int), .int .u8 (P : Int), .int .u16 (id : Int), .int .u32 (s : Int), .int .u32 (d : Int), .slice da n dc] 27 (0, 0)) by rw [← hBX]; exact hp1_2)
  have NX : Hid (w.heap.size ≤ BX) := hide hw0.1
  have HR := hide (show V2.heap[BR]? = some (.cells #[.int .u8 0, .int .u8 0, .int .u16 0, .int .u32 0, .int .u32 0, .slice none 0 0] 27 (0, 0)) by rw [← hBR]; exact hp2_2)
  have NR : Hid (w.heap.size ≤ BR) := hide hw0.2
  have nqX_R : Hid (BX ≠ BR) := hide (by omega)
  have AP := hide hLx
  have RP := hide (hLx.below hb2 (Nat.le_refl _))
  have HB := hide hb2
  have HE := hide (And.intro (And.intro trivial trivial) (And.intro hV1 ( And.intro hV2 (And.intro hBX ( And.intro hBR (trivial))))))
  clear hw0 hV1 hz1 hb1 hV2 hz2 hb2 hc2 hp1_1 hp1_2 hp2_2 hBX hBR hLx
  go_enter Try.func22, Try.ntmps22
  go_upto_region 1 with (fail)
  rw [HE.out.2.1]
  try rw [HE.out.2.2.1]
  try rw [HE.out.2.2.2.2.1]
  try rw [HE.out.2.2.2.1]
  clear HE
  go_wp2_with ((refine ld_whole (o := ⟨some 14, _, _, _, _, _⟩) 27 (.tmp 5) rfl (by rfl) BX rfl #[.int .u8 (tt : Int), .int .u8 (P : Int), .int .u16 (id : Int), .int .u32 (s : Int), .int .u32 (d : Int), .slice da n dc] 27 HX.out Try.underlying27 (by kernel_rfl) ?_; try simp only [Act.put, List.setIfInBounds_toArray, List.set_cons_zero, List.set_cons_succ]))
  refine (HMA.out _ RP.out).mono ?_
  rintro e w1 ⟨rfl, b⟩
  replace HX := hide (below_block b HX.out (Nat.le_refl _))
  replace HR := hide (below_block b HR.out (Nat.le_refl _))
  replace RP := hide (RP.out.below b (Nat.le_refl _))
  replace HB := hide (HB.out.trans (b.mono HB.out.size))
  clear b 
  go_wp2_with ((refine ld_whole (o := ⟨some 19, _, _, _, _, _⟩) 27 (.tmp 5) rfl (by rfl) BX rfl #[.int .u8 (tt : Int), .int .u8 (P : Int), .int .u16 (id : Int), .int .u32 (s : Int), .int .u32 (d : Int), .slice da n dc] 27 HX.out Try.underlying27 (by kernel_rfl) ?_; try simp only [Act.put, List.setIfInBounds_toArray, List.set_cons_zero, List.set_cons_succ]))
  refine (HWO.out _ RP.out).mono ?_
  rintro e w2 ⟨a4, c4, rfl, o, b⟩
  replace HX := hide (below_block b HX.out (Nat.le_refl _))
  replace HR := hide (below_block b HR.out (Nat.le_refl _))
  replace RP := hide (RP.out.below b (Nat.le_refl _))
  replace HB := hide (HB.out.trans (b.mono HB.out.size))
  have RY := hide (Lies.of_owns o)
  clear b o
  have hc4 := RY.out.le
  rcases Nat.lt_or_ge 28 (20 + n) with hmn | hmn
  · skip
    obtain rfl : M = 28 := by omega
    clear hM
    have q1 : (28 : Int) < 20 + (n : Int) := by omega
    have q5 : (28 : Int) ≤ (c4 : Int) := by omega
    have RYc := hide (RY.out.cut HGL.out 28 (by omega))
    clear RY RP
    go_wp2_with fail
    all_goals (try (exfalso; omega))
    clear q1 q5 hc4
    have ltZ_X := hide (lt_of_block HX.out)
    have ltZ_R := hide (lt_of_block HR.out)
    have lbZ := hide HB.out.size
    refine (HCA.out _ a4 c4 RYc.out).mono ?_
    rintro e w3 ⟨a, c, rfl, o, b⟩
    replace HX := hide (below_block b HX.out (Nat.le_refl _))
    replace HR := hide (below_block b HR.out (Nat.le_refl _))
    replace RYc := hide (RYc.out.below b (Nat.le_refl _))
    replace HB := hide (HB.out.trans (b.mono HB.out.size))
    have OZ := hide o
    have neZ_X := hide (own_ne_lt o ltZ_X.out)
    clear ltZ_X
    have neZ_R := hide (own_ne_lt o ltZ_R.out)
    clear ltZ_R
    clear b  o
    have qX_3 : w3.cell? ⟨BX, 3, none⟩ = some (.int .u32 (s : Int)) := cell_at HX.out 3 rfl
    go_wp2_with ((refine st_part (o := ⟨none, _, _, _, _, _⟩) 27 (.tmp 8) (.tmp 40) rfl (by rfl) BR 0 rfl #[.int .u8 0, .int .u8 0, .int .u16 0, .int .u32 0, .int .u32 0, .slice none 0 0] 27 #[.int .u8 64, .int .u8 1, .int .u16 0, .int .u32 (own : Int), .int .u32 (s : Int), .slice a (8 + 28) c] rfl HR.out rfl (by kernel_rfl) (by kernel_rfl) HB.out NR.out ?_; rintro w9 w9h w9b w9o w9s; try simp only [Act.put, List.setIfInBounds_toArray, List.set_cons_zero, List.set_cons_succ]))
    rw [upd_whole (by rfl)] at w9h
    exact bodyPost_ret (v := .tuple #[.agg #[.int .u8 64, .int .u8 1, .int .u16 0, .int .u32 (own : Int), .int .u32 (s : Int), .slice a (8 + 28) c], .bool true]) (results_cell_tmp Try.results22 _ w9 BR _ _ _ _ rfl w9h Try.underlying27 rfl (by kernel_rfl) _ rfl) rfl ⟨a, c, rfl, owns_mono (owns_kept OZ.out (gb_part HB.out w9b w9o w9s) neZ_R.out) lbZ.out, w9b⟩
  · skip
    obtain rfl : 20 + n = M := by omega
    clear hM
    have q1 : ¬ ((28 : Int) < 20 + (n : Int)) := by omega
    have q5 : 20 + (n : Int) ≤ (c4 : Int) := by omega
    have RYc := hide (RY.out.cut HGL.out (20 + n) (by omega))
    clear RY RP
    go_wp2_with fail
    all_goals (try (exfalso; omega))
    clear q1 q5 hc4
    have ltZ_X := hide (lt_of_block HX.out)
    have ltZ_R := hide (lt_of_block HR.out)
    have lbZ := hide HB.out.size
    refine (HCA.out _ a4 c4 RYc.out).mono ?_
    rintro e w3 ⟨a, c, rfl, o, b⟩
    replace HX := hide (below_block b HX.out (Nat.le_refl _))
    replace HR := hide (below_block b HR.out (Nat.le_refl _))
    replace RYc := hide (RYc.out.below b (Nat.le_refl _))
    replace HB := hide (HB.out.trans (b.mono HB.out.size))
    have OZ := hide o
    have neZ_X := hide (own_ne_lt o ltZ_X.out)
    clear ltZ_X
    have neZ_R := hide (own_ne_lt o ltZ_R.out)
    clear ltZ_R
    clear b  o
    have qX_3 : w3.cell? ⟨BX, 3, none⟩ = some (.int .u32 (s : Int)) := cell_at HX.out 3 rfl
    go_wp2_with ((refine st_part (o := ⟨none, _, _, _, _, _⟩) 27 (.tmp 8) (.tmp 40) rfl (by rfl) BR 0 rfl #[.int .u8 0, .int .u8 0, .int .u16 0, .int .u32 0, .int .u32 0, .slice none 0 0] 27 #[.int .u8 64, .int .u8 1, .int .u16 0, .int .u32 (own : Int), .int .u32 (s : Int), .slice a (8 + (20 + n)) c] rfl HR.out rfl (by kernel_rfl) (by kernel_rfl) HB.out NR.out ?_; rintro w9 w9h w9b w9o w9s; try simp only [Act.put, List.setIfInBounds_toArray, List.set_cons_zero, List.set_cons_succ]))
    rw [upd_whole (by rfl)] at w9h
    exact bodyPost_ret (v := .tuple #[.agg #[.int .u8 64, .int .u8 1, .int .u16 0, .int .u32 (own : Int), .int .u32 (s : Int), .slice a (8 + (20 + n)) c], .bool true]) (results_cell_tmp Try.results22 _ w9 BR _ _ _ _ rfl w9h Try.underlying27 rfl (by kernel_rfl) _ rfl) rfl ⟨a, c, rfl, owns_mono (owns_kept OZ.out (gb_part HB.out w9b w9o w9s) neZ_R.out) lbZ.out, w9b⟩
set_option maxHeartbeats 1600000 in
theorem rans_no (w : World) (tt P id s d : Nat) (da : Option Addr) (xs : List Int) (n dc : Nat) (hLx : Lies w da xs n dc) (hl : xs.length = n) (hb : ∀ x ∈ xs, 0 ≤ x ∧ x ≤ 255) (hm : ansOk P xs = false) :
    Calls Try.prog 23 #[.agg #[.int .u8 (tt : Int), .int .u8 (P : Int), .int .u16 (id : Int), .int .u32 (s : Int), .int .u32 (d : Int), .slice da n dc]] w fun e w' => e = .returned (.tuple #[.agg #[.int .u8 0, .int .u8 0, .int .u16 0, .int .u32 0, .int .u32 0, .slice none 0 0], .bool false]) ∧ Below w.heap.size w w' := by
  have HRI := hide (fun (W : World) (hL : Lies W da xs n dc) => (readICMP_both xs n hl hb).2 W da dc hL)
  obtain ⟨p1, hp1⟩ : ∃ x, decide (P ≠ 1) = x := ⟨_, rfl⟩
  have hp1' : ((P : Int) != 1) = p1 := (ne_dec P 1).trans hp1
  obtain ⟨c1, hc1⟩ : ∃ x, decide (msgCode xs ≠ 0) = x := ⟨_, rfl⟩
  have hc1' : (((msgCode xs : Nat) : Int) != 0) = c1 := (ne_dec _ 0).trans hc1
  obtain ⟨t8, ht8⟩ : ∃ x, decide ((msgOf xs).p ≠ 8) = x := ⟨_, rfl⟩
  have ht8' : ((((msgOf xs).p : Nat) : Int) != 8) = t8 := (ne_dec _ 8).trans ht8
  obtain ⟨q0, hq0⟩ : ∃ x, decide ((msgOf xs).q ≠ 0) = x := ⟨_, rfl⟩
  have hq0' : ((((msgOf xs).q : Nat) : Int) != 0) = q0 := (ne_dec _ 0).trans hq0
  unfold ansOk at hm
  rw [hp1, hc1, ht8, hq0] at hm
  clear hl hb
  clear hp1 hc1 ht8 hq0
  unfold MsgAns at HRI
  generalize hmc : msgCode xs = mc at *
  generalize hmo : msgOf xs = mo at *
  obtain ⟨mp, mq, mr, mds⟩ := mo
  dsimp only at *
  obtain ⟨mc', hmc2⟩ : ∃ x, (mc : Int) = x := ⟨_, rfl⟩
  rw [hmc2] at HRI hc1'
  clear hmc2 hmc hmo
  have hcs : p1 = true ∨ (p1 = false ∧ c1 = true) ∨ (p1 = false ∧ c1 = false ∧ t8 = true) ∨ (p1 = false ∧ c1 = false ∧ t8 = false ∧ q0 = true) := by revert hm; cases p1 <;> cases c1 <;> cases t8 <;> cases q0 <;> simp
  clear hm
  rcases hcs with rfl | ⟨rfl, rfl⟩ | ⟨rfl, rfl, rfl⟩ | ⟨rfl, rfl, rfl, rfl⟩
  · skip
    obtain ⟨V1, hV1⟩ : ∃ V, w.alloc (.cells #[.int .u8 (tt : Int), .int .u8 (P : Int), .int .u16 (id : Int), .int .u32 (s : Int), .int .u32 (d : Int), .slice da n dc] 27) = V := ⟨_, rfl⟩
    obtain ⟨V2, hV2⟩ : ∃ V, V1.alloc (.cells #[.int .u8 0, .int .u8 0, .int .u16 0, .int .u32 0, .int .u32 0, .slice none 0 0] 27) = V := ⟨_, rfl⟩
    have hz1 : V1.heap.size = w.heap.size + 1 := by rw [← hV1]; simp
    have hz2 : V2.heap.size = w.heap.size + 1 + 1 := by rw [← hV2]; simp [hz1]
    have hb1 : Below w.heap.size w V1 := by rw [← hV1]; exact (Below.refl _ _).alloc (Nat.le_refl _) _
    have hc2 : Below V1.heap.size V1 V2 := by rw [← hV2]; exact (Below.refl _ _).alloc (Nat.le_refl _) _
    have hb2 := hb1.trans (hc2.mono hb1.size)
    have hp1_1 : V1.heap[w.heap.size]? = some (.cells #[.int .u8 (tt : Int), .int .u8 (P : Int), .int .u16 (id : Int), .int .u32 (s : Int), .int .u32 (d : Int), .slice da n dc] 27 (0, 0)) := by rw [← hV1]; exact heap_alloc_new _ _
    have hp1_2 := below_block hc2 hp1_1 (Nat.le_refl _)
    have hp2_2 : V2.heap[w.heap.size + 1]? = some (.cells #[.int .u8 0, .int .u8 0, .int .u16 0, .int .u32 0, .int .u32 0, .slice none 0 0] 27 (0, 0)) := by rw [← hV2, ← hz1]; exact heap_alloc_new _ _
    obtain ⟨BX, hBX⟩ : ∃ B, w.heap.size = B := ⟨_, rfl⟩
    obtain ⟨BR, hBR⟩ : ∃ B, w.heap.size + 1 = B := ⟨_, rfl⟩
    have hw0 : w.heap.size ≤ BX ∧ w.heap.size ≤ BR := by omega
    have HX := hide (show V2.heap[BX]? = some (.cells #[.int .u8 (tt : Int), .int .u8 (P : Int), .int .u16 (id : Int), .int .u32 (s : Int), .int .u32 (d : Int), .slice da n dc] 27 (0, 0)) by rw [← hBX]; exact hp1_2)
    have NX : Hid (w.heap.size ≤ BX) := hide hw0.1
    have HR := hide (show V2.heap[BR]? = some (.cells #[.int .u8 0, .int .u8 0, .int .u16 0, .int .u32 0, .int .u32 0, .slice none 0 0] 27 (0, 0)) by rw [← hBR]; exact hp2_2)
    have NR : Hid (w.heap.size ≤ BR) := hide hw0.2
    have nqX_R : Hid (BX ≠ BR) := hide (by omega)
    have AP := hide hLx
    have RP := hide (hLx.below hb2 (Nat.le_refl _))
    have HB := hide hb2
    have HE := hide (And.intro (And.intro trivial trivial) (And.intro hV1 ( And.intro hV2 (And.intro hBX ( And.intro hBR (trivial))))))
    clear hw0 hV1 hz1 hb1 hV2 hz2 hb2 hc2 hp1_1 hp1_2 hp2_2 hBX hBR hLx
    go_enter Try.func23, Try.ntmps23
    go_upto_region 1 with (fail)
    rw [HE.out.2.1]
    try rw [HE.out.2.2.1]
    try rw [HE.out.2.2.2.2.1]
    try rw [HE.out.2.2.2.1]
    clear HE
    have qX_5 : V2.cell? ⟨BX, 5, none⟩ = some (.slice da n dc) := cell_at HX.out 5 rfl
    go_wp2_with fail
    have ltD_X := hide (lt_of_block HX.out)
    have ltD_R := hide (lt_of_block HR.out)
    have lbD := hide HB.out.size
    refine (HRI.out _ RP.out).mono ?_
    rintro e w1 ⟨a1, k1, rfl, o, b⟩
    clear qX_5
    replace HX := hide (below_block b HX.out (Nat.le_refl _))
    replace HR := hide (below_block b HR.out (Nat.le_refl _))
    replace RP := hide (RP.out.below b (Nat.le_refl _))
    replace HB := hide (HB.out.trans (b.mono HB.out.size))
    have OD := hide o
    have neD_X := hide (own_ne_lt o ltD_X.out)
    clear ltD_X
    have neD_R := hide (own_ne_lt o ltD_R.out)
    clear ltD_R
    clear b  o
    obtain ⟨w2, hwn, wb, HN1⟩ : ∃ W, w1.alloc (.cells #[.int .u8 (mp : Int), .int .u8 (mq : Int), .int .u32 (mr : Int), .slice a1 mds.length k1] 55) = W ∧ Below w1.heap.size w1 W ∧ Hid (W.heap[w1.heap.size]? = some (.cells #[.int .u8 (mp : Int), .int .u8 (mq : Int), .int .u32 (mr : Int), .slice a1 mds.length k1] 55 (0, 0))) := ⟨_, rfl, (Below.refl w1.heap.size w1).alloc (Nat.le_refl _) _, hide (heap_alloc_new w1 _)⟩
    obtain ⟨BM, hBn⟩ : ∃ B, w1.heap.size = B := ⟨_, rfl⟩
    rw [hBn] at HN1
    have HW := hide (And.intro hwn hBn)
    have HBo := HB
    have neD_M := hide (own_ne (L := BM) OD.out (Nat.le_of_eq hBn))
    have nqX_M := hide (blk_ne HX.out hBn)
    have nqR_M := hide (blk_ne HR.out hBn)
    clear hwn hBn
    replace HX := hide (below_block wb HX.out (Nat.le_refl _))
    replace HR := hide (below_block wb HR.out (Nat.le_refl _))
    replace RP := hide (RP.out.below wb (Nat.le_refl _))
    replace OD := hide (owns_below OD.out wb (Nat.le_refl _))
    replace HB := hide (HB.out.trans (wb.mono HB.out.size))
    have HM := HN1
    have NM := hide (show w.heap.size ≤ BM by rw [← HW.out.2]; exact HBo.out.size)
    clear wb HN1 HBo
    go_upto_region 2 with (fail)
    rw [HW.out.1]
    try rw [HW.out.2]
    clear HW
    have qM_0 : w2.cell? ⟨BM, 0, none⟩ = some (.int .u8 (mp : Int)) := cell_at HM.out 0 rfl
    have qM_1 : w2.cell? ⟨BM, 1, none⟩ = some (.int .u8 (mq : Int)) := cell_at HM.out 1 rfl
    have qX_1 : w2.cell? ⟨BX, 1, none⟩ = some (.int .u8 (P : Int)) := cell_at HX.out 1 rfl
    go_wp2_with ((refine st_part (o := ⟨none, _, _, _, _, _⟩) 27 (.tmp 2) (.tmp 31) rfl (by rfl) BR 0 rfl #[.int .u8 0, .int .u8 0, .int .u16 0, .int .u32 0, .int .u32 0, .slice none 0 0] 27 #[.int .u8 0, .int .u8 0, .int .u16 0, .int .u32 0, .int .u32 0, .slice none 0 0] rfl HR.out rfl (by kernel_rfl) (by kernel_rfl) HB.out NR.out ?_; rintro w9 w9h w9b w9o w9s; try simp only [Act.put, List.setIfInBounds_toArray, List.set_cons_zero, List.set_cons_succ]))
    rw [upd_whole (by rfl)] at w9h
    exact bodyPost_ret (v := .tuple #[.agg #[.int .u8 0, .int .u8 0, .int .u16 0, .int .u32 0, .int .u32 0, .slice none 0 0], .bool false]) (results_cell_tmp Try.results23 _ w9 BR _ _ _ _ rfl w9h Try.underlying27 rfl (by kernel_rfl) _ rfl) rfl ⟨rfl, w9b⟩
  · skip
    obtain ⟨V1, hV1⟩ : ∃ V, w.alloc (.cells #[.int .u8 (tt : Int), .int .u8 (P : Int), .int .u16 (id : Int), .int .u32 (s : Int), .int .u32 (d : Int), .slice da n dc] 27) = V := ⟨_, rfl⟩
    obtain ⟨V2, hV2⟩ : ∃ V, V1.alloc (.cells #[.int .u8 0, .int .u8 0, .int .u16 0, .int .u32 0, .int .u32 0, .slice none 0 0] 27) = V := ⟨_, rfl⟩
    have hz1 : V1.heap.size = w.heap.size + 1 := by rw [← hV1]; simp
    have hz2 : V2.heap.size = w.heap.size + 1 + 1 := by rw [← hV2]; simp [hz1]
    have hb1 : Below w.heap.size w V1 := by rw [← hV1]; exact (Below.refl _ _).alloc (Nat.le_refl _) _
    have hc2 : Below V1.heap.size V1 V2 := by rw [← hV2]; exact (Below.refl _ _).alloc (Nat.le_refl _) _
    have hb2 := hb1.trans (hc2.mono hb1.size)
    have hp1_1 : V1.heap[w.heap.size]? = some (.cells #[.int .u8 (tt : Int), .int .u8 (P : Int), .int .u16 (id : Int), .int .u32 (s : Int), .int .u32 (d : Int), .slice da n dc] 27 (0, 0)) := by rw [← hV1]; exact heap_alloc_new _ _
    have hp1_2 := below_block hc2 hp1_1 (Nat.le_refl _)
    have hp2_2 : V2.heap[w.heap.size + 1]? = some (.cells #[.int .u8 0, .int .u8 0, .int .u16 0, .int .u32 0, .int .u32 0, .slice none 0 0] 27 (0, 0)) := by rw [← hV2, ← hz1]; exact heap_alloc_new _ _
    obtain ⟨BX, hBX⟩ : ∃ B, w.heap.size = B := ⟨_, rfl⟩
    obtain ⟨BR, hBR⟩ : ∃ B, w.heap.size + 1 = B := ⟨_, rfl⟩
    have hw0 : w.heap.size ≤ BX ∧ w.heap.size ≤ BR := by omega
    have HX := hide (show V2.heap[BX]? = some (.cells #[.int .u8 (tt : Int), .int .u8 (P : Int), .int .u16 (id : Int), .int .u32 (s : Int), .int .u32 (d : Int), .slice da n dc] 27 (0, 0)) by rw [← hBX]; exact hp1_2)
    have NX : Hid (w.heap.size ≤ BX) := hide hw0.1
    have HR := hide (show V2.heap[BR]? = some (.cells #[.int .u8 0, .int .u8 0, .int .u16 0, .int .u32 0, .int .u32 0, .slice none 0 0] 27 (0, 0)) by rw [← hBR]; exact hp2_2)
    have NR : Hid (w.heap.size ≤ BR) := hide hw0.2
    have nqX_R : Hid (BX ≠ BR) := hide (by omega)
    have AP := hide hLx
    have RP := hide (hLx.below hb2 (Nat.le_refl _))
    have HB := hide hb2
    have HE := hide (And.intro (And.intro trivial trivial) (And.intro hV1 ( And.intro hV2 (And.intro hBX ( And.intro hBR (trivial))))))
    clear hw0 hV1 hz1 hb1 hV2 hz2 hb2 hc2 hp1_1 hp1_2 hp2_2 hBX hBR hLx
    go_enter Try.func23, Try.ntmps23
    go_upto_region 1 with (fail)
    rw [HE.out.2.1]
    try rw [HE.out.2.2.1]
    try rw [HE.out.2.2.2.2.1]
    try rw [HE.out.2.2.2.1]
    clear HE
    have qX_5 : V2.cell? ⟨BX, 5, none⟩ = some (.slice da n dc) := cell_at HX.out 5 rfl
    go_wp2_with fail
    have ltD_X := hide (lt_of_block HX.out)
    have ltD_R := hide (lt_of_block HR.out)
    have lbD := hide HB.out.size
    refine (HRI.out _ RP.out).mono ?_
    rintro e w1 ⟨a1, k1, rfl, o, b⟩
    clear qX_5
    replace HX := hide (below_block b HX.out (Nat.le_refl _))
    replace HR := hide (below_block b HR.out (Nat.le_refl _))
    replace RP := hide (RP.out.below b (Nat.le_refl _))
    replace HB := hide (HB.out.trans (b.mono HB.out.size))
    have OD := hide o
    have neD_X := hide (own_ne_lt o ltD_X.out)
    clear ltD_X
    have neD_R := hide (own_ne_lt o ltD_R.out)
    clear ltD_R
    clear b  o
    obtain ⟨w2, hwn, wb, HN1⟩ : ∃ W, w1.alloc (.cells #[.int .u8 (mp : Int), .int .u8 (mq : Int), .int .u32 (mr : Int), .slice a1 mds.length k1] 55) = W ∧ Below w1.heap.size w1 W ∧ Hid (W.heap[w1.heap.size]? = some (.cells #[.int .u8 (mp : Int), .int .u8 (mq : Int), .int .u32 (mr : Int), .slice a1 mds.length k1] 55 (0, 0))) := ⟨_, rfl, (Below.refl w1.heap.size w1).alloc (Nat.le_refl _) _, hide (heap_alloc_new w1 _)⟩
    obtain ⟨BM, hBn⟩ : ∃ B, w1.heap.size = B := ⟨_, rfl⟩
    rw [hBn] at HN1
    have HW := hide (And.intro hwn hBn)
    have HBo := HB
    have neD_M := hide (own_ne (L := BM) OD.out (Nat.le_of_eq hBn))
    have nqX_M := hide (blk_ne HX.out hBn)
    have nqR_M := hide (blk_ne HR.out hBn)
    clear hwn hBn
    replace HX := hide (below_block wb HX.out (Nat.le_refl _))
    replace HR := hide (below_block wb HR.out (Nat.le_refl _))
    replace RP := hide (RP.out.below wb (Nat.le_refl _))
    replace OD := hide (owns_below OD.out wb (Nat.le_refl _))
    replace HB := hide (HB.out.trans (wb.mono HB.out.size))
    have HM := HN1
    have NM := hide (show w.heap.size ≤ BM by rw [← HW.out.2]; exact HBo.out.size)
    clear wb HN1 HBo
    go_upto_region 2 with (fail)
    rw [HW.out.1]
    try rw [HW.out.2]
    clear HW
    have qM_0 : w2.cell? ⟨BM, 0, none⟩ = some (.int .u8 (mp : Int)) := cell_at HM.out 0 rfl
    have qM_1 : w2.cell? ⟨BM, 1, none⟩ = some (.int .u8 (mq : Int)) := cell_at HM.out 1 rfl
    have qX_1 : w2.cell? ⟨BX, 1, none⟩ = some (.int .u8 (P : Int)) := cell_at HX.out 1 rfl
    go_wp2_with ((refine st_part (o := ⟨none, _, _, _, _, _⟩) 27 (.tmp 2) (.tmp 31) rfl (by rfl) BR 0 rfl #[.int .u8 0, .int .u8 0, .int .u16 0, .int .u32 0, .int .u32 0, .slice none 0 0] 27 #[.int .u8 0, .int .u8 0, .int .u16 0, .int .u32 0, .int .u32 0, .slice none 0 0] rfl HR.out rfl (by kernel_rfl) (by kernel_rfl) HB.out NR.out ?_; rintro w9 w9h w9b w9o w9s; try simp only [Act.put, List.setIfInBounds_toArray, List.set_cons_zero, List.set_cons_succ]))
    rw [upd_whole (by rfl)] at w9h
    exact bodyPost_ret (v := .tuple #[.agg #[.int .u8 0, .int .u8 0, .int .u16 0, .int .u32 0, .int .u32 0, .slice none 0 0], .bool false]) (results_cell_tmp Try.results23 _ w9 BR _ _ _ _ rfl w9h Try.underlying27 rfl (by kernel_rfl) _ rfl) rfl ⟨rfl, w9b⟩
  · skip
    obtain ⟨V1, hV1⟩ : ∃ V, w.alloc (.cells #[.int .u8 (tt : Int), .int .u8 (P : Int), .int .u16 (id : Int), .int .u32 (s : Int), .int .u32 (d : Int), .slice da n dc] 27) = V := ⟨_, rfl⟩
    obtain ⟨V2, hV2⟩ : ∃ V, V1.alloc (.cells #[.int .u8 0, .int .u8 0, .int .u16 0, .int .u32 0, .int .u32 0, .slice none 0 0] 27) = V := ⟨_, rfl⟩
    have hz1 : V1.heap.size = w.heap.size + 1 := by rw [← hV1]; simp
    have hz2 : V2.heap.size = w.heap.size + 1 + 1 := by rw [← hV2]; simp [hz1]
    have hb1 : Below w.heap.size w V1 := by rw [← hV1]; exact (Below.refl _ _).alloc (Nat.le_refl _) _
    have hc2 : Below V1.heap.size V1 V2 := by rw [← hV2]; exact (Below.refl _ _).alloc (Nat.le_refl _) _
    have hb2 := hb1.trans (hc2.mono hb1.size)
    have hp1_1 : V1.heap[w.heap.size]? = some (.cells #[.int .u8 (tt : Int), .int .u8 (P : Int), .int .u16 (id : Int), .int .u32 (s : Int), .int .u32 (d : Int), .slice da n dc] 27 (0, 0)) := by rw [← hV1]; exact heap_alloc_new _ _
    have hp1_2 := below_block hc2 hp1_1 (Nat.le_refl _)
    have hp2_2 : V2.heap[w.heap.size + 1]? = some (.cells #[.int .u8 0, .int .u8 0, .int .u16 0, .int .u32 0, .int .u32 0, .slice none 0 0] 27 (0, 0)) := by rw [← hV2, ← hz1]; exact heap_alloc_new _ _
    obtain ⟨BX, hBX⟩ : ∃ B, w.heap.size = B := ⟨_, rfl⟩
    obtain ⟨BR, hBR⟩ : ∃ B, w.heap.size + 1 = B := ⟨_, rfl⟩
    have hw0 : w.heap.size ≤ BX ∧ w.heap.size ≤ BR := by omega
    have HX := hide (show V2.heap[BX]? = some (.cells #[.int .u8 (tt : Int), .int .u8 (P : Int), .int .u16 (id : Int), .int .u32 (s : Int), .int .u32 (d : Int), .slice da n dc] 27 (0, 0)) by rw [← hBX]; exact hp1_2)
    have NX : Hid (w.heap.size ≤ BX) := hide hw0.1
    have HR := hide (show V2.heap[BR]? = some (.cells #[.int .u8 0, .int .u8 0, .int .u16 0, .int .u32 0, .int .u32 0, .slice none 0 0] 27 (0, 0)) by rw [← hBR]; exact hp2_2)
    have NR : Hid (w.heap.size ≤ BR) := hide hw0.2
    have nqX_R : Hid (BX ≠ BR) := hide (by omega)
    have AP := hide hLx
    have RP := hide (hLx.below hb2 (Nat.le_refl _))
    have HB := hide hb2
    have HE := hide (And.intro (And.intro trivial trivial) (And.intro hV1 ( And.intro hV2 (And.intro hBX ( And.intro hBR (trivial))))))
    clear hw0 hV1 hz1 hb1 hV2 hz2 hb2 hc2 hp1_1 hp1_2 hp2_2 hBX hBR hLx
    go_enter Try.func23, Try.ntmps23
    go_upto_region 1 with (fail)
    rw [HE.out.2.1]
    try rw [HE.out.2.2.1]
    try rw [HE.out.2.2.2.2.1]
    try rw [HE.out.2.2.2.1]
    clear HE
    have qX_5 : V2.cell? ⟨BX, 5, none⟩ = some (.slice da n dc) := cell_at HX.out 5 rfl
    go_wp2_with fail
    have ltD_X := hide (lt_of_block HX.out)
    have ltD_R := hide (lt_of_block HR.out)
    have lbD := hide HB.out.size
    refine (HRI.out _ RP.out).mono ?_
    rintro e w1 ⟨a1, k1, rfl, o, b⟩
    clear qX_5
    replace HX := hide (below_block b HX.out (Nat.le_refl _))
    replace HR := hide (below_block b HR.out (Nat.le_refl _))
    replace RP := hide (RP.out.below b (Nat.le_refl _))
    replace HB := hide (HB.out.trans (b.mono HB.out.size))
    have OD := hide o
    have neD_X := hide (own_ne_lt o ltD_X.out)
    clear ltD_X
    have neD_R := hide (own_ne_lt o ltD_R.out)
    clear ltD_R
    clear b  o
    obtain ⟨w2, hwn, wb, HN1⟩ : ∃ W, w1.alloc (.cells #[.int .u8 (mp : Int), .int .u8 (mq : Int), .int .u32 (mr : Int), .slice a1 mds.length k1] 55) = W ∧ Below w1.heap.size w1 W ∧ Hid (W.heap[w1.heap.size]? = some (.cells #[.int .u8 (mp : Int), .int .u8 (mq : Int), .int .u32 (mr : Int), .slice a1 mds.length k1] 55 (0, 0))) := ⟨_, rfl, (Below.refl w1.heap.size w1).alloc (Nat.le_refl _) _, hide (heap_alloc_new w1 _)⟩
    obtain ⟨BM, hBn⟩ : ∃ B, w1.heap.size = B := ⟨_, rfl⟩
    rw [hBn] at HN1
    have HW := hide (And.intro hwn hBn)
    have HBo := HB
    have neD_M := hide (own_ne (L := BM) OD.out (Nat.le_of_eq hBn))
    have nqX_M := hide (blk_ne HX.out hBn)
    have nqR_M := hide (blk_ne HR.out hBn)
    clear hwn hBn
    replace HX := hide (below_block wb HX.out (Nat.le_refl _))
    replace HR := hide (below_block wb HR.out (Nat.le_refl _))
    replace RP := hide (RP.out.below wb (Nat.le_refl _))
    replace OD := hide (owns_below OD.out wb (Nat.le_refl _))
    replace HB := hide (HB.out.trans (wb.mono HB.out.size))
    have HM := HN1
    have NM := hide (show w.heap.size ≤ BM by rw [← HW.out.2]; exact HBo.out.size)
    clear wb HN1 HBo
    go_upto_region 2 with (fail)
    rw [HW.out.1]
    try rw [HW.out.2]
    clear HW
    have qM_0 : w2.cell? ⟨BM, 0, none⟩ = some (.int .u8 (mp : Int)) := cell_at HM.out 0 rfl
    have qM_1 : w2.cell? ⟨BM, 1, none⟩ = some (.int .u8 (mq : Int)) := cell_at HM.out 1 rfl
    have qX_1 : w2.cell? ⟨BX, 1, none⟩ = some (.int .u8 (P : Int)) := cell_at HX.out 1 rfl
    go_wp2_with ((refine st_part (o := ⟨none, _, _, _, _, _⟩) 27 (.tmp 2) (.tmp 31) rfl (by rfl) BR 0 rfl #[.int .u8 0, .int .u8 0, .int .u16 0, .int .u32 0, .int .u32 0, .slice none 0 0] 27 #[.int .u8 0, .int .u8 0, .int .u16 0, .int .u32 0, .int .u32 0, .slice none 0 0] rfl HR.out rfl (by kernel_rfl) (by kernel_rfl) HB.out NR.out ?_; rintro w9 w9h w9b w9o w9s; try simp only [Act.put, List.setIfInBounds_toArray, List.set_cons_zero, List.set_cons_succ]))
    rw [upd_whole (by rfl)] at w9h
    exact bodyPost_ret (v := .tuple #[.agg #[.int .u8 0, .int .u8 0, .int .u16 0, .int .u32 0, .int .u32 0, .slice none 0 0], .bool false]) (results_cell_tmp Try.results23 _ w9 BR _ _ _ _ rfl w9h Try.underlying27 rfl (by kernel_rfl) _ rfl) rfl ⟨rfl, w9b⟩
  · skip
    obtain ⟨V1, hV1⟩ : ∃ V, w.alloc (.cells #[.int .u8 (tt : Int), .int .u8 (P : Int), .int .u16 (id : Int), .int .u32 (s : Int), .int .u32 (d : Int), .slice da n dc] 27) = V := ⟨_, rfl⟩
    obtain ⟨V2, hV2⟩ : ∃ V, V1.alloc (.cells #[.int .u8 0, .int .u8 0, .int .u16 0, .int .u32 0, .int .u32 0, .slice none 0 0] 27) = V := ⟨_, rfl⟩
    have hz1 : V1.heap.size = w.heap.size + 1 := by rw [← hV1]; simp
    have hz2 : V2.heap.size = w.heap.size + 1 + 1 := by rw [← hV2]; simp [hz1]
    have hb1 : Below w.heap.size w V1 := by rw [← hV1]; exact (Below.refl _ _).alloc (Nat.le_refl _) _
    have hc2 : Below V1.heap.size V1 V2 := by rw [← hV2]; exact (Below.refl _ _).alloc (Nat.le_refl _) _
    have hb2 := hb1.trans (hc2.mono hb1.size)
    have hp1_1 : V1.heap[w.heap.size]? = some (.cells #[.int .u8 (tt : Int), .int .u8 (P : Int), .int .u16 (id : Int), .int .u32 (s : Int), .int .u32 (d : Int), .slice da n dc] 27 (0, 0)) := by rw [← hV1]; exact heap_alloc_new _ _
    have hp1_2 := below_block hc2 hp1_1 (Nat.le_refl _)
    have hp2_2 : V2.heap[w.heap.size + 1]? = some (.cells #[.int .u8 0, .int .u8 0, .int .u16 0, .int .u32 0, .int .u32 0, .slice none 0 0] 27 (0, 0)) := by rw [← hV2, ← hz1]; exact heap_alloc_new _ _
    obtain ⟨BX, hBX⟩ : ∃ B, w.heap.size = B := ⟨_, rfl⟩
    obtain ⟨BR, hBR⟩ : ∃ B, w.heap.size + 1 = B := ⟨_, rfl⟩
    have hw0 : w.heap.size ≤ BX ∧ w.heap.size ≤ BR := by omega
    have HX := hide (show V2.heap[BX]? = some (.cells #[.int .u8 (tt : Int), .int .u8 (P : Int), .int .u16 (id : Int), .int .u32 (s : Int), .int .u32 (d : Int), .slice da n dc] 27 (0, 0)) by rw [← hBX]; exact hp1_2)
    have NX : Hid (w.heap.size ≤ BX) := hide hw0.1
    have HR := hide (show V2.heap[BR]? = some (.cells #[.int .u8 0, .int .u8 0, .int .u16 0, .int .u32 0, .int .u32 0, .slice none 0 0] 27 (0, 0)) by rw [← hBR]; exact hp2_2)
    have NR : Hid (w.heap.size ≤ BR) := hide hw0.2
    have nqX_R : Hid (BX ≠ BR) := hide (by omega)
    have AP := hide hLx
    have RP := hide (hLx.below hb2 (Nat.le_refl _))
    have HB := hide hb2
    have HE := hide (And.intro (And.intro trivial trivial) (And.intro hV1 ( And.intro hV2 (And.intro hBX ( And.intro hBR (trivial))))))
    clear hw0 hV1 hz1 hb1 hV2 hz2 hb2 hc2 hp1_1 hp1_2 hp2_2 hBX hBR hLx
    go_enter Try.func23, Try.ntmps23
    go_upto_region 1 with (fail)
    rw [HE.out.2.1]
    try rw [HE.out.2.2.1]
    try rw [HE.out.2.2.2.2.1]
    try rw [HE.out.2.2.2.1]
    clear HE
    have qX_5 : V2.cell? ⟨BX, 5, none⟩ = some (.slice da n dc) := cell_at HX.out 5 rfl
    go_wp2_with fail
    have ltD_X := hide (lt_of_block HX.out)
    have ltD_R := hide (lt_of_block HR.out)
    have lbD := hide HB.out.size
    refine (HRI.out _ RP.out).mono ?_
    rintro e w1 ⟨a1, k1, rfl, o, b⟩
    clear qX_5
    replace HX := hide (below_block b HX.out (Nat.le_refl _))
    replace HR := hide (below_block b HR.out (Nat.le_refl _))
    replace RP := hide (RP.out.below b (Nat.le_refl _))
    replace HB := hide (HB.out.trans (b.mono HB.out.size))
    have OD := hide o
    have neD_X := hide (own_ne_lt o ltD_X.out)
    clear ltD_X
    have neD_R := hide (own_ne_lt o ltD_R.out)
    clear ltD_R
    clear b  o
    obtain ⟨w2, hwn, wb, HN1⟩ : ∃ W, w1.alloc (.cells #[.int .u8 (mp : Int), .int .u8 (mq : Int), .int .u32 (mr : Int), .slice a1 mds.length k1] 55) = W ∧ Below w1.heap.size w1 W ∧ Hid (W.heap[w1.heap.size]? = some (.cells #[.int .u8 (mp : Int), .int .u8 (mq : Int), .int .u32 (mr : Int), .slice a1 mds.length k1] 55 (0, 0))) := ⟨_, rfl, (Below.refl w1.heap.size w1).alloc (Nat.le_refl _) _, hide (heap_alloc_new w1 _)⟩
    obtain ⟨BM, hBn⟩ : ∃ B, w1.heap.size = B := ⟨_, rfl⟩
    rw [hBn] at HN1
    have HW := hide (And.intro hwn hBn)
    have HBo := HB
    have neD_M := hide (own_ne (L := BM) OD.out (Nat.le_of_eq hBn))
    have nqX_M := hide (blk_ne HX.out hBn)
    have nqR_M := hide (blk_ne HR.out hBn)
    clear hwn hBn
    replace HX := hide (below_block wb HX.out (Nat.le_refl _))
    replace HR := hide (below_block wb HR.out (Nat.le_refl _))
    replace RP := hide (RP.out.below wb (Nat.le_refl _))
    replace OD := hide (owns_below OD.out wb (Nat.le_refl _))
    replace HB := hide (HB.out.trans (wb.mono HB.out.size))
    have HM := HN1
    have NM := hide (show w.heap.size ≤ BM by rw [← HW.out.2]; exact HBo.out.size)
    clear wb HN1 HBo
    go_upto_region 2 with (fail)
    rw [HW.out.1]
    try rw [HW.out.2]
    clear HW
    have qM_0 : w2.cell? ⟨BM, 0, none⟩ = some (.int .u8 (mp : Int)) := cell_at HM.out 0 rfl
    have qM_1 : w2.cell? ⟨BM, 1, none⟩ = some (.int .u8 (mq : Int)) := cell_at HM.out 1 rfl
    have qX_1 : w2.cell? ⟨BX, 1, none⟩ = some (.int .u8 (P : Int)) := cell_at HX.out 1 rfl
    go_wp2_with ((refine st_part (o := ⟨none, _, _, _, _, _⟩) 27 (.tmp 2) (.tmp 31) rfl (by rfl) BR 0 rfl #[.int .u8 0, .int .u8 0, .int .u16 0, .int .u32 0, .int .u32 0, .slice none 0 0] 27 #[.int .u8 0, .int .u8 0, .int .u16 0, .int .u32 0, .int .u32 0, .slice none 0 0] rfl HR.out rfl (by kernel_rfl) (by kernel_rfl) HB.out NR.out ?_; rintro w9 w9h w9b w9o w9s; try simp only [Act.put, List.setIfInBounds_toArray, List.set_cons_zero, List.set_cons_succ]))
    rw [upd_whole (by rfl)] at w9h
    exact bodyPost_ret (v := .tuple #[.agg #[.int .u8 0, .int .u8 0, .int .u16 0, .int .u32 0, .int .u32 0, .slice none 0 0], .bool false]) (results_cell_tmp Try.results23 _ w9 BR _ _ _ _ rfl w9h Try.underlying27 rfl (by kernel_rfl) _ rfl) rfl ⟨rfl, w9b⟩
set_option maxHeartbeats 1600000 in
theorem rans_yes (w : World) (tt P id s d : Nat) (da : Option Addr) (xs : List Int) (n dc : Nat) (hLx : Lies w da xs n dc) (hl : xs.length = n) (hb : ∀ x ∈ xs, 0 ≤ x ∧ x ≤ 255) (ht : tt ≤ 255) (hP : P ≤ 255) (hid : id ≤ 65535) (hs : s ≤ 4294967295) (hd : d ≤ 4294967295) (hm : ansOk P xs = true) :
    Calls Try.prog 23 #[.agg #[.int .u8 (tt : Int), .int .u8 (P : Int), .int .u16 (id : Int), .int .u32 (s : Int), .int .u32 (d : Int), .slice da n dc]] w fun e w' => ∃ a c,
      e = .returned (.tuple #[.agg #[.int .u8 64, .int .u8 1, .int .u16 (id : Int), .int .u32 (d : Int), .int .u32 (s : Int), .slice a (8 + (msgOf xs).ds.length) c], .bool true]) ∧ w'.ownsRow w.heap.size 5 1 (.slice a (8 + (msgOf xs).ds.length) c) (8 + (msgOf xs).ds.length) ((icmpB 0 0 (msgOf xs).r (msgOf xs).ds).map (Value.int .u8)) ∧ Below w.heap.size w w' := by
  have HRI := hide (fun (W : World) (hL : Lies W da xs n dc) => (readICMP_both xs n hl hb).2 W da dc hL)
  obtain ⟨p1, hp1⟩ : ∃ x, decide (P ≠ 1) = x := ⟨_, rfl⟩
  have hp1' : ((P : Int) != 1) = p1 := (ne_dec P 1).trans hp1
  obtain ⟨c1, hc1⟩ : ∃ x, decide (msgCode xs ≠ 0) = x := ⟨_, rfl⟩
  have hc1' : (((msgCode xs : Nat) : Int) != 0) = c1 := (ne_dec _ 0).trans hc1
  obtain ⟨t8, ht8⟩ : ∃ x, decide ((msgOf xs).p ≠ 8) = x := ⟨_, rfl⟩
  have ht8' : ((((msgOf xs).p : Nat) : Int) != 8) = t8 := (ne_dec _ 8).trans ht8
  obtain ⟨q0, hq0⟩ : ∃ x, decide ((msgOf xs).q ≠ 0) = x := ⟨_, rfl⟩
  have hq0' : ((((msgOf xs).q : Nat) : Int) != 0) = q0 := (ne_dec _ 0).trans hq0
  unfold ansOk at hm
  rw [hp1, hc1, ht8, hq0] at hm
  have hcs : p1 = false ∧ c1 = false ∧ t8 = false ∧ q0 = false := by revert hm; cases p1 <;> cases c1 <;> cases t8 <;> cases q0 <;> simp
  obtain ⟨rfl, rfl, rfl, rfl⟩ := hcs
  have hq00 : (msgOf xs).q = 0 := by simpa using hq0
  have hok := msgOf_ok xs hb
  have hml := msg_len xs (by simpa using hc1)
  clear hm hl hb
  have HCA := hide (fun (W : World) (a : Option Addr) (c : Nat) (hL : Lies W a (msgOf xs).ds (msgOf xs).ds.length c) => rwicmp_ok W 0 0 (msgOf xs).r a (msgOf xs).ds (msgOf xs).ds.length c hL.row hL.no rfl hok.2.2.2.1 hml (by omega) (by omega) hok.2.2.1)
  clear hok hml
  clear hp1 hc1 ht8 hq0
  unfold MsgAns at HRI
  generalize hmc : msgCode xs = mc at *
  generalize hmo : msgOf xs = mo at *
  obtain ⟨mp, mq, mr, mds⟩ := mo
  dsimp only at *
  obtain ⟨mc', hmc2⟩ : ∃ x, (mc : Int) = x := ⟨_, rfl⟩
  rw [hmc2] at HRI hc1'
  clear hmc2 hmc hmo
  obtain rfl := hq00
  obtain ⟨V1, hV1⟩ : ∃ V, w.alloc (.cells #[.int .u8 (tt : Int), .int .u8 (P : Int), .int .u16 (id : Int), .int .u32 (s : Int), .int .u32 (d : Int), .slice da n dc] 27) = V := ⟨_, rfl⟩
  obtain ⟨V2, hV2⟩ : ∃ V, V1.alloc (.cells #[.int .u8 0, .int .u8 0, .int .u16 0, .int .u32 0, .int .u32 0, .slice none 0 0] 27) = V := ⟨_, rfl⟩
  have hz1 : V1.heap.size = w.heap.size + 1 := by rw [← hV1]; simp
  have hz2 : V2.heap.size = w.heap.size + 1 + 1 := by rw [← hV2]; simp [hz1]
  have hb1 : Below w.heap.size w V1 := by rw [← hV1]; exact (Below.refl _ _).alloc (Nat.le_refl _) _
  have hc2 : Below V1.heap.size V1 V2 := by rw [← hV2]; exact (Below.refl _ _).alloc (Nat.le_refl _) _
  have hb2 := hb1.trans (hc2.mono hb1.size)
  have hp1_1 : V1.heap[w.heap.size]? = some (.cells #[.int .u8 (tt : Int), .int .u8 (P : Int), .int .u16 (id : Int), .int .u32 (s : Int), .int .u32 (d : Int), .slice da n dc] 27 (0, 0)) := by rw [← hV1]; exact heap_alloc_new _ _
  have hp1_2 := below_block hc2 hp1_1 (Nat.le_refl _)
  have hp2_2 : V2.heap[w.heap.size + 1]? = some (.cells #[.int .u8 0, .int .u8 0, .int .u16 0, .int .u32 0, .int .u32 0, .slice none 0 0] 27 (0, 0)) := by rw [← hV2, ← hz1]; exact heap_alloc_new _ _
  obtain ⟨BX, hBX⟩ : ∃ B, w.heap.size = B := ⟨_, rfl⟩
  obtain ⟨BR, hBR⟩ : ∃ B, w.heap.size + 1 = B := ⟨_, rfl⟩
  have hw0 : w.heap.size ≤ BX ∧ w.heap.size ≤ BR := by omega
  have HX := hide (show V2.heap[BX]? = some (.cells #[.int .u8 (tt : Int), .int .u8 (P : Int), .int .u16 (id : Int), .int .u32 (s : Int), .int .u32 (d : Int), .slice da n dc] 27 (0, 0)) by rw [← hBX]; exact hp1_2)
  have NX : Hid (w.heap.size ≤ BX) := hide hw0.1
  have HR := hide (show V2.heap[BR]? = some (.cells #[.int .u8 0, .int .u8 0, .int .u16 0, .int .u32 0, .int .u32 0, .slice none 0 0] 27 (0, 0)) by rw [← hBR]; exact hp2_2)
  have NR : Hid (w.heap.size ≤ BR) := hide hw0.2
  have nqX_R : Hid (BX ≠ BR) := hide (by omega)
  have AP := hide hLx
  have RP := hide (hLx.below hb2 (Nat.le_refl _))
  have HB := hide hb2
  have HE := hide (And.intro (And.intro trivial trivial) (And.intro hV1 ( And.intro hV2 (And.intro hBX ( And.intro hBR (trivial))))))
  clear hw0 hV1 hz1 hb1 hV2 hz2 hb2 hc2 hp1_1 hp1_2 hp2_2 hBX hBR hLx
  go_enter Try.func23, Try.ntmps23
  go_upto_region 1 with (fail)
  rw [HE.out.2.1]
  try rw [HE.out.2.2.1]
  try rw [HE.out.2.2.2.2.1]
  try rw [HE.out.2.2.2.1]
  clear HE
  have qX_5 : V2.cell? ⟨BX, 5, none⟩ = some (.slice da n dc) := cell_at HX.out 5 rfl
  go_wp2_with fail
  have ltD_X := hide (lt_of_block HX.out)
  have ltD_R := hide (lt_of_block HR.out)
  have lbD := hide HB.out.size
  refine (HRI.out _ RP.out).mono ?_
  rintro e w1 ⟨a1, k1, rfl, o, b⟩
  clear qX_5
  replace HX := hide (below_block b HX.out (Nat.le_refl _))
  replace HR := hide (below_block b HR.out (Nat.le_refl _))
  replace RP := hide (RP.out.below b (Nat.le_refl _))
  replace HB := hide (HB.out.trans (b.mono HB.out.size))
  have OD := hide o
  have neD_X := hide (own_ne_lt o ltD_X.out)
  clear ltD_X
  have neD_R := hide (own_ne_lt o ltD_R.out)
  clear ltD_R
  clear b  o
  obtain ⟨w2, hwn, wb, HN1⟩ : ∃ W, w1.alloc (.cells #[.int .u8 (mp : Int), .int .u8 0, .int .u32 (mr : Int), .slice a1 mds.length k1] 55) = W ∧ Below w1.heap.size w1 W ∧ Hid (W.heap[w1.heap.size]? = some (.cells #[.int .u8 (mp : Int), .int .u8 0, .int .u32 (mr : Int), .slice a1 mds.length k1] 55 (0, 0))) := ⟨_, rfl, (Below.refl w1.heap.size w1).alloc (Nat.le_refl _) _, hide (heap_alloc_new w1 _)⟩
  obtain ⟨BM, hBn⟩ : ∃ B, w1.heap.size = B := ⟨_, rfl⟩
  rw [hBn] at HN1
  have HW := hide (And.intro hwn hBn)
  have HBo := HB
  have neD_M := hide (own_ne (L := BM) OD.out (Nat.le_of_eq hBn))
  have nqX_M := hide (blk_ne HX.out hBn)
  have nqR_M := hide (blk_ne HR.out hBn)
  clear hwn hBn
  replace HX := hide (below_block wb HX.out (Nat.le_refl _))
  replace HR := hide (below_block wb HR.out (Nat.le_refl _))
  replace RP := hide (RP.out.below wb (Nat.le_refl _))
  replace OD := hide (owns_below OD.out wb (Nat.le_refl _))
  replace HB := hide (HB.out.trans (wb.mono HB.out.size))
  have HM := HN1
  have NM := hide (show w.heap.size ≤ BM by rw [← HW.out.2]; exact HBo.out.size)
  clear wb HN1 HBo
  go_upto_region 2 with (fail)
  rw [HW.out.1]
  try rw [HW.out.2]
  clear HW
  have qM_0 : w2.cell? ⟨BM, 0, none⟩ = some (.int .u8 (mp : Int)) := cell_at HM.out 0 rfl
  have qM_1 : w2.cell? ⟨BM, 1, none⟩ = some (.int .u8 0) := cell_at HM.out 1 rfl
  have qX_1 : w2.cell? ⟨BX, 1, none⟩ = some (.int .u8 (P : Int)) := cell_at HX.out 1 rfl
  go_upto_region 4 with (fail)
  clear qM_0 qM_1 qX_1
  have fz := free_at HM.out 0
  have qM_0 : w2.cell? ⟨BM, 0, none⟩ = some (.int .u8 (mp : Int)) := cell_at HM.out 0 rfl
  obtain ⟨w3, hVn, hVH, hVB, hVo, hVs⟩ := set1 (i := 0) (.int .u8 0) (c' := #[.int .u8 0, .int .u8 0, .int .u32 (mr : Int), .slice a1 mds.length k1]) HM.out HB.out NM.out (by kernel_rfl)
  have HVn := hide hVn
  clear hVn
  have HG := hide (gb_part HB.out hVB hVo hVs)
  have HXn := hide ((hVo _ nqX_M.out).trans HX.out)
  have HRn := hide ((hVo _ nqR_M.out).trans HR.out)
  have HMn := hide hVH
  have RPn := hide (AP.out.below hVB (Nat.le_refl _))
  have ODn := hide (owns_kept OD.out HG.out neD_M.out)
  have HBn := hide hVB
  clear hVH hVB hVo hVs HG
  go_upto_region 5 with (fail)
  rw [HVn.out]
  clear HVn fz
  clear qM_0
  replace HX := HXn
  clear HXn
  replace HR := HRn
  clear HRn
  replace HM := HMn
  clear HMn
  replace RP := RPn
  clear RPn
  replace OD := ODn
  clear ODn
  replace HB := HBn
  clear HBn
  go_wp2_with ((refine ld_whole (o := ⟨some 34, _, _, _, _, _⟩) 55 (.tmp 4) rfl (by rfl) BM rfl #[.int .u8 0, .int .u8 0, .int .u32 (mr : Int), .slice a1 mds.length k1] 55 HM.out Try.underlying55 (by kernel_rfl) ?_; try simp only [Act.put, List.setIfInBounds_toArray, List.set_cons_zero, List.set_cons_succ]))
  have ltZ_X := hide (lt_of_block HX.out)
  have ltZ_R := hide (lt_of_block HR.out)
  have ltZ_M := hide (lt_of_block HM.out)
  have lbZ := hide HB.out.size
  refine (HCA.out _ a1 k1 (Lies.of_owns OD.out)).mono ?_
  rintro e w4 ⟨a, c, rfl, o, b⟩
  replace HX := hide (below_block b HX.out (Nat.le_refl _))
  replace HR := hide (below_block b HR.out (Nat.le_refl _))
  replace HM := hide (below_block b HM.out (Nat.le_refl _))
  replace RP := hide (RP.out.below b (Nat.le_refl _))
  replace OD := hide (owns_below OD.out b (Nat.le_refl _))
  replace HB := hide (HB.out.trans (b.mono HB.out.size))
  have OZ := hide o
  have neZ_X := hide (own_ne_lt o ltZ_X.out)
  clear ltZ_X
  have neZ_R := hide (own_ne_lt o ltZ_R.out)
  clear ltZ_R
  have neZ_M := hide (own_ne_lt o ltZ_M.out)
  clear ltZ_M
  clear b  o
  have qX_2 : w4.cell? ⟨BX, 2, none⟩ = some (.int .u16 (id : Int)) := cell_at HX.out 2 rfl
  have qX_3 : w4.cell? ⟨BX, 3, none⟩ = some (.int .u32 (s : Int)) := cell_at HX.out 3 rfl
  have qX_4 : w4.cell? ⟨BX, 4, none⟩ = some (.int .u32 (d : Int)) := cell_at HX.out 4 rfl
  go_wp2_with ((refine st_part (o := ⟨none, _, _, _, _, _⟩) 27 (.tmp 2) (.tmp 45) rfl (by rfl) BR 0 rfl #[.int .u8 0, .int .u8 0, .int .u16 0, .int .u32 0, .int .u32 0, .slice none 0 0] 27 #[.int .u8 64, .int .u8 1, .int .u16 (id : Int), .int .u32 (d : Int), .int .u32 (s : Int), .slice a (8 + mds.length) c] rfl HR.out rfl (by kernel_rfl) (by kernel_rfl) HB.out NR.out ?_; rintro w9 w9h w9b w9o w9s; try simp only [Act.put, List.setIfInBounds_toArray, List.set_cons_zero, List.set_cons_succ]))
  rw [upd_whole (by rfl)] at w9h
  exact bodyPost_ret (v := .tuple #[.agg #[.int .u8 64, .int .u8 1, .int .u16 (id : Int), .int .u32 (d : Int), .int .u32 (s : Int), .slice a (8 + mds.length) c], .bool true]) (results_cell_tmp Try.results23 _ w9 BR _ _ _ _ rfl w9h Try.underlying27 rfl (by kernel_rfl) _ rfl) rfl ⟨a, c, rfl, owns_mono (owns_kept OZ.out (gb_part HB.out w9b w9o w9s) neZ_R.out) lbZ.out, w9b⟩
end Go.Proofs.Ytgggcapgaikbeaa
