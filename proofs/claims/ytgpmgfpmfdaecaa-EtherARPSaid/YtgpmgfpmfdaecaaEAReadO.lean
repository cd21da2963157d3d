/- What ether.ReadARP answers of a right packet. -/
import Derived.Test.YtgpmgfpmfdaecaaEARead
import Derived.Test.YtgpmgfpmfdaecaaEArp
import Derived.Test.YtgpmgfpmfdaecaaEWrite
import Derived.Deep.RegionHeld3
namespace Go.Proofs.Ytgpmgfpmfdaecaa
open Go.RowKit
set_option linter.unusedVariables false
set_option linter.unusedSimpArgs false
set_option maxRecDepth 100000

set_option maxHeartbeats 4000000 in
theorem earead_ok (w : World) (a : Option Addr) (xs ys : List Int) (n cap : Nat) (o x y : Nat) (g d s : Nat → UInt8) (hr : Row .u8 w a xs) (hl : xs.length = n) (h1 : 28 ≤ n) (hnc : n ≤ cap) (hcm : cap ≤ 9223372036854775807) (hys : xs.take 28 = ys) (hb : ∀ z ∈ ys, 0 ≤ z ∧ z ≤ 255) (hg : ys.take 6 = [((g 0).toNat : Int), ((g 1).toNat : Int), ((g 2).toNat : Int), ((g 3).toNat : Int), ((g 4).toNat : Int), ((g 5).toNat : Int)]) (ho : valB ((ys.drop 6).take 2) = (o : Int)) (ho2 : o ≤ 65535) (hgb : ([g 0, g 1, g 2, g 3, g 4, g 5] == [0, 1, 8, 0, 6, 4]) = true) (hop : o = 1 ∨ o = 2) (hd : (ys.drop 8).take 6 = [((d 0).toNat : Int), ((d 1).toNat : Int), ((d 2).toNat : Int), ((d 3).toNat : Int), ((d 4).toNat : Int), ((d 5).toNat : Int)]) (hx : valB ((ys.drop 14).take 4) = (x : Int)) (hs : (ys.drop 18).take 6 = [((s 0).toNat : Int), ((s 1).toNat : Int), ((s 2).toNat : Int), ((s 3).toNat : Int), ((s 4).toNat : Int), ((s 5).toNat : Int)]) (hy : valB ((ys.drop 24).take 4) = (y : Int)) (hx2 : x ≤ 4294967295) (hy2 : y ≤ 4294967295) :
    Calls Try.prog 13 #[.slice a n cap] w fun e w' => e = .returned (.tuple #[.agg #[.int .u16 (o : Int), .int .u8 ((d 0).toNat : Int), .int .u8 ((d 1).toNat : Int), .int .u8 ((d 2).toNat : Int), .int .u8 ((d 3).toNat : Int), .int .u8 ((d 4).toNat : Int), .int .u8 ((d 5).toNat : Int), .int .u8 ((s 0).toNat : Int), .int .u8 ((s 1).toNat : Int), .int .u8 ((s 2).toNat : Int), .int .u8 ((s 3).toNat : Int), .int .u8 ((s 4).toNat : Int), .int .u8 ((s 5).toNat : Int), .int .u32 (x : Int), .int .u32 (y : Int)], .int .i64 0]) ∧ Below w.heap.size w w' := by
  have HD := hide hd
  have HX := hide hx
  have HS := hide hs
  have HY := hide hy
  clear hd hx hs hy
  have hyl : ys.length = 28 := by rw [← hys, List.length_take]; omega
  have HR := hide (show Row .u8 w a ys by rw [← hys]; exact row_take28 hr 28)
  have HL := hide hyl
  have HB := hide hb
  have HG := hide hg
  have HO := hide ho
  clear hr hl hys hyl hb hg ho
  have h28 : (28 : Int) ≤ (cap : Int) := by omega
  have h28n : 28 ≤ cap := by omega
  have hn28 : ¬ ((n : Int) < 28) := by omega
  go_enter Try.func13, Try.ntmps13
  go_wp2_with fail
  obtain ⟨R, wq, hR, hq, hbel, hRh⟩ : ∃ R wq, w.heap.size = R ∧ w.alloc (.cells #[.int .u16 0, .int .u8 0, .int .u8 0, .int .u8 0, .int .u8 0, .int .u8 0, .int .u8 0, .int .u8 0, .int .u8 0, .int .u8 0, .int .u8 0, .int .u8 0, .int .u8 0, .int .u32 0, .int .u32 0] 41) = wq ∧ Below w.heap.size w wq ∧ wq.heap[R]? = some (.cells #[.int .u16 0, .int .u8 0, .int .u8 0, .int .u8 0, .int .u8 0, .int .u8 0, .int .u8 0, .int .u8 0, .int .u8 0, .int .u8 0, .int .u8 0, .int .u8 0, .int .u8 0, .int .u32 0, .int .u32 0] 41 (0, 0)) :=
    ⟨_, _, rfl, rfl, (Below.refl _ _).alloc (Nat.le_refl _) _, heap_alloc_new w _⟩
  try rw [hq]
  try rw [hR]
  have HRW := hide hR
  have HRh := hide hRh
  have hne := newEye_any a ys cap wq (HR.out.below hbel (Nat.le_refl _)) (by rw [HL.out]; omega)
  rw [HL.out] at hne
  have HNE := hide hne
  have HBQ := hide hbel
  clear hq hR hRh hne hbel
  refine HNE.out.mono ?_
  rintro e w1 ⟨E, rfl, hE, heye, hb1⟩
  have hRE : R < E := Nat.lt_of_lt_of_le (lt_of_block HRh.out) hE
  have hR1 := (hb1.block R (lt_of_block HRh.out)).trans HRh.out
  have hw1 := HBQ.out.trans (hb1.mono HBQ.out.size)
  have hwR : w.heap.size ≤ R := by have := HRW.out; omega
  have hEl := heye.lt
  go_wp2_with fail
  obtain ⟨Mb, w2, hM, hq2, HM2, HR2, HE2, HB2, hEM, h2s⟩ : ∃ Mb wt, w1.heap.size = Mb ∧ w1.alloc (.cells #[.int .u8 0, .int .u8 0, .int .u8 0, .int .u8 0, .int .u8 0, .int .u8 0] 24) = wt ∧ Hid (wt.heap[Mb]? = some (.cells #[.int .u8 0, .int .u8 0, .int .u8 0, .int .u8 0, .int .u8 0, .int .u8 0] 24 (0, 0))) ∧ Hid (wt.heap[R]? = some (.cells #[.int .u16 0, .int .u8 0, .int .u8 0, .int .u8 0, .int .u8 0, .int .u8 0, .int .u8 0, .int .u8 0, .int .u8 0, .int .u8 0, .int .u8 0, .int .u8 0, .int .u8 0, .int .u32 0, .int .u32 0] 41 (0, 0))) ∧ Hid (EyeAt wt E E ys false) ∧ Hid (Below w.heap.size w wt) ∧ E < Mb ∧ Mb < wt.heap.size :=
    ⟨_, _, rfl, rfl, hide (heap_alloc_new w1 _), hide ((Below.heap_alloc _ _ _ (lt_of_block hR1)).trans hR1), hide (heye.below ((Below.refl w1.heap.size w1).alloc (Nat.le_refl _) _) (Nat.le_refl _)), hide (hw1.alloc hw1.size _), hEl, by simp⟩
  try rw [hq2]
  try rw [hM]
  clear hq2 hM HRh heye hb1 hR1 hw1 HNE hEl HBQ
  have hby : ∀ V, Below w2.heap.size w2 V → Calls Try.prog 29 #[.pointer (some ⟨E, 0, none⟩), .int .i64 6] V fun e w' => ∃ a c w4, e = .returned (.slice a 6 c) ∧
      (Builtin.copy_ #[22, 22] 3 #[.slice (some ⟨Mb, 0, none⟩) 6 6, .slice a 6 c]).run Try.prog w' = .ok (.int .i64 6) w4 ∧ Hid (w4.heap[Mb]? = some (.cells #[.int .u8 ((g 0).toNat : Int), .int .u8 ((g 1).toNat : Int), .int .u8 ((g 2).toNat : Int), .int .u8 ((g 3).toNat : Int), .int .u8 ((g 4).toNat : Int), .int .u8 ((g 5).toNat : Int)] 24 (0, 0)) ∧ w4.heap[R]? = some (.cells #[.int .u16 0, .int .u8 0, .int .u8 0, .int .u8 0, .int .u8 0, .int .u8 0, .int .u8 0, .int .u8 0, .int .u8 0, .int .u8 0, .int .u8 0, .int .u8 0, .int .u8 0, .int .u32 0, .int .u32 0] 41 (0, 0)) ∧ EyeAt w4 E E (ys.drop 6) false ∧ w2.heap.size ≤ w4.heap.size ∧ Below w.heap.size w w4) := fun V hV => by
    refine (bytesOk_any E E ys false 6 V (HE2.out.below hV (Nat.le_refl _)) (by rw [HL.out]; omega) (by rw [HL.out]; omega)).mono ?_
    rintro e w' ⟨a, c, rfl, hown, heye, hgb⟩
    have hr := Row.of_owns hown
    rw [HG.out] at hr
    obtain ⟨b, off, rfl, hbl, hc⟩ := hr.at (i := 0) (by simp)
    have hm' : w'.heap[Mb]? = some (.cells #[.int .u8 0, .int .u8 0, .int .u8 0, .int .u8 0, .int .u8 0, .int .u8 0] 24 (0, 0)) := gb_block hgb (below_block hV HM2.out (Nat.le_refl _)) (by omega)
    have hr' : w'.heap[R]? = some (.cells #[.int .u16 0, .int .u8 0, .int .u8 0, .int .u8 0, .int .u8 0, .int .u8 0, .int .u8 0, .int .u8 0, .int .u8 0, .int .u8 0, .int .u8 0, .int .u8 0, .int .u8 0, .int .u32 0, .int .u32 0] 41 (0, 0)) := gb_block hgb (below_block hV HR2.out (Nat.le_refl _)) (by omega)
    have hrun := run_copy_row (P := Try.prog) w' 22 22 3 5 Mb 0 6 6 ⟨b, off, none⟩ 6 c _ 24 [.int .u8 ((g 0).toNat : Int), .int .u8 ((g 1).toNat : Int), .int .u8 ((g 2).toNat : Int), .int .u8 ((g 3).toNat : Int), .int .u8 ((g 4).toNat : Int), .int .u8 ((g 5).toNat : Int)] Try.underlying22 (by kernel_rfl) hm' rfl
      (row_cells hr) (by simp) (fun v hv => by simp at hv; rcases hv with rfl | rfl | rfl | rfl | rfl | rfl <;> rfl)
    refine ⟨_, _, _, rfl, hrun, ?_⟩
    have hbv := (HB2.out.trans (hV.mono HB2.out.size)).grown hgb (by have := HB2.out.size; have := hV.size; omega) (fun k e => by cases e; omega)
    refine ⟨?_, (setRow_other w' Mb R _ (by omega)).trans hr', heye.setRow (by omega) (by omega), ?_, ⟨hbv.os, hbv.tape, hbv.output, by simpa [World.setRow] using hbv.size, fun i hi => (setRow_other w' Mb i _ (by omega)).trans (hbv.block i hi)⟩⟩
    · rw [setRow_self hm']
      simp
    · have := hV.size; have := hgb.size; simp [World.setRow]; omega
  have HBY := hide hby
  clear hby
  go_region_law (first | (refine step_copy_run rfl (.tmp 15) (.tmp 17) 22 22 rfl _ _ rfl rfl _ _ hrn.out ?_) | (go_simp; go_at_call 29; with_reducible refine (HBY.out _ ?_).mono ?_; (first | exact Below.refl _ _ | exact (Below.refl _ _).drew); rintro e w3 ⟨a3, c3, w4, rfl, hrun, H4⟩; have hrn := hide hrun; clear hrun))
  have HM4 := hide H4.out.1
  have HR4 := hide H4.out.2.1
  have HE4 := hide H4.out.2.2.1
  have HB4 := hide H4.out.2.2.2.2
  have h24 := H4.out.2.2.2.1
  clear hrn H4 HBY HM2 HR2 HE2 HB2
  have hnum := eyeNum_any E E (ys.drop 6) false 2 w4 HE4.out (fun z hz => HB.out z (List.mem_of_mem_drop hz)) (by rw [List.length_drop, HL.out]; omega)
  rw [show sz 2 = 2 from rfl, if_pos (by rw [List.length_drop, HL.out]; omega), if_pos (by rw [List.length_drop, HL.out]; omega), show decide ((ys.drop 6).length < 2) = false from by simp; rw [HL.out]; omega, List.drop_drop, HO.out] at hnum
  have HN := hide hnum
  clear hnum
  have hco : IntKind.u16.wrap (o : Int) = (o : Int) := wraps_u16 _ (by omega) (by omega)
  go_wp2_with fail
  refine HN.out.mono ?_
  rintro e w5 ⟨rfl, he5, hg5⟩
  have HE5 := hide he5
  have HM5 := hide (gb_block hg5 HM4.out (by omega))
  have HR5 := hide (gb_block hg5 HR4.out (by omega))
  have HB5 := hide (HB4.out.grown hg5 (by have := HB4.out.size; omega) (fun k e => by cases e; omega))
  have h25 : w2.heap.size ≤ w5.heap.size := Nat.le_trans h24 hg5.size
  obtain ⟨⟨m0, m1, m2, m3, m4, m5⟩, mf⟩ := six_cells HM5.out
  clear he5 hg5 HN HE4 HM4 HR4 HB4 mf
  go_wp2_with fail
  have hq := bg_in g
  rw [hgb] at hq
  have hio := fun V => isOp_any o V
  rw [show decide (o = 1 ∨ o = 2) = true by simpa using hop] at hio
  have HIO := hide hio
  clear hio hop
  go_region_held3 (fun w' => w'.cell? ⟨Mb, 0, none⟩ = some (.int .u8 ((g 0).toNat : Int)) ∧ w'.cell? ⟨Mb, 1, none⟩ = some (.int .u8 ((g 1).toNat : Int)) ∧ w'.cell? ⟨Mb, 2, none⟩ = some (.int .u8 ((g 2).toNat : Int)) ∧ w'.cell? ⟨Mb, 3, none⟩ = some (.int .u8 ((g 3).toNat : Int)) ∧ w'.cell? ⟨Mb, 4, none⟩ = some (.int .u8 ((g 4).toNat : Int)) ∧ w'.cell? ⟨Mb, 5, none⟩ = some (.int .u8 ((g 5).toNat : Int))) (go_keep) (first
    | (go_at_call 35; (with_reducible refine (begin_any _).mono ?_); rintro e w6 ⟨rfl, b6⟩;
        obtain ⟨⟨k0, k1, k2, k3, k4, k5⟩, kf⟩ := six_cells (below_block (below_of_drew b6) HM5.out (Nat.le_refl _));
        have HR6 := hide (below_block (below_of_drew b6) HR5.out (Nat.le_refl _)); have HE6 := hide (HE5.out.below (below_of_drew b6) (Nat.le_refl _));
        have HB6 := hide (HB5.out.trans ((below_of_drew b6).mono HB5.out.size)); have h26 : w2.heap.size ≤ w6.heap.size := Nat.le_trans h25 (below_of_drew b6).size; clear b6 kf)
    | (go_at_call 34; (with_reducible refine (HIO.out _).mono ?_); rintro e w7 ⟨rfl, rfl⟩)
    | fail)
  have hcx : IntKind.u32.wrap (x : Int) = (x : Int) := by rw [IntKind.wrap_u32]; omega
  have hcy : IntKind.u32.wrap (y : Int) = (y : Int) := by rw [IntKind.wrap_u32]; omega
  clear k0 k1 k2 k3 k4 k5 m0 m1 m2 m3 m4 m5 hq HIO HM5 HR5 HE5 HB5
  go_wp2_with fail
  obtain ⟨A, w7, hA, hq7, HA, HE, HRR, HB', hEA, hRA⟩ : ∃ A wt, w6.heap.size = A ∧ w6.alloc (.cells #[.int .u16 (o : Int), .int .u8 0, .int .u8 0, .int .u8 0, .int .u8 0, .int .u8 0, .int .u8 0, .int .u8 0, .int .u8 0, .int .u8 0, .int .u8 0, .int .u8 0, .int .u8 0, .int .u32 0, .int .u32 0] 41) = wt ∧ Hid (wt.heap[A]? = some (.cells #[.int .u16 (o : Int), .int .u8 0, .int .u8 0, .int .u8 0, .int .u8 0, .int .u8 0, .int .u8 0, .int .u8 0, .int .u8 0, .int .u8 0, .int .u8 0, .int .u8 0, .int .u8 0, .int .u32 0, .int .u32 0] 41 (0, 0))) ∧ Hid (EyeAt wt E E (ys.drop (6 + 2)) false) ∧ Hid (wt.heap[R]? = some (.cells #[.int .u16 0, .int .u8 0, .int .u8 0, .int .u8 0, .int .u8 0, .int .u8 0, .int .u8 0, .int .u8 0, .int .u8 0, .int .u8 0, .int .u8 0, .int .u8 0, .int .u8 0, .int .u32 0, .int .u32 0] 41 (0, 0))) ∧ Hid (Below w.heap.size w wt) ∧ E < A ∧ R < A :=
    ⟨_, _, rfl, rfl, hide (heap_alloc_new w6 _), hide (HE6.out.below ((Below.refl w6.heap.size w6).alloc (Nat.le_refl _) _) (Nat.le_refl _)), hide ((Below.heap_alloc _ _ _ (lt_of_block HR6.out)).trans HR6.out), hide (HB6.out.alloc HB6.out.size _), HE6.out.lt, lt_of_block HR6.out⟩
  try rw [hq7]
  try rw [hA]
  clear hq7 hA HE6 HR6 HB6
  refine (readMAC_any E E (ys.drop (6 + 2)) false w7 d HE.out (by rw [List.length_drop, HL.out]; omega) (by rw [List.length_drop, HL.out]; omega) HD.out).mono ?_
  rintro e w8 ⟨rfl, he, hg'⟩
  rw [List.drop_drop] at he
  have HE := hide he
  have HA := hide (gb_block hg' HA.out (by omega))
  have HRR := hide (gb_block hg' HRR.out (by omega))
  have HB' := hide (HB'.out.grown hg' (by have := HB'.out.size; omega) (fun k e => by cases e; omega))
  clear he hg'
  go_wp2_with fail
  have hnum := eyeNum_any E E (ys.drop (6 + 2 + 6)) false 4 w8 HE.out (fun z hz => HB.out z (List.mem_of_mem_drop hz)) (by rw [List.length_drop, HL.out]; omega)
  rw [show sz 4 = 4 from rfl, if_pos (by rw [List.length_drop, HL.out]; omega), if_pos (by rw [List.length_drop, HL.out]; omega), show decide ((ys.drop (6 + 2 + 6)).length < 4) = false from by simp; rw [HL.out]; omega, List.drop_drop, HX.out] at hnum
  have HN := hide hnum
  clear hnum
  refine HN.out.mono ?_
  rintro e w9 ⟨rfl, he, hg'⟩
  have HE := hide he
  have HA := hide (gb_block hg' HA.out (by omega))
  have HRR := hide (gb_block hg' HRR.out (by omega))
  have HB' := hide (HB'.out.grown hg' (by have := HB'.out.size; omega) (fun k e => by cases e; omega))
  obtain ⟨ac, af⟩ := arp15 HA.out
  obtain ⟨a0, a1, a2, a3, a4, a5, a6, a7, a8, a9, a10, a11, a12, a13, a14⟩ := ac
  clear he hg' HN
  obtain ⟨w10, hq, HA, HE, HRR, HB'⟩ : ∃ wt, (((((((w9.setCell ⟨A, 1, none⟩ (.int .u8 ((d 0).toNat : Int))).setCell ⟨A, 2, none⟩ (.int .u8 ((d 1).toNat : Int))).setCell ⟨A, 3, none⟩ (.int .u8 ((d 2).toNat : Int))).setCell ⟨A, 4, none⟩ (.int .u8 ((d 3).toNat : Int))).setCell ⟨A, 5, none⟩ (.int .u8 ((d 4).toNat : Int))).setCell ⟨A, 6, none⟩ (.int .u8 ((d 5).toNat : Int))).setCell ⟨A, 13, none⟩ (.int .u32 (x : Int))) = wt ∧ Hid (wt.heap[A]? = some (.cells #[.int .u16 (o : Int), .int .u8 ((d 0).toNat : Int), .int .u8 ((d 1).toNat : Int), .int .u8 ((d 2).toNat : Int), .int .u8 ((d 3).toNat : Int), .int .u8 ((d 4).toNat : Int), .int .u8 ((d 5).toNat : Int), .int .u8 0, .int .u8 0, .int .u8 0, .int .u8 0, .int .u8 0, .int .u8 0, .int .u32 (x : Int), .int .u32 0] 41 (0, 0))) ∧ Hid (EyeAt wt E E (ys.drop (6 + 2 + 6 + 4)) false) ∧ Hid (wt.heap[R]? = some (.cells #[.int .u16 0, .int .u8 0, .int .u8 0, .int .u8 0, .int .u8 0, .int .u8 0, .int .u8 0, .int .u8 0, .int .u8 0, .int .u8 0, .int .u8 0, .int .u8 0, .int .u8 0, .int .u32 0, .int .u32 0] 41 (0, 0))) ∧ Hid (Below w.heap.size w wt) :=
    ⟨_, rfl, hide (heap_setCell_same _ _ 13 _ _ _ (heap_setCell_same _ _ 6 _ _ _ (heap_setCell_same _ _ 5 _ _ _ (heap_setCell_same _ _ 4 _ _ _ (heap_setCell_same _ _ 3 _ _ _ (heap_setCell_same _ _ 2 _ _ _ (heap_setCell_same _ _ 1 _ _ _ HA.out))))))), hide (((((((HE.out.setCell (by omega) (by omega)).setCell (by omega) (by omega)).setCell (by omega) (by omega)).setCell (by omega) (by omega)).setCell (by omega) (by omega)).setCell (by omega) (by omega)).setCell (by omega) (by omega)), hide ((heap_setCell_other _ _ _ _ (by show R ≠ A; omega)).trans ((heap_setCell_other _ _ _ _ (by show R ≠ A; omega)).trans ((heap_setCell_other _ _ _ _ (by show R ≠ A; omega)).trans ((heap_setCell_other _ _ _ _ (by show R ≠ A; omega)).trans ((heap_setCell_other _ _ _ _ (by show R ≠ A; omega)).trans ((heap_setCell_other _ _ _ _ (by show R ≠ A; omega)).trans ((heap_setCell_other _ _ _ _ (by show R ≠ A; omega)).trans HRR.out))))))), hide (((((((HB'.out.setCell (by show w.heap.size ≤ A; omega) _).setCell (by show w.heap.size ≤ A; omega) _).setCell (by show w.heap.size ≤ A; omega) _).setCell (by show w.heap.size ≤ A; omega) _).setCell (by show w.heap.size ≤ A; omega) _).setCell (by show w.heap.size ≤ A; omega) _).setCell (by show w.heap.size ≤ A; omega) _)⟩
  go_wp2_with fail
  try rw [hq]
  clear hq a0 a1 a2 a3 a4 a5 a6 a7 a8 a9 a10 a11 a12 a13 a14 af
  refine (readMAC_any E E (ys.drop (6 + 2 + 6 + 4)) false w10 s HE.out (by rw [List.length_drop, HL.out]; omega) (by rw [List.length_drop, HL.out]; omega) HS.out).mono ?_
  rintro e w11 ⟨rfl, he, hg'⟩
  rw [List.drop_drop] at he
  have HE := hide he
  have HA := hide (gb_block hg' HA.out (by omega))
  have HRR := hide (gb_block hg' HRR.out (by omega))
  have HB' := hide (HB'.out.grown hg' (by have := HB'.out.size; omega) (fun k e => by cases e; omega))
  clear he hg'
  go_wp2_with fail
  have hnum := eyeNum_any E E (ys.drop (6 + 2 + 6 + 4 + 6)) false 4 w11 HE.out (fun z hz => HB.out z (List.mem_of_mem_drop hz)) (by rw [List.length_drop, HL.out]; omega)
  rw [show sz 4 = 4 from rfl, if_pos (by rw [List.length_drop, HL.out]; omega), if_pos (by rw [List.length_drop, HL.out]; omega), show decide ((ys.drop (6 + 2 + 6 + 4 + 6)).length < 4) = false from by simp; rw [HL.out]; omega, List.drop_drop, HY.out] at hnum
  have HN := hide hnum
  clear hnum
  refine HN.out.mono ?_
  rintro e w12 ⟨rfl, he, hg'⟩
  have HE := hide he
  have HA := hide (gb_block hg' HA.out (by omega))
  have HRR := hide (gb_block hg' HRR.out (by omega))
  have HB' := hide (HB'.out.grown hg' (by have := HB'.out.size; omega) (fun k e => by cases e; omega))
  obtain ⟨ac, af⟩ := arp15 HA.out
  obtain ⟨a0, a1, a2, a3, a4, a5, a6, a7, a8, a9, a10, a11, a12, a13, a14⟩ := ac
  clear he hg' HN
  obtain ⟨w13, hq13, HA13, HR13, HB13⟩ : ∃ wt, (((((((w12.setCell ⟨A, 7, none⟩ (.int .u8 ((s 0).toNat : Int))).setCell ⟨A, 8, none⟩ (.int .u8 ((s 1).toNat : Int))).setCell ⟨A, 9, none⟩ (.int .u8 ((s 2).toNat : Int))).setCell ⟨A, 10, none⟩ (.int .u8 ((s 3).toNat : Int))).setCell ⟨A, 11, none⟩ (.int .u8 ((s 4).toNat : Int))).setCell ⟨A, 12, none⟩ (.int .u8 ((s 5).toNat : Int))).setCell ⟨A, 14, none⟩ (.int .u32 (y : Int))) = wt ∧ Hid (wt.heap[A]? = some (.cells #[.int .u16 (o : Int), .int .u8 ((d 0).toNat : Int), .int .u8 ((d 1).toNat : Int), .int .u8 ((d 2).toNat : Int), .int .u8 ((d 3).toNat : Int), .int .u8 ((d 4).toNat : Int), .int .u8 ((d 5).toNat : Int), .int .u8 ((s 0).toNat : Int), .int .u8 ((s 1).toNat : Int), .int .u8 ((s 2).toNat : Int), .int .u8 ((s 3).toNat : Int), .int .u8 ((s 4).toNat : Int), .int .u8 ((s 5).toNat : Int), .int .u32 (x : Int), .int .u32 (y : Int)] 41 (0, 0))) ∧ Hid (wt.heap[R]? = some (.cells #[.int .u16 0, .int .u8 0, .int .u8 0, .int .u8 0, .int .u8 0, .int .u8 0, .int .u8 0, .int .u8 0, .int .u8 0, .int .u8 0, .int .u8 0, .int .u8 0, .int .u8 0, .int .u32 0, .int .u32 0] 41 (0, 0))) ∧ Hid (Below w.heap.size w wt) :=
    ⟨_, rfl, hide (heap_setCell_same _ _ 14 _ _ _ (heap_setCell_same _ _ 12 _ _ _ (heap_setCell_same _ _ 11 _ _ _ (heap_setCell_same _ _ 10 _ _ _ (heap_setCell_same _ _ 9 _ _ _ (heap_setCell_same _ _ 8 _ _ _ (heap_setCell_same _ _ 7 _ _ _ HA.out))))))), hide ((heap_setCell_other _ _ _ _ (by show R ≠ A; omega)).trans ((heap_setCell_other _ _ _ _ (by show R ≠ A; omega)).trans ((heap_setCell_other _ _ _ _ (by show R ≠ A; omega)).trans ((heap_setCell_other _ _ _ _ (by show R ≠ A; omega)).trans ((heap_setCell_other _ _ _ _ (by show R ≠ A; omega)).trans ((heap_setCell_other _ _ _ _ (by show R ≠ A; omega)).trans ((heap_setCell_other _ _ _ _ (by show R ≠ A; omega)).trans HRR.out))))))), hide (((((((HB'.out.setCell (by show w.heap.size ≤ A; omega) _).setCell (by show w.heap.size ≤ A; omega) _).setCell (by show w.heap.size ≤ A; omega) _).setCell (by show w.heap.size ≤ A; omega) _).setCell (by show w.heap.size ≤ A; omega) _).setCell (by show w.heap.size ≤ A; omega) _).setCell (by show w.heap.size ≤ A; omega) _)⟩
  obtain ⟨zc, zf⟩ := arp15 HA13.out
  obtain ⟨z0, z1, z2, z3, z4, z5, z6, z7, z8, z9, z10, z11, z12, z13, z14⟩ := zc
  obtain ⟨rc, rf⟩ := arp15 HR13.out
  obtain ⟨r0, r1, r2, r3, r4, r5, r6, r7, r8, r9, r10, r11, r12, r13, r14⟩ := rc
  clear zf
  go_wp2
  refine bodyPost_ret (v := .tuple #[.agg #[.int .u16 (o : Int), .int .u8 ((d 0).toNat : Int), .int .u8 ((d 1).toNat : Int), .int .u8 ((d 2).toNat : Int), .int .u8 ((d 3).toNat : Int), .int .u8 ((d 4).toNat : Int), .int .u8 ((d 5).toNat : Int), .int .u8 ((s 0).toNat : Int), .int .u8 ((s 1).toNat : Int), .int .u8 ((s 2).toNat : Int), .int .u8 ((s 3).toNat : Int), .int .u8 ((s 4).toNat : Int), .int .u8 ((s 5).toNat : Int), .int .u32 (x : Int), .int .u32 (y : Int)], .int .i64 0]) (by simp [results, Try.results13, go_sem, r0, r1, r2, r3, r4, r5, r6, r7, r8, r9, r10, r11, r12, r13, r14]) rfl ⟨rfl, ?_⟩
  repeat (with_reducible refine Below.setCell ?_ (by assumption) _)
  exact HB13.out
end Go.Proofs.Ytgpmgfpmfdaecaa
