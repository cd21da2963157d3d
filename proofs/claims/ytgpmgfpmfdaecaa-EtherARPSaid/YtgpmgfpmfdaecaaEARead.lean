/- What ether.ReadARP answers. -/
import Derived.Test.YtgpmgfpmfdaecaaEMac
import Derived.Test.YtgpmgfpmfdaecaaEArp
import Derived.Test.YtgpmgfpmfdaecaaEWrite
import Derived.Deep.RegionHeld3
namespace Go.Proofs.Ytgpmgfpmfdaecaa
open Go.RowKit
set_option linter.unusedVariables false
set_option linter.unusedSimpArgs false
set_option maxRecDepth 100000
theorem below_of_drew {B : Nat} {w w' : World} (h : Below B w.drew w') : Below B w w' := ((Below.refl _ w).drew).trans h
theorem below_block {w w' : World} {R B : Nat} {o : Obj} (h : Below B w w') (ho : w.heap[R]? = some o) (hB : w.heap.size ≤ B) : w'.heap[R]? = some o := (h.block R (Nat.lt_of_lt_of_le (lt_of_block ho) hB)).trans ho
theorem gb_block {w w' : World} {E R : Nat} {o : Obj} (h : w.grownBy w' (some E)) (ho : w.heap[R]? = some o) (hne : R ≠ E) : w'.heap[R]? = some o := (h.block R (lt_of_block ho) (by intro e; cases e; exact hne rfl)).trans ho
theorem six_cells {w : World} {R : Nat} {t : TypeId} {v0 v1 v2 v3 v4 v5 : Value} (h : w.heap[R]? = some (.cells #[v0, v1, v2, v3, v4, v5] t (0, 0))) : (w.cell? ⟨R, 0, none⟩ = some (v0) ∧ w.cell? ⟨R, 1, none⟩ = some (v1) ∧ w.cell? ⟨R, 2, none⟩ = some (v2) ∧ w.cell? ⟨R, 3, none⟩ = some (v3) ∧ w.cell? ⟨R, 4, none⟩ = some (v4) ∧ w.cell? ⟨R, 5, none⟩ = some (v5)) ∧ ∀ i, w.frozen? ⟨R, i, none⟩ = false := by
  refine ⟨⟨?_, ?_, ?_, ?_, ?_, ?_⟩, fun i => ?_⟩ <;> simp [World.cell?, World.frozen?, h]
theorem arp15 {w : World} {R : Nat} {t : TypeId} {v0 v1 v2 v3 v4 v5 v6 v7 v8 v9 v10 v11 v12 v13 v14 : Value} (h : w.heap[R]? = some (.cells #[v0, v1, v2, v3, v4, v5, v6, v7, v8, v9, v10, v11, v12, v13, v14] t (0, 0))) : (w.cell? ⟨R, 0, none⟩ = some (v0) ∧ w.cell? ⟨R, 1, none⟩ = some (v1) ∧ w.cell? ⟨R, 2, none⟩ = some (v2) ∧ w.cell? ⟨R, 3, none⟩ = some (v3) ∧ w.cell? ⟨R, 4, none⟩ = some (v4) ∧ w.cell? ⟨R, 5, none⟩ = some (v5) ∧ w.cell? ⟨R, 6, none⟩ = some (v6) ∧ w.cell? ⟨R, 7, none⟩ = some (v7) ∧ w.cell? ⟨R, 8, none⟩ = some (v8) ∧ w.cell? ⟨R, 9, none⟩ = some (v9) ∧ w.cell? ⟨R, 10, none⟩ = some (v10) ∧ w.cell? ⟨R, 11, none⟩ = some (v11) ∧ w.cell? ⟨R, 12, none⟩ = some (v12) ∧ w.cell? ⟨R, 13, none⟩ = some (v13) ∧ w.cell? ⟨R, 14, none⟩ = some (v14)) ∧ ∀ i, w.frozen? ⟨R, i, none⟩ = false := by
  refine ⟨⟨?_, ?_, ?_, ?_, ?_, ?_, ?_, ?_, ?_, ?_, ?_, ?_, ?_, ?_, ?_⟩, fun i => ?_⟩ <;> simp [World.cell?, World.frozen?, h]
theorem gb_of_below {B : Nat} {w w' : World} {r : Option Nat} (h : Below B w w') (hB : w.heap.size ≤ B) : w.grownBy w' r := ⟨h.os, h.tape, h.output, h.size, fun i hi _ => h.block i (Nat.lt_of_lt_of_le hi hB)⟩
theorem six_in (d e : Nat → UInt8) (W : World) : (Op.equalIn 10000 24 (.agg #[.int .u8 ((d 0).toNat : Int), .int .u8 ((d 1).toNat : Int), .int .u8 ((d 2).toNat : Int), .int .u8 ((d 3).toNat : Int), .int .u8 ((d 4).toNat : Int), .int .u8 ((d 5).toNat : Int)]) (.agg #[.int .u8 ((e 0).toNat : Int), .int .u8 ((e 1).toNat : Int), .int .u8 ((e 2).toNat : Int), .int .u8 ((e 3).toNat : Int), .int .u8 ((e 4).toNat : Int), .int .u8 ((e 5).toNat : Int)])).run Try.prog W = .ok ([d 0, d 1, d 2, d 3, d 4, d 5] == [e 0, e 1, e 2, e 3, e 4, e 5]) W :=
  run_equalIn_bytes W 9998 24 5 6 Try.underlying24 Try.underlying5 size5 [d 0, d 1, d 2, d 3, d 4, d 5] [e 0, e 1, e 2, e 3, e 4, e 5] rfl rfl
def bg : Nat → UInt8 := fun i => match i with | 0 => 0 | 1 => 1 | 2 => 8 | 3 => 0 | 4 => 6 | _ => 4
theorem bg_in (d : Nat → UInt8) (W : World) : (Op.equalIn 10000 24 (.agg #[.int .u8 ((d 0).toNat : Int), .int .u8 ((d 1).toNat : Int), .int .u8 ((d 2).toNat : Int), .int .u8 ((d 3).toNat : Int), .int .u8 ((d 4).toNat : Int), .int .u8 ((d 5).toNat : Int)]) (.agg #[.int .u8 0, .int .u8 1, .int .u8 8, .int .u8 0, .int .u8 6, .int .u8 4])).run Try.prog W = .ok ([d 0, d 1, d 2, d 3, d 4, d 5] == [0, 1, 8, 0, 6, 4]) W := six_in d bg W
set_option maxHeartbeats 800000 in
theorem earead_short (w : World) (a : Option Addr) (n cap : Nat) (h : n < 28) :
    Calls Try.prog 13 #[.slice a n cap] w fun e w' => e = .returned (.tuple #[.agg #[.int .u16 0, .int .u8 0, .int .u8 0, .int .u8 0, .int .u8 0, .int .u8 0, .int .u8 0, .int .u8 0, .int .u8 0, .int .u8 0, .int .u8 0, .int .u8 0, .int .u8 0, .int .u32 0, .int .u32 0], .int .i64 10]) ∧ Below w.heap.size w w' := by
  go_enter Try.func13, Try.ntmps13
  go_wp2
  refine bodyPost_ret (v := .tuple #[.agg #[.int .u16 0, .int .u8 0, .int .u8 0, .int .u8 0, .int .u8 0, .int .u8 0, .int .u8 0, .int .u8 0, .int .u8 0, .int .u8 0, .int .u8 0, .int .u8 0, .int .u8 0, .int .u32 0, .int .u32 0], .int .i64 10]) (by simp [results, Try.results13, go_sem]) rfl ⟨rfl, ?_⟩
  repeat (first | exact Below.refl _ _ | refine Below.setCell ?_ (Nat.le_refl _) _ | exact Below.alloc (Below.refl _ _) (Nat.le_refl _) _)

theorem row_take28 {k : IntKind} {w : World} {a : Option Addr} {xs : List Int} (h : Row k w a xs) (m : Nat) : Row k w a (xs.take m) := by
  intro hne
  have hxe : xs ≠ [] := by intro e; subst e; simp at hne
  obtain ⟨b, off, rfl, hlt, hc⟩ := h hxe
  refine ⟨b, off, rfl, hlt, fun i hi => ?_⟩
  have hi2 := hi
  rw [List.length_take] at hi2
  rw [hc i (by omega), List.getElem?_take_of_lt (by omega)]
set_option maxHeartbeats 2000000 in
theorem earead_formop (w : World) (a : Option Addr) (xs ys : List Int) (n cap : Nat) (o x y : Nat) (g d s : Nat → UInt8) (hr : Row .u8 w a xs) (hl : xs.length = n) (h1 : 28 ≤ n) (hnc : n ≤ cap) (hcm : cap ≤ 9223372036854775807) (hys : xs.take 28 = ys) (hb : ∀ z ∈ ys, 0 ≤ z ∧ z ≤ 255) (hg : ys.take 6 = [((g 0).toNat : Int), ((g 1).toNat : Int), ((g 2).toNat : Int), ((g 3).toNat : Int), ((g 4).toNat : Int), ((g 5).toNat : Int)]) (ho : valB ((ys.drop 6).take 2) = (o : Int)) (ho2 : o ≤ 65535) (hgb : ([g 0, g 1, g 2, g 3, g 4, g 5] == [0, 1, 8, 0, 6, 4]) = true) (hop : ¬ (o = 1 ∨ o = 2)) :
    Calls Try.prog 13 #[.slice a n cap] w fun e w' => e = .returned (.tuple #[.agg #[.int .u16 0, .int .u8 0, .int .u8 0, .int .u8 0, .int .u8 0, .int .u8 0, .int .u8 0, .int .u8 0, .int .u8 0, .int .u8 0, .int .u8 0, .int .u8 0, .int .u8 0, .int .u32 0, .int .u32 0], .int .i64 11]) ∧ Below w.heap.size w w' := by
  have hyl : ys.length = 28 := by rw [← hys, List.length_take]; omega
  have HR := hide (show Row .u8 w a ys by rw [← hys]; exact row_take28 hr 28)
  have HL := hide hyl
  have HB := hide hb
  have HG := hide hg
  have HO := hide ho
  clear hr hl hys hyl hb hg ho
  have h28 : (28 : Int) ≤ (cap : Int) := by omega
  have h28n : 28 ≤ cap := by omega
  have hn28 : ¬ ((n : Int) < 28) := by omega
  go_enter Try.func13, Try.ntmps13
  go_wp2_with fail
  obtain ⟨R, wq, hR, hq, hbel, hRh⟩ : ∃ R wq, w.heap.size = R ∧ w.alloc (.cells #[.int .u16 0, .int .u8 0, .int .u8 0, .int .u8 0, .int .u8 0, .int .u8 0, .int .u8 0, .int .u8 0, .int .u8 0, .int .u8 0, .int .u8 0, .int .u8 0, .int .u8 0, .int .u32 0, .int .u32 0] 41) = wq ∧ Below w.heap.size w wq ∧ wq.heap[R]? = some (.cells #[.int .u16 0, .int .u8 0, .int .u8 0, .int .u8 0, .int .u8 0, .int .u8 0, .int .u8 0, .int .u8 0, .int .u8 0, .int .u8 0, .int .u8 0, .int .u8 0, .int .u8 0, .int .u32 0, .int .u32 0] 41 (0, 0)) :=
    ⟨_, _, rfl, rfl, (Below.refl _ _).alloc (Nat.le_refl _) _, heap_alloc_new w _⟩
  try rw [hq]
  try rw [hR]
  have HRW := hide hR
  have HRh := hide hRh
  have hne := newEye_any a ys cap wq (HR.out.below hbel (Nat.le_refl _)) (by rw [HL.out]; omega)
  rw [HL.out] at hne
  have HNE := hide hne
  have HBQ := hide hbel
  clear hq hR hRh hne hbel
  refine HNE.out.mono ?_
  rintro e w1 ⟨E, rfl, hE, heye, hb1⟩
  have hRE : R < E := Nat.lt_of_lt_of_le (lt_of_block HRh.out) hE
  have hR1 := (hb1.block R (lt_of_block HRh.out)).trans HRh.out
  have hw1 := HBQ.out.trans (hb1.mono HBQ.out.size)
  have hwR : w.heap.size ≤ R := by have := HRW.out; omega
  have hEl := heye.lt
  go_wp2_with fail
  obtain ⟨Mb, w2, hM, hq2, HM2, HR2, HE2, HB2, hEM, h2s⟩ : ∃ Mb wt, w1.heap.size = Mb ∧ w1.alloc (.cells #[.int .u8 0, .int .u8 0, .int .u8 0, .int .u8 0, .int .u8 0, .int .u8 0] 24) = wt ∧ Hid (wt.heap[Mb]? = some (.cells #[.int .u8 0, .int .u8 0, .int .u8 0, .int .u8 0, .int .u8 0, .int .u8 0] 24 (0, 0))) ∧ Hid (wt.heap[R]? = some (.cells #[.int .u16 0, .int .u8 0, .int .u8 0, .int .u8 0, .int .u8 0, .int .u8 0, .int .u8 0, .int .u8 0, .int .u8 0, .int .u8 0, .int .u8 0, .int .u8 0, .int .u8 0, .int .u32 0, .int .u32 0] 41 (0, 0))) ∧ Hid (EyeAt wt E E ys false) ∧ Hid (Below w.heap.size w wt) ∧ E < Mb ∧ Mb < wt.heap.size :=
    ⟨_, _, rfl, rfl, hide (heap_alloc_new w1 _), hide ((Below.heap_alloc _ _ _ (lt_of_block hR1)).trans hR1), hide (heye.below ((Below.refl w1.heap.size w1).alloc (Nat.le_refl _) _) (Nat.le_refl _)), hide (hw1.alloc hw1.size _), hEl, by simp⟩
  try rw [hq2]
  try rw [hM]
  clear hq2 hM HRh heye hb1 hR1 hw1 HNE hEl HBQ
  have hby : ∀ V, Below w2.heap.size w2 V → Calls Try.prog 29 #[.pointer (some ⟨E, 0, none⟩), .int .i64 6] V fun e w' => ∃ a c w4, e = .returned (.slice a 6 c) ∧
      (Builtin.copy_ #[22, 22] 3 #[.slice (some ⟨Mb, 0, none⟩) 6 6, .slice a 6 c]).run Try.prog w' = .ok (.int .i64 6) w4 ∧ Hid (w4.heap[Mb]? = some (.cells #[.int .u8 ((g 0).toNat : Int), .int .u8 ((g 1).toNat : Int), .int .u8 ((g 2).toNat : Int), .int .u8 ((g 3).toNat : Int), .int .u8 ((g 4).toNat : Int), .int .u8 ((g 5).toNat : Int)] 24 (0, 0)) ∧ w4.heap[R]? = some (.cells #[.int .u16 0, .int .u8 0, .int .u8 0, .int .u8 0, .int .u8 0, .int .u8 0, .int .u8 0, .int .u8 0, .int .u8 0, .int .u8 0, .int .u8 0, .int .u8 0, .int .u8 0, .int .u32 0, .int .u32 0] 41 (0, 0)) ∧ EyeAt w4 E E (ys.drop 6) false ∧ w2.heap.size ≤ w4.heap.size ∧ Below w.heap.size w w4) := fun V hV => by
    refine (bytesOk_any E E ys false 6 V (HE2.out.below hV (Nat.le_refl _)) (by rw [HL.out]; omega) (by rw [HL.out]; omega)).mono ?_
    rintro e w' ⟨a, c, rfl, hown, heye, hgb⟩
    have hr := Row.of_owns hown
    rw [HG.out] at hr
    obtain ⟨b, off, rfl, hbl, hc⟩ := hr.at (i := 0) (by simp)
    have hm' : w'.heap[Mb]? = some (.cells #[.int .u8 0, .int .u8 0, .int .u8 0, .int .u8 0, .int .u8 0, .int .u8 0] 24 (0, 0)) := gb_block hgb (below_block hV HM2.out (Nat.le_refl _)) (by omega)
    have hr' : w'.heap[R]? = some (.cells #[.int .u16 0, .int .u8 0, .int .u8 0, .int .u8 0, .int .u8 0, .int .u8 0, .int .u8 0, .int .u8 0, .int .u8 0, .int .u8 0, .int .u8 0, .int .u8 0, .int .u8 0, .int .u32 0, .int .u32 0] 41 (0, 0)) := gb_block hgb (below_block hV HR2.out (Nat.le_refl _)) (by omega)
    have hrun := run_copy_row (P := Try.prog) w' 22 22 3 5 Mb 0 6 6 ⟨b, off, none⟩ 6 c _ 24 [.int .u8 ((g 0).toNat : Int), .int .u8 ((g 1).toNat : Int), .int .u8 ((g 2).toNat : Int), .int .u8 ((g 3).toNat : Int), .int .u8 ((g 4).toNat : Int), .int .u8 ((g 5).toNat : Int)] Try.underlying22 (by kernel_rfl) hm' rfl
      (row_cells hr) (by simp) (fun v hv => by simp at hv; rcases hv with rfl | rfl | rfl | rfl | rfl | rfl <;> rfl)
    refine ⟨_, _, _, rfl, hrun, ?_⟩
    have hbv := (HB2.out.trans (hV.mono HB2.out.size)).grown hgb (by have := HB2.out.size; have := hV.size; omega) (fun k e => by cases e; omega)
    refine ⟨?_, (setRow_other w' Mb R _ (by omega)).trans hr', heye.setRow (by omega) (by omega), ?_, ⟨hbv.os, hbv.tape, hbv.output, by simpa [World.setRow] using hbv.size, fun i hi => (setRow_other w' Mb i _ (by omega)).trans (hbv.block i hi)⟩⟩
    · rw [setRow_self hm']
      simp
    · have := hV.size; have := hgb.size; simp [World.setRow]; omega
  have HBY := hide hby
  clear hby
  go_region_law (first | (refine step_copy_run rfl (.tmp 15) (.tmp 17) 22 22 rfl _ _ rfl rfl _ _ hrn.out ?_) | (go_simp; go_at_call 29; with_reducible refine (HBY.out _ ?_).mono ?_; (first | exact Below.refl _ _ | exact (Below.refl _ _).drew); rintro e w3 ⟨a3, c3, w4, rfl, hrun, H4⟩; have hrn := hide hrun; clear hrun))
  have HM4 := hide H4.out.1
  have HR4 := hide H4.out.2.1
  have HE4 := hide H4.out.2.2.1
  have HB4 := hide H4.out.2.2.2.2
  have h24 := H4.out.2.2.2.1
  clear hrn H4 HBY HM2 HR2 HE2 HB2
  have hnum := eyeNum_any E E (ys.drop 6) false 2 w4 HE4.out (fun z hz => HB.out z (List.mem_of_mem_drop hz)) (by rw [List.length_drop, HL.out]; omega)
  rw [show sz 2 = 2 from rfl, if_pos (by rw [List.length_drop, HL.out]; omega), if_pos (by rw [List.length_drop, HL.out]; omega), show decide ((ys.drop 6).length < 2) = false from by simp; rw [HL.out]; omega, List.drop_drop, HO.out] at hnum
  have HN := hide hnum
  clear hnum
  have hco : IntKind.u16.wrap (o : Int) = (o : Int) := wraps_u16 _ (by omega) (by omega)
  go_wp2_with fail
  refine HN.out.mono ?_
  rintro e w5 ⟨rfl, he5, hg5⟩
  have HE5 := hide he5
  have HM5 := hide (gb_block hg5 HM4.out (by omega))
  have HR5 := hide (gb_block hg5 HR4.out (by omega))
  have HB5 := hide (HB4.out.grown hg5 (by have := HB4.out.size; omega) (fun k e => by cases e; omega))
  have h25 : w2.heap.size ≤ w5.heap.size := Nat.le_trans h24 hg5.size
  obtain ⟨⟨m0, m1, m2, m3, m4, m5⟩, mf⟩ := six_cells HM5.out
  clear he5 hg5 HN HE4 HM4 HR4 HB4 mf
  go_wp2_with fail
  have hq := bg_in g
  rw [hgb] at hq
  have hio := fun V => isOp_any o V
  rw [show decide (o = 1 ∨ o = 2) = false by simpa using hop] at hio
  have HIO := hide hio
  clear hio hop
  go_region_held3 (fun w' => w'.cell? ⟨Mb, 0, none⟩ = some (.int .u8 ((g 0).toNat : Int)) ∧ w'.cell? ⟨Mb, 1, none⟩ = some (.int .u8 ((g 1).toNat : Int)) ∧ w'.cell? ⟨Mb, 2, none⟩ = some (.int .u8 ((g 2).toNat : Int)) ∧ w'.cell? ⟨Mb, 3, none⟩ = some (.int .u8 ((g 3).toNat : Int)) ∧ w'.cell? ⟨Mb, 4, none⟩ = some (.int .u8 ((g 4).toNat : Int)) ∧ w'.cell? ⟨Mb, 5, none⟩ = some (.int .u8 ((g 5).toNat : Int))) (go_keep) (first
    | (go_at_call 35; (with_reducible refine (begin_any _).mono ?_); rintro e w6 ⟨rfl, b6⟩;
        obtain ⟨⟨k0, k1, k2, k3, k4, k5⟩, kf⟩ := six_cells (below_block (below_of_drew b6) HM5.out (Nat.le_refl _));
        have HR6 := hide (below_block (below_of_drew b6) HR5.out (Nat.le_refl _));
        have HB6 := hide (HB5.out.trans ((below_of_drew b6).mono HB5.out.size)); clear b6 kf)
    | (go_at_call 34; (with_reducible refine (HIO.out _).mono ?_); rintro e w7 ⟨rfl, rfl⟩)
    | fail)
  all_goals
    obtain ⟨rc, rf⟩ := arp15 HR6.out
    obtain ⟨r0, r1, r2, r3, r4, r5, r6, r7, r8, r9, r10, r11, r12, r13, r14⟩ := rc
    go_wp2
    refine bodyPost_ret (v := .tuple #[.agg #[.int .u16 0, .int .u8 0, .int .u8 0, .int .u8 0, .int .u8 0, .int .u8 0, .int .u8 0, .int .u8 0, .int .u8 0, .int .u8 0, .int .u8 0, .int .u8 0, .int .u8 0, .int .u32 0, .int .u32 0], .int .i64 11]) (by simp [results, Try.results13, go_sem, r0, r1, r2, r3, r4, r5, r6, r7, r8, r9, r10, r11, r12, r13, r14]) rfl ⟨rfl, ?_⟩
    repeat (with_reducible refine Below.setCell ?_ (by assumption) _)
    exact HB6.out

set_option maxHeartbeats 2000000 in
theorem earead_formbg (w : World) (a : Option Addr) (xs ys : List Int) (n cap : Nat) (o x y : Nat) (g d s : Nat → UInt8) (hr : Row .u8 w a xs) (hl : xs.length = n) (h1 : 28 ≤ n) (hnc : n ≤ cap) (hcm : cap ≤ 9223372036854775807) (hys : xs.take 28 = ys) (hb : ∀ z ∈ ys, 0 ≤ z ∧ z ≤ 255) (hg : ys.take 6 = [((g 0).toNat : Int), ((g 1).toNat : Int), ((g 2).toNat : Int), ((g 3).toNat : Int), ((g 4).toNat : Int), ((g 5).toNat : Int)]) (ho : valB ((ys.drop 6).take 2) = (o : Int)) (ho2 : o ≤ 65535) (hgb : ([g 0, g 1, g 2, g 3, g 4, g 5] == [0, 1, 8, 0, 6, 4]) = false) :
    Calls Try.prog 13 #[.slice a n cap] w fun e w' => e = .returned (.tuple #[.agg #[.int .u16 0, .int .u8 0, .int .u8 0, .int .u8 0, .int .u8 0, .int .u8 0, .int .u8 0, .int .u8 0, .int .u8 0, .int .u8 0, .int .u8 0, .int .u8 0, .int .u8 0, .int .u32 0, .int .u32 0], .int .i64 11]) ∧ Below w.heap.size w w' := by
  have hyl : ys.length = 28 := by rw [← hys, List.length_take]; omega
  have HR := hide (show Row .u8 w a ys by rw [← hys]; exact row_take28 hr 28)
  have HL := hide hyl
  have HB := hide hb
  have HG := hide hg
  have HO := hide ho
  clear hr hl hys hyl hb hg ho
  have h28 : (28 : Int) ≤ (cap : Int) := by omega
  have h28n : 28 ≤ cap := by omega
  have hn28 : ¬ ((n : Int) < 28) := by omega
  go_enter Try.func13, Try.ntmps13
  go_wp2_with fail
  obtain ⟨R, wq, hR, hq, hbel, hRh⟩ : ∃ R wq, w.heap.size = R ∧ w.alloc (.cells #[.int .u16 0, .int .u8 0, .int .u8 0, .int .u8 0, .int .u8 0, .int .u8 0, .int .u8 0, .int .u8 0, .int .u8 0, .int .u8 0, .int .u8 0, .int .u8 0, .int .u8 0, .int .u32 0, .int .u32 0] 41) = wq ∧ Below w.heap.size w wq ∧ wq.heap[R]? = some (.cells #[.int .u16 0, .int .u8 0, .int .u8 0, .int .u8 0, .int .u8 0, .int .u8 0, .int .u8 0, .int .u8 0, .int .u8 0, .int .u8 0, .int .u8 0, .int .u8 0, .int .u8 0, .int .u32 0, .int .u32 0] 41 (0, 0)) :=
    ⟨_, _, rfl, rfl, (Below.refl _ _).alloc (Nat.le_refl _) _, heap_alloc_new w _⟩
  try rw [hq]
  try rw [hR]
  have HRW := hide hR
  have HRh := hide hRh
  have hne := newEye_any a ys cap wq (HR.out.below hbel (Nat.le_refl _)) (by rw [HL.out]; omega)
  rw [HL.out] at hne
  have HNE := hide hne
  have HBQ := hide hbel
  clear hq hR hRh hne hbel
  refine HNE.out.mono ?_
  rintro e w1 ⟨E, rfl, hE, heye, hb1⟩
  have hRE : R < E := Nat.lt_of_lt_of_le (lt_of_block HRh.out) hE
  have hR1 := (hb1.block R (lt_of_block HRh.out)).trans HRh.out
  have hw1 := HBQ.out.trans (hb1.mono HBQ.out.size)
  have hwR : w.heap.size ≤ R := by have := HRW.out; omega
  have hEl := heye.lt
  go_wp2_with fail
  obtain ⟨Mb, w2, hM, hq2, HM2, HR2, HE2, HB2, hEM, h2s⟩ : ∃ Mb wt, w1.heap.size = Mb ∧ w1.alloc (.cells #[.int .u8 0, .int .u8 0, .int .u8 0, .int .u8 0, .int .u8 0, .int .u8 0] 24) = wt ∧ Hid (wt.heap[Mb]? = some (.cells #[.int .u8 0, .int .u8 0, .int .u8 0, .int .u8 0, .int .u8 0, .int .u8 0] 24 (0, 0))) ∧ Hid (wt.heap[R]? = some (.cells #[.int .u16 0, .int .u8 0, .int .u8 0, .int .u8 0, .int .u8 0, .int .u8 0, .int .u8 0, .int .u8 0, .int .u8 0, .int .u8 0, .int .u8 0, .int .u8 0, .int .u8 0, .int .u32 0, .int .u32 0] 41 (0, 0))) ∧ Hid (EyeAt wt E E ys false) ∧ Hid (Below w.heap.size w wt) ∧ E < Mb ∧ Mb < wt.heap.size :=
    ⟨_, _, rfl, rfl, hide (heap_alloc_new w1 _), hide ((Below.heap_alloc _ _ _ (lt_of_block hR1)).trans hR1), hide (heye.below ((Below.refl w1.heap.size w1).alloc (Nat.le_refl _) _) (Nat.le_refl _)), hide (hw1.alloc hw1.size _), hEl, by simp⟩
  try rw [hq2]
  try rw [hM]
  clear hq2 hM HRh heye hb1 hR1 hw1 HNE hEl HBQ
  have hby : ∀ V, Below w2.heap.size w2 V → Calls Try.prog 29 #[.pointer (some ⟨E, 0, none⟩), .int .i64 6] V fun e w' => ∃ a c w4, e = .returned (.slice a 6 c) ∧
      (Builtin.copy_ #[22, 22] 3 #[.slice (some ⟨Mb, 0, none⟩) 6 6, .slice a 6 c]).run Try.prog w' = .ok (.int .i64 6) w4 ∧ Hid (w4.heap[Mb]? = some (.cells #[.int .u8 ((g 0).toNat : Int), .int .u8 ((g 1).toNat : Int), .int .u8 ((g 2).toNat : Int), .int .u8 ((g 3).toNat : Int), .int .u8 ((g 4).toNat : Int), .int .u8 ((g 5).toNat : Int)] 24 (0, 0)) ∧ w4.heap[R]? = some (.cells #[.int .u16 0, .int .u8 0, .int .u8 0, .int .u8 0, .int .u8 0, .int .u8 0, .int .u8 0, .int .u8 0, .int .u8 0, .int .u8 0, .int .u8 0, .int .u8 0, .int .u8 0, .int .u32 0, .int .u32 0] 41 (0, 0)) ∧ EyeAt w4 E E (ys.drop 6) false ∧ w2.heap.size ≤ w4.heap.size ∧ Below w.heap.size w w4) := fun V hV => by
    refine (bytesOk_any E E ys false 6 V (HE2.out.below hV (Nat.le_refl _)) (by rw [HL.out]; omega) (by rw [HL.out]; omega)).mono ?_
    rintro e w' ⟨a, c, rfl, hown, heye, hgb⟩
    have hr := Row.of_owns hown
    rw [HG.out] at hr
    obtain ⟨b, off, rfl, hbl, hc⟩ := hr.at (i := 0) (by simp)
    have hm' : w'.heap[Mb]? = some (.cells #[.int .u8 0, .int .u8 0, .int .u8 0, .int .u8 0, .int .u8 0, .int .u8 0] 24 (0, 0)) := gb_block hgb (below_block hV HM2.out (Nat.le_refl _)) (by omega)
    have hr' : w'.heap[R]? = some (.cells #[.int .u16 0, .int .u8 0, .int .u8 0, .int .u8 0, .int .u8 0, .int .u8 0, .int .u8 0, .int .u8 0, .int .u8 0, .int .u8 0, .int .u8 0, .int .u8 0, .int .u8 0, .int .u32 0, .int .u32 0] 41 (0, 0)) := gb_block hgb (below_block hV HR2.out (Nat.le_refl _)) (by omega)
    have hrun := run_copy_row (P := Try.prog) w' 22 22 3 5 Mb 0 6 6 ⟨b, off, none⟩ 6 c _ 24 [.int .u8 ((g 0).toNat : Int), .int .u8 ((g 1).toNat : Int), .int .u8 ((g 2).toNat : Int), .int .u8 ((g 3).toNat : Int), .int .u8 ((g 4).toNat : Int), .int .u8 ((g 5).toNat : Int)] Try.underlying22 (by kernel_rfl) hm' rfl
      (row_cells hr) (by simp) (fun v hv => by simp at hv; rcases hv with rfl | rfl | rfl | rfl | rfl | rfl <;> rfl)
    refine ⟨_, _, _, rfl, hrun, ?_⟩
    have hbv := (HB2.out.trans (hV.mono HB2.out.size)).grown hgb (by have := HB2.out.size; have := hV.size; omega) (fun k e => by cases e; omega)
    refine ⟨?_, (setRow_other w' Mb R _ (by omega)).trans hr', heye.setRow (by omega) (by omega), ?_, ⟨hbv.os, hbv.tape, hbv.output, by simpa [World.setRow] using hbv.size, fun i hi => (setRow_other w' Mb i _ (by omega)).trans (hbv.block i hi)⟩⟩
    · rw [setRow_self hm']
      simp
    · have := hV.size; have := hgb.size; simp [World.setRow]; omega
  have HBY := hide hby
  clear hby
  go_region_law (first | (refine step_copy_run rfl (.tmp 15) (.tmp 17) 22 22 rfl _ _ rfl rfl _ _ hrn.out ?_) | (go_simp; go_at_call 29; with_reducible refine (HBY.out _ ?_).mono ?_; (first | exact Below.refl _ _ | exact (Below.refl _ _).drew); rintro e w3 ⟨a3, c3, w4, rfl, hrun, H4⟩; have hrn := hide hrun; clear hrun))
  have HM4 := hide H4.out.1
  have HR4 := hide H4.out.2.1
  have HE4 := hide H4.out.2.2.1
  have HB4 := hide H4.out.2.2.2.2
  have h24 := H4.out.2.2.2.1
  clear hrn H4 HBY HM2 HR2 HE2 HB2
  have hnum := eyeNum_any E E (ys.drop 6) false 2 w4 HE4.out (fun z hz => HB.out z (List.mem_of_mem_drop hz)) (by rw [List.length_drop, HL.out]; omega)
  rw [show sz 2 = 2 from rfl, if_pos (by rw [List.length_drop, HL.out]; omega), if_pos (by rw [List.length_drop, HL.out]; omega), show decide ((ys.drop 6).length < 2) = false from by simp; rw [HL.out]; omega, List.drop_drop, HO.out] at hnum
  have HN := hide hnum
  clear hnum
  have hco : IntKind.u16.wrap (o : Int) = (o : Int) := wraps_u16 _ (by omega) (by omega)
  go_wp2_with fail
  refine HN.out.mono ?_
  rintro e w5 ⟨rfl, he5, hg5⟩
  have HE5 := hide he5
  have HM5 := hide (gb_block hg5 HM4.out (by omega))
  have HR5 := hide (gb_block hg5 HR4.out (by omega))
  have HB5 := hide (HB4.out.grown hg5 (by have := HB4.out.size; omega) (fun k e => by cases e; omega))
  have h25 : w2.heap.size ≤ w5.heap.size := Nat.le_trans h24 hg5.size
  obtain ⟨⟨m0, m1, m2, m3, m4, m5⟩, mf⟩ := six_cells HM5.out
  clear he5 hg5 HN HE4 HM4 HR4 HB4 mf
  go_wp2_with fail
  have hq := bg_in g
  rw [hgb] at hq
  refine wp_region_held_drew (S := (fun w' => w'.cell? ⟨Mb, 0, none⟩ = some (.int .u8 ((g 0).toNat : Int)) ∧ w'.cell? ⟨Mb, 1, none⟩ = some (.int .u8 ((g 1).toNat : Int)) ∧ w'.cell? ⟨Mb, 2, none⟩ = some (.int .u8 ((g 2).toNat : Int)) ∧ w'.cell? ⟨Mb, 3, none⟩ = some (.int .u8 ((g 3).toNat : Int)) ∧ w'.cell? ⟨Mb, 4, none⟩ = some (.int .u8 ((g 4).toNat : Int)) ∧ w'.cell? ⟨Mb, 5, none⟩ = some (.int .u8 ((g 5).toNat : Int)))) (by kernel_rfl) (by go_keep) (fun hHeld => ?_)
  refine wpAnyH_take (i := 0) (oi := { dst := some 22, op := Op.load 24 (Operand.tmp 5), type := 24, pos := "ether.go:78", after := #[], guard := none }) (v := ?_) rfl (by kernel_rfl) (by kernel_rfl) (by kernel_rfl) (fun _ _ _ h => h) (Or.inl ⟨by rfl, ?_⟩) (by assumption) ?_
  rotate_left
  · intro wS hSw
    try dsimp only at hSw
    go_simp
    try with_reducible rfl
  try simp only [Act.put, List.setIfInBounds_toArray, List.set_cons_zero, List.set_cons_succ]
  refine wpAnyH_ready (rs := [1]) (by kernel_rfl) (by simp) ?_
  refine AllReadyH.cons (o := { dst := some 23, op := Op.call { callee := Callee.value (Operand.func 35), args := #[], argTypes := #[] }, type := 24, pos := "ether.go:78", after := #[], guard := none }) rfl (fun K hK => ?_) AllReadyH.nil
  go_simp
  (with_reducible refine (begin_any _).mono ?_)
  rintro e w6 ⟨rfl, b6⟩
  obtain ⟨⟨k0, k1, k2, k3, k4, k5⟩, kf⟩ := six_cells (below_block (below_of_drew b6) HM5.out (Nat.le_refl _))
  have HR6 := hide (below_block (below_of_drew b6) HR5.out (Nat.le_refl _))
  have HB6 := hide (HB5.out.trans ((below_of_drew b6).mono HB5.out.size))
  clear b6 kf
  refine hK.out _ _ ?_ (fun hHeld => ?_)
  · try dsimp only
    go_keep
  clear hK K
  try simp only [Act.put, List.setIfInBounds_toArray, List.set_cons_zero, List.set_cons_succ]
  refine wpAnyH_take (i := 2) (oi := { dst := some 24, op := Op.binOp BinOp.neq 24 (Operand.tmp 22) (Operand.tmp 23) 24, type := 4, pos := "ether.go:78", after := #[{ on := 0, ground := Ground.data }, { on := 1, ground := Ground.data }], guard := none }) (v := ?_) rfl (by kernel_rfl) (by kernel_rfl) (by kernel_rfl) (fun _ _ _ h => h) (Or.inl ⟨by rfl, ?_⟩) (by assumption) ?_
  rotate_left
  · intro wS hSw
    try dsimp only at hSw
    go_simp
    try with_reducible rfl
  try simp only [Act.put, List.setIfInBounds_toArray, List.set_cons_zero, List.set_cons_succ]
  refine wpAnyH_take (i := 3) (oi := { dst := some 25, op := Op.move (Operand.tmp 24), type := 4, pos := "ether.go:78", after := #[{ on := 2, ground := Ground.data }, { on := 1, ground := Ground.chain }], guard := none }) (v := ?_) rfl (by kernel_rfl) (by kernel_rfl) (by kernel_rfl) (fun _ _ _ h => h) (Or.inl ⟨by rfl, ?_⟩) (by assumption) ?_
  rotate_left
  · intro wS hSw
    try dsimp only at hSw
    go_simp
    try with_reducible rfl
  try simp only [Act.put, List.setIfInBounds_toArray, List.set_cons_zero, List.set_cons_succ]
  refine wpAnyH_take (i := 4) (oi := { dst := some 26, op := Op.move (Operand.tmp 6), type := 26, pos := "ether.go:78", after := #[{ on := 3, ground := Ground.guard }], guard := some (3, false) }) (v := undef) rfl (by kernel_rfl) (by kernel_rfl) (by kernel_rfl) (fun _ _ _ h => h) (Or.inr ⟨by rfl, rfl⟩) (by assumption) ?_
  try simp only [Act.put, List.setIfInBounds_toArray, List.set_cons_zero, List.set_cons_succ]
  refine wpAnyH_take (i := 5) (oi := { dst := some 27, op := Op.call { callee := Callee.value (Operand.func 34), args := #[Operand.tmp 26], argTypes := #[26] }, type := 4, pos := "ether.go:78", after := #[{ on := 4, ground := Ground.data }, { on := 3, ground := Ground.chain }, { on := 3, ground := Ground.guard }], guard := some (3, false) }) (v := undef) rfl (by kernel_rfl) (by kernel_rfl) (by kernel_rfl) (fun _ _ _ h => h) (Or.inr ⟨by rfl, rfl⟩) (by assumption) ?_
  try simp only [Act.put, List.setIfInBounds_toArray, List.set_cons_zero, List.set_cons_succ]
  refine wpAnyH_take (i := 6) (oi := { dst := some 28, op := Op.unOp UnOp.not 4 (Operand.tmp 27), type := 4, pos := "ether.go:78", after := #[{ on := 5, ground := Ground.data }, { on := 3, ground := Ground.guard }], guard := some (3, false) }) (v := undef) rfl (by kernel_rfl) (by kernel_rfl) (by kernel_rfl) (fun _ _ _ h => h) (Or.inr ⟨by rfl, rfl⟩) (by assumption) ?_
  try simp only [Act.put, List.setIfInBounds_toArray, List.set_cons_zero, List.set_cons_succ]
  refine wpAnyH_take (i := 7) (oi := { dst := some 29, op := Op.pick (Operand.tmp 25) (Operand.const (Value.bool true)) (Operand.tmp 28), type := 4, pos := "ether.go:78", after := #[{ on := 3, ground := Ground.data }, { on := 6, ground := Ground.data }], guard := none }) (v := ?_) rfl (by kernel_rfl) (by kernel_rfl) (by kernel_rfl) (fun _ _ _ h => h) (Or.inl ⟨by rfl, ?_⟩) (by assumption) ?_
  rotate_left
  · intro wS hSw
    try dsimp only at hSw
    go_simp
    try with_reducible rfl
  try simp only [Act.put, List.setIfInBounds_toArray, List.set_cons_zero, List.set_cons_succ]
  refine wpAnyH_done (by kernel_rfl) ?_ _
  obtain ⟨rc, rf⟩ := arp15 HR6.out
  obtain ⟨r0, r1, r2, r3, r4, r5, r6, r7, r8, r9, r10, r11, r12, r13, r14⟩ := rc
  go_wp2
  refine bodyPost_ret (v := .tuple #[.agg #[.int .u16 0, .int .u8 0, .int .u8 0, .int .u8 0, .int .u8 0, .int .u8 0, .int .u8 0, .int .u8 0, .int .u8 0, .int .u8 0, .int .u8 0, .int .u8 0, .int .u8 0, .int .u32 0, .int .u32 0], .int .i64 11]) (by simp [results, Try.results13, go_sem, r0, r1, r2, r3, r4, r5, r6, r7, r8, r9, r10, r11, r12, r13, r14]) rfl ⟨rfl, ?_⟩
  repeat (with_reducible refine Below.setCell ?_ (by assumption) _)
  exact HB6.out
end Go.Proofs.Ytgpmgfpmfdaecaa
