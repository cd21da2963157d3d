/- The law of flows turned about, and of their order. -/
import Derived.Test.YtbacodogklbiaaaFlSpk
import Derived.Test.YtbacodogklbiaaaFlOrdP
import Derived.Deep.RegionHeld3
namespace Go.Proofs.Ytbacodogklbiaaa
open Go.RowKit
set_option linter.unusedVariables false
set_option linter.unusedSimpArgs false
set_option maxRecDepth 100000
theorem t_turn (w : World) (yp ys yd yf yt : Nat) : Calls Try.prog 13 #[.agg #[.int .u8 (yp : Int), .int .u32 (ys : Int), .int .u32 (yd : Int), .int .u16 (yf : Int), .int .u16 (yt : Int)]] w fun e w' => e = .returned (.agg #[.int .u8 (yp : Int), .int .u32 (yd : Int), .int .u32 (ys : Int), .int .u16 (yt : Int), .int .u16 (yf : Int)]) ∧ Below w.heap.size w w' := turnP_any ⟨yp, ys, yd, yf, yt⟩ w
theorem o_ab (w : World) (ap aS ad af aT bp bs bd bf bt cp cs cd cf ct : Nat) : Calls Try.prog 19 #[.agg #[.int .u8 (ap : Int), .int .u32 (aS : Int), .int .u32 (ad : Int), .int .u16 (af : Int), .int .u16 (aT : Int)], .agg #[.int .u8 (bp : Int), .int .u32 (bs : Int), .int .u32 (bd : Int), .int .u16 (bf : Int), .int .u16 (bt : Int)]] w fun e w' => e = .returned (.int .i64 (orderF ⟨ap, aS, ad, af, aT⟩ ⟨bp, bs, bd, bf, bt⟩)) ∧ Below w.heap.size w w' := order_any ⟨ap, aS, ad, af, aT⟩ ⟨bp, bs, bd, bf, bt⟩ w
theorem o_bc (w : World) (ap aS ad af aT bp bs bd bf bt cp cs cd cf ct : Nat) : Calls Try.prog 19 #[.agg #[.int .u8 (bp : Int), .int .u32 (bs : Int), .int .u32 (bd : Int), .int .u16 (bf : Int), .int .u16 (bt : Int)], .agg #[.int .u8 (cp : Int), .int .u32 (cs : Int), .int .u32 (cd : Int), .int .u16 (cf : Int), .int .u16 (ct : Int)]] w fun e w' => e = .returned (.int .i64 (orderF ⟨bp, bs, bd, bf, bt⟩ ⟨cp, cs, cd, cf, ct⟩)) ∧ Below w.heap.size w w' := order_any ⟨bp, bs, bd, bf, bt⟩ ⟨cp, cs, cd, cf, ct⟩ w
theorem o_ac (w : World) (ap aS ad af aT bp bs bd bf bt cp cs cd cf ct : Nat) : Calls Try.prog 19 #[.agg #[.int .u8 (ap : Int), .int .u32 (aS : Int), .int .u32 (ad : Int), .int .u16 (af : Int), .int .u16 (aT : Int)], .agg #[.int .u8 (cp : Int), .int .u32 (cs : Int), .int .u32 (cd : Int), .int .u16 (cf : Int), .int .u16 (ct : Int)]] w fun e w' => e = .returned (.int .i64 (orderF ⟨ap, aS, ad, af, aT⟩ ⟨cp, cs, cd, cf, ct⟩)) ∧ Below w.heap.size w w' := order_any ⟨ap, aS, ad, af, aT⟩ ⟨cp, cs, cd, cf, ct⟩ w

set_option maxHeartbeats 2000000 in
theorem flowTurns_main (w : World) (ap aS ad af aT bp bs bd bf bt cp cs cd cf ct : Nat) :
    Calls Try.prog 8 #[.agg #[.int .u8 (ap : Int), .int .u32 (aS : Int), .int .u32 (ad : Int), .int .u16 (af : Int), .int .u16 (aT : Int)], .agg #[.int .u8 (bp : Int), .int .u32 (bs : Int), .int .u32 (bd : Int), .int .u16 (bf : Int), .int .u16 (bt : Int)], .agg #[.int .u8 (cp : Int), .int .u32 (cs : Int), .int .u32 (cd : Int), .int .u16 (cf : Int), .int .u16 (ct : Int)]] w fun e w' => e = .returned (.bool true) ∧ Below w.heap.size w w' := by
  have HOR : Hid (0 < orderF ⟨ap, aS, ad, af, aT⟩ ⟨bp, bs, bd, bf, bt⟩ ∨ ¬ 0 < orderF ⟨ap, aS, ad, af, aT⟩ ⟨bp, bs, bd, bf, bt⟩ ∧ 0 < orderF ⟨bp, bs, bd, bf, bt⟩ ⟨cp, cs, cd, cf, ct⟩ ∨ ¬ 0 < orderF ⟨ap, aS, ad, af, aT⟩ ⟨bp, bs, bd, bf, bt⟩ ∧ ¬ 0 < orderF ⟨bp, bs, bd, bf, bt⟩ ⟨cp, cs, cd, cf, ct⟩ ∧ orderF ⟨ap, aS, ad, af, aT⟩ ⟨cp, cs, cd, cf, ct⟩ ≤ 0) := hide (by
    by_cases h1 : 0 < orderF ⟨ap, aS, ad, af, aT⟩ ⟨bp, bs, bd, bf, bt⟩
    · exact .inl h1
    by_cases h2 : 0 < orderF ⟨bp, bs, bd, bf, bt⟩ ⟨cp, cs, cd, cf, ct⟩
    · exact .inr (.inl ⟨h1, h2⟩)
    · exact .inr (.inr ⟨h1, h2, orderF_trans ⟨ap, aS, ad, af, aT⟩ ⟨bp, bs, bd, bf, bt⟩ ⟨cp, cs, cd, cf, ct⟩ (by omega) (by omega)⟩))
  obtain ⟨V1, hV1⟩ : ∃ V, w.alloc (.cells #[.int .u8 (ap : Int), .int .u32 (aS : Int), .int .u32 (ad : Int), .int .u16 (af : Int), .int .u16 (aT : Int)] 30) = V := ⟨_, rfl⟩
  obtain ⟨V2, hV2⟩ : ∃ V, V1.alloc (.cells #[.int .u8 (bp : Int), .int .u32 (bs : Int), .int .u32 (bd : Int), .int .u16 (bf : Int), .int .u16 (bt : Int)] 30) = V := ⟨_, rfl⟩
  obtain ⟨V3, hV3⟩ : ∃ V, V2.alloc (.cells #[.int .u8 (cp : Int), .int .u32 (cs : Int), .int .u32 (cd : Int), .int .u16 (cf : Int), .int .u16 (ct : Int)] 30) = V := ⟨_, rfl⟩
  have hz1 : V1.heap.size = w.heap.size + 1 := by rw [← hV1]; simp
  have hz2 : V2.heap.size = w.heap.size + 1 + 1 := by rw [← hV2]; simp [hz1]
  have hb1 : Below w.heap.size w V1 := by rw [← hV1]; exact (Below.refl _ _).alloc (Nat.le_refl _) _
  have hb12 : Below V1.heap.size V1 V2 := by rw [← hV2]; exact (Below.refl _ _).alloc (Nat.le_refl _) _
  have hb23 : Below V2.heap.size V2 V3 := by rw [← hV3]; exact (Below.refl _ _).alloc (Nat.le_refl _) _
  have hb2 := hb1.trans (hb12.mono hb1.size)
  have hb3 := hb2.trans (hb23.mono hb2.size)
  have hp1 : V1.heap[w.heap.size]? = some (.cells #[.int .u8 (ap : Int), .int .u32 (aS : Int), .int .u32 (ad : Int), .int .u16 (af : Int), .int .u16 (aT : Int)] 30 (0, 0)) := by rw [← hV1]; exact heap_alloc_new _ _
  have hp3 := below_block hb23 (below_block hb12 hp1 (Nat.le_refl _)) (Nat.le_refl _)
  have hr2 : V2.heap[w.heap.size + 1]? = some (.cells #[.int .u8 (bp : Int), .int .u32 (bs : Int), .int .u32 (bd : Int), .int .u16 (bf : Int), .int .u16 (bt : Int)] 30 (0, 0)) := by rw [← hV2, ← hz1]; exact heap_alloc_new _ _
  have hr3 := below_block hb23 hr2 (Nat.le_refl _)
  have hf3 : V3.heap[w.heap.size + 1 + 1]? = some (.cells #[.int .u8 (cp : Int), .int .u32 (cs : Int), .int .u32 (cd : Int), .int .u16 (cf : Int), .int .u16 (ct : Int)] 30 (0, 0)) := by rw [← hV3, ← hz2]; exact heap_alloc_new _ _
  obtain ⟨A1, hA1⟩ : ∃ B, w.heap.size = B := ⟨_, rfl⟩
  obtain ⟨A2, hA2⟩ : ∃ B, w.heap.size + 1 = B := ⟨_, rfl⟩
  obtain ⟨A3, hA3⟩ : ∃ B, w.heap.size + 1 + 1 = B := ⟨_, rfl⟩
  have PV3 := hide (show V3.heap[A1]? = some (.cells #[.int .u8 (ap : Int), .int .u32 (aS : Int), .int .u32 (ad : Int), .int .u16 (af : Int), .int .u16 (aT : Int)] 30 (0, 0)) by rw [← hA1]; exact hp3)
  have QV3 := hide (show V3.heap[A2]? = some (.cells #[.int .u8 (bp : Int), .int .u32 (bs : Int), .int .u32 (bd : Int), .int .u16 (bf : Int), .int .u16 (bt : Int)] 30 (0, 0)) by rw [← hA2]; exact hr3)
  have RV3 := hide (show V3.heap[A3]? = some (.cells #[.int .u8 (cp : Int), .int .u32 (cs : Int), .int .u32 (cd : Int), .int .u16 (cf : Int), .int .u16 (ct : Int)] 30 (0, 0)) by rw [← hA3]; exact hf3)
  have HB3 := hide hb3
  have HE := hide (And.intro hV1 (And.intro hV2 (And.intro hV3 (And.intro hA1 (And.intro hA2 (And.intro hA3 (And.intro hz1 hz2)))))))
  clear hV1 hV2 hV3 hz1 hz2 hb1 hb12 hb23 hb2 hb3 hp1 hp3 hr2 hr3 hf3 hA1 hA2 hA3
  go_enter Try.func8, Try.ntmps8
  go_upto_region 1 with (fail)
  rw [HE.out.1, HE.out.2.1, HE.out.2.2.1]
  try rw [HE.out.2.2.2.2.2.2.2]
  try rw [HE.out.2.2.2.2.2.2.1]
  try rw [HE.out.2.2.2.2.2.1]
  try rw [HE.out.2.2.2.2.1]
  try rw [HE.out.2.2.2.1]
  clear HE
  go_wp2_with fail
  refine (speaks_any _).mono ?_
  rintro e w1 ⟨rfl, b⟩
  have HB1 := hide (HB3.out.trans (b.mono HB3.out.size))
  have Pw1 := hide (below_block b PV3.out (Nat.le_refl _))
  have Qw1 := hide (below_block b QV3.out (Nat.le_refl _))
  have Rw1 := hide (below_block b RV3.out (Nat.le_refl _))
  clear b PV3 QV3 RV3 HB3
  go_wp2_with ((refine ld_whole (o := ⟨some 10, _, _, _, _, _⟩) 30 (.tmp 3) rfl (by rfl) A1 rfl #[.int .u8 (ap : Int), .int .u32 (aS : Int), .int .u32 (ad : Int), .int .u16 (af : Int), .int .u16 (aT : Int)] 30 Pw1.out Try.underlying30 (by kernel_rfl) ?_; try simp only [Act.put, List.setIfInBounds_toArray, List.set_cons_zero, List.set_cons_succ]))
  refine (t_turn w1 ap aS ad af aT).mono ?_
  rintro e w3 ⟨rfl, b⟩
  have HB3 := hide (HB1.out.trans (b.mono HB1.out.size))
  have Pw3 := hide (below_block b Pw1.out (Nat.le_refl _))
  have Qw3 := hide (below_block b Qw1.out (Nat.le_refl _))
  have Rw3 := hide (below_block b Rw1.out (Nat.le_refl _))
  clear b Pw1 Qw1 Rw1 HB1
  obtain ⟨w4, hwn, w4b, HN1⟩ : ∃ W, w3.alloc (.cells #[.int .u8 (ap : Int), .int .u32 (ad : Int), .int .u32 (aS : Int), .int .u16 (aT : Int), .int .u16 (af : Int)] 30) = W ∧ Below w3.heap.size w3 W ∧ Hid (W.heap[w3.heap.size]? = some (.cells #[.int .u8 (ap : Int), .int .u32 (ad : Int), .int .u32 (aS : Int), .int .u16 (aT : Int), .int .u16 (af : Int)] 30 (0, 0))) := ⟨_, rfl, (Below.refl w3.heap.size w3).alloc (Nat.le_refl _) _, hide (heap_alloc_new w3 _)⟩
  obtain ⟨B1, hB1⟩ : ∃ B, w3.heap.size = B := ⟨_, rfl⟩
  rw [hB1] at HN1 w4b
  have HW := hide (And.intro hwn hB1)
  have HE1 := hide hB1
  clear hwn hB1
  go_upto_region 4 with (fail)
  rw [HW.out.1, HW.out.2]
  have HB4 := hide (HB3.out.trans (w4b.mono (by rw [← HE1.out]; exact HB3.out.size)))
  have Pw4 := hide (below_block w4b Pw3.out (Nat.le_of_eq HE1.out))
  have Qw4 := hide (below_block w4b Qw3.out (Nat.le_of_eq HE1.out))
  have Rw4 := hide (below_block w4b Rw3.out (Nat.le_of_eq HE1.out))
  have hla := lt_of_block Pw4.out
  have hlb := lt_of_block HN1.out
  have ka0 : w4.cell? ⟨A1, 0, none⟩ = some (.int .u8 (ap : Int)) := cell_at Pw4.out 0 rfl
  have ka1 : w4.cell? ⟨A1, 1, none⟩ = some (.int .u32 (aS : Int)) := cell_at Pw4.out 1 rfl
  have ka2 : w4.cell? ⟨A1, 2, none⟩ = some (.int .u32 (ad : Int)) := cell_at Pw4.out 2 rfl
  have ka3 : w4.cell? ⟨A1, 3, none⟩ = some (.int .u16 (af : Int)) := cell_at Pw4.out 3 rfl
  have ka4 : w4.cell? ⟨A1, 4, none⟩ = some (.int .u16 (aT : Int)) := cell_at Pw4.out 4 rfl
  have kb0 : w4.cell? ⟨B1, 0, none⟩ = some (.int .u8 (ap : Int)) := cell_at HN1.out 0 rfl
  have kb1 : w4.cell? ⟨B1, 1, none⟩ = some (.int .u32 (ad : Int)) := cell_at HN1.out 1 rfl
  have kb2 : w4.cell? ⟨B1, 2, none⟩ = some (.int .u32 (aS : Int)) := cell_at HN1.out 2 rfl
  have kb3 : w4.cell? ⟨B1, 3, none⟩ = some (.int .u16 (aT : Int)) := cell_at HN1.out 3 rfl
  have kb4 : w4.cell? ⟨B1, 4, none⟩ = some (.int .u16 (af : Int)) := cell_at HN1.out 4 rfl
  clear w4b HW HE1 HB3 Pw3 Qw3 Rw3
  go_region_held3 (fun w' => w'.cell? ⟨A1, 0, none⟩ = some (.int .u8 (ap : Int)) ∧ w'.cell? ⟨A1, 1, none⟩ = some (.int .u32 (aS : Int)) ∧ w'.cell? ⟨A1, 2, none⟩ = some (.int .u32 (ad : Int)) ∧ w'.cell? ⟨A1, 3, none⟩ = some (.int .u16 (af : Int)) ∧ w'.cell? ⟨A1, 4, none⟩ = some (.int .u16 (aT : Int)) ∧ w'.cell? ⟨B1, 0, none⟩ = some (.int .u8 (ap : Int)) ∧ w'.cell? ⟨B1, 1, none⟩ = some (.int .u32 (ad : Int)) ∧ w'.cell? ⟨B1, 2, none⟩ = some (.int .u32 (aS : Int)) ∧ w'.cell? ⟨B1, 3, none⟩ = some (.int .u16 (aT : Int)) ∧ w'.cell? ⟨B1, 4, none⟩ = some (.int .u16 (af : Int))) (go_keep) (first
    | (go_at_call 13; (with_reducible refine (t_turn _ ap ad aS aT af).mono ?_); rintro e w5 ⟨rfl, b⟩; (try replace b := below_of_drew b); have ma0 := (bcell b A1 0 hla).trans ka0; have ma1 := (bcell b A1 1 hla).trans ka1; have ma2 := (bcell b A1 2 hla).trans ka2; have ma3 := (bcell b A1 3 hla).trans ka3; have ma4 := (bcell b A1 4 hla).trans ka4; have mb0 := (bcell b B1 0 hlb).trans kb0; have mb1 := (bcell b B1 1 hlb).trans kb1; have mb2 := (bcell b B1 2 hlb).trans kb2; have mb3 := (bcell b B1 3 hlb).trans kb3; have mb4 := (bcell b B1 4 hlb).trans kb4; have HB5 := hide (HB4.out.trans (b.mono HB4.out.size)); have Pw5 := hide (below_block b Pw4.out (Nat.le_refl _)); have Qw5 := hide (below_block b Qw4.out (Nat.le_refl _)); have Rw5 := hide (below_block b Rw4.out (Nat.le_refl _)); clear b)
    | fail)
  clear ka0 kb0 ma0 mb0 ka1 kb1 ma1 mb1 ka2 kb2 ma2 mb2 ka3 kb3 ma3 mb3 ka4 kb4 ma4 mb4 HN1 Pw4 Qw4 Rw4 HB4 hla hlb
  have hor := HOR.out
  clear HOR
  obtain ⟨x1, hx1⟩ : ∃ x, orderF ⟨ap, aS, ad, af, aT⟩ ⟨bp, bs, bd, bf, bt⟩ = x := ⟨_, rfl⟩
  obtain ⟨x2, hx2⟩ : ∃ x, orderF ⟨bp, bs, bd, bf, bt⟩ ⟨cp, cs, cd, cf, ct⟩ = x := ⟨_, rfl⟩
  obtain ⟨x3, hx3⟩ : ∃ x, orderF ⟨ap, aS, ad, af, aT⟩ ⟨cp, cs, cd, cf, ct⟩ = x := ⟨_, rfl⟩
  have o1 := fun (W : World) => o_ab W ap aS ad af aT bp bs bd bf bt cp cs cd cf ct
  have o2 := fun (W : World) => o_bc W ap aS ad af aT bp bs bd bf bt cp cs cd cf ct
  have o3 := fun (W : World) => o_ac W ap aS ad af aT bp bs bd bf bt cp cs cd cf ct
  rw [hx1] at o1
  rw [hx2] at o2
  rw [hx3] at o3
  rw [hx1, hx2, hx3] at hor
  have O1 := hide o1
  have O2 := hide o2
  have O3 := hide o3
  clear o1 o2 o3 hx1 hx2 hx3
  rcases hor with h1 | ⟨h1, h2⟩ | ⟨h1, h2, h3⟩
  · have d1 : decide (0 < x1) = true := by simpa using h1
    go_wp2_with (first | (refine ld_whole (o := ⟨some 37, _, _, _, _, _⟩) 30 (.tmp 3) rfl (by rfl) A1 rfl #[.int .u8 (ap : Int), .int .u32 (aS : Int), .int .u32 (ad : Int), .int .u16 (af : Int), .int .u16 (aT : Int)] 30 Pw5.out Try.underlying30 (by kernel_rfl) ?_; try simp only [Act.put, List.setIfInBounds_toArray, List.set_cons_zero, List.set_cons_succ]) | (refine ld_whole (o := ⟨some 38, _, _, _, _, _⟩) 30 (.tmp 4) rfl (by rfl) A2 rfl #[.int .u8 (bp : Int), .int .u32 (bs : Int), .int .u32 (bd : Int), .int .u16 (bf : Int), .int .u16 (bt : Int)] 30 Qw5.out Try.underlying30 (by kernel_rfl) ?_; try simp only [Act.put, List.setIfInBounds_toArray, List.set_cons_zero, List.set_cons_succ]))
    refine (O1.out _).mono ?_
    rintro e w6 ⟨rfl, b⟩
    have HB6 := hide (HB5.out.trans (b.mono HB5.out.size))
    go_wp2_with fail
    go_ret
    exact ⟨rfl, HB6.out⟩
  · have d1 : decide (0 < x1) = false := by simpa using h1
    have d2 : decide (0 < x2) = true := by simpa using h2
    go_wp2_with (first | (refine ld_whole (o := ⟨some 37, _, _, _, _, _⟩) 30 (.tmp 3) rfl (by rfl) A1 rfl #[.int .u8 (ap : Int), .int .u32 (aS : Int), .int .u32 (ad : Int), .int .u16 (af : Int), .int .u16 (aT : Int)] 30 Pw5.out Try.underlying30 (by kernel_rfl) ?_; try simp only [Act.put, List.setIfInBounds_toArray, List.set_cons_zero, List.set_cons_succ]) | (refine ld_whole (o := ⟨some 38, _, _, _, _, _⟩) 30 (.tmp 4) rfl (by rfl) A2 rfl #[.int .u8 (bp : Int), .int .u32 (bs : Int), .int .u32 (bd : Int), .int .u16 (bf : Int), .int .u16 (bt : Int)] 30 Qw5.out Try.underlying30 (by kernel_rfl) ?_; try simp only [Act.put, List.setIfInBounds_toArray, List.set_cons_zero, List.set_cons_succ]))
    refine (O1.out _).mono ?_
    rintro e w6 ⟨rfl, b⟩
    have HB6 := hide (HB5.out.trans (b.mono HB5.out.size))
    have Qw6 := hide (below_block b Qw5.out (Nat.le_refl _))
    have Rw6 := hide (below_block b Rw5.out (Nat.le_refl _))
    clear b
    go_wp2_with (first | (refine ld_whole (o := ⟨some 42, _, _, _, _, _⟩) 30 (.tmp 4) rfl (by rfl) A2 rfl #[.int .u8 (bp : Int), .int .u32 (bs : Int), .int .u32 (bd : Int), .int .u16 (bf : Int), .int .u16 (bt : Int)] 30 Qw6.out Try.underlying30 (by kernel_rfl) ?_; try simp only [Act.put, List.setIfInBounds_toArray, List.set_cons_zero, List.set_cons_succ]) | (refine ld_whole (o := ⟨some 43, _, _, _, _, _⟩) 30 (.tmp 5) rfl (by rfl) A3 rfl #[.int .u8 (cp : Int), .int .u32 (cs : Int), .int .u32 (cd : Int), .int .u16 (cf : Int), .int .u16 (ct : Int)] 30 Rw6.out Try.underlying30 (by kernel_rfl) ?_; try simp only [Act.put, List.setIfInBounds_toArray, List.set_cons_zero, List.set_cons_succ]))
    refine (O2.out _).mono ?_
    rintro e w7 ⟨rfl, b⟩
    have HB7 := hide (HB6.out.trans (b.mono HB6.out.size))
    clear b
    go_wp2_with fail
    go_ret
    exact ⟨rfl, HB7.out⟩
  · have d1 : decide (0 < x1) = false := by simpa using h1
    have d2 : decide (0 < x2) = false := by simpa using h2
    have d3 : decide (x3 ≤ 0) = true := by simpa using h3
    go_wp2_with (first | (refine ld_whole (o := ⟨some 37, _, _, _, _, _⟩) 30 (.tmp 3) rfl (by rfl) A1 rfl #[.int .u8 (ap : Int), .int .u32 (aS : Int), .int .u32 (ad : Int), .int .u16 (af : Int), .int .u16 (aT : Int)] 30 Pw5.out Try.underlying30 (by kernel_rfl) ?_; try simp only [Act.put, List.setIfInBounds_toArray, List.set_cons_zero, List.set_cons_succ]) | (refine ld_whole (o := ⟨some 38, _, _, _, _, _⟩) 30 (.tmp 4) rfl (by rfl) A2 rfl #[.int .u8 (bp : Int), .int .u32 (bs : Int), .int .u32 (bd : Int), .int .u16 (bf : Int), .int .u16 (bt : Int)] 30 Qw5.out Try.underlying30 (by kernel_rfl) ?_; try simp only [Act.put, List.setIfInBounds_toArray, List.set_cons_zero, List.set_cons_succ]))
    refine (O1.out _).mono ?_
    rintro e w6 ⟨rfl, b⟩
    have HB6 := hide (HB5.out.trans (b.mono HB5.out.size))
    have Pw6 := hide (below_block b Pw5.out (Nat.le_refl _))
    have Qw6 := hide (below_block b Qw5.out (Nat.le_refl _))
    have Rw6 := hide (below_block b Rw5.out (Nat.le_refl _))
    clear b
    go_wp2_with (first | (refine ld_whole (o := ⟨some 42, _, _, _, _, _⟩) 30 (.tmp 4) rfl (by rfl) A2 rfl #[.int .u8 (bp : Int), .int .u32 (bs : Int), .int .u32 (bd : Int), .int .u16 (bf : Int), .int .u16 (bt : Int)] 30 Qw6.out Try.underlying30 (by kernel_rfl) ?_; try simp only [Act.put, List.setIfInBounds_toArray, List.set_cons_zero, List.set_cons_succ]) | (refine ld_whole (o := ⟨some 43, _, _, _, _, _⟩) 30 (.tmp 5) rfl (by rfl) A3 rfl #[.int .u8 (cp : Int), .int .u32 (cs : Int), .int .u32 (cd : Int), .int .u16 (cf : Int), .int .u16 (ct : Int)] 30 Rw6.out Try.underlying30 (by kernel_rfl) ?_; try simp only [Act.put, List.setIfInBounds_toArray, List.set_cons_zero, List.set_cons_succ]))
    refine (O2.out _).mono ?_
    rintro e w7 ⟨rfl, b⟩
    have HB7 := hide (HB6.out.trans (b.mono HB6.out.size))
    have Pw7 := hide (below_block b Pw6.out (Nat.le_refl _))
    have Rw7 := hide (below_block b Rw6.out (Nat.le_refl _))
    clear b
    go_wp2_with (first | (refine ld_whole (o := ⟨some 48, _, _, _, _, _⟩) 30 (.tmp 3) rfl (by rfl) A1 rfl #[.int .u8 (ap : Int), .int .u32 (aS : Int), .int .u32 (ad : Int), .int .u16 (af : Int), .int .u16 (aT : Int)] 30 Pw7.out Try.underlying30 (by kernel_rfl) ?_; try simp only [Act.put, List.setIfInBounds_toArray, List.set_cons_zero, List.set_cons_succ]) | (refine ld_whole (o := ⟨some 49, _, _, _, _, _⟩) 30 (.tmp 5) rfl (by rfl) A3 rfl #[.int .u8 (cp : Int), .int .u32 (cs : Int), .int .u32 (cd : Int), .int .u16 (cf : Int), .int .u16 (ct : Int)] 30 Rw7.out Try.underlying30 (by kernel_rfl) ?_; try simp only [Act.put, List.setIfInBounds_toArray, List.set_cons_zero, List.set_cons_succ]))
    refine (O3.out _).mono ?_
    rintro e w8 ⟨rfl, b⟩
    have HB8 := hide (HB7.out.trans (b.mono HB7.out.size))
    clear b
    go_wp2_with fail
    go_ret
    exact ⟨rfl, HB8.out⟩
theorem flowTurns_any (a b c : Fl) (w : World) : Calls Try.prog 8 #[a.v, b.v, c.v] w fun e w' => e = .returned (.bool true) ∧ Below w.heap.size w w' := flowTurns_main w a.p a.s a.d a.f a.t b.p b.s b.d b.f b.t c.p c.s c.d c.f c.t
end Go.Proofs.Ytbacodogklbiaaa
