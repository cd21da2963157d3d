/- The law of the order of flows. -/
import Derived.Test.YtbacodogklbiaaaFlSpk
import Derived.Test.YtbacodogklbiaaaFlOrdP
import Derived.Deep.RegionHeld3
namespace Go.Proofs.Ytbacodogklbiaaa
open Go.RowKit
set_option linter.unusedVariables false
set_option linter.unusedSimpArgs false
set_option maxRecDepth 100000
theorem r_ab (w : World) (ap aS ad af aT bp bs bd bf bt : Nat) : Calls Try.prog 19 #[.agg #[.int .u8 (ap : Int), .int .u32 (aS : Int), .int .u32 (ad : Int), .int .u16 (af : Int), .int .u16 (aT : Int)], .agg #[.int .u8 (bp : Int), .int .u32 (bs : Int), .int .u32 (bd : Int), .int .u16 (bf : Int), .int .u16 (bt : Int)]] w fun e w' => e = .returned (.int .i64 (orderF ⟨ap, aS, ad, af, aT⟩ ⟨bp, bs, bd, bf, bt⟩)) ∧ Below w.heap.size w w' := order_any ⟨ap, aS, ad, af, aT⟩ ⟨bp, bs, bd, bf, bt⟩ w
theorem r_ba (w : World) (ap aS ad af aT bp bs bd bf bt : Nat) : Calls Try.prog 19 #[.agg #[.int .u8 (bp : Int), .int .u32 (bs : Int), .int .u32 (bd : Int), .int .u16 (bf : Int), .int .u16 (bt : Int)], .agg #[.int .u8 (ap : Int), .int .u32 (aS : Int), .int .u32 (ad : Int), .int .u16 (af : Int), .int .u16 (aT : Int)]] w fun e w' => e = .returned (.int .i64 (orderF ⟨bp, bs, bd, bf, bt⟩ ⟨ap, aS, ad, af, aT⟩)) ∧ Below w.heap.size w w' := order_any ⟨bp, bs, bd, bf, bt⟩ ⟨ap, aS, ad, af, aT⟩ w
theorem l_ab (w : World) (ap aS ad af aT bp bs bd bf bt : Nat) (ha : Fl.Ok ⟨ap, aS, ad, af, aT⟩) (hb : Fl.Ok ⟨bp, bs, bd, bf, bt⟩) : Calls Try.prog 20 #[.agg #[.int .u8 (ap : Int), .int .u32 (aS : Int), .int .u32 (ad : Int), .int .u16 (af : Int), .int .u16 (aT : Int)], .agg #[.int .u8 (bp : Int), .int .u32 (bs : Int), .int .u32 (bd : Int), .int .u16 (bf : Int), .int .u16 (bt : Int)]] w fun e w' => e = .returned (.bool (decide (orderF ⟨ap, aS, ad, af, aT⟩ ⟨bp, bs, bd, bf, bt⟩ < 0))) ∧ Below w.heap.size w w' := by
  rw [order_less]
  exact less_any ⟨ap, aS, ad, af, aT⟩ ⟨bp, bs, bd, bf, bt⟩ w ha hb
theorem l_ba (w : World) (ap aS ad af aT bp bs bd bf bt : Nat) (ha : Fl.Ok ⟨ap, aS, ad, af, aT⟩) (hb : Fl.Ok ⟨bp, bs, bd, bf, bt⟩) : Calls Try.prog 20 #[.agg #[.int .u8 (bp : Int), .int .u32 (bs : Int), .int .u32 (bd : Int), .int .u16 (bf : Int), .int .u16 (bt : Int)], .agg #[.int .u8 (ap : Int), .int .u32 (aS : Int), .int .u32 (ad : Int), .int .u16 (af : Int), .int .u16 (aT : Int)]] w fun e w' => e = .returned (.bool (decide (orderF ⟨bp, bs, bd, bf, bt⟩ ⟨ap, aS, ad, af, aT⟩ < 0))) ∧ Below w.heap.size w w' := by
  rw [order_less]
  exact less_any ⟨bp, bs, bd, bf, bt⟩ ⟨ap, aS, ad, af, aT⟩ w hb ha

set_option maxHeartbeats 2000000 in
theorem flowOrders_main (w : World) (ap aS ad af aT bp bs bd bf bt : Nat) (ha : Fl.Ok ⟨ap, aS, ad, af, aT⟩) (hb : Fl.Ok ⟨bp, bs, bd, bf, bt⟩) :
    Calls Try.prog 7 #[.agg #[.int .u8 (ap : Int), .int .u32 (aS : Int), .int .u32 (ad : Int), .int .u16 (af : Int), .int .u16 (aT : Int)], .agg #[.int .u8 (bp : Int), .int .u32 (bs : Int), .int .u32 (bd : Int), .int .u16 (bf : Int), .int .u16 (bt : Int)]] w fun e w' => e = .returned (.bool true) ∧ Below w.heap.size w w' := by
  have hneg := orderF_neg ⟨ap, aS, ad, af, aT⟩ ⟨bp, bs, bd, bf, bt⟩
  have hzero := orderF_zero ⟨ap, aS, ad, af, aT⟩ ⟨bp, bs, bd, bf, bt⟩
  have hself : (⟨ap, aS, ad, af, aT⟩ : Fl) = ⟨bp, bs, bd, bf, bt⟩ → orderF ⟨ap, aS, ad, af, aT⟩ ⟨bp, bs, bd, bf, bt⟩ = 0 := by
    intro h
    have h1 := orderF_neg ⟨ap, aS, ad, af, aT⟩ ⟨bp, bs, bd, bf, bt⟩
    rw [← h] at h1 ⊢
    omega
  obtain ⟨x, hx⟩ : ∃ x, orderF ⟨ap, aS, ad, af, aT⟩ ⟨bp, bs, bd, bf, bt⟩ = x := ⟨_, rfl⟩
  obtain ⟨y, hy⟩ : ∃ y, orderF ⟨bp, bs, bd, bf, bt⟩ ⟨ap, aS, ad, af, aT⟩ = y := ⟨_, rfl⟩
  have o1 := fun (W : World) => r_ab W ap aS ad af aT bp bs bd bf bt
  have o2 := fun (W : World) => r_ba W ap aS ad af aT bp bs bd bf bt
  have l1 := fun (W : World) => l_ab W ap aS ad af aT bp bs bd bf bt ha hb
  have l2 := fun (W : World) => l_ba W ap aS ad af aT bp bs bd bf bt ha hb
  rw [hx] at o1 l1 hneg hzero hself
  rw [hy] at o2 l2 hneg
  have O1 := hide o1
  have O2 := hide o2
  have L1 := hide l1
  have L2 := hide l2
  have HEQ := hide (show x = 0 ∧ (ap = bp ∧ aS = bs ∧ ad = bd ∧ af = bf ∧ aT = bt) ∨ x ≠ 0 ∧ ¬ (ap = bp ∧ aS = bs ∧ ad = bd ∧ af = bf ∧ aT = bt) by
    by_cases h : x = 0
    · have h1 := hzero h
      simp only [Fl.mk.injEq] at h1
      exact .inl ⟨h, h1⟩
    · refine .inr ⟨h, fun h1 => h (hself ?_)⟩
      simp only [Fl.mk.injEq]
      exact h1)
  have HNG := hide hneg
  clear o1 o2 l1 l2 hx hy hneg hzero hself ha hb
  obtain ⟨V1, hV1⟩ : ∃ V, w.alloc (.cells #[.int .u8 (ap : Int), .int .u32 (aS : Int), .int .u32 (ad : Int), .int .u16 (af : Int), .int .u16 (aT : Int)] 30) = V := ⟨_, rfl⟩
  obtain ⟨V2, hV2⟩ : ∃ V, V1.alloc (.cells #[.int .u8 (bp : Int), .int .u32 (bs : Int), .int .u32 (bd : Int), .int .u16 (bf : Int), .int .u16 (bt : Int)] 30) = V := ⟨_, rfl⟩
  have hz1 : V1.heap.size = w.heap.size + 1 := by rw [← hV1]; simp
  have hb1 : Below w.heap.size w V1 := by rw [← hV1]; exact (Below.refl _ _).alloc (Nat.le_refl _) _
  have hb12 : Below V1.heap.size V1 V2 := by rw [← hV2]; exact (Below.refl _ _).alloc (Nat.le_refl _) _
  have hb2 := hb1.trans (hb12.mono hb1.size)
  have hp1 : V1.heap[w.heap.size]? = some (.cells #[.int .u8 (ap : Int), .int .u32 (aS : Int), .int .u32 (ad : Int), .int .u16 (af : Int), .int .u16 (aT : Int)] 30 (0, 0)) := by rw [← hV1]; exact heap_alloc_new _ _
  have hp2 := below_block hb12 hp1 (Nat.le_refl _)
  have hr2 : V2.heap[w.heap.size + 1]? = some (.cells #[.int .u8 (bp : Int), .int .u32 (bs : Int), .int .u32 (bd : Int), .int .u16 (bf : Int), .int .u16 (bt : Int)] 30 (0, 0)) := by rw [← hV2, ← hz1]; exact heap_alloc_new _ _
  obtain ⟨A1, hA1⟩ : ∃ B, w.heap.size = B := ⟨_, rfl⟩
  obtain ⟨A2, hA2⟩ : ∃ B, w.heap.size + 1 = B := ⟨_, rfl⟩
  have PV3 := hide (show V2.heap[A1]? = some (.cells #[.int .u8 (ap : Int), .int .u32 (aS : Int), .int .u32 (ad : Int), .int .u16 (af : Int), .int .u16 (aT : Int)] 30 (0, 0)) by rw [← hA1]; exact hp2)
  have QV3 := hide (show V2.heap[A2]? = some (.cells #[.int .u8 (bp : Int), .int .u32 (bs : Int), .int .u32 (bd : Int), .int .u16 (bf : Int), .int .u16 (bt : Int)] 30 (0, 0)) by rw [← hA2]; exact hr2)
  have HB3 := hide hb2
  have HE := hide (And.intro hV1 (And.intro hV2 (And.intro hA1 (And.intro hA2 hz1))))
  clear hV1 hV2 hz1 hb1 hb12 hb2 hp1 hp2 hr2 hA1 hA2
  go_enter Try.func7, Try.ntmps7
  go_upto_region 1 with (fail)
  rw [HE.out.1, HE.out.2.1]
  try rw [HE.out.2.2.2.2]
  try rw [HE.out.2.2.2.1]
  try rw [HE.out.2.2.1]
  clear HE
  go_wp2_with fail
  refine (speaks_any _).mono ?_
  rintro e w1 ⟨rfl, b⟩
  have HB1 := hide (HB3.out.trans (b.mono HB3.out.size))
  have Pw1 := hide (below_block b PV3.out (Nat.le_refl _))
  have Qw1 := hide (below_block b QV3.out (Nat.le_refl _))
  clear b PV3 QV3 HB3
  go_upto_region 3 with (fail)
  have hla := lt_of_block Pw1.out
  have hlb := lt_of_block Qw1.out
  have ka0 : w1.cell? ⟨A1, 0, none⟩ = some (.int .u8 (ap : Int)) := cell_at Pw1.out 0 rfl
  have ka1 : w1.cell? ⟨A1, 1, none⟩ = some (.int .u32 (aS : Int)) := cell_at Pw1.out 1 rfl
  have ka2 : w1.cell? ⟨A1, 2, none⟩ = some (.int .u32 (ad : Int)) := cell_at Pw1.out 2 rfl
  have ka3 : w1.cell? ⟨A1, 3, none⟩ = some (.int .u16 (af : Int)) := cell_at Pw1.out 3 rfl
  have ka4 : w1.cell? ⟨A1, 4, none⟩ = some (.int .u16 (aT : Int)) := cell_at Pw1.out 4 rfl
  have kb0 : w1.cell? ⟨A2, 0, none⟩ = some (.int .u8 (bp : Int)) := cell_at Qw1.out 0 rfl
  have kb1 : w1.cell? ⟨A2, 1, none⟩ = some (.int .u32 (bs : Int)) := cell_at Qw1.out 1 rfl
  have kb2 : w1.cell? ⟨A2, 2, none⟩ = some (.int .u32 (bd : Int)) := cell_at Qw1.out 2 rfl
  have kb3 : w1.cell? ⟨A2, 3, none⟩ = some (.int .u16 (bf : Int)) := cell_at Qw1.out 3 rfl
  have kb4 : w1.cell? ⟨A2, 4, none⟩ = some (.int .u16 (bt : Int)) := cell_at Qw1.out 4 rfl
  have HBB := hide (Below.refl w1.heap.size w1)
  go_region_held3 (fun w' => w'.cell? ⟨A1, 0, none⟩ = some (.int .u8 (ap : Int)) ∧ w'.cell? ⟨A1, 1, none⟩ = some (.int .u32 (aS : Int)) ∧ w'.cell? ⟨A1, 2, none⟩ = some (.int .u32 (ad : Int)) ∧ w'.cell? ⟨A1, 3, none⟩ = some (.int .u16 (af : Int)) ∧ w'.cell? ⟨A1, 4, none⟩ = some (.int .u16 (aT : Int)) ∧ w'.cell? ⟨A2, 0, none⟩ = some (.int .u8 (bp : Int)) ∧ w'.cell? ⟨A2, 1, none⟩ = some (.int .u32 (bs : Int)) ∧ w'.cell? ⟨A2, 2, none⟩ = some (.int .u32 (bd : Int)) ∧ w'.cell? ⟨A2, 3, none⟩ = some (.int .u16 (bf : Int)) ∧ w'.cell? ⟨A2, 4, none⟩ = some (.int .u16 (bt : Int))) (go_keep) (first
    | (go_at_call 19; (with_reducible refine (O1.out _).mono ?_); rintro e w2 ⟨rfl, b⟩; (try replace b := below_of_drew b); have HBB := hide (HBB.out.trans (b.mono HBB.out.size)); have ma0 := (bcell HBB.out A1 0 hla).trans ka0; have mb0 := (bcell HBB.out A2 0 hlb).trans kb0; have ma1 := (bcell HBB.out A1 1 hla).trans ka1; have mb1 := (bcell HBB.out A2 1 hlb).trans kb1; have ma2 := (bcell HBB.out A1 2 hla).trans ka2; have mb2 := (bcell HBB.out A2 2 hlb).trans kb2; have ma3 := (bcell HBB.out A1 3 hla).trans ka3; have mb3 := (bcell HBB.out A2 3 hlb).trans kb3; have ma4 := (bcell HBB.out A1 4 hla).trans ka4; have mb4 := (bcell HBB.out A2 4 hlb).trans kb4; clear b)
    | (go_at_call 19; (with_reducible refine (O2.out _).mono ?_); rintro e w3 ⟨rfl, b⟩; (try replace b := below_of_drew b); have HBB := hide (HBB.out.trans (b.mono HBB.out.size)); have la0 := (bcell HBB.out A1 0 hla).trans ka0; have lb0 := (bcell HBB.out A2 0 hlb).trans kb0; have la1 := (bcell HBB.out A1 1 hla).trans ka1; have lb1 := (bcell HBB.out A2 1 hlb).trans kb1; have la2 := (bcell HBB.out A1 2 hla).trans ka2; have lb2 := (bcell HBB.out A2 2 hlb).trans kb2; have la3 := (bcell HBB.out A1 3 hla).trans ka3; have lb3 := (bcell HBB.out A2 3 hlb).trans kb3; have la4 := (bcell HBB.out A1 4 hla).trans ka4; have lb4 := (bcell HBB.out A2 4 hlb).trans kb4; have Pw3 := hide (below_block HBB.out Pw1.out (Nat.le_refl _)); have Qw3 := hide (below_block HBB.out Qw1.out (Nat.le_refl _)); clear b)
    | fail)
  have HB3 := hide (HB1.out.trans (HBB.out.mono HB1.out.size))
  clear ka0 kb0 ma0 mb0 la0 lb0 ka1 kb1 ma1 mb1 la1 lb1 ka2 kb2 ma2 mb2 la2 lb2 ka3 kb3 ma3 mb3 la3 lb3 ka4 kb4 ma4 mb4 la4 lb4 Pw1 Qw1 HBB hla hlb O1 O2 HB1
  have hng := HNG.out
  have heq := HEQ.out
  clear HNG HEQ
  subst hng
  have h01 : decide (0 < x) = decide (-x < 0) := by simp
  have HL1 := L1
  obtain ⟨u, hu⟩ : ∃ u, decide (x < 0) = u := ⟨_, rfl⟩
  obtain ⟨v, hv⟩ : ∃ v, decide (-x < 0) = v := ⟨_, rfl⟩
  have hv2 : decide (0 < x) = v := by rw [← hv, h01]
  rw [hu] at L1
  rw [hv] at L2
  clear h01 HL1
  rcases heq with ⟨h0, rfl, rfl, rfl, rfl, rfl⟩ | ⟨h0, hn⟩
  · subst h0
    obtain rfl : u = false := by rw [← hu]; simp
    obtain rfl : v = false := by rw [← hv]; simp
    clear hu hv hv2
    go_wp2_with (first | (refine ld_whole (o := ⟨some 17, _, _, _, _, _⟩) 30 (.tmp 2) rfl (by rfl) A1 rfl #[.int .u8 (ap : Int), .int .u32 (aS : Int), .int .u32 (ad : Int), .int .u16 (af : Int), .int .u16 (aT : Int)] 30 Pw3.out Try.underlying30 (by kernel_rfl) ?_; try simp only [Act.put, List.setIfInBounds_toArray, List.set_cons_zero, List.set_cons_succ]) | (refine ld_whole (o := ⟨some 18, _, _, _, _, _⟩) 30 (.tmp 3) rfl (by rfl) A2 rfl #[.int .u8 (ap : Int), .int .u32 (aS : Int), .int .u32 (ad : Int), .int .u16 (af : Int), .int .u16 (aT : Int)] 30 Qw3.out Try.underlying30 (by kernel_rfl) ?_; try simp only [Act.put, List.setIfInBounds_toArray, List.set_cons_zero, List.set_cons_succ]))
    refine (L1.out _).mono ?_
    rintro e w4 ⟨rfl, b⟩
    have HB4 := hide (HB3.out.trans (b.mono HB3.out.size))
    have Pw4 := hide (below_block b Pw3.out (Nat.le_refl _))
    have Qw4 := hide (below_block b Qw3.out (Nat.le_refl _))
    clear b
    go_wp2_with (first | (refine ld_whole (o := ⟨some 24, _, _, _, _, _⟩) 30 (.tmp 3) rfl (by rfl) A2 rfl #[.int .u8 (ap : Int), .int .u32 (aS : Int), .int .u32 (ad : Int), .int .u16 (af : Int), .int .u16 (aT : Int)] 30 Qw4.out Try.underlying30 (by kernel_rfl) ?_; try simp only [Act.put, List.setIfInBounds_toArray, List.set_cons_zero, List.set_cons_succ]) | (refine ld_whole (o := ⟨some 25, _, _, _, _, _⟩) 30 (.tmp 2) rfl (by rfl) A1 rfl #[.int .u8 (ap : Int), .int .u32 (aS : Int), .int .u32 (ad : Int), .int .u16 (af : Int), .int .u16 (aT : Int)] 30 Pw4.out Try.underlying30 (by kernel_rfl) ?_; try simp only [Act.put, List.setIfInBounds_toArray, List.set_cons_zero, List.set_cons_succ]))
    refine (L2.out _).mono ?_
    rintro e w5 ⟨rfl, b⟩
    have HB5 := hide (HB4.out.trans (b.mono HB4.out.size))
    have Pw5 := hide (below_block b Pw4.out (Nat.le_refl _))
    have Qw5 := hide (below_block b Qw4.out (Nat.le_refl _))
    clear b
    go_wp2_with (first | (refine ld_whole (o := ⟨some 32, _, _, _, _, _⟩) 30 (.tmp 2) rfl (by rfl) A1 rfl #[.int .u8 (ap : Int), .int .u32 (aS : Int), .int .u32 (ad : Int), .int .u16 (af : Int), .int .u16 (aT : Int)] 30 Pw5.out Try.underlying30 (by kernel_rfl) ?_; try simp only [Act.put, List.setIfInBounds_toArray, List.set_cons_zero, List.set_cons_succ]) | (refine ld_whole (o := ⟨some 33, _, _, _, _, _⟩) 30 (.tmp 3) rfl (by rfl) A2 rfl #[.int .u8 (ap : Int), .int .u32 (aS : Int), .int .u32 (ad : Int), .int .u16 (af : Int), .int .u16 (aT : Int)] 30 Qw5.out Try.underlying30 (by kernel_rfl) ?_; try simp only [Act.put, List.setIfInBounds_toArray, List.set_cons_zero, List.set_cons_succ]))
    all_goals go_ret
    all_goals exact ⟨rfl, HB5.out⟩
  · have d0 : (x == 0) = false := by simpa using h0
    rcases Int.lt_or_gt_of_ne h0 with h1 | h1
    · obtain rfl : u = true := by rw [← hu]; simpa using h1
      obtain rfl : v = false := by rw [← hv2]; simp; omega
      go_wp2_with (first | (refine ld_whole (o := ⟨some 17, _, _, _, _, _⟩) 30 (.tmp 2) rfl (by rfl) A1 rfl #[.int .u8 (ap : Int), .int .u32 (aS : Int), .int .u32 (ad : Int), .int .u16 (af : Int), .int .u16 (aT : Int)] 30 Pw3.out Try.underlying30 (by kernel_rfl) ?_; try simp only [Act.put, List.setIfInBounds_toArray, List.set_cons_zero, List.set_cons_succ]) | (refine ld_whole (o := ⟨some 18, _, _, _, _, _⟩) 30 (.tmp 3) rfl (by rfl) A2 rfl #[.int .u8 (bp : Int), .int .u32 (bs : Int), .int .u32 (bd : Int), .int .u16 (bf : Int), .int .u16 (bt : Int)] 30 Qw3.out Try.underlying30 (by kernel_rfl) ?_; try simp only [Act.put, List.setIfInBounds_toArray, List.set_cons_zero, List.set_cons_succ]))
      refine (L1.out _).mono ?_
      rintro e w4 ⟨rfl, b⟩
      have HB4 := hide (HB3.out.trans (b.mono HB3.out.size))
      have Pw4 := hide (below_block b Pw3.out (Nat.le_refl _))
      have Qw4 := hide (below_block b Qw3.out (Nat.le_refl _))
      clear b
      go_wp2_with (first | (refine ld_whole (o := ⟨some 24, _, _, _, _, _⟩) 30 (.tmp 3) rfl (by rfl) A2 rfl #[.int .u8 (bp : Int), .int .u32 (bs : Int), .int .u32 (bd : Int), .int .u16 (bf : Int), .int .u16 (bt : Int)] 30 Qw4.out Try.underlying30 (by kernel_rfl) ?_; try simp only [Act.put, List.setIfInBounds_toArray, List.set_cons_zero, List.set_cons_succ]) | (refine ld_whole (o := ⟨some 25, _, _, _, _, _⟩) 30 (.tmp 2) rfl (by rfl) A1 rfl #[.int .u8 (ap : Int), .int .u32 (aS : Int), .int .u32 (ad : Int), .int .u16 (af : Int), .int .u16 (aT : Int)] 30 Pw4.out Try.underlying30 (by kernel_rfl) ?_; try simp only [Act.put, List.setIfInBounds_toArray, List.set_cons_zero, List.set_cons_succ]))
      refine (L2.out _).mono ?_
      rintro e w5 ⟨rfl, b⟩
      have HB5 := hide (HB4.out.trans (b.mono HB4.out.size))
      have Pw5 := hide (below_block b Pw4.out (Nat.le_refl _))
      have Qw5 := hide (below_block b Qw4.out (Nat.le_refl _))
      clear b
      go_wp2_with (first | (refine ld_whole (o := ⟨some 32, _, _, _, _, _⟩) 30 (.tmp 2) rfl (by rfl) A1 rfl #[.int .u8 (ap : Int), .int .u32 (aS : Int), .int .u32 (ad : Int), .int .u16 (af : Int), .int .u16 (aT : Int)] 30 Pw5.out Try.underlying30 (by kernel_rfl) ?_; try simp only [Act.put, List.setIfInBounds_toArray, List.set_cons_zero, List.set_cons_succ]) | (refine ld_whole (o := ⟨some 33, _, _, _, _, _⟩) 30 (.tmp 3) rfl (by rfl) A2 rfl #[.int .u8 (bp : Int), .int .u32 (bs : Int), .int .u32 (bd : Int), .int .u16 (bf : Int), .int .u16 (bt : Int)] 30 Qw5.out Try.underlying30 (by kernel_rfl) ?_; try simp only [Act.put, List.setIfInBounds_toArray, List.set_cons_zero, List.set_cons_succ]))
      all_goals go_ret
      all_goals exact ⟨rfl, HB5.out⟩
    · obtain rfl : u = false := by rw [← hu]; simp; omega
      obtain rfl : v = true := by rw [← hv2]; simpa using h1
      go_wp2_with (first | (refine ld_whole (o := ⟨some 17, _, _, _, _, _⟩) 30 (.tmp 2) rfl (by rfl) A1 rfl #[.int .u8 (ap : Int), .int .u32 (aS : Int), .int .u32 (ad : Int), .int .u16 (af : Int), .int .u16 (aT : Int)] 30 Pw3.out Try.underlying30 (by kernel_rfl) ?_; try simp only [Act.put, List.setIfInBounds_toArray, List.set_cons_zero, List.set_cons_succ]) | (refine ld_whole (o := ⟨some 18, _, _, _, _, _⟩) 30 (.tmp 3) rfl (by rfl) A2 rfl #[.int .u8 (bp : Int), .int .u32 (bs : Int), .int .u32 (bd : Int), .int .u16 (bf : Int), .int .u16 (bt : Int)] 30 Qw3.out Try.underlying30 (by kernel_rfl) ?_; try simp only [Act.put, List.setIfInBounds_toArray, List.set_cons_zero, List.set_cons_succ]))
      refine (L1.out _).mono ?_
      rintro e w4 ⟨rfl, b⟩
      have HB4 := hide (HB3.out.trans (b.mono HB3.out.size))
      have Pw4 := hide (below_block b Pw3.out (Nat.le_refl _))
      have Qw4 := hide (below_block b Qw3.out (Nat.le_refl _))
      clear b
      go_wp2_with (first | (refine ld_whole (o := ⟨some 24, _, _, _, _, _⟩) 30 (.tmp 3) rfl (by rfl) A2 rfl #[.int .u8 (bp : Int), .int .u32 (bs : Int), .int .u32 (bd : Int), .int .u16 (bf : Int), .int .u16 (bt : Int)] 30 Qw4.out Try.underlying30 (by kernel_rfl) ?_; try simp only [Act.put, List.setIfInBounds_toArray, List.set_cons_zero, List.set_cons_succ]) | (refine ld_whole (o := ⟨some 25, _, _, _, _, _⟩) 30 (.tmp 2) rfl (by rfl) A1 rfl #[.int .u8 (ap : Int), .int .u32 (aS : Int), .int .u32 (ad : Int), .int .u16 (af : Int), .int .u16 (aT : Int)] 30 Pw4.out Try.underlying30 (by kernel_rfl) ?_; try simp only [Act.put, List.setIfInBounds_toArray, List.set_cons_zero, List.set_cons_succ]))
      refine (L2.out _).mono ?_
      rintro e w5 ⟨rfl, b⟩
      have HB5 := hide (HB4.out.trans (b.mono HB4.out.size))
      have Pw5 := hide (below_block b Pw4.out (Nat.le_refl _))
      have Qw5 := hide (below_block b Qw4.out (Nat.le_refl _))
      clear b
      go_wp2_with (first | (refine ld_whole (o := ⟨some 32, _, _, _, _, _⟩) 30 (.tmp 2) rfl (by rfl) A1 rfl #[.int .u8 (ap : Int), .int .u32 (aS : Int), .int .u32 (ad : Int), .int .u16 (af : Int), .int .u16 (aT : Int)] 30 Pw5.out Try.underlying30 (by kernel_rfl) ?_; try simp only [Act.put, List.setIfInBounds_toArray, List.set_cons_zero, List.set_cons_succ]) | (refine ld_whole (o := ⟨some 33, _, _, _, _, _⟩) 30 (.tmp 3) rfl (by rfl) A2 rfl #[.int .u8 (bp : Int), .int .u32 (bs : Int), .int .u32 (bd : Int), .int .u16 (bf : Int), .int .u16 (bt : Int)] 30 Qw5.out Try.underlying30 (by kernel_rfl) ?_; try simp only [Act.put, List.setIfInBounds_toArray, List.set_cons_zero, List.set_cons_succ]))
      all_goals go_ret
      all_goals exact ⟨rfl, HB5.out⟩
theorem flowOrders_any (a b : Fl) (w : World) (ha : a.Ok) (hb : b.Ok) : Calls Try.prog 7 #[a.v, b.v] w fun e w' => e = .returned (.bool true) ∧ Below w.heap.size w w' := flowOrders_main w a.p a.s a.d a.f a.t b.p b.s b.d b.f b.t ha hb
end Go.Proofs.Ytbacodogklbiaaa
