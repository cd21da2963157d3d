/- The document's example; a connection that is over takes nothing; an RST ends it. -/
import Derived.Test.YthkadjjkoomcgaaStAcc
namespace Go.Proofs.Ythkadjjkoomcgaa
open Go.RowKit
set_option linter.unusedVariables false
set_option linter.unusedSimpArgs false
set_option maxRecDepth 100000
theorem speaks14_any (w : World) : Calls Try.prog 7 #[] w fun e w' => e = .returned (.bool true) ∧ Below w.heap.size w w' := by
  go_enter Try.func7, Try.ntmps7
  go_wp2_with fail
  refine (accept_any 5000 80 99 0 7 0 (.int .u32 0) (.int .u8 2) (.int .u16 0) (.slice none 0 0) (.slice none 0 0) (by omega) (by omega) (by omega) (by omega) w).mono ?_
  rintro e w1 ⟨a, cp, B, R, rfl, hB, hC, hR, hs, hb⟩
  have z2 := cell_at hs 2 rfl
  have z3 := cell_at hs 3 rfl
  have z4 := cell_at hs 4 rfl
  have z5 := cell_at hs 5 rfl
  simp at z2 z3
  have HB := hide hb
  clear hb hC hs hB hR
  go_wp2_with fail
  go_ret
  exact ⟨rfl, HB.out⟩
theorem takeRST_any (B : Nat) (c : Cn) (x0 x1 x3 x4 x5 x6 x7 x8 : Value) (sq : Int) (w : World) (hc : CnAt w B c) :
    Calls Try.prog 36 #[.pointer (some ⟨B, 0, none⟩), .agg #[x0, x1, .int .u32 sq, x3, x4, x5, x6, x7, x8]] w (CnTo B (if sq = c.ack then { c with ph := 4 } else c) w) := by
  obtain ⟨wq, hqq, hbel, hnew⟩ : ∃ V, w.alloc (.cells #[x0, x1, .int .u32 sq, x3, x4, x5, x6, x7, x8] 44) = V ∧ Below w.heap.size w V ∧ V.heap[w.heap.size]? = some (.cells #[x0, x1, .int .u32 sq, x3, x4, x5, x6, x7, x8] 44 (0, 0)) := ⟨_, rfl, (Below.refl _ _).alloc (Nat.le_refl _) _, heap_alloc_new _ _⟩
  have hcq := hc.below hbel (Nat.le_refl _)
  have HQ := hide hqq
  have HC := hide hcq
  have HO := hide (OnlyB.of (B := B) hbel)
  have k2 := cell_at hnew 2 rfl
  have h2 := hcq.all.2.2.1
  have h11 := hcq.all.2.2.2.2.2.2.2.2.2.2.2.1
  have h12 := hcq.all.2.2.2.2.2.2.2.2.2.2.2.2.1
  have f2 := hcq.free 2
  have HA := hide (fun V : World => fun (e1 : V.cell? ⟨B, 11, none⟩ = some (.int .u32 c.inum)) (e2 : V.cell? ⟨B, 12, none⟩ = some (.int .u32 c.seen)) => ack_any B c.inum c.seen V e1 e2)
  by_cases hs : sq = c.ack
  · rw [if_pos hs]
    unfold Cn.ack at hs
    have dd : (sq == (c.inum + c.seen) % 4294967296) = true := by simp [hs]
    clear hqq hbel hnew hcq hc hs
    go_enter Try.func36, Try.ntmps36
    go_upto_region 1 with (fail)
    rw [HQ.out]
    clear HQ
    go_region_held3 (fun w' => w'.cell? ⟨w.heap.size, 2, none⟩ = some (.int .u32 sq)) (go_keep) (first
      | (go_at_call 42; (with_reducible refine (HA.out _ ?_ ?_).mono ?_); (exact h11); (exact h12); rintro e w1 ⟨rfl, kq, rfl⟩)
      | fail)
    go_wp2_with fail
    go_end0
    have hd := bdrewN (Below.refl wq.heap.size wq) (1 + kq)
    exact ⟨rfl, heap_set (HC.out.below hd (Nat.le_refl _)) 2 (.int .i64 4) rfl, (HO.out.drewN _).setCell 2 _⟩
  · rw [if_neg hs]
    unfold Cn.ack at hs
    have dd : (sq == (c.inum + c.seen) % 4294967296) = false := by simp [hs]
    clear hqq hbel hnew hcq hc hs
    go_enter Try.func36, Try.ntmps36
    go_upto_region 1 with (fail)
    rw [HQ.out]
    clear HQ
    go_region_held3 (fun w' => w'.cell? ⟨w.heap.size, 2, none⟩ = some (.int .u32 sq)) (go_keep) (first
      | (go_at_call 42; (with_reducible refine (HA.out _ ?_ ?_).mono ?_); (exact h11); (exact h12); rintro e w1 ⟨rfl, kq, rfl⟩)
      | fail)
    go_wp2_with fail
    go_end0
    have hd := bdrewN (Below.refl wq.heap.size wq) (1 + kq)
    exact ⟨rfl, (HC.out.below hd (Nat.le_refl _)), (HO.out.drewN _)⟩
def TakeTo (B : Nat) (c' : Cn) (w : World) (e : Ending) (w' : World) : Prop := e = .returned (.slice none 0 0) ∧ CnAt w' B c' ∧ OnlyB B w w'
set_option maxHeartbeats 1000000 in
theorem take_over (B : Nat) (c : Cn) (x0 x1 x2 x3 x4 x5 x6 x7 x8 : Value) (now : Int) (w : World) (hc : CnAt w B c) (ho : c.ph = 3 ∨ c.ph = 4) :
    Calls Try.prog 19 #[.pointer (some ⟨B, 0, none⟩), .agg #[x0, x1, x2, x3, x4, x5, x6, x7, x8], .int .u64 now] w (TakeTo B c w) := by
  obtain ⟨wq, hqq, hbel⟩ : ∃ V, w.alloc (.cells #[x0, x1, x2, x3, x4, x5, x6, x7, x8] 44) = V ∧ Below w.heap.size w V := ⟨_, rfl, (Below.refl _ _).alloc (Nat.le_refl _) _⟩
  have hcq := hc.below hbel (Nat.le_refl _)
  have h2 := hcq.all.2.2.1
  have hov := over_any B c.ph wq h2
  rw [show (c.ph == 3 || c.ph == 4) = true by rcases ho with h | h <;> simp [h]] at hov
  have HV := hide hov
  have HQ := hide hqq
  have HC := hide hcq
  have HO := hide (OnlyB.of (B := B) hbel)
  clear hqq hbel hcq hov h2 hc ho
  go_enter Try.func19, Try.ntmps19
  go_upto_region 1 with (fail)
  rw [HQ.out]
  clear HQ
  go_wp2_with fail
  refine HV.out.mono ?_
  rintro e w1 ⟨rfl, rfl⟩
  go_wp2_with fail
  go_ret
  exact ⟨rfl, HC.out, HO.out⟩
set_option maxHeartbeats 2000000 in
theorem take_rst (B : Nat) (c : Cn) (x0 x1 x3 x5 x6 x7 x8 : Value) (sq now : Int) (w : World) (hc : CnAt w B c) (hp : c.ph = 1 ∨ c.ph = 2) :
    Calls Try.prog 19 #[.pointer (some ⟨B, 0, none⟩), .agg #[x0, x1, .int .u32 sq, x3, .int .u8 4, x5, x6, x7, x8], .int .u64 now] w (TakeTo B (if sq = c.ack then { c with ph := 4 } else c) w) := by
  obtain ⟨c', hcc⟩ : ∃ c', (if sq = c.ack then { c with ph := 4 } else c) = c' := ⟨_, rfl⟩
  rw [hcc]
  obtain ⟨wq, hqq, hbel, hnew⟩ : ∃ V, w.alloc (.cells #[x0, x1, .int .u32 sq, x3, .int .u8 4, x5, x6, x7, x8] 44) = V ∧ Below w.heap.size w V ∧ V.heap[w.heap.size]? = some (.cells #[x0, x1, .int .u32 sq, x3, .int .u8 4, x5, x6, x7, x8] 44 (0, 0)) := ⟨_, rfl, (Below.refl _ _).alloc (Nat.le_refl _) _, heap_alloc_new _ _⟩
  have hcq := hc.below hbel (Nat.le_refl _)
  have h2 := hcq.all.2.2.1
  have hov := over_any B c.ph wq h2
  rw [show (c.ph == 3 || c.ph == 4) = false by rcases hp with h | h <;> simp [h]] at hov
  have d0 : (c.ph == 0) = false := by rcases hp with h | h <;> simp [h]
  have HV := hide hov
  have HQ := hide hqq
  have HC := hide hcq
  have HN := hide hnew
  have HO := hide (OnlyB.of (B := B) hbel)
  have hb4 : (bits .and .u8 4 4 != 0) = true := by decide
  have HH := hide (fun V : World => has_any x0 x1 (.int .u32 sq) x3 x5 x6 x7 x8 4 4 V)
  rw [hb4] at HH
  have hRR : ∀ V, CnAt V B c → Calls Try.prog 36 #[.pointer (some ⟨B, 0, none⟩), .agg #[x0, x1, .int .u32 sq, x3, .int .u8 4, x5, x6, x7, x8]] V (CnTo B c' V) := fun V h => by
    have := takeRST_any B c x0 x1 x3 (.int .u8 4) x5 x6 x7 x8 sq V h
    rw [hcc] at this
    exact this
  have HRR := hide hRR
  clear hcc hRR
  generalize c.ph = ph at *
  clear hqq hbel hcq hov hc hp hb4 hnew
  go_enter Try.func19, Try.ntmps19
  go_upto_region 1 with (fail)
  rw [HQ.out]
  clear HQ
  go_wp2_with fail
  refine HV.out.mono ?_
  rintro e w1 ⟨rfl, rfl⟩
  have z0 := cell_at HN.out 0 rfl
  have z1 := cell_at HN.out 1 rfl
  have z2 := cell_at HN.out 2 rfl
  have z3 := cell_at HN.out 3 rfl
  have z4 := cell_at HN.out 4 rfl
  have z5 := cell_at HN.out 5 rfl
  have z6 := cell_at HN.out 6 rfl
  have z7 := cell_at HN.out 7 rfl
  have z8 := cell_at HN.out 8 rfl
  go_wp2_with fail
  refine (HH.out _).mono ?_
  rintro e w2 ⟨rfl, rfl⟩
  have hb2 := (Below.refl w1.heap.size w1).alloc (Nat.le_refl _) (.cells #[x0, x1, .int .u32 sq, x3, .int .u8 4, x5, x6, x7, x8] 44)
  obtain ⟨w2, hw2⟩ : ∃ V, w1.alloc (.cells #[x0, x1, .int .u32 sq, x3, .int .u8 4, x5, x6, x7, x8] 44) = V := ⟨_, rfl⟩
  rw [hw2] at hb2 ⊢
  have HC2 := hide (HC.out.below hb2 (Nat.le_refl _))
  have HO2 := hide (HO.out.trans (OnlyB.of hb2))
  have HN2 := hide (below_block hb2 HN.out (Nat.le_refl _))
  clear hw2 hb2 z0 z1 z2 z3 z4 z5 z6 z7 z8 HC HO HN h2
  have z0 := cell_at HN2.out 0 rfl
  have z1 := cell_at HN2.out 1 rfl
  have z2 := cell_at HN2.out 2 rfl
  have z3 := cell_at HN2.out 3 rfl
  have z4 := cell_at HN2.out 4 rfl
  have z5 := cell_at HN2.out 5 rfl
  have z6 := cell_at HN2.out 6 rfl
  have z7 := cell_at HN2.out 7 rfl
  have z8 := cell_at HN2.out 8 rfl
  go_wp2_with fail
  refine (HRR.out _ HC2.out).mono ?_
  rintro e w3 ⟨rfl, c3, o3⟩
  have HC3 := hide c3
  have HO3 := hide (HO2.out.trans o3)
  clear c3 o3 z0 z1 z2 z3 z4 z5 z6 z7 z8 HC2 HO2 HN2
  go_wp2_with fail
  go_ret
  exact ⟨rfl, HC3.out, HO3.out⟩
end Go.Proofs.Ythkadjjkoomcgaa
