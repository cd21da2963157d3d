/- One side of a connection: its SYN, its timer, how it begins. -/
import Derived.Test.YthkadjjkoomcgaaStFns
namespace Go.Proofs.Ythkadjjkoomcgaa
open Go.RowKit
set_option linter.unusedVariables false
set_option linter.unusedSimpArgs false
set_option maxRecDepth 100000
theorem row_nil (k : IntKind) (w : World) (a : Option Addr) : Row k w a [] := fun h => absurd rfl h
def synFl (ph : Int) : Int := if ph = 0 then 2 else 18
set_option maxHeartbeats 1000000 in
theorem syn_any (B : Nat) (c : Cn) (a : Option Addr) (n cap : Nat) (hi : c.ib = .slice a n cap) (hn : n ≤ 4096) (w : World) (hc : CnAt w B c) :
    Calls Try.prog 23 #[.pointer (some ⟨B, 0, none⟩)] w (SegAns w c.frm c.to (c.seq 0) c.ack (synFl c.ph) (4096 - n) [] 0) := by
  obtain ⟨wq, hqq, hbel, hnew⟩ : ∃ V, w.alloc (.cells #[.int .u16 0, .int .u16 0, .int .u32 0, .int .u32 0, .int .u8 0, .int .u16 0, .int .u16 0, .slice none 0 0, .slice none 0 0] 44) = V ∧ Below w.heap.size w V ∧ V.heap[w.heap.size]? = some (.cells #[.int .u16 0, .int .u16 0, .int .u32 0, .int .u32 0, .int .u8 0, .int .u16 0, .int .u16 0, .slice none 0 0, .slice none 0 0] 44 (0, 0)) := ⟨_, rfl, (Below.refl _ _).alloc (Nat.le_refl _) _, heap_alloc_new _ _⟩
  have hcq := hc.below hbel (Nat.le_refl _)
  have h2 := hcq.all.2.2.1
  have hsq : w.heap.size < wq.heap.size := lt_of_block hnew
  have HS := hide (fun f : Int => segment_any B c 0 f a n cap hi hn none [] 0 0 rfl (by omega) wq (row_nil _ _ _) hcq)
  have HQ := hide hqq
  have HN := hide hnew
  have HB := hide hbel
  clear hqq hnew hbel hcq hi hc
  obtain ⟨fl, hfl⟩ : ∃ fl, synFl c.ph = fl := ⟨_, rfl⟩
  rw [hfl]
  unfold synFl at hfl
  obtain ⟨frm, hfrm⟩ : ∃ x, c.frm = x := ⟨_, rfl⟩
  obtain ⟨to, hto⟩ : ∃ x, c.to = x := ⟨_, rfl⟩
  obtain ⟨sq, hsqq⟩ : ∃ x, c.seq 0 = x := ⟨_, rfl⟩
  obtain ⟨ak, hak⟩ : ∃ x, c.ack = x := ⟨_, rfl⟩
  obtain ⟨ph, hph⟩ : ∃ x, c.ph = x := ⟨_, rfl⟩
  rw [hfrm, hto, hsqq, hak] at HS ⊢
  rw [hph] at h2 hfl
  clear hfrm hto hsqq hak hph
  by_cases h0 : ph = 0
  · have d0 : (ph == 0) = true := by simp [h0]
    rw [if_pos h0] at hfl
    have HF := hide hfl
    clear hfl h0
    go_enter Try.func23, Try.ntmps23
    go_upto_region 1 with (fail)
    rw [HQ.out]
    clear HQ
    go_wp2_with fail
    refine (HS.out _).mono ?_
    rintro e w2 ⟨a', cap', rfl, o, b⟩
    unfold sgv
    have HN2 := hide (below_block b HN.out (Nat.le_refl _))
    have z0 := cell_at HN2.out 0 rfl
    have z1 := cell_at HN2.out 1 rfl
    have z2 := cell_at HN2.out 2 rfl
    have z3 := cell_at HN2.out 3 rfl
    have z4 := cell_at HN2.out 4 rfl
    have z5 := cell_at HN2.out 5 rfl
    have z6 := cell_at HN2.out 6 rfl
    have z7 := cell_at HN2.out 7 rfl
    have z8 := cell_at HN2.out 8 rfl
    have zf := free_at HN2.out
    have O := hide o
    have hBl := hide (HB.out.trans (b.mono HB.out.size))
    clear o b
    go_wp2_with fail
    exact bodyPost_ret (v := sgv frm to sq ak fl (4096 - n) (.slice a' 0 cap')) (by rw [← HF.out]; exact results_cell Try.results23 _ _ w.heap.size _ _ _ _ rfl (set9 HN2.out _ _ _ _ _ _ _ _ _) Try.underlying44 rfl (by kernel_rfl)) rfl ⟨a', cap', rfl, owns_mono (own9 O.out hsq _ _ _ _ _ _ _ _ _) (Nat.le_of_lt hsq), below9 hBl.out (Nat.le_refl _) _ _ _ _ _ _ _ _ _⟩
  · have d0 : (ph == 0) = false := by simp [h0]
    rw [if_neg h0] at hfl
    have HF := hide hfl
    clear hfl h0
    go_enter Try.func23, Try.ntmps23
    go_upto_region 1 with (fail)
    rw [HQ.out]
    clear HQ
    go_wp2_with fail
    refine (HS.out _).mono ?_
    rintro e w2 ⟨a', cap', rfl, o, b⟩
    unfold sgv
    have HN2 := hide (below_block b HN.out (Nat.le_refl _))
    have z0 := cell_at HN2.out 0 rfl
    have z1 := cell_at HN2.out 1 rfl
    have z2 := cell_at HN2.out 2 rfl
    have z3 := cell_at HN2.out 3 rfl
    have z4 := cell_at HN2.out 4 rfl
    have z5 := cell_at HN2.out 5 rfl
    have z6 := cell_at HN2.out 6 rfl
    have z7 := cell_at HN2.out 7 rfl
    have z8 := cell_at HN2.out 8 rfl
    have zf := free_at HN2.out
    have O := hide o
    have hBl := hide (HB.out.trans (b.mono HB.out.size))
    clear o b
    go_wp2_with fail
    exact bodyPost_ret (v := sgv frm to sq ak fl (4096 - n) (.slice a' 0 cap')) (by rw [← HF.out]; exact results_cell Try.results23 _ _ w.heap.size _ _ _ _ rfl (set9 HN2.out _ _ _ _ _ _ _ _ _) Try.underlying44 rfl (by kernel_rfl)) rfl ⟨a', cap', rfl, owns_mono (own9 O.out hsq _ _ _ _ _ _ _ _ _) (Nat.le_of_lt hsq), below9 hBl.out (Nat.le_refl _) _ _ _ _ _ _ _ _ _⟩
theorem newOut_any (own : Int) (w : World) :
    Calls Try.prog 21 #[.int .u32 own] w fun e w' => e = .returned (.agg #[.int .u32 own, .int .u64 0, .int .u64 1, .int .u64 1, .int .u64 1, .slice none 0 0, .bool false, .int .u64 0]) ∧ Below w.heap.size w w' := by
  go_enter Try.func21, Try.ntmps21
  go_wp2_with fail
  refine bodyPost_ret (v := .agg #[.int .u32 own, .int .u64 0, .int .u64 1, .int .u64 1, .int .u64 1, .slice none 0 0, .bool false, .int .u64 0]) (by simp [results, Try.results21, go_sem]) rfl ⟨rfl, ?_⟩
  repeat (first | exact Below.refl _ _ | refine Below.setCell ?_ (Nat.le_refl _) _ | refine Below.alloc ?_ (by first | (simp; done) | (simp; omega)) _)
theorem p2_le (t : Nat) (h : t ≤ 5) : (1 : Int) ≤ 2 ^ t ∧ (2 : Int) ^ t ≤ 32 := by
  match t, h with
  | 0, _ => decide
  | 1, _ => decide
  | 2, _ => decide
  | 3, _ => decide
  | 4, _ => decide
  | 5, _ => decide
theorem wrap_at (now : Int) (t : Nat) (h5 : t ≤ 5) (h0 : 0 ≤ now) (h1 : now + 96 < 18446744073709551616) : IntKind.u64.wrap (now + IntKind.u64.wrap (3 * 2 ^ t)) = now + 3 * 2 ^ t := by
  have h := p2_le t h5
  rw [wraps_u64 (3 * 2 ^ t) (by omega) (by omega), wraps_u64 _ (by omega) (by omega)]
def CnTo (B : Nat) (c' : Cn) (w : World) (e : Ending) (w' : World) : Prop := e = .returned (.tuple #[]) ∧ CnAt w' B c' ∧ OnlyB B w w'
theorem set_any (B : Nat) (c : Cn) (now : Int) (t : Nat) (ht : c.tries = (t : Int)) (h5 : t ≤ 5) (h0 : 0 ≤ now) (h1 : now + 96 < 18446744073709551616) (w : World) (hc : CnAt w B c) :
    Calls Try.prog 22 #[.pointer (some ⟨B, 15, none⟩), .int .u64 now] w (CnTo B { c with on := true, at_ := now + 3 * 2 ^ t } w) := by
  have h17 := hc.at 17 (v := .int .i64 (t : Int)) (by rw [← ht]; rfl)
  have h15 := hc.all.2.2.2.2.2.2.2.2.2.2.2.2.2.2.2.1
  have h16 := hc.all.2.2.2.2.2.2.2.2.2.2.2.2.2.2.2.2.1
  have f15 := hc.free 15
  have f16 := hc.free 16
  have HC := hide hc
  have HW := hide (wrap_at now t h5 h0 h1)
  clear hc h0 h1
  go_enter Try.func22, Try.ntmps22
  go_wp2_with fail
  go_region
  go_wp2_with fail
  go_end0
  rw [HW.out]
  exact ⟨rfl, heap_set (w := w.setCell ⟨B, 15, none⟩ (.bool true)) (heap_set HC.out 15 (.bool true) rfl) 16 (.int .u64 (now + 3 * 2 ^ t)) rfl, (((OnlyB.refl B w).setCell 15 _).setCell 16 _).drew⟩
theorem begin_any (B : Nat) (c : Cn) (n : Int) (w : World) (hc : CnAt w B c) :
    Calls Try.prog 32 #[.pointer (some ⟨B, 11, none⟩), .int .u32 n] w (CnTo B { c with inum := n, seen := 1 } w) := by
  have h11 := hc.all.2.2.2.2.2.2.2.2.2.2.2.1
  have h12 := hc.all.2.2.2.2.2.2.2.2.2.2.2.2.1
  have f15 := hc.free 11
  have f16 := hc.free 12
  have HC := hide hc
  clear hc
  go_enter Try.func32, Try.ntmps32
  go_wp2_with fail
  go_end0
  exact ⟨rfl, heap_set (w := w.setCell ⟨B, 11, none⟩ (.int .u32 n)) (heap_set HC.out 11 (.int .u32 n) rfl) 12 (.int .u32 1) rfl, (((OnlyB.refl B w).setCell 11 _).setCell 12 _)⟩
theorem due_any (B : Nat) (c : Cn) (now : Int) (w : World) (hc : CnAt w B c) :
    Calls Try.prog 28 #[.pointer (some ⟨B, 15, none⟩), .int .u64 now] w fun e w' => e = .returned (.bool (c.on && decide (c.at_ ≤ now))) ∧ w' = w := by
  have h15 := hc.all.2.2.2.2.2.2.2.2.2.2.2.2.2.2.2.1
  have h16 := hc.all.2.2.2.2.2.2.2.2.2.2.2.2.2.2.2.2.1
  obtain ⟨r, hr⟩ : ∃ r, (c.on && decide (c.at_ ≤ now)) = r := ⟨_, rfl⟩
  rw [hr]
  generalize c.on = on at *
  generalize c.at_ = at_ at *
  have HR := hide hr
  clear hr hc
  cases on
  · go_enter Try.func28, Try.ntmps28
    go_wp2_with fail
    go_ret
    exact ⟨by rw [← HR.out]; rfl, rfl⟩
  · go_enter Try.func28, Try.ntmps28
    go_wp2_with fail
    go_ret
    exact ⟨by rw [← HR.out]; rfl, rfl⟩
end Go.Proofs.Ythkadjjkoomcgaa
