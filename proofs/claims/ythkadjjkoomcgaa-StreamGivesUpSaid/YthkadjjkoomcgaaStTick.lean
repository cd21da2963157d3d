/- What is never answered is sent anew, and given up. -/
import Derived.Test.YthkadjjkoomcgaaStOver
namespace Go.Proofs.Ythkadjjkoomcgaa
open Go.RowKit
set_option linter.unusedVariables false
set_option linter.unusedSimpArgs false
set_option maxRecDepth 100000
/-- One segment is told, with these flags; the connection is c'. -/
def TellTo (B : Nat) (c' : Cn) (fl : Int) (w : World) (e : Ending) (w' : World) : Prop := ∃ R x0 x1 x2 x3 x5 x6 x7 x8, e = .returned (.slice (some ⟨R, 0, none⟩) 1 1) ∧ w.heap.size ≤ R ∧ w'.heap[R]? = some (.cells #[x0, x1, x2, x3, .int .u8 fl, x5, x6, x7, x8] 44 (0, 0)) ∧ CnAt w' B c' ∧ OnlyB B w w'
set_option maxHeartbeats 1000000 in
theorem tick_early (B : Nat) (c : Cn) (now : Int) (w : World) (hc : CnAt w B c) (ho : (c.ph == 3 || c.ph == 4) = false) (hd : (c.on && decide (c.at_ ≤ now)) = false) :
    Calls Try.prog 14 #[.pointer (some ⟨B, 0, none⟩), .int .u64 now] w (TakeTo B c w) := by
  obtain ⟨wq, hqq, hbel, hn1, hn2⟩ := two_new w (.pointer (some ⟨B, 0, none⟩)) (.int .u64 now) 26 31
  have hcq := hc.below hbel (Nat.le_refl _)
  have HV := hide (fun (V : World) (h : V.cell? ⟨B, 2, none⟩ = some (.int .i64 c.ph)) => show Calls Try.prog 27 #[.pointer (some ⟨B, 0, none⟩)] V fun e w' => e = .returned (.bool false) ∧ w' = V by rw [← ho]; exact over_any B c.ph V h)
  have HD := hide (fun (V : World) (h : CnAt V B c) => show Calls Try.prog 28 #[.pointer (some ⟨B, 15, none⟩), .int .u64 now] V fun e w' => e = .returned (.bool false) ∧ w' = V by rw [← hd]; exact due_any B c now V h)
  have h2 := hcq.all.2.2.1
  have HQ := hide hqq
  have HC := hide hcq
  have HO := hide (OnlyB.of (B := B) hbel)
  have z1 := cell_at hn1 0 rfl
  have z2 := cell_at hn2 0 rfl
  clear hqq hbel hcq hc ho hn1 hn2 hd
  go_enter_defers Try.func14, Try.ntmps14
  go_upto_region 1 with (fail)
  rw [HQ.out]
  clear HQ
  go_quiet (first | (go_at_call 27; exact Calls.quiet_of_same (HV.out _ h2)) | (go_at_call 28; exact Calls.quiet_of_same (HD.out _ HC.out)))
  go_wp2_with fail
  have hd := bdrewN (Below.refl wq.heap.size wq) nq
  exact ⟨_, results_tmp rfl _ _ _, rfl, HC.out.below hd (Nat.le_refl _), HO.out.drewN _⟩
set_option maxHeartbeats 1000000 in
theorem again_syn (B : Nat) (c : Cn) (w : World) (hc : CnAt w B c) (ho : c.ph = 0) (hi : c.ib = .slice none 0 0) :
    Calls Try.prog 31 #[.pointer (some ⟨B, 0, none⟩)] w (TellTo B c 2 w) := by
  have HS := hide (syn_any B c none 0 0 hi (by omega) w hc)
  rw [show synFl c.ph = 2 by unfold synFl; rw [if_pos ho]] at HS
  have h2 := hc.all.2.2.1
  have d0 : (c.ph != 2) = true := by simp [ho]
  have HC := hide hc
  clear hc ho hi
  go_enter Try.func31, Try.ntmps31
  go_wp2_with fail
  refine HS.out.mono ?_
  rintro e w1 ⟨a', cap', rfl, o, b⟩
  have HC1 := hide (HC.out.below b (Nat.le_refl _))
  have HB1 := hide b
  clear b o h2 HC
  unfold sgv
  go_wp2_with fail
  go_ret
  exact ⟨w1.heap.size, _, _, _, _, _, _, _, _, rfl, HB1.out.size, heap_alloc_new _ _, HC1.out.below ((Below.refl _ _).alloc (Nat.le_refl _) _) (Nat.le_refl _), (OnlyB.of HB1.out).alloc _⟩
theorem lt_of_cell {w : World} {X i : Nat} {v : Value} (h : w.cell? ⟨X, i, none⟩ = some v) : X < w.heap.size := World.block_lt_of_cell? w ⟨X, i, none⟩ h
theorem tickset_any (B X Y : Nat) (c : Cn) (now : Int) (t : Nat) (ht : c.tries = (t : Int)) (h5 : t ≤ 5) (h0 : 0 ≤ now) (h1 : now + 96 < 18446744073709551616) (u : FrameMode) (w : World) (hc : CnAt w B c) (hx : w.cell? ⟨X, 0, none⟩ = some (.pointer (some ⟨B, 0, none⟩))) (hy : w.cell? ⟨Y, 0, none⟩ = some (.int .u64 now)) (hxb : X ≠ B) (hyb : Y ≠ B) :
    CallsD Try.prog 30 #[.pointer (some ⟨X, 0, none⟩), .pointer (some ⟨Y, 0, none⟩)] u w fun e u' w' => u' = u ∧ CnTo B { c with on := true, at_ := now + 3 * 2 ^ t } w e w' := by
  have lx := lt_of_cell hx
  have ly := lt_of_cell hy
  have HC := hide (show CnAt w.drew B c from hc)
  clear hc
  go_enter_d Try.func30, Try.ntmps30
  go_region_held3 (fun w' => w'.cell? ⟨X, 0, none⟩ = some (.pointer (some ⟨B, 0, none⟩)) ∧ w'.cell? ⟨Y, 0, none⟩ = some (.int .u64 now)) (go_keep) (first
    | (go_at_call 22; (with_reducible refine (set_any B c now t ht h5 h0 h1 _ HC.out).mono ?_); rintro e w1 ⟨rfl, c1, o1⟩; have jx : w1.cell? ⟨X, 0, none⟩ = some (.pointer (some ⟨B, 0, none⟩)) := (World.cell?_of_block (w := w.drew) (o1.block X lx hxb)).trans hx; have jy : w1.cell? ⟨Y, 0, none⟩ = some (.int .u64 now) := (World.cell?_of_block (w := w.drew) (o1.block Y ly hyb)).trans hy)
    | fail)
  go_wp2_with fail
  go_end0
  exact ⟨rfl, c1, (OnlyB.refl B w).drew.trans o1⟩
set_option maxHeartbeats 2000000 in
theorem tick_again (B : Nat) (c : Cn) (now : Int) (t : Nat) (ht : c.tries = (t : Int)) (h4 : t ≤ 4) (h0 : 0 ≤ now) (h1 : now + 96 < 18446744073709551616) (w : World) (hc : CnAt w B c) (hp : c.ph = 0) (hi : c.ib = .slice none 0 0) (hon : c.on = true) (hat : c.at_ ≤ now) :
    Calls Try.prog 14 #[.pointer (some ⟨B, 0, none⟩), .int .u64 now] w (TellTo B { c with tries := t + 1, on := true, at_ := now + 3 * 2 ^ (t + 1) } 2 w) := by
  obtain ⟨wq, hqq, hbel, hn1, hn2⟩ := two_new w (.pointer (some ⟨B, 0, none⟩)) (.int .u64 now) 26 31
  have hcq := hc.below hbel (Nat.le_refl _)
  have HV := hide (fun (V : World) (h : V.cell? ⟨B, 2, none⟩ = some (.int .i64 c.ph)) => show Calls Try.prog 27 #[.pointer (some ⟨B, 0, none⟩)] V fun e w' => e = .returned (.bool false) ∧ w' = V by rw [show false = (c.ph == 3 || c.ph == 4) by simp [hp]]; exact over_any B c.ph V h)
  have HD := hide (fun (V : World) (h : CnAt V B c) => show Calls Try.prog 28 #[.pointer (some ⟨B, 15, none⟩), .int .u64 now] V fun e w' => e = .returned (.bool true) ∧ w' = V by rw [show true = (c.on && decide (c.at_ ≤ now)) by simp [hon, hat]]; exact due_any B c now V h)
  have h2 := hcq.all.2.2.1
  have h17 := hcq.at 17 (v := .int .i64 (t : Int)) (by rw [← ht]; rfl)
  have HQ := hide hqq
  have HC := hide hcq
  have HO := hide (OnlyB.of (B := B) hbel)
  have HLB := hide hc.lt
  have z1 := cell_at hn1 0 rfl
  have z2 := cell_at hn2 0 rfl
  have HN1 := hide hn1
  have HN2 := hide hn2
  clear hqq hbel hcq hc hn1 hn2 hon hat
  go_enter_defers Try.func14, Try.ntmps14
  go_upto_region 1 with (fail)
  rw [HQ.out]
  clear HQ
  go_quiet (first | (go_at_call 27; exact Calls.quiet_of_same (HV.out _ h2)) | (go_at_call 28; exact Calls.quiet_of_same (HD.out _ HC.out)))
  have hd := bdrewN (Below.refl wq.heap.size wq) nq
  obtain ⟨w1, hw1⟩ : ∃ V, wq.drewN nq = V := ⟨_, rfl⟩
  rw [hw1] at hd ⊢
  have HC1 := hide (HC.out.below hd (Nat.le_refl _))
  have HO1 := hide (HO.out.trans (OnlyB.of hd))
  have HM1 := hide (below_block hd HN1.out (Nat.le_refl _))
  have HM2 := hide (below_block hd HN2.out (Nat.le_refl _))
  clear hw1 hd z1 z2 h17 h2 HC HO HN1 HN2 HV HD
  have z1 := cell_at HM1.out 0 rfl
  have z2 := cell_at HM2.out 0 rfl
  have h17 := HC1.out.at 17 (v := .int .i64 (t : Int)) (by rw [← ht]; rfl)
  have f17 := HC1.out.free 17
  have hmf : ∀ (fn : Fn) (first cap : Array Value) (w : World), (Instr.makeFunc fn first cap).run Try.prog w = .ok (.func fn first cap) w := fun _ _ _ _ => rfl
  go_wp2_with fail
  have HC2 := hide (show CnAt (w1.setCell ⟨B, 17, none⟩ (.int .i64 ((t : Int) + 1))) B { c with tries := (t : Int) + 1 } from heap_set HC1.out 17 _ rfl)
  have HO2 := hide (HO1.out.setCell 17 (.int .i64 ((t : Int) + 1)))
  have hn1B : w.heap.size ≠ B := by have := HLB.out; omega
  have hn2B : w.heap.size + 1 ≠ B := by have := HLB.out; omega
  have HX2 := hide ((heap_setCell_other w1 ⟨B, 17, none⟩ _ (.int .i64 ((t : Int) + 1)) hn1B).trans HM1.out)
  have HY2 := hide ((heap_setCell_other w1 ⟨B, 17, none⟩ _ (.int .i64 ((t : Int) + 1)) hn2B).trans HM2.out)
  obtain ⟨w2, hw2⟩ : ∃ V, w1.setCell ⟨B, 17, none⟩ (.int .i64 ((t : Int) + 1)) = V := ⟨_, rfl⟩
  rw [hw2] at HC2 HO2 HX2 HY2 ⊢
  clear hw2 z1 z2 h17 f17 HC1 HO1 HM1 HM2
  refine (again_syn B _ w2 HC2.out hp hi).mono ?_
  rintro e w3 ⟨R, x0, x1, x2, x3, x5, x6, x7, x8, rfl, hR, hsg, c3, o3⟩
  have HC3 := hide c3
  have HO3 := hide (HO2.out.trans o3)
  have HX3 := hide (o3.cell HX2.out hn1B)
  have HY3 := hide (o3.cell HY2.out hn2B)
  have HS3 := hide hsg
  have HR3 := hide (show w.heap.size ≤ R from Nat.le_trans HO2.out.size hR)
  have hRB : R ≠ B := by have := HLB.out; have := HR3.out; omega
  have HRB := hide hRB
  clear c3 o3 hsg hR hRB HC2 HO2 HX2 HY2
  go_wp2_with fail
  refine leaves_cons (f := 30) (args := #[.pointer (some ⟨w.heap.size, 0, none⟩), .pointer (some ⟨w.heap.size + 1, 0, none⟩)]) (by simp) (by simp [go_sem]) ?_
  refine (tickset_any B w.heap.size (w.heap.size + 1) _ now (t + 1) (by simp) (by omega) h0 h1 .returning _ HC3.out (cell_at HX3.out 0 rfl) (cell_at HY3.out 0 rfl) hn1B hn2B).mono ?_
  rintro e u' w4 ⟨rfl, rfl, c4, o4⟩
  exact ⟨_, results_tmp rfl _ _ _, R, x0, x1, x2, x3, x5, x6, x7, x8, rfl, HR3.out, o4.cell HS3.out HRB.out, c4, HO3.out.trans o4⟩
set_option maxHeartbeats 2000000 in
theorem tick_last (B : Nat) (c : Cn) (now : Int) (ht : c.tries = 5) (h0 : 0 ≤ now) (w : World) (hc : CnAt w B c) (hp : c.ph = 0) (hi : c.ib = .slice none 0 0) (hon : c.on = true) (hat : c.at_ ≤ now) :
    Calls Try.prog 14 #[.pointer (some ⟨B, 0, none⟩), .int .u64 now] w (TellTo B { c with tries := 6, ph := 4 } 20 w) := by
  obtain ⟨wq, hqq, hbel, hn1, hn2⟩ := two_new w (.pointer (some ⟨B, 0, none⟩)) (.int .u64 now) 26 31
  have hcq := hc.below hbel (Nat.le_refl _)
  have HV := hide (fun (V : World) (h : V.cell? ⟨B, 2, none⟩ = some (.int .i64 c.ph)) => show Calls Try.prog 27 #[.pointer (some ⟨B, 0, none⟩)] V fun e w' => e = .returned (.bool false) ∧ w' = V by rw [show false = (c.ph == 3 || c.ph == 4) by simp [hp]]; exact over_any B c.ph V h)
  have HD := hide (fun (V : World) (h : CnAt V B c) => show Calls Try.prog 28 #[.pointer (some ⟨B, 15, none⟩), .int .u64 now] V fun e w' => e = .returned (.bool true) ∧ w' = V by rw [show true = (c.on && decide (c.at_ ≤ now)) by simp [hon, hat]]; exact due_any B c now V h)
  have h2 := hcq.all.2.2.1
  have h17 := hcq.at 17 (v := .int .i64 5) (by rw [← ht]; rfl)
  have HQ := hide hqq
  have HC := hide hcq
  have HO := hide (OnlyB.of (B := B) hbel)
  have HLB := hide hc.lt
  have z1 := cell_at hn1 0 rfl
  have z2 := cell_at hn2 0 rfl
  have HN1 := hide hn1
  have HN2 := hide hn2
  have HI := hide hi
  have HT := hide ht
  clear hqq hbel hcq hc hn1 hn2 hon hat hp hi
  go_enter_defers Try.func14, Try.ntmps14
  go_upto_region 1 with (fail)
  rw [HQ.out]
  clear HQ
  go_quiet (first | (go_at_call 27; exact Calls.quiet_of_same (HV.out _ h2)) | (go_at_call 28; exact Calls.quiet_of_same (HD.out _ HC.out)))
  have hd := bdrewN (Below.refl wq.heap.size wq) nq
  obtain ⟨w1, hw1⟩ : ∃ V, wq.drewN nq = V := ⟨_, rfl⟩
  rw [hw1] at hd ⊢
  have HC1 := hide (HC.out.below hd (Nat.le_refl _))
  have HO1 := hide (HO.out.trans (OnlyB.of hd))
  have HM1 := hide (below_block hd HN1.out (Nat.le_refl _))
  clear hw1 hd z1 z2 h17 h2 HC HO HN1 HN2 HV HD
  have z1 := cell_at HM1.out 0 rfl
  have h17 := HC1.out.at 17 (v := .int .i64 5) (by rw [← HT.out]; rfl)
  have f17 := HC1.out.free 17
  have f2 := HC1.out.free 2
  have h2 := HC1.out.all.2.2.1
  clear ht
  go_upto_region 6 with (fail)
  have HC2 := hide (show CnAt ((w1.setCell ⟨B, 17, none⟩ (.int .i64 6)).setCell ⟨B, 2, none⟩ (.int .i64 4)) B { c with tries := 6, ph := 4 } from heap_set (w := w1.setCell ⟨B, 17, none⟩ (.int .i64 6)) (heap_set HC1.out 17 _ rfl) 2 _ rfl)
  have HO2 := hide ((HO1.out.setCell 17 (.int .i64 6)).setCell 2 (.int .i64 4))
  have hn1B : w.heap.size ≠ B := by have := HLB.out; omega
  have HX2 := hide ((heap_setCell_other (w1.setCell ⟨B, 17, none⟩ (.int .i64 6)) ⟨B, 2, none⟩ _ (.int .i64 4) hn1B).trans ((heap_setCell_other w1 ⟨B, 17, none⟩ _ (.int .i64 6) hn1B).trans HM1.out))
  obtain ⟨w2, hw2⟩ : ∃ V, (w1.setCell ⟨B, 17, none⟩ (.int .i64 6)).setCell ⟨B, 2, none⟩ (.int .i64 4) = V := ⟨_, rfl⟩
  rw [hw2] at HC2 HO2 HX2 ⊢
  clear hw2 z1 h17 f17 f2 h2 HC1 HO1 HM1
  have z1 := cell_at HX2.out 0 rfl
  have h5 := HC2.out.all.2.2.2.2.2.1
  have hlX : w.heap.size < w2.heap.size := lt_of_block HX2.out
  have hlB : B < w2.heap.size := HC2.out.lt
  dsimp only at h5
  have HSg := hide (segment_any B { c with tries := 6, ph := 4 } c.nxt 20 none 0 0 HI.out (by omega) none [] 0 0 rfl (by omega) w2.drew (row_nil _ _ _) HC2.out)
  go_region_held3 (fun w' => w'.cell? ⟨w.heap.size, 0, none⟩ = some (.pointer (some ⟨B, 0, none⟩)) ∧ w'.cell? ⟨B, 5, none⟩ = some (.int .u64 c.nxt)) (go_keep) (first
    | (go_at_call 29; (with_reducible refine HSg.out.mono ?_); rintro e w3 ⟨a', cap', rfl, o, b⟩; have j0 : w3.cell? ⟨w.heap.size, 0, none⟩ = some (.pointer (some ⟨B, 0, none⟩)) := ((bcells b).1 _ 0 hlX).trans z1; have j1 : w3.cell? ⟨B, 5, none⟩ = some (.int .u64 c.nxt) := ((bcells b).1 B 5 hlB).trans h5; unfold sgv)
    | fail)
  have hb2 : Below w2.heap.size w2 w3 := (Below.refl w2.heap.size w2).drew.trans b
  have HB3 := hide hb2
  have HC3 := hide (HC2.out.below hb2 (Nat.le_refl _))
  have HO3 := hide (HO2.out.trans (OnlyB.of hb2))
  clear o b hb2 j0 j1 z1 h5
  go_wp2_with fail
  exact ⟨_, results_tmp rfl _ _ _, w3.heap.size, _, _, _, _, _, _, _, _, rfl, HO3.out.size, heap_alloc_new _ _, HC3.out.below ((Below.refl _ _).alloc (Nat.le_refl _) _) (Nat.le_refl _), HO3.out.alloc _⟩
end Go.Proofs.Ythkadjjkoomcgaa
