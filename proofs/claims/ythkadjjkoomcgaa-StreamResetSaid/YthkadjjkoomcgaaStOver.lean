/- What a connection that is over does: nothing. -/
import Derived.Test.YthkadjjkoomcgaaStTake
namespace Go.Proofs.Ythkadjjkoomcgaa
open Go.RowKit
set_option linter.unusedVariables false
set_option linter.unusedSimpArgs false
set_option maxRecDepth 100000
theorem two_new (w : World) (x y : Value) (s t : TypeId) : ∃ V, (w.alloc (.cells #[x] s)).alloc (.cells #[y] t) = V ∧ Below w.heap.size w V ∧ V.heap[w.heap.size]? = some (.cells #[x] s (0, 0)) ∧ V.heap[w.heap.size + 1]? = some (.cells #[y] t (0, 0)) :=
  ⟨_, rfl, ((Below.refl _ _).alloc (Nat.le_refl _) _).alloc (by simp) _, below_block ((Below.refl _ _).alloc (Nat.le_refl _) _) (heap_alloc_new w _) (Nat.le_refl _), by
    have := heap_alloc_new (w.alloc (.cells #[x] s)) (.cells #[y] t)
    simpa using this⟩
set_option maxHeartbeats 1000000 in
theorem tick_over (B : Nat) (c : Cn) (now : Int) (w : World) (hc : CnAt w B c) (ho : c.ph = 3 ∨ c.ph = 4) :
    Calls Try.prog 14 #[.pointer (some ⟨B, 0, none⟩), .int .u64 now] w (TakeTo B c w) := by
  obtain ⟨wq, hqq, hbel, hn1, hn2⟩ := two_new w (.pointer (some ⟨B, 0, none⟩)) (.int .u64 now) 26 31
  have hcq := hc.below hbel (Nat.le_refl _)
  have hov := fun (V : World) (h : V.cell? ⟨B, 2, none⟩ = some (.int .i64 c.ph)) => over_any B c.ph V h
  rw [show (c.ph == 3 || c.ph == 4) = true by rcases ho with h | h <;> simp [h]] at hov
  have h2 := hcq.all.2.2.1
  have HV := hide hov
  have HQ := hide hqq
  have HC := hide hcq
  have HO := hide (OnlyB.of (B := B) hbel)
  have z1 := cell_at hn1 0 rfl
  have z2 := cell_at hn2 0 rfl
  clear hqq hbel hcq hov hc ho hn1 hn2
  go_enter_defers Try.func14, Try.ntmps14
  go_upto_region 1 with (fail)
  rw [HQ.out]
  clear HQ
  go_quiet ((go_at_call 27; exact Calls.quiet_of_same (HV.out _ h2)))
  go_wp2_with fail
  have hd := bdrewN (Below.refl wq.heap.size wq) nq
  exact ⟨_, results_tmp rfl _ _ _, rfl, HC.out.below hd (Nat.le_refl _), HO.out.drewN _⟩
set_option maxHeartbeats 1000000 in
theorem flush_over (B : Nat) (c : Cn) (now : Int) (w : World) (hc : CnAt w B c) (ho : c.ph ≠ 2) :
    Calls Try.prog 13 #[.pointer (some ⟨B, 0, none⟩), .int .u64 now] w (TakeTo B c w) := by
  obtain ⟨wq, hqq, hbel, hn1, hn2⟩ := two_new w (.pointer (some ⟨B, 0, none⟩)) (.int .u64 now) 26 31
  obtain ⟨wr, hrr, hber, hnr⟩ : ∃ V, wq.alloc (.cells #[.slice none 0 0] 28) = V ∧ Below wq.heap.size wq V ∧ V.heap[wq.heap.size]? = some (.cells #[.slice none 0 0] 28 (0, 0)) := ⟨_, rfl, (Below.refl _ _).alloc (Nat.le_refl _) _, heap_alloc_new _ _⟩
  have hcq := (hc.below hbel (Nat.le_refl _)).below hber (Nat.le_refl _)
  have h2 := hcq.all.2.2.1
  have d0 : (c.ph != 2) = true := by simp [ho]
  have HQ := hide hqq
  have HR := hide hrr
  have HC := hide hcq
  have HO := hide ((OnlyB.of (B := B) hbel).trans (OnlyB.of hber))
  have z1 := cell_at (below_block hber hn1 (Nat.le_refl _)) 0 rfl
  have z3 := cell_at hnr 0 rfl
  have f3 := free_at hnr 0
  have HNR := hide hnr
  obtain ⟨R, hR⟩ : ∃ R, wq.heap.size = R := ⟨_, rfl⟩
  have hlb := hbel.size
  have hRs : wq.heap.size = w.heap.size + 2 := by rw [← hqq]; simp
  have HRR := hide (show w.heap.size + 2 = R by omega)
  have HSz := hide (show w.heap.size ≤ R by omega)
  have HLB := hide hc.lt
  rw [hR] at z3 f3 HNR
  clear hqq hbel hcq hc ho hn1 hn2 hrr hber hnr hR hRs hlb
  go_enter_defers Try.func13, Try.ntmps13
  go_upto_region 1 with (fail)
  try rw [HQ.out]
  try rw [HR.out]
  try rw [HRR.out]
  clear HQ HR
  go_wp2_with fail
  have hz : (wr.setCell ⟨R, 0, none⟩ (.slice none 0 0)).cell? ⟨R, 0, none⟩ = some (.slice none 0 0) := cell_at (heap_set HNR.out 0 (.slice none 0 0) (by rfl)) 0 rfl
  have hBR : B ≠ R := by have := HSz.out; have := HLB.out; omega
  exact ⟨.slice none 0 0, by simp [results, Try.results13, go_sem, hz], rfl, (Below.heap_setCell _ _ _ _ hBR).trans HC.out, HO.out.setNew HSz.out _⟩
theorem send_over (B : Nat) (c : Cn) (x : Value) (w : World) (hc : CnAt w B c) (ho : c.ph = 3 ∨ c.ph = 4) :
    Calls Try.prog 18 #[.pointer (some ⟨B, 0, none⟩), x] w fun e w' => e = .returned (.int .i64 0) ∧ w' = w := by
  have hov := over_any B c.ph w hc.all.2.2.1
  rw [show (c.ph == 3 || c.ph == 4) = true by rcases ho with h | h <;> simp [h]] at hov
  have HV := hide hov
  clear hc ho hov
  go_enter Try.func18, Try.ntmps18
  go_wp2_with fail
  refine HV.out.mono ?_
  rintro e w1 ⟨rfl, rfl⟩
  go_wp2_with fail
  go_ret
  exact ⟨rfl, rfl⟩
theorem inread_nil (B : Nat) (c : Cn) (w : World) (hc : CnAt w B c) (hi : c.ib = .slice none 0 0) :
    Calls Try.prog 24 #[.pointer (some ⟨B, 11, none⟩)] w (TakeTo B c w) := by
  have h13 := hc.at 13 (v := .slice none 0 0) (by rw [← hi]; rfl)
  have f13 := hc.free 13
  have HC := hide hc
  have HI := hide hi
  clear hc hi
  go_enter Try.func24, Try.ntmps24
  go_wp2_with fail
  go_ret
  exact ⟨rfl, heap_set HC.out 13 (.slice none 0 0) (by unfold Cn.cs; rw [HI.out]; rfl), (OnlyB.refl B w).setCell 13 _⟩
theorem read_nil (B : Nat) (c : Cn) (w : World) (hc : CnAt w B c) (hi : c.ib = .slice none 0 0) :
    Calls Try.prog 12 #[.pointer (some ⟨B, 0, none⟩)] w (TakeTo B c w) := by
  have HC := hide (inread_nil B c w hc hi)
  clear hc hi
  go_enter Try.func12, Try.ntmps12
  go_wp2_with fail
  refine HC.out.mono ?_
  rintro e w1 ⟨rfl, c1, o1⟩
  have H1 := hide c1
  have H2 := hide o1
  clear c1 o1
  go_wp2_with fail
  go_ret
  exact ⟨rfl, H1.out, H2.out⟩
end Go.Proofs.Ythkadjjkoomcgaa
