/- A configuration of its own memory: the program's Copy. -/
import Derived.Test.YtinmlndimgengaaGreatDoorCPlainC
import Derived.Lib.AppendZeros
import Derived.Deep.Cut
import Derived.WalkSpells
import Derived.Lib.SliceRun
import Derived.Maps.AppendAt
namespace Go.Proofs.YtinmlndimgengaaGreatDoor
open Go.RowKit
set_option linter.unusedVariables false
set_option linter.unusedSimpArgs false
set_option maxRecDepth 100000
def fwV (f : Fwd) : List Value := [.int .u8 (f.1 : Int), .int .u16 (f.2.1 : Int), .int .u16 (f.2.2.1 : Int), .int .u32 (f.2.2.2 : Int)]
def flat (fs : List Fwd) : List Value := fs.flatMap fwV
theorem flat_len (fs : List Fwd) : (flat fs).length = fs.length * 4 := by
  induction fs with
  | nil => rfl
  | cons f fs ih => simp only [flat, List.flatMap_cons, List.length_append] at ih ⊢; rw [ih]; simp [fwV]; omega
theorem flat_at (fs : List Fwd) : ∀ (i j : Nat), j < 4 → (flat fs)[i * 4 + j]? = (fs[i]?).bind fun f => (fwV f)[j]? := by
  induction fs with
  | nil => intro i j hj; simp [flat]
  | cons f fs ih =>
    intro i j hj
    have hf : (fwV f).length = 4 := rfl
    show (fwV f ++ flat fs)[i * 4 + j]? = _
    cases i with
    | zero => rw [List.getElem?_append_left (by omega)]; simp
    | succ i =>
      rw [List.getElem?_append_right (by omega), show (i + 1) * 4 + j - (fwV f).length = i * 4 + j by omega, ih i j hj]
      simp
theorem flat_one (fs : List Fwd) : ∀ u ∈ flat fs, u.oneCell' = true := by
  intro u hu
  obtain ⟨f, _, hf⟩ := List.mem_flatMap.1 hu
  simp [fwV] at hf
  rcases hf with rfl | rfl | rfl | rfl <;> rfl
theorem FwAt.flat {w : World} {b off : Nat} {fs : List Fwd} (h : FwAt w (some ⟨b, off, none⟩) fs) : ∀ j u, (flat fs)[j]? = some u → w.cell? ((⟨b, off, none⟩ : Addr).add j) = some u := by
  intro j u hj
  have hlt : j < fs.length * 4 := by rw [← flat_len]; exact (List.getElem?_eq_some_iff.1 hj).1
  have hi : j / 4 < fs.length := by omega
  obtain ⟨b', off', he, _, c0, c1, c2, c3⟩ := h.cells hi
  obtain ⟨rfl, rfl⟩ : b = b' ∧ off = off' := by simpa using he
  rw [show j = j / 4 * 4 + j % 4 by omega, flat_at fs _ _ (Nat.mod_lt _ (by omega)), List.getElem?_eq_getElem hi] at hj
  rw [Addr.add_lit]
  have h4 : j % 4 = 0 ∨ j % 4 = 1 ∨ j % 4 = 2 ∨ j % 4 = 3 := by omega
  rcases h4 with e | e | e | e <;> rw [e] at hj <;> simp [fwV] at hj <;> subst hj
  · rw [show off + j = off + j / 4 * 4 by omega]; exact c0
  · rw [show off + j = off + j / 4 * 4 + 1 by omega]; exact c1
  · rw [show off + j = off + j / 4 * 4 + 2 by omega]; exact c2
  · rw [show off + j = off + j / 4 * 4 + 3 by omega]; exact c3
theorem info_fwd2 : (Tryz.prog.info? 89).map (fun i => (i.zero, i.size, i.bytes)) = some (some (.agg #[.int .u8 0, .int .u16 0, .int .u16 0, .int .u32 0]), 4, 12) := by kernel_rfl
set_option maxHeartbeats 1000000 in
theorem clone_any (w : World) (a : Option Addr) (fs : List Fwd) (n cap : Nat) (h : FwAt w a fs) (hl : fs.length = n) (hn : n ≤ 1000000) :
    Calls Tryz.prog 63 #[.slice a n cap] w fun e w' => ∃ a' c', e = .returned (.slice a' n c') ∧ w'.ownsRow w.heap.size 89 4 (.slice a' n c') n (flat fs) ∧ Below w.heap.size w w' := by
  obtain ⟨i0, hi, hz0, hz1, hz2⟩ := info_parts info_fwd2
  cases a with
  | none =>
    have hf : fs = [] := by
      cases fs with
      | nil => rfl
      | cons f r => obtain ⟨b, off, he, _⟩ := h (by simp); cases he
    subst hf
    obtain rfl : n = 0 := hl.symm
    have qT : ∀ (V : World) (n c : Nat), (binOp .eql 26 (.slice none n c) (.slice none 0 0)).run Tryz.prog V = .ok (.bool true) V := fun V n c => Lib.run_eql_slice_nil V 26 _ none n c 0 0 Tryz.underlying26
    clear hi hz0 hz1 hz2
    go_enter Tryz.func63, Tryz.ntmps63
    go_wp2_with fail
    go_ret
    exact ⟨none, 0, rfl, World.ownsRow_nil _ _ _ _, Below.refl _ _⟩
  | some ad =>
    obtain ⟨b, off, sp⟩ := ad
    have hown : (w.alloc (.cells #[] 89)).ownsRow w.heap.size 89 4 (.slice (some ⟨w.heap.size, 0, none⟩) 0 0) 0 [] :=
      ⟨rfl, .inr ⟨w.heap.size, 0, #[], rfl, Nat.le_refl _, heap_alloc_new _ _, Nat.le_refl _, by unfold maxLen; omega, rfl, rfl⟩⟩
    have hal : Below w.heap.size w (w.alloc (.cells #[] 89)) := (Below.refl _ _).alloc (Nat.le_refl _) _
    have hcells : ∀ j u, (flat fs)[j]? = some u → (w.alloc (.cells #[] 89)).cell? ((⟨b, off, sp⟩ : Addr).add j) = some u := by
      by_cases hne : fs = []
      · subst hne; intro j u hj; simp [flat] at hj
      · obtain ⟨b', off', he, _⟩ := h hne
        obtain ⟨rfl, rfl, rfl⟩ : b = b' ∧ off = off' ∧ sp = none := by simpa using he
        exact (h.below hal (Nat.le_refl _)).flat
    obtain ⟨v', w', hrun, ho, hg, _⟩ := run_append_own (P := Tryz.prog) (w := w.alloc (.cells #[] 89)) w.heap.size 26 26 89 i0 (.agg #[.int .u8 0, .int .u16 0, .int .u16 0, .int .u32 0]) 4 12 Tryz.underlying26 hi hz0 hz1 hz2 rfl (by decide) (.slice (some ⟨w.heap.size, 0, none⟩) 0 0) 0 [] hown ⟨b, off, sp⟩ n cap (flat fs) (by rw [flat_len, hl]) hcells (flat_one fs) (by unfold maxLen; omega) (by omega) (by simp)
    rw [Nat.zero_add, List.nil_append] at ho
    have HO := hide ho
    have HB := hide (hal.grown hg hal.size (fun k e => by simp [Value.ownBlock] at e; omega))
    have HRUN := hide hrun
    have qT : ∀ (V : World) (n c : Nat), (binOp .eql 26 (.slice (some ⟨b, off, sp⟩) n c) (.slice none 0 0)).run Tryz.prog V = .ok (.bool false) V := fun V n c => Lib.run_eql_slice_nil V 26 _ (some ⟨b, off, sp⟩) n c 0 0 Tryz.underlying26
    clear hrun ho hg hown hal hcells h hi hz0 hz1 hz2
    go_enter Tryz.func63, Tryz.ntmps63
    go_wp2_with (at_builtin; refine Lib.wpList_append_run (o := ⟨some 7, _, _, _, _, _⟩) _ rfl _ _ _ _ rfl _ _ rfl rfl _ _ HRUN.out ?_)
    obtain ⟨a', c', rfl⟩ := slice_form HO.out
    go_ret
    exact ⟨a', c', rfl, HO.out, HB.out⟩
theorem owns_other {w w' : World} {base : Nat} {e : TypeId} {size : Nat} {v : Value} {n : Nat} {xs : List Value} (h : w.ownsRow base e size v n xs) (he : ∀ k, base ≤ k → w'.heap[k]? = w.heap[k]?) : w'.ownsRow base e size v n xs := by
  refine ⟨h.1, ?_⟩
  rcases h.2 with h | ⟨g, cap, cur, hv, hg, hh, r⟩
  · exact .inl h
  · exact .inr ⟨g, cap, cur, hv, hg, (he g hg).trans hh, r⟩
theorem cells_one (c : Cfg) (a : Option Addr) (n cap : Nat) : (c.cells a n cap).all (·.oneCell') = true := by
  unfold Cfg.cells; simp [Value.oneCell']
set_option maxHeartbeats 2000000 in
theorem copy_any (c : Cfg) (w : World) (a : Option Addr) (fs : List Fwd) (n cap : Nat) (h : FwAt w a fs) (hl : fs.length = n) (hn : n ≤ 1000000) :
    Calls Tryz.prog 37 #[.agg (c.cells a n cap)] w fun e w' => ∃ a' c', e = .returned (.agg (c.cells a' n c')) ∧ w'.ownsRow w.heap.size 89 4 (.slice a' n c') n (flat fs) ∧ Below w.heap.size w w' := by
  have hb1 := (Below.refl w.heap.size w).alloc (Nat.le_refl _) (.cells (c.cells a n cap) 28)
  have hb2 := hb1.alloc hb1.size (.cells zeroCfg 28)
  have hr := heap_alloc_new (w.alloc (.cells (c.cells a n cap) 28)) (.cells zeroCfg 28)
  have hsz : (w.alloc (.cells (c.cells a n cap) 28)).heap.size = w.heap.size + 1 := by simp
  rw [hsz] at hr
  have hcc := below_blk ((Below.refl (w.alloc (.cells (c.cells a n cap) 28)).heap.size _).alloc (Nat.le_refl _) (.cells zeroCfg 28)) (heap_alloc_new w (.cells (c.cells a n cap) 28)) (Nat.le_refl _)
  obtain ⟨B, R, wq, hB, hR, hwq, HB, HR, HBel, HW⟩ : ∃ B R wt, w.heap.size = B ∧ w.heap.size + 1 = R ∧ (w.alloc (.cells (c.cells a n cap) 28)).alloc (.cells zeroCfg 28) = wt ∧ Hid (wt.heap[B]? = some (.cells (c.cells a n cap) 28 (0, 0))) ∧ Hid (wt.heap[R]? = some (.cells zeroCfg 28 (0, 0))) ∧ Hid (Below w.heap.size w wt) ∧ Hid (FwAt wt a fs) := ⟨_, _, _, rfl, rfl, rfl, hide hcc, hide hr, hide hb2, hide (h.below hb2 (Nat.le_refl _))⟩
  have HEQ := hide (And.intro hB (And.intro hR hwq))
  have hBR : B < R := by omega
  have HWB := hide (show w.heap.size ≤ B by omega)
  have hRq := lt_of_block HR.out
  have HCL := hide (clone_any wq a fs n cap HW.out hl hn)
  have c25 : wq.cell? ⟨B, 25, none⟩ = some (.slice a n cap) := (cell_of_row wq B 25 _ _ _ HB.out).trans rfl
  clear hb1 hb2 hr hsz hcc h hl hB hR hwq
  go_enter Tryz.func37, Tryz.ntmps37
  go_upto_region 1 with (fail)
  rw [HEQ.out.2.2, HEQ.out.2.1, HEQ.out.1]
  clear HEQ
  go_wp2_with fail
  refine HCL.out.mono ?_
  rintro e w1 ⟨a', c', rfl, ho, b1⟩
  have hB1 := below_blk b1 HB.out (Nat.le_refl _)
  have hR1 := below_blk b1 HR.out (Nat.le_refl _)
  have d25 : w1.cell? ⟨B, 25, none⟩ = some (.slice a n cap) := (cell_of_row w1 B 25 _ _ _ hB1).trans rfl
  have f25 := frozen_of_row w1 B 25 _ _ hB1
  have hB2 : (w1.setCell ⟨B, 25, none⟩ (.slice a' n c')).heap[B]? = some (.cells (c.cells a' n c') 28 (0, 0)) := (heap_setCell_same _ _ 25 _ _ _ hB1).trans rfl
  have hR2 : (w1.setCell ⟨B, 25, none⟩ (.slice a' n c')).heap[R]? = some (.cells zeroCfg 28 (0, 0)) := (heap_setCell_other _ _ _ _ (show R ≠ B by omega)).trans hR1
  have ho2 : (w1.setCell ⟨B, 25, none⟩ (.slice a' n c')).ownsRow wq.heap.size 89 4 (.slice a' n c') n (flat fs) := ownsRow_setCell_below ho (show B < wq.heap.size by omega) _
  have hb2 : Below w.heap.size w (w1.setCell ⟨B, 25, none⟩ (.slice a' n c')) := (HBel.out.trans (b1.mono HBel.out.size)).setCell HWB.out _
  obtain ⟨w2, hw2, HB2, HR2, HO2, HBe2⟩ : ∃ wt, w1.setCell ⟨B, 25, none⟩ (.slice a' n c') = wt ∧ Hid (wt.heap[B]? = some (.cells (c.cells a' n c') 28 (0, 0))) ∧ Hid (wt.heap[R]? = some (.cells zeroCfg 28 (0, 0))) ∧ Hid (wt.ownsRow wq.heap.size 89 4 (.slice a' n c') n (flat fs)) ∧ Hid (Below w.heap.size w wt) := ⟨_, rfl, hide hB2, hide hR2, hide ho2, hide hb2⟩
  have HW2 := hide hw2
  have HWR := hide (show w.heap.size ≤ R ∧ R < wq.heap.size ∧ w.heap.size ≤ wq.heap.size from ⟨by have := HWB.out; omega, hRq, HBel.out.size⟩)
  clear hB1 hR1 hB2 hR2 ho2 hb2 hw2 ho b1 HCL HB HR HBel HW c25
  go_upto_region 2 with (fail)
  rw [HW2.out]
  clear d25 f25
  go_wp2_with (first | (refine ld_cfg (o := ⟨some 7, _, _, _, _, _⟩) (.tmp 1) rfl (by rfl) B rfl (c.cells a' n c') HB2.out rfl ?_; try simp only [Act.put, List.setIfInBounds_toArray, List.set_cons_zero, List.set_cons_succ]) | (refine st_cfg (o := ⟨none, _, _, _, _, _⟩) (.tmp 2) (.tmp 7) rfl (by rfl) R rfl zeroCfg (c.cells a' n c') rfl HR2.out rfl rfl (cells_one _ _ _ _) HBe2.out HWR.out.1 ?_; rintro w3 hr3 hb3 ho3 hs3; have HR3 := hide hr3; have HB3 := hide hb3; have HO3 := hide (owns_other HO2.out (fun k hk => ho3 k (by have := HWR.out.2.1; omega))); clear hr3 hb3 ho3 hs3; try simp only [Act.put, List.setIfInBounds_toArray, List.set_cons_zero, List.set_cons_succ]))
  exact bodyPost_ret (v := .agg (c.cells a' n c')) (results_cell_row Tryz.results37 _ w3 R _ _ _ _ rfl HR3.out Tryz.underlying28 rfl info_cfg) rfl ⟨a', c', rfl, owns_mono HO3.out HWR.out.2.2, HB3.out⟩
end Go.Proofs.YtinmlndimgengaaGreatDoor
