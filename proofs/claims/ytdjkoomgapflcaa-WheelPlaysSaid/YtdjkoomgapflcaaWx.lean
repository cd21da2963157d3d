/- Both wheels, and a call of the script. -/
import Derived.Test.YtdjkoomgapflcaaRWl
namespace Go.Proofs.Ytdjkoomgapflcaa
open Go.RowKit Go.Deep
set_option linter.unusedVariables false
set_option linter.unusedSimpArgs false
set_option maxRecDepth 100000
theorem rw_new (V : World) (base : Nat) : RW (V.alloc (.cells #[.slice none 0 0, .slice none 0 0] 30)) base V.heap.size [] none 0 none 0 :=
  ⟨heap_alloc_new _ _, ⟨rfl, .inl ⟨rfl, rfl⟩⟩, ⟨rfl, .inl ⟨rfl, rfl⟩⟩⟩
theorem WAt.tabs {w : World} {p ta tb : Nat} {E : EL} (h : WAt w p ta tb E) : (∃ cs, w.heap[p]? = some (.cells cs 56 (0, 0))) ∧ (∃ cs, w.heap[ta]? = some (.cells cs 67 (0, 0))) ∧ ∃ cs, w.heap[tb]? = some (.cells cs 70 (0, 0)) := by
  obtain ⟨L, h, _⟩ := h
  exact ⟨⟨_, h.blk⟩, h.tabs.hd, h.ends.hd⟩
/-- Both wheels. -/
structure WW (base : Nat) (w : World) (p ta tb rp : Nat) (E : EL) (R : RL) (z : World) : Prop where
  wat : WAt z p ta tb E
  rw : ∃ ka kc va vc, RW z base rp R ka kc va vc
  below : Below w.heap.size w z
  zb : base = w.heap.size
  l1 : base ≤ ta
  l2 : base ≤ tb
  l3 : base ≤ rp
/-- A call of the script in a box. -/
def BX (X : Nat) (o : Op4) (z : World) : Prop := z.heap[X]? = some (.cells #[.int .i64 o.kd, .int .i64 o.e.k, .int .i64 o.n, .int .u64 o.e.s] 33 (0, 0))
structure WX (base : Nat) (w : World) (p ta tb rp : Nat) (E : EL) (R : RL) (X : Nat) (o : Op4) (z : World) : Prop where
  ww : WW base w p ta tb rp E R z
  bx : BX X o z
theorem WW.q {base : Nat} {w : World} {p ta tb rp : Nat} {E : EL} {R : RL} {z z' : World} (h : WW base w p ta tb rp E R z) (hb : Below z.heap.size z z') : WW base w p ta tb rp E R z' := by
  obtain ⟨ka, kc, va, vc, hr⟩ := h.rw
  exact ⟨h.wat.below hb, ⟨ka, kc, va, vc, hr.below hb⟩, h.below.trans (hb.mono h.below.size), h.zb, h.l1, h.l2, h.l3⟩
theorem WX.q {base : Nat} {w : World} {p ta tb rp : Nat} {E : EL} {R : RL} {X : Nat} {o : Op4} {z z' : World} (h : WX base w p ta tb rp E R X o z) (hb : Below z.heap.size z z') : WX base w p ta tb rp E R X o z' :=
  ⟨h.ww.q hb, (hb.block X (lt_of_block h.bx)).trans h.bx⟩
theorem tb_no {z : World} {p ta tb : Nat} {E : EL} (h : WAt z p ta tb E) {k : Nat} {cs : Array Value} {T : TypeId} {f : Nat × Nat} (hk : z.heap[k]? = some (.cells cs T f)) (n1 : T ≠ 67) (n2 : T ≠ 70) : ¬ TB ta tb k := by
  obtain ⟨_, ⟨c1, h1⟩, ⟨c2, h2⟩⟩ := h.tabs
  intro hx
  rcases hx with e | e
  · subst e; rw [h1] at hk; cases hk; exact n1 rfl
  · subst e; rw [h2] at hk; cases hk; exact n2 rfl
theorem WX.w {base : Nat} {w : World} {p ta tb rp : Nat} {E E' : EL} {R : RL} {X : Nat} {o : Op4} {z z' : World} (h : WX base w p ta tb rp E R X o z) (hW : WAt z' p ta tb E') (ho : OnlyS (TB ta tb) z z') : WX base w p ta tb rp E' R X o z' := by
  obtain ⟨ka, kc, va, vc, hr⟩ := h.ww.rw
  refine ⟨⟨hW, ⟨ka, kc, va, vc, hr.only ho (fun k cs T f hk hT => ?_)⟩, h.ww.below.trans (only_below ho (h.ww.zb ▸ h.ww.l1) (h.ww.zb ▸ h.ww.l2) h.ww.below.size), h.ww.zb, h.ww.l1, h.ww.l2, h.ww.l3⟩, ho.heap h.bx (tb_no h.ww.wat h.bx (by decide) (by decide))⟩
  rcases hT with hT | ⟨_, hT | hT⟩ <;> subst hT <;> exact tb_no h.ww.wat hk (by decide) (by decide)
theorem xr_no {z : World} {base rp : Nat} (hr : ∃ cs f, z.heap[rp]? = some (.cells cs 30 f)) {k : Nat} {cs : Array Value} {T : TypeId} {f : Nat × Nat} (hk : z.heap[k]? = some (.cells cs T f)) (n1 : T ≠ 30) (n2 : T ≠ 3) (n3 : T ≠ 31) : ¬ XR base rp z k := by
  obtain ⟨cr, fr, hr⟩ := hr
  intro hx
  rcases hx with e | ⟨_, ds, U, g, hU, hT⟩
  · rw [e, hr] at hk; cases hk; exact n1 rfl
  · rw [hU] at hk; cases hk
    rcases hT with hT | hT
    · exact n2 hT
    · exact n3 hT
theorem WX.r {base : Nat} {w : World} {p ta tb rp : Nat} {E : EL} {R R' : RL} {X : Nat} {o : Op4} {z z' : World} (h : WX base w p ta tb rp E R X o z) (hR : ∃ ka kc va vc, RW z' base rp R' ka kc va vc) (ho : OnlyS (XR base rp z) z z') : WX base w p ta tb rp E R' X o z' := by
  obtain ⟨ka, kc, va, vc, hr⟩ := h.ww.rw
  have hr : ∃ cs f, z.heap[rp]? = some (.cells cs 30 f) := ⟨_, _, hr.tab⟩
  obtain ⟨⟨c0, h0⟩, ⟨c1, h1⟩, ⟨c2, h2⟩⟩ := h.ww.wat.tabs
  refine ⟨⟨?_, hR, h.ww.below.trans (ho.below (fun k hx => ?_) h.ww.below.size), h.ww.zb, h.ww.l1, h.ww.l2, h.ww.l3⟩, ho.heap h.bx (xr_no hr h.bx (by decide) (by decide) (by decide))⟩
  · refine h.ww.wat.only ho (xr_no hr h0 (by decide) (by decide) (by decide)) (xr_no hr h1 (by decide) (by decide) (by decide)) (xr_no hr h2 (by decide) (by decide) (by decide)) (fun k hx hk => ?_)
    obtain ⟨cr, fr, hr⟩ := hr
    rcases hx with e | ⟨_, ds, U, g, hU, hT⟩
    · rw [e]; exact ⟨_, _, _, hr, by decide, by decide⟩
    · refine ⟨_, _, _, hU, ?_, ?_⟩ <;> rcases hT with hT | hT <;> rw [hT] <;> decide
  · have := h.ww.zb; have := h.ww.l3
    rcases hx with e | ⟨e, _⟩ <;> omega
section
variable {base : Nat} {w : World} {p ta tb rp : Nat} {E : EL} {R : RL} {X : Nat} {o : Op4} {z : World}
theorem WX.lb (h : WX base w p ta tb rp E R X o z) : base ≤ z.heap.size := h.ww.zb ▸ h.ww.below.size
theorem WX.cells (h : WX base w p ta tb rp E R X o z) : z.cell? ⟨X, 0, none⟩ = some (.int .i64 o.kd) ∧ z.cell? ⟨X, 1, none⟩ = some (.int .i64 o.e.k) ∧ z.cell? ⟨X, 2, none⟩ = some (.int .i64 o.n) ∧ z.cell? ⟨X, 3, none⟩ = some (.int .u64 o.e.s) := by
  obtain ⟨h0, h1, h2, h3, _⟩ := four_cells h.bx
  exact ⟨h0, h1, h2, h3⟩
theorem cancel_wx (h : WX base w p ta tb rp E R X o z) (hn : E.length ≤ 600000) (k : Int) :
    Calls Try.prog 9 #[.pointer (some ⟨p, 0, none⟩), .int .i64 k] z fun e z' => e = .returned (.bool (hK k E)) ∧ WX base w p ta tb rp (cK k E) R X o z' :=
  (cancel_any z p ta tb E k h.ww.wat hn).mono fun _ _ ⟨h1, h2, h3⟩ => ⟨h1, h.w h2 h3⟩
theorem set_wx (h : WX base w p ta tb rp E R X o z) (hn : E.length ≤ 500000) (x : EK) :
    Calls Try.prog 13 #[.pointer (some ⟨p, 0, none⟩), .int .i64 x.k, .int .u64 x.s] z fun e z' => (∃ v, e = .returned v) ∧ WX base w p ta tb rp (sK x E) R X o z' :=
  (set_any z p ta tb E x h.ww.wat hn).mono fun _ _ ⟨h1, h2, h3⟩ => ⟨h1, h.w h2 h3⟩
theorem at_wx (h : WX base w p ta tb rp E R X o z) (k : Int) :
    Calls Try.prog 15 #[.pointer (some ⟨p, 0, none⟩), .int .i64 k] z fun e z' => e = .returned (.tuple #[.int .u64 ((gK k E).getD 0), .bool (hK k E)]) ∧ WX base w p ta tb rp E R X o z' :=
  (at_any z p ta tb E k h.ww.wat).mono fun _ _ ⟨h1, h2, h3⟩ => ⟨h1, h.w h2 h3⟩
theorem next_wx (h : WX base w p ta tb rp E R X o z) (hn : E.length ≤ 600000) :
    Calls Try.prog 17 #[.pointer (some ⟨p, 0, none⟩)] z fun e z' => e = .returned (nextV E) ∧ WX base w p ta tb rp E R X o z' :=
  (next_any z p ta tb E h.ww.wat hn).mono fun _ _ ⟨h1, h2⟩ => ⟨h1, h.q h2⟩
theorem due_wx (h : WX base w p ta tb rp E R X o z) (hn : E.length ≤ 500000) (now most : Int) :
    Calls Try.prog 11 #[.pointer (some ⟨p, 0, none⟩), .int .u64 now, .int .i64 most] z fun e z' => ∃ v, e = .returned v ∧ IRow base z' v ((E.take (dueN E now most)).map (·.1.k)) ∧ WX base w p ta tb rp (E.drop (dueN E now most)) R X o z' :=
  (due_any p ta tb E now most z h.ww.wat hn).mono fun _ _ ⟨v, h1, _, h3, h4, h5⟩ => ⟨v, h1, owns_mono h3 h.lb, h.w h4 h5⟩
theorem cancelR_wx (h : WX base w p ta tb rp E R X o z) (hd : (R.map (·.1)).Nodup) (hn : R.length ≤ 1000000) (k : Int) :
    Calls Try.prog 10 #[.pointer (some ⟨rp, 0, none⟩), .int .i64 k] z fun e z' => e = .returned (.bool (decide (k ∈ R.map (·.1)))) ∧ WX base w p ta tb rp E (cR k R) X o z' ∧ ∀ v xs, IRow base z v xs → IRow base z' v xs := by
  obtain ⟨ka, kc, va, vc, hr⟩ := h.ww.rw
  refine (cancelR_any z base rp R ka kc va vc k hr hd hn h.lb).mono fun _ _ ⟨h1, h2, h3⟩ => ⟨h1, h.r h3 (h2.mono fun _ _ e => .inl e), fun v xs hv => hv.only h2 fun q hq e => ?_⟩
  obtain ⟨cs, f, h4⟩ := hv.ty hq
  rw [e, hr.tab] at h4; cases h4
theorem setR_wx (h : WX base w p ta tb rp E R X o z) (hd : (R.map (·.1)).Nodup) (hn : R.length ≤ 1000000) (k t : Int) :
    Calls Try.prog 14 #[.pointer (some ⟨rp, 0, none⟩), .int .i64 k, .int .u64 t] z fun e z' => (∃ v, e = .returned v) ∧ WX base w p ta tb rp E (cR k R ++ [(k, t)]) X o z' := by
  obtain ⟨ka, kc, va, vc, hr⟩ := h.ww.rw
  exact (setR_any z base rp R ka kc va vc k t hr hd hn h.lb).mono fun _ _ ⟨h1, h2, h3⟩ => ⟨h1, h.r h3 h2⟩
theorem find_wx (h : WX base w p ta tb rp E R X o z) (hn : R.length ≤ 1000000) (k : Int) :
    Calls Try.prog 16 #[.pointer (some ⟨rp, 0, none⟩), .int .i64 k] z fun e z' => e = .returned (.int .i64 (idxL k (R.map (·.1)))) ∧ z' = z := by
  obtain ⟨ka, kc, va, vc, hr⟩ := h.ww.rw
  exact findR_any z base rp R ka kc va vc k hr hn
theorem first_wx (h : WX base w p ta tb rp E R X o z) (hn : R.length ≤ 1000000) :
    Calls Try.prog 12 #[.pointer (some ⟨rp, 0, none⟩)] z fun e z' => ∃ b : Int, e = .returned (.int .i64 b) ∧ BestV R R.length b ∧ WX base w p ta tb rp E R X o z' ∧ ∀ v xs, IRow base z v xs → IRow base z' v xs := by
  obtain ⟨ka, kc, va, vc, hr⟩ := h.ww.rw
  exact (firstR_any z base rp R ka kc va vc hr hn).mono fun _ _ ⟨b, h1, h2, h3⟩ => ⟨b, h1, h2, h.q h3, fun v xs hv => hv.only (X := fun _ => False) (OnlyS.of h3) fun _ _ e => e⟩
/-- A place of the document's rows. -/
theorem WX.place (h : WX base w p ta tb rp E R X o z) {i : Nat} {x : Int × Int} (hx : R[i]? = some x) : ∃ kg kc vg vc, z.cell? ⟨rp, 0, none⟩ = some (.slice (some ⟨kg, 0, none⟩) R.length kc) ∧ z.cell? ⟨rp, 1, none⟩ = some (.slice (some ⟨vg, 0, none⟩) R.length vc) ∧ z.cell? ⟨kg, i, none⟩ = some (.int .i64 x.1) ∧ z.cell? ⟨vg, i, none⟩ = some (.int .u64 x.2) := by
  obtain ⟨ka, kc, va, vc, hr⟩ := h.ww.rw
  have hl : i < R.length := (List.getElem?_eq_some_iff.1 hx).1
  obtain ⟨t0, t1, _⟩ := two_cells hr.tab
  obtain ⟨g, f, rfl, rfl, hc⟩ := hr.at (by omega)
  exact ⟨g, kc, f, vc, t0, t1, (hc i x hx).1, (hc i x hx).2⟩
theorem WX.len (h : WX base w p ta tb rp E R X o z) : ∃ ka kc, z.cell? ⟨rp, 0, none⟩ = some (.slice ka R.length kc) := by
  obtain ⟨ka, kc, va, vc, hr⟩ := h.ww.rw
  exact ⟨ka, kc, (two_cells hr.tab).1⟩
end
end Go.Proofs.Ytdjkoomgapflcaa
