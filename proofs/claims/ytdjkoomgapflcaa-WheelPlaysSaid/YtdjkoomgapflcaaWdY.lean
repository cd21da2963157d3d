/- Wheels: what Due is handed: a function that collects keys. -/
import Derived.Test.YtdjkoomgapflcaaWh
import Derived.Maps.AppendAt
import Derived.Laws.OwnMore
import Derived.Deep.AppendLies
import Derived.Lib.AppendZeros
namespace Go.Proofs.Ytdjkoomgapflcaa
open Go.RowKit Go.Deep
set_option linter.unusedVariables false
set_option linter.unusedSimpArgs false
set_option maxRecDepth 100000
theorem infoInt : (Try.prog.info? 3).map (fun i => (i.zero, i.size, i.bytes)) = some (some (.int .i64 0), 1, 8) := by kernel_rfl
def intsV (xs : List Int) : List Value := xs.map (Value.int .i64)
/-- A row of numbers of one's own. -/
def IRow (base : Nat) (w : World) (v : Value) (xs : List Int) : Prop := w.ownsRow base 3 1 v xs.length (intsV xs)
theorem IRow.form {base : Nat} {w : World} {v : Value} {xs : List Int} (h : IRow base w v xs) : ∃ a c, v = .slice a xs.length c := slice_form h
theorem IRow.lt {base : Nat} {w : World} {v : Value} {xs : List Int} (h : IRow base w v xs) : ∀ k, v.ownBlock = some k → base ≤ k ∧ k < w.heap.size := fun k hk => World.ownsRow.lt h k hk
theorem IRow.only {X : Nat → Prop} {base : Nat} {w w' : World} {v : Value} {xs : List Int} (h : IRow base w v xs) (ho : OnlyS X w w') (hx : ∀ k, v.ownBlock = some k → ¬ X k) : IRow base w' v xs := ho.owns h hx
theorem IRow.ty {base : Nat} {w : World} {v : Value} {xs : List Int} (h : IRow base w v xs) {k : Nat} (hk : v.ownBlock = some k) : ∃ cs f, w.heap[k]? = some (.cells cs 3 f) := by
  rcases h.2 with ⟨h1, h2⟩ | ⟨g, cap, cur, rfl, h2, h3, h4⟩
  · rw [h1] at hk; cases hk
  · have : g = k := by simpa [Value.ownBlock] using hk
    subst this
    exact ⟨_, _, h3⟩
theorem IRow.hasBlk {base : Nat} {w : World} {v : Value} {xs : List Int} (h : IRow base w v xs) (hn : 0 < xs.length) : ∃ g, v.ownBlock = some g := by
  rcases h.2 with ⟨h1, h2⟩ | ⟨g, cap, cur, h1, _⟩
  · omega
  · exact ⟨g, by rw [h1]; rfl⟩
/-- A number is appended to a row: it stands in its own block, or in a new one. -/
theorem pushI (base : Nat) (V : World) (a : Option Addr) (c : Nat) (xs : List Int) (hV : IRow base V (.slice a xs.length c) xs) (k : Int) (hs : xs.length ≤ 1000000) (hb : base ≤ V.heap.size) :
    ∃ a' c' w', (Builtin.append_ #[27, 27] 27 #[.slice a xs.length c, .slice (some ⟨V.heap.size, 0, none⟩) 1 1]).run Try.prog (V.alloc (.cells #[.int .i64 k] 3)) = .ok (.slice a' (xs.length + 1) c') w' ∧
      IRow base w' (.slice a' (xs.length + 1) c') (xs ++ [k]) ∧ OnlyS (fun j => (Value.slice a xs.length c).ownBlock = some j) V w' ∧ (∀ j, (Value.slice a' (xs.length + 1) c').ownBlock = some j → (Value.slice a xs.length c).ownBlock = some j ∨ V.heap.size ≤ j) := by
  have hr2 : (V.alloc (.cells #[.int .i64 k] 3)).ownsRow base 3 1 (.slice a xs.length c) xs.length (intsV xs) := World.ownsRow.alloc hV (.cells #[.int .i64 k] 3)
  have hc : (V.alloc (.cells #[.int .i64 k] 3)).heap[V.heap.size]? = some (.cells #[.int .i64 k] 3 (0, 0)) := heap_alloc_new _ _
  obtain ⟨i0, hi, hz0, hz1, hz2⟩ := info_parts infoInt
  have hal : OnlyS (fun j => (Value.slice a xs.length c).ownBlock = some j) V (V.alloc (.cells #[.int .i64 k] 3)) := OnlyS.of ((Below.refl _ _).alloc (Nat.le_refl _) _)
  obtain ⟨v', w', h1, h2, h3, _, h5⟩ := run_append_own_at (P := Try.prog) (V.alloc (.cells #[.int .i64 k] 3)) base 27 27 3 i0 (.int .i64 0) 1 8 Try.underlying27 hi hz0 hz1 hz2 rfl (by omega) (.slice a xs.length c) xs.length (intsV xs) hr2 ⟨V.heap.size, 0, none⟩ 1 1 [.int .i64 k] rfl (by
    intro j u hj
    cases j with
    | zero => cases hj; show (V.alloc (.cells #[.int .i64 k] 3)).cell? ⟨V.heap.size, 0, none⟩ = _; simp only [World.cell?, hc]; rfl
    | succ j => simp at hj) (by intro u hu; rw [List.mem_singleton.1 hu]; rfl) (by unfold maxLen; omega) (by omega) (by have := hal.size; omega)
  obtain ⟨a', c', rfl⟩ := slice_form h2
  refine ⟨a', c', w', h1, ?_, hal.grown h3 (fun k hk => .inl hk), fun j hj => ?_⟩
  · unfold IRow intsV
    rw [List.length_append, List.length_singleton, List.map_append]
    exact h2
  · rcases h5 with h5 | h5
    · exact .inl (h5.symm.trans hj)
    · rw [h5] at hj
      have := hal.size
      exact .inr (by have := Option.some.inj hj; omega)
/-- What the collecting function's variables hold. -/
structure YAt (base : Nat) (W : World) (ob mb : Nat) (xs : List Int) (most : Int) : Prop where
  out : ∃ v, W.heap[ob]? = some (.cells #[v] 27 (0, 0)) ∧ IRow base W v xs
  mst : W.heap[mb]? = some (.cells #[.int .i64 most] 3 (0, 0))
  hob : base ≤ ob
  apart : ∀ v, W.heap[ob]? = some (.cells #[v] 27 (0, 0)) → v.ownBlock ≠ some mb
  nn : ∀ v, W.heap[ob]? = some (.cells #[v] 27 (0, 0)) → ∃ g, v.ownBlock = some g
def YAns (base ob mb : Nat) (xs : List Int) (most : Int) (w : World) (b : Bool) (e : Ending) (w' : World) : Prop := e = .returned (.bool b) ∧ YAt base w' ob mb xs most ∧ OnlyS (fun k => base ≤ k ∧ (k = ob ∨ ∃ cs f, w.heap[k]? = some (.cells cs 3 f) ∧ k ≠ mb)) w w'
set_option maxHeartbeats 1600000 in
theorem dueY_any (base ob mb : Nat) (xs : List Int) (most k : Int) (w : World) (h : YAt base w ob mb xs most) (hn : xs.length ≤ 600000) (hb : base ≤ w.heap.size) :
    Calls Try.prog 27 #[.int .i64 k, .pointer (some ⟨ob, 0, none⟩), .pointer (some ⟨mb, 0, none⟩)] w (YAns base ob mb (xs ++ [k]) most w (decide ((xs.length : Int) + 1 < most))) := by
  obtain ⟨v, hv, hrow⟩ := h.out
  obtain ⟨a, c, rfl⟩ := hrow.form
  have hap := h.apart _ hv
  obtain ⟨a', c', w1, hrun, hr1, ho1, hn1⟩ := pushI base w a c xs hrow k (by omega) hb
  obtain ⟨o0, of⟩ := one_cell hv
  have hlo := lt_of_block hv
  have hlm := lt_of_block h.mst
  have hne : ob ≠ mb := by
    intro e; have h2 := h.mst; rw [← e, hv] at h2; injection h2 with h2; injection h2 with _ h2 _; exact absurd h2 (by decide)
  have hro : ∀ j, (Value.slice a xs.length c).ownBlock = some j → j ≠ ob ∧ j ≠ mb := fun j hj => ⟨by
    rintro rfl
    obtain ⟨cs, f, h2⟩ := hrow.ty hj
    rw [hv] at h2; injection h2 with h2; injection h2 with _ h2 _; exact absurd h2 (by decide), by rintro rfl; exact hap hj⟩
  have hv1 := ho1.heap hv (fun hx => (hro ob hx).1 rfl)
  have hm1 := ho1.heap h.mst (fun hx => (hro mb hx).2 rfl)
  obtain ⟨p0, pf⟩ := one_cell hv1
  obtain ⟨W2, hW2, hv2, hm2, hr2, ho2⟩ : ∃ W2, w1.setCell ⟨ob, 0, none⟩ (.slice a' (xs.length + 1) c') = W2 ∧ W2.heap[ob]? = some (.cells #[.slice a' (xs.length + 1) c'] 27 (0, 0)) ∧ W2.heap[mb]? = some (.cells #[.int .i64 most] 3 (0, 0)) ∧ IRow base W2 (.slice a' (xs.length + 1) c') (xs ++ [k]) ∧ OnlyS (fun j => j = ob) w1 W2 := by
    have ho : OnlyS (fun j => j = ob) w1 (w1.setCell ⟨ob, 0, none⟩ (.slice a' (xs.length + 1) c')) := (OnlyS.refl _ _).setCell ob 0 _ (.inl rfl)
    refine ⟨_, rfl, heap_setCell_same w1 ob 0 _ _ _ hv1, (heap_setCell_other _ _ _ _ hne.symm).trans hm1, hr1.only ho ?_, ho⟩
    rintro j hj rfl
    obtain ⟨cs, f, h2⟩ := hr1.ty hj
    rw [hv1] at h2; injection h2 with h2; injection h2 with _ h2 _; exact absurd h2 (by decide)
  have HRUN := hide hrun
  have HV1 := hide hv1
  have HW2 := hide hW2
  obtain ⟨r0, rf⟩ := one_cell hv2
  obtain ⟨m0, mf⟩ := one_cell hm2
  have HF := hide (And.intro hv2 (And.intro hm2 (And.intro hr2 (And.intro ho2 (And.intro ho1 hn1)))))
  have HG := hide (And.intro hrow (And.intro h.hob (And.intro hro (And.intro hap (And.intro hlm hb)))))
  obtain ⟨n, hnn⟩ : ∃ n, xs.length = n := ⟨_, rfl⟩
  have HNN := hide hnn
  have hn' : (n : Int) ≤ 600000 := by omega
  rw [hnn] at HRUN HW2 o0 p0 r0
  clear hrun hv1 hW2 hv2 hm2 hr2 ho2 ho1 hn1 hr1 hrow hap hro hv hm1 h hnn hlo hlm hne hb mf rf hn
  rw [HNN.out]
  go_enter Try.func27, Try.ntmps27
  go_upto_region 2 with (at_builtin; refine Lib.wpList_append_run _ rfl _ _ _ _ rfl _ _ rfl rfl _ _ HRUN.out ?_)
  rw [HW2.out]
  clear of pf HRUN HV1 o0 p0 HW2
  go_wp2
  go_ret
  obtain ⟨hv2, hm2, hr2, ho2, ho1, hn1⟩ := HF.out
  obtain ⟨hrow, hob, hro, hap, hlm, hb⟩ := HG.out
  refine ⟨rfl, ⟨⟨_, hv2, hr2⟩, hm2, hob, ?_, ?_⟩, ?_⟩
  · intro v hv e
    rw [hv2] at hv
    injection hv with hv; injection hv with hv _ _
    have hvv : v = .slice a' (xs.length + 1) c' := by have := congrArg (fun z : Array Value => z[0]?) hv; simpa using this.symm
    rw [hvv] at e
    rcases hn1 mb e with h1 | h1
    · exact hap h1
    · omega
  · intro v hv
    rw [hv2] at hv
    injection hv with hv; injection hv with hv _ _
    have hvv : v = .slice a' (xs.length + 1) c' := by have := congrArg (fun z : Array Value => z[0]?) hv; simpa using this.symm
    rw [hvv]
    exact hr2.hasBlk (by simp)
  · refine OnlyS.trans (Y := fun j => j = ob) (ho1.mono ?_) ho2 ?_
    · intro i hi hx
      obtain ⟨cs, f, h2⟩ := hrow.ty hx
      exact ⟨(hrow.lt i hx).1, .inr ⟨cs, f, h2, (hro i hx).2⟩⟩
    · rintro i hi rfl
      exact ⟨hob, .inl rfl⟩
end Go.Proofs.Ytdjkoomgapflcaa
