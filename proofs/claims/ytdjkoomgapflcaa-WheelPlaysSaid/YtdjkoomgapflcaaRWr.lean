/- The document's wheel: rows. -/
import Derived.Test.YtdjkoomgapflcaaWTwice
namespace Go.Proofs.Ytdjkoomgapflcaa
open Go.RowKit Go.Deep
set_option linter.unusedVariables false
set_option linter.unusedSimpArgs false
set_option maxRecDepth 100000
theorem IRow.cap {base : Nat} {w : World} {a : Option Addr} {c : Nat} {xs : List Int} (h : IRow base w (.slice a xs.length c) xs) (hn : 0 < xs.length) : xs.length ≤ c := by
  rcases h.2 with ⟨h1, h2⟩ | ⟨g', cap, cur, hv', _, _, hc, _⟩
  · omega
  · cases hv'; exact hc
theorem runI (base : Nat) (V : World) (a : Option Addr) (n c : Nat) (xs : List Int) (hV : IRow base V (.slice a n c) xs) (hn : xs.length = n) (s : Addr) (m cc : Nat) (ys : List Int) (hm : ys.length = m) (hc : ∀ j u, ys[j]? = some u → V.cell? (s.add j) = some (.int .i64 u)) (hs : n + m ≤ 2000000) (hb : base ≤ V.heap.size) :
    ∃ a' c' w', (Builtin.append_ #[27, 27] 27 #[.slice a n c, .slice (some s) m cc]).run Try.prog V = .ok (.slice a' (n + m) c') w' ∧ IRow base w' (.slice a' (n + m) c') (xs ++ ys) ∧ V.grownBy w' (Value.slice a n c).ownBlock ∧ (∀ j, (Value.slice a' (n + m) c').ownBlock = some j → (Value.slice a n c).ownBlock = some j ∨ j = V.heap.size) := by
  subst hn
  obtain ⟨i0, hi, hz0, hz1, hz2⟩ := info_parts infoInt
  obtain ⟨v', w', h1, h2, h3, _, h5⟩ := run_append_own_at (P := Try.prog) V base 27 27 3 i0 (.int .i64 0) 1 8 Try.underlying27 hi hz0 hz1 hz2 rfl (by decide) (.slice a xs.length c) xs.length (intsV xs) hV s m cc (intsV ys) (by unfold intsV; rw [List.length_map, hm, Nat.mul_one]) (fun j u hj => by
    unfold intsV at hj
    rw [List.getElem?_map] at hj
    cases hy : ys[j]? with
    | none => rw [hy] at hj; cases hj
    | some y => rw [hy] at hj; cases hj; exact hc j y hy) (by intro u hu; obtain ⟨y, _, rfl⟩ := List.mem_map.1 hu; rfl) (by unfold maxLen; omega) (by omega) hb
  obtain ⟨a', c', rfl⟩ := slice_form h2
  refine ⟨a', c', w', h1, ?_, h3, fun j hj => ?_⟩
  · unfold IRow intsV
    rw [List.length_append, hm, List.map_append]
    exact h2
  · rcases h5 with h5 | h5
    · exact .inl (h5.symm.trans hj)
    · rw [h5] at hj; exact .inr (Option.some.inj hj).symm
/-- What lies in a new row's parts: the runs of the two appends. -/
theorem cutI (V : World) (base : Nat) (g n c : Nat) (ks : List Int) (hk : IRow base V (.slice (some ⟨g, 0, none⟩) n c) ks) (hl : ks.length = n) (hn : n ≤ 1000000) (i : Nat) (hi : i < n) (sk : Addr) (hsk : (if c = i + 1 then some (⟨g, 0, none⟩ : Addr) else some ⟨g, i + 1, none⟩) = some sk) (hb : base ≤ V.heap.size) :
    ∃ a1 c1 V2 a2 c2 V3, (Builtin.append_ #[27, 27] 27 #[.slice (some ⟨V.heap.size, 0, none⟩) 0 0, .slice (some ⟨g, 0, none⟩) i c]).run Try.prog (V.alloc (.cells #[] 3)).drew = .ok (.slice a1 i c1) V2 ∧
      (Builtin.append_ #[27, 27] 27 #[.slice a1 i c1, .slice (some sk) (n - (i + 1)) (c - (i + 1))]).run Try.prog V2 = .ok (.slice a2 (n - 1) c2) V3 ∧
      Below V.heap.size V V2 ∧ Below V.heap.size V V3 ∧ IRow base V3 (.slice a2 (n - 1) c2) (ks.eraseIdx i) := by
  obtain ⟨W, hW⟩ : ∃ W, (V.alloc (.cells #[] 3)).drew = W := ⟨_, rfl⟩
  have hz : W.heap.size = V.heap.size + 1 := by rw [← hW]; simp
  have hWB : Below V.heap.size V W := by rw [← hW]; exact ((Below.refl V.heap.size V).alloc (Nat.le_refl _) _).drew
  have hown : IRow V.heap.size W (.slice (some ⟨V.heap.size, 0, none⟩) 0 0) [] := by rw [← hW]; exact World.ownsRow_lit _ #[] 0 (Nat.le_refl _) (by unfold maxLen; omega) rfl
  have hgl : g < V.heap.size := (hk.lt g rfl).2
  have hk' : V.ownsRow base 3 1 (.slice (some ⟨g, 0, none⟩) n c) n (intsV ks) := by rw [← hl] at hk ⊢; exact hk
  have hcap : n ≤ c := by rw [← hl] at hk ⊢; exact hk.cap (by omega)
  have hcell : ∀ (X : World), Below V.heap.size V X → ∀ j u, ks[j]? = some u → X.cell? ⟨g, j, none⟩ = some (.int .i64 u) := fun X hX j u hj => by
    have hjl : j < ks.length := (List.getElem?_eq_some_iff.1 hj).1
    rw [hX.cell (p := ⟨g, j, none⟩) hgl, hk'.cellAt j (by omega)]
    unfold intsV
    rw [List.getElem?_map, hj]
    rfl
  obtain ⟨a1, c1, V2, q1, o1, g1, m1⟩ := runI V.heap.size W _ 0 0 [] hown rfl ⟨g, 0, none⟩ i c (ks.take i) (by rw [List.length_take]; omega) (fun j u hj => by
    rw [List.getElem?_take] at hj
    split at hj
    · have := hcell W hWB j u hj; simpa [Addr.add_lit] using this
    · cases hj) (by omega) (by omega)
  rw [Nat.zero_add, List.nil_append] at *
  have hV2 : Below V.heap.size V V2 := hWB.grown g1 (by omega) (fun k e => by cases e; exact Nat.le_refl _)
  obtain ⟨a2, c2, V3, q2, o2, g2, m2⟩ := runI V.heap.size V2 a1 i c1 (ks.take i) o1 (by rw [List.length_take]; omega) sk (n - (i + 1)) (c - (i + 1)) (ks.drop (i + 1)) (by rw [List.length_drop]; omega) (fun j u hj => by
    rw [List.getElem?_drop] at hj
    have hjl : i + 1 + j < ks.length := (List.getElem?_eq_some_iff.1 hj).1
    have hcc : c ≠ i + 1 := by omega
    rw [if_neg hcc] at hsk
    cases hsk
    have := hcell V2 hV2 (i + 1 + j) u hj
    simpa [Addr.add_lit] using this) (by omega) (Nat.le_trans (by omega) hV2.size)
  rw [show ks.take i ++ ks.drop (i + 1) = ks.eraseIdx i from (List.eraseIdx_eq_take_drop_succ ks i).symm, show i + (n - (i + 1)) = n - 1 by omega] at *
  have hr1 : ∀ k, (Value.slice a1 i c1).ownBlock = some k → V.heap.size ≤ k := fun k e => by
    rcases m1 k e with h | h
    · have : k = V.heap.size := by simpa [Value.ownBlock] using h.symm
      omega
    · omega
  exact ⟨a1, c1, V2, a2, c2, V3, by rw [hW]; exact q1, q2, hV2, hV2.grown g2 hV2.size hr1, owns_mono o2 hb⟩
theorem infoU : (Try.prog.info? 31).map (fun i => (i.zero, i.size, i.bytes)) = some (some (.int .u64 0), 1, 8) := by kernel_rfl
def u64V (xs : List Int) : List Value := xs.map (Value.int .u64)
/-- A row of numbers of one's own. -/
def URow (base : Nat) (w : World) (v : Value) (xs : List Int) : Prop := w.ownsRow base 31 1 v xs.length (u64V xs)
theorem URow.form {base : Nat} {w : World} {v : Value} {xs : List Int} (h : URow base w v xs) : ∃ a c, v = .slice a xs.length c := slice_form h
theorem URow.lt {base : Nat} {w : World} {v : Value} {xs : List Int} (h : URow base w v xs) : ∀ k, v.ownBlock = some k → base ≤ k ∧ k < w.heap.size := fun k hk => World.ownsRow.lt h k hk
theorem URow.only {X : Nat → Prop} {base : Nat} {w w' : World} {v : Value} {xs : List Int} (h : URow base w v xs) (ho : OnlyS X w w') (hx : ∀ k, v.ownBlock = some k → ¬ X k) : URow base w' v xs := ho.owns h hx
theorem URow.ty {base : Nat} {w : World} {v : Value} {xs : List Int} (h : URow base w v xs) {k : Nat} (hk : v.ownBlock = some k) : ∃ cs f, w.heap[k]? = some (.cells cs 31 f) := by
  rcases h.2 with ⟨h1, h2⟩ | ⟨g, cap, cur, rfl, h2, h3, h4⟩
  · rw [h1] at hk; cases hk
  · have : g = k := by simpa [Value.ownBlock] using hk
    subst this
    exact ⟨_, _, h3⟩
theorem URow.hasBlk {base : Nat} {w : World} {v : Value} {xs : List Int} (h : URow base w v xs) (hn : 0 < xs.length) : ∃ g, v.ownBlock = some g := by
  rcases h.2 with ⟨h1, h2⟩ | ⟨g, cap, cur, h1, _⟩
  · omega
  · exact ⟨g, by rw [h1]; rfl⟩
theorem URow.cells' {base : Nat} {w : World} {v : Value} {xs : List Int} (h : URow base w v xs) {g : Nat} (hg : v.ownBlock = some g) : ∃ c, v = .slice (some ⟨g, 0, none⟩) xs.length c ∧ ∀ i (hi : i < xs.length), w.cell? ⟨g, i, none⟩ = some (.int .u64 xs[i]) := by
  obtain ⟨a, c, rfl⟩ := h.form
  rcases h.2 with ⟨h3, h4⟩ | ⟨g', cap, cur, h3, _⟩
  · rw [h3] at hg; cases hg
  · injection h3 with h3 _ _
    subst h3
    have : g' = g := by simpa [Value.ownBlock] using hg
    subst this
    refine ⟨c, rfl, fun i hi => ?_⟩
    rw [World.ownsRow.cellAt h i (by omega)]
    simp [u64V]
theorem URow.cap {base : Nat} {w : World} {a : Option Addr} {c : Nat} {xs : List Int} (h : URow base w (.slice a xs.length c) xs) (hn : 0 < xs.length) : xs.length ≤ c := by
  rcases h.2 with ⟨h1, h2⟩ | ⟨g', cap, cur, hv', _, _, hc, _⟩
  · omega
  · cases hv'; exact hc
theorem runU (base : Nat) (V : World) (a : Option Addr) (n c : Nat) (xs : List Int) (hV : URow base V (.slice a n c) xs) (hn : xs.length = n) (s : Addr) (m cc : Nat) (ys : List Int) (hm : ys.length = m) (hc : ∀ j u, ys[j]? = some u → V.cell? (s.add j) = some (.int .u64 u)) (hs : n + m ≤ 2000000) (hb : base ≤ V.heap.size) :
    ∃ a' c' w', (Builtin.append_ #[28, 28] 28 #[.slice a n c, .slice (some s) m cc]).run Try.prog V = .ok (.slice a' (n + m) c') w' ∧ URow base w' (.slice a' (n + m) c') (xs ++ ys) ∧ V.grownBy w' (Value.slice a n c).ownBlock ∧ (∀ j, (Value.slice a' (n + m) c').ownBlock = some j → (Value.slice a n c).ownBlock = some j ∨ j = V.heap.size) := by
  subst hn
  obtain ⟨i0, hi, hz0, hz1, hz2⟩ := info_parts infoU
  obtain ⟨v', w', h1, h2, h3, _, h5⟩ := run_append_own_at (P := Try.prog) V base 28 28 31 i0 (.int .u64 0) 1 8 Try.underlying28 hi hz0 hz1 hz2 rfl (by decide) (.slice a xs.length c) xs.length (u64V xs) hV s m cc (u64V ys) (by unfold u64V; rw [List.length_map, hm, Nat.mul_one]) (fun j u hj => by
    unfold u64V at hj
    rw [List.getElem?_map] at hj
    cases hy : ys[j]? with
    | none => rw [hy] at hj; cases hj
    | some y => rw [hy] at hj; cases hj; exact hc j y hy) (by intro u hu; obtain ⟨y, _, rfl⟩ := List.mem_map.1 hu; rfl) (by unfold maxLen; omega) (by omega) hb
  obtain ⟨a', c', rfl⟩ := slice_form h2
  refine ⟨a', c', w', h1, ?_, h3, fun j hj => ?_⟩
  · unfold URow u64V
    rw [List.length_append, hm, List.map_append]
    exact h2
  · rcases h5 with h5 | h5
    · exact .inl (h5.symm.trans hj)
    · rw [h5] at hj; exact .inr (Option.some.inj hj).symm
/-- What lies in a new row's parts: the runs of the two appends. -/
theorem cutU (V : World) (base : Nat) (g n c : Nat) (ks : List Int) (hk : URow base V (.slice (some ⟨g, 0, none⟩) n c) ks) (hl : ks.length = n) (hn : n ≤ 1000000) (i : Nat) (hi : i < n) (sk : Addr) (hsk : (if c = i + 1 then some (⟨g, 0, none⟩ : Addr) else some ⟨g, i + 1, none⟩) = some sk) (hb : base ≤ V.heap.size) :
    ∃ a1 c1 V2 a2 c2 V3, (Builtin.append_ #[28, 28] 28 #[.slice (some ⟨V.heap.size, 0, none⟩) 0 0, .slice (some ⟨g, 0, none⟩) i c]).run Try.prog (V.alloc (.cells #[] 31)).drew = .ok (.slice a1 i c1) V2 ∧
      (Builtin.append_ #[28, 28] 28 #[.slice a1 i c1, .slice (some sk) (n - (i + 1)) (c - (i + 1))]).run Try.prog V2 = .ok (.slice a2 (n - 1) c2) V3 ∧
      Below V.heap.size V V2 ∧ Below V.heap.size V V3 ∧ URow base V3 (.slice a2 (n - 1) c2) (ks.eraseIdx i) := by
  obtain ⟨W, hW⟩ : ∃ W, (V.alloc (.cells #[] 31)).drew = W := ⟨_, rfl⟩
  have hz : W.heap.size = V.heap.size + 1 := by rw [← hW]; simp
  have hWB : Below V.heap.size V W := by rw [← hW]; exact ((Below.refl V.heap.size V).alloc (Nat.le_refl _) _).drew
  have hown : URow V.heap.size W (.slice (some ⟨V.heap.size, 0, none⟩) 0 0) [] := by rw [← hW]; exact World.ownsRow_lit _ #[] 0 (Nat.le_refl _) (by unfold maxLen; omega) rfl
  have hgl : g < V.heap.size := (hk.lt g rfl).2
  have hk' : V.ownsRow base 31 1 (.slice (some ⟨g, 0, none⟩) n c) n (u64V ks) := by rw [← hl] at hk ⊢; exact hk
  have hcap : n ≤ c := by rw [← hl] at hk ⊢; exact hk.cap (by omega)
  have hcell : ∀ (X : World), Below V.heap.size V X → ∀ j u, ks[j]? = some u → X.cell? ⟨g, j, none⟩ = some (.int .u64 u) := fun X hX j u hj => by
    have hjl : j < ks.length := (List.getElem?_eq_some_iff.1 hj).1
    rw [hX.cell (p := ⟨g, j, none⟩) hgl, hk'.cellAt j (by omega)]
    unfold u64V
    rw [List.getElem?_map, hj]
    rfl
  obtain ⟨a1, c1, V2, q1, o1, g1, m1⟩ := runU V.heap.size W _ 0 0 [] hown rfl ⟨g, 0, none⟩ i c (ks.take i) (by rw [List.length_take]; omega) (fun j u hj => by
    rw [List.getElem?_take] at hj
    split at hj
    · have := hcell W hWB j u hj; simpa [Addr.add_lit] using this
    · cases hj) (by omega) (by omega)
  rw [Nat.zero_add, List.nil_append] at *
  have hV2 : Below V.heap.size V V2 := hWB.grown g1 (by omega) (fun k e => by cases e; exact Nat.le_refl _)
  obtain ⟨a2, c2, V3, q2, o2, g2, m2⟩ := runU V.heap.size V2 a1 i c1 (ks.take i) o1 (by rw [List.length_take]; omega) sk (n - (i + 1)) (c - (i + 1)) (ks.drop (i + 1)) (by rw [List.length_drop]; omega) (fun j u hj => by
    rw [List.getElem?_drop] at hj
    have hjl : i + 1 + j < ks.length := (List.getElem?_eq_some_iff.1 hj).1
    have hcc : c ≠ i + 1 := by omega
    rw [if_neg hcc] at hsk
    cases hsk
    have := hcell V2 hV2 (i + 1 + j) u hj
    simpa [Addr.add_lit] using this) (by omega) (Nat.le_trans (by omega) hV2.size)
  rw [show ks.take i ++ ks.drop (i + 1) = ks.eraseIdx i from (List.eraseIdx_eq_take_drop_succ ks i).symm, show i + (n - (i + 1)) = n - 1 by omega] at *
  have hr1 : ∀ k, (Value.slice a1 i c1).ownBlock = some k → V.heap.size ≤ k := fun k e => by
    rcases m1 k e with h | h
    · have : k = V.heap.size := by simpa [Value.ownBlock] using h.symm
      omega
    · omega
  exact ⟨a1, c1, V2, a2, c2, V3, by rw [hW]; exact q1, q2, hV2, hV2.grown g2 hV2.size hr1, owns_mono o2 hb⟩
end Go.Proofs.Ytdjkoomgapflcaa
