/- The document's wheel: Set. -/
import Derived.Test.YtdjkoomgapflcaaRWd
namespace Go.Proofs.Ytdjkoomgapflcaa
open Go.RowKit Go.Deep
set_option linter.unusedVariables false
set_option linter.unusedSimpArgs false
set_option maxRecDepth 100000
/-- The blocks of the document's wheel. -/
def XR (base rp : Nat) (w : World) (q : Nat) : Prop := q = rp ∨ base ≤ q ∧ ∃ cs T f, w.heap[q]? = some (.cells cs T f) ∧ (T = 3 ∨ T = 31)
theorem xr_row {base rp : Nat} {w w1 : World} (ho : OnlyS (XR base rp w) w w1) {q : Nat} (hb : base ≤ q) {cs : Array Value} {T : TypeId} {f : Nat × Nat} (h1 : w1.heap[q]? = some (.cells cs T f)) (hT : T = 3 ∨ T = 31) : XR base rp w q ∨ w.heap.size ≤ q := by
  rcases Nat.lt_or_ge q w.heap.size with g | g
  · by_cases hx : XR base rp w q
    · exact .inl hx
    · rw [ho.block q g hx] at h1
      exact .inl (.inr ⟨hb, cs, T, f, h1, hT⟩)
  · exact .inr g
set_option maxHeartbeats 1600000 in
theorem push_runs (w : World) (base rp : Nat) (R : RL) (ka : Option Addr) (n kc : Nat) (va : Option Addr) (vc : Nat) (k t : Int) (h : RW w base rp R ka kc va vc) (hnn : R.length = n) (hn : n ≤ 1000000) (hb : base ≤ w.heap.size) :
    ∃ ka2 kc2 w2 w3 va2 vc2 w4 w5,
      (Builtin.append_ #[27, 27] 27 #[.slice ka n kc, .slice (some ⟨w.heap.size, 0, none⟩) 1 1]).run Try.prog (w.alloc (.cells #[.int .i64 k] 3)) = .ok (.slice ka2 (n + 1) kc2) w2 ∧
      w2.heap[rp]? = some (.cells #[.slice ka n kc, .slice va n vc] 30 (0, 0)) ∧ w2.setCell ⟨rp, 0, none⟩ (.slice ka2 (n + 1) kc2) = w3 ∧
      w3.heap[rp]? = some (.cells #[.slice ka2 (n + 1) kc2, .slice va n vc] 30 (0, 0)) ∧
      (Builtin.append_ #[28, 28] 28 #[.slice va n vc, .slice (some ⟨w3.heap.size, 0, none⟩) 1 1]).run Try.prog (w3.alloc (.cells #[.int .u64 t] 31)) = .ok (.slice va2 (n + 1) vc2) w4 ∧
      w4.heap[rp]? = some (.cells #[.slice ka2 (n + 1) kc2, .slice va n vc] 30 (0, 0)) ∧ w4.setCell ⟨rp, 1, none⟩ (.slice va2 (n + 1) vc2) = w5 ∧
      RW w5 base rp (R ++ [(k, t)]) ka2 kc2 va2 vc2 ∧ OnlyS (XR base rp w) w w5 := by
  have hkr := h.krow
  have hvr := h.vrow
  have ht := h.tab
  rw [hnn] at hkr hvr ht
  have hlk : (R.map (·.1)).length = n := by rw [List.length_map]; exact hnn
  have hlv : (R.map (·.2)).length = n := by rw [List.length_map]; exact hnn
  obtain ⟨wa, hwa⟩ : ∃ wt, w.alloc (.cells #[.int .i64 k] 3) = wt := ⟨_, rfl⟩
  have bwa : Below w.heap.size w wa := by rw [← hwa]; exact (Below.refl _ _).alloc (Nat.le_refl _) _
  have hka := hkr.only (X := fun _ => False) (OnlyS.of bwa) (fun _ _ h => h)
  have hva := hvr.only (X := fun _ => False) (OnlyS.of bwa) (fun _ _ h => h)
  have hta := (bwa.block rp (lt_of_block ht)).trans ht
  have hsa : wa.heap.size = w.heap.size + 1 := by rw [← hwa]; simp
  have hga : wa.heap[w.heap.size]? = some (.cells #[.int .i64 k] 3 (0, 0)) := by rw [← hwa]; exact heap_alloc_new _ _
  obtain ⟨ka2, kc2, w2, q2, o2, g2, m2⟩ := runI base wa ka n kc (R.map (·.1)) hka hlk ⟨w.heap.size, 0, none⟩ 1 1 [k] rfl (fun j u hj => by
    cases j with
    | zero =>
      have : k = u := by simpa using hj
      subst this
      simp only [Addr.add_lit]
      exact (one_cell hga).1
    | succ j => simp at hj) (by omega) (by omega)
  have hne2 : ∀ q, (Value.slice ka n kc).ownBlock = some q → q ≠ rp := by
    intro q hq e
    obtain ⟨cs, f, h1⟩ := hka.ty hq
    rw [e, hta] at h1; cases h1
  have ht2 : w2.heap[rp]? = some (.cells #[.slice ka n kc, .slice va n vc] 30 (0, 0)) := (g2.block rp (lt_of_block hta) (fun e => hne2 rp e.symm rfl)).trans hta
  have ho2 : OnlyS (XR base rp w) w w2 := (OnlyS.of (X := XR base rp w) bwa).grown g2 (fun q hq => by
    obtain ⟨cs, f, h1⟩ := hka.ty hq
    exact xr_row (OnlyS.of bwa) (hka.lt q hq).1 h1 (.inl rfl))
  have hv2 : URow base w2 (.slice va n vc) (R.map (·.2)) := by
    refine hva.only (X := fun q => (Value.slice ka n kc).ownBlock = some q) ⟨g2.os, g2.tape, g2.output, g2.size, fun q hq hx => g2.block q hq (fun e => hx e.symm)⟩ (fun q hq hx => ?_)
    obtain ⟨cs, f, h1⟩ := hva.ty hq
    obtain ⟨ds, f2, h2⟩ := hka.ty hx
    rw [h1] at h2; cases h2
  obtain ⟨w3, hw3⟩ : ∃ wt, w2.setCell ⟨rp, 0, none⟩ (.slice ka2 (n + 1) kc2) = wt := ⟨_, rfl⟩
  have ht3 : w3.heap[rp]? = some (.cells #[.slice ka2 (n + 1) kc2, .slice va n vc] 30 (0, 0)) := by rw [← hw3]; exact heap_setCell_same _ _ 0 _ _ _ ht2
  have o23 : OnlyS (· = rp) w2 w3 := by rw [← hw3]; exact (OnlyS.refl _ _).setCell rp 0 _ (.inl rfl)
  have ho3 : OnlyS (XR base rp w) w w3 := by rw [← hw3]; exact ho2.setCell rp 0 _ (.inl (.inl rfl))
  have hk3 : IRow base w3 (.slice ka2 (n + 1) kc2) (R.map (·.1) ++ [k]) := o2.only o23 (fun q hq e => by
    obtain ⟨cs, f, h1⟩ := o2.ty hq
    rw [e, ht2] at h1; cases h1)
  have hv3 : URow base w3 (.slice va n vc) (R.map (·.2)) := hv2.only o23 (fun q hq e => by
    obtain ⟨cs, f, h1⟩ := hv2.ty hq
    rw [e, ht2] at h1; cases h1)
  obtain ⟨wb, hwb⟩ : ∃ wt, w3.alloc (.cells #[.int .u64 t] 31) = wt := ⟨_, rfl⟩
  have bwb : Below w3.heap.size w3 wb := by rw [← hwb]; exact (Below.refl _ _).alloc (Nat.le_refl _) _
  have hkb := hk3.only (X := fun _ => False) (OnlyS.of bwb) (fun _ _ h => h)
  have hvb := hv3.only (X := fun _ => False) (OnlyS.of bwb) (fun _ _ h => h)
  have htb := (bwb.block rp (lt_of_block ht3)).trans ht3
  have hob : OnlyS (XR base rp w) w wb := ho3.then bwb
  have hsb : wb.heap.size = w3.heap.size + 1 := by rw [← hwb]; simp
  have hz3 : w.heap.size ≤ w3.heap.size := ho3.size
  have hgb : wb.heap[w3.heap.size]? = some (.cells #[.int .u64 t] 31 (0, 0)) := by rw [← hwb]; exact heap_alloc_new _ _
  obtain ⟨va2, vc2, w4, q4, o4, g4, m4⟩ := runU base wb va n vc (R.map (·.2)) hvb hlv ⟨w3.heap.size, 0, none⟩ 1 1 [t] rfl (fun j u hj => by
    cases j with
    | zero =>
      have : t = u := by simpa using hj
      subst this
      simp only [Addr.add_lit]
      exact (one_cell hgb).1
    | succ j => simp at hj) (by omega) (by omega)
  have hne4 : ∀ q, (Value.slice va n vc).ownBlock = some q → q ≠ rp := by
    intro q hq e
    obtain ⟨cs, f, h1⟩ := hvb.ty hq
    rw [e, htb] at h1; cases h1
  have ht4 : w4.heap[rp]? = some (.cells #[.slice ka2 (n + 1) kc2, .slice va n vc] 30 (0, 0)) := (g4.block rp (lt_of_block htb) (fun e => hne4 rp e.symm rfl)).trans htb
  have ho4 : OnlyS (XR base rp w) w w4 := hob.grown g4 (fun q hq => by
    obtain ⟨cs, f, h1⟩ := hvb.ty hq
    exact xr_row hob (hvb.lt q hq).1 h1 (.inr rfl))
  have hk4 : IRow base w4 (.slice ka2 (n + 1) kc2) (R.map (·.1) ++ [k]) := by
    refine hkb.only (X := fun q => (Value.slice va n vc).ownBlock = some q) ⟨g4.os, g4.tape, g4.output, g4.size, fun q hq hx => g4.block q hq (fun e => hx e.symm)⟩ (fun q hq hx => ?_)
    obtain ⟨cs, f, h1⟩ := hkb.ty hq
    obtain ⟨ds, f2, h2⟩ := hvb.ty hx
    rw [h1] at h2; cases h2
  obtain ⟨w5, hw5⟩ : ∃ wt, w4.setCell ⟨rp, 1, none⟩ (.slice va2 (n + 1) vc2) = wt := ⟨_, rfl⟩
  have ht5 : w5.heap[rp]? = some (.cells #[.slice ka2 (n + 1) kc2, .slice va2 (n + 1) vc2] 30 (0, 0)) := by rw [← hw5]; exact heap_setCell_same _ _ 1 _ _ _ ht4
  have o45 : OnlyS (· = rp) w4 w5 := by rw [← hw5]; exact (OnlyS.refl _ _).setCell rp 1 _ (.inl rfl)
  have ho5 : OnlyS (XR base rp w) w w5 := by rw [← hw5]; exact ho4.setCell rp 1 _ (.inl (.inl rfl))
  have hln : (R ++ [(k, t)]).length = n + 1 := by rw [List.length_append, hnn]; rfl
  refine ⟨ka2, kc2, w2, w3, va2, vc2, w4, w5, by rw [hwa]; exact q2, ht2, hw3, ht3, by rw [hwb]; exact q4, ht4, hw5, ⟨?_, ?_, ?_⟩, ho5⟩
  · rw [hln]; exact ht5
  · rw [hln, List.map_append]
    exact hk4.only o45 (fun q hq e => by
      obtain ⟨cs, f, h1⟩ := hk4.ty hq
      rw [e, ht4] at h1; cases h1)
  · rw [hln, List.map_append]
    exact o4.only o45 (fun q hq e => by
      obtain ⟨cs, f, h1⟩ := o4.ty hq
      rw [e, ht4] at h1; cases h1)
theorem cR_len (k : Int) (R : RL) : (cR k R).length ≤ R.length := List.length_filter_le _ _
set_option maxHeartbeats 1600000 in
theorem setR_any (w : World) (base rp : Nat) (R : RL) (ka : Option Addr) (kc : Nat) (va : Option Addr) (vc : Nat) (k t : Int) (h : RW w base rp R ka kc va vc) (hd : (R.map (·.1)).Nodup) (hn : R.length ≤ 1000000) (hb : base ≤ w.heap.size) :
    Calls Try.prog 14 #[.pointer (some ⟨rp, 0, none⟩), .int .i64 k, .int .u64 t] w fun e w' => (∃ v, e = .returned v) ∧ OnlyS (XR base rp w) w w' ∧ ∃ ka' kc' va' vc', RW w' base rp (cR k R ++ [(k, t)]) ka' kc' va' vc' := by
  have HC := hide (cancelR_any w base rp R ka kc va vc k h hd hn hb)
  have hl := cR_len k R
  clear h hd
  go_enter Try.func14, Try.ntmps14
  go_wp2_with fail
  refine HC.out.mono ?_
  rintro e w1 ⟨rfl, o1, ka1, kc1, va1, vc1, h1⟩
  have hz1 := o1.size
  obtain ⟨n, hnn⟩ : ∃ n, (cR k R).length = n := ⟨_, rfl⟩
  obtain ⟨ka2, kc2, w2, w3, va2, vc2, w4, w5, q2, ht2, hw3, ht3, q4, ht4, hw5, h5, o5⟩ := push_runs w1 base rp (cR k R) ka1 n kc1 va1 vc1 k t h1 hnn (by omega) (by omega)
  have ht := h1.tab
  rw [hnn] at ht
  obtain ⟨t0, t1, tf⟩ := two_cells ht
  obtain ⟨x0, x1, xf⟩ := two_cells ht2
  obtain ⟨y0, y1, yf⟩ := two_cells ht3
  obtain ⟨z0, z1, zf⟩ := two_cells ht4
  have HQ2 := hide q2
  have HQ4 := hide q4
  have HW3 := hide hw3
  have HW5 := hide hw5
  have HEND := hide (show OnlyS (XR base rp w) w w5 ∧ RW w5 base rp (cR k R ++ [(k, t)]) ka2 kc2 va2 vc2 from ⟨(o1.mono (Y := XR base rp w) (fun _ _ e => .inl e)).trans o5 (fun q hq hx => by
    rcases hx with e | ⟨hb', cs, T, f, hc, hT⟩
    · exact .inl e
    · rcases xr_row (o1.mono (Y := XR base rp w) (fun _ _ e => .inl e)) hb' hc hT with g | g
      · exact g
      · omega), h5⟩)
  clear HC hl o1 hz1 hnn q2 ht2 hw3 ht3 q4 ht4 hw5 h5 o5 ht h1 hn
  go_wp2_with (first
    | (at_builtin; refine Lib.wpList_append_run (o := ⟨some 16, _, _, _, _, _⟩) _ rfl _ _ _ _ rfl _ _ rfl rfl _ _ HQ2.out ?_)
    | (at_builtin; refine Lib.wpList_append_run (o := ⟨some 26, _, _, _, _, _⟩) _ rfl _ _ _ _ rfl _ _ rfl rfl _ _ HQ4.out ?_)
    | rw [HW3.out])
  try rw [HW5.out]
  go_end0
  exact ⟨⟨_, rfl⟩, HEND.out.1, _, _, _, _, HEND.out.2⟩
end Go.Proofs.Ytdjkoomgapflcaa
