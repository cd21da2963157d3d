/- Scripts of calls as they lie in memory. -/
import Derived.Test.YtdjkoomgapflcaaFrame
import Derived.Test.YtdjkoomgapflcaaRows
import Derived.LaidMore
import Derived.Deep.Slices
import Derived.OpenShut
namespace Go.Proofs.Ytdjkoomgapflcaa
open Go.RowKit Go.Deep
open Go.ChangeShapes Go.WideShapes Go.ChangeAt
set_option linter.unusedVariables false
set_option maxRecDepth 100000
structure wopRec where
  x0 : Int
  x1 : Int
  x2 : Int
  x3 : Int
def wopAt (w : World) (a : Option Addr) (l : List wopRec) : Prop := l ≠ [] → ∃ b off, a = some ⟨b, off, none⟩ ∧ b < w.heap.size ∧ ∀ i o, l[i]? = some o → w.cell? ⟨b, off + i * 4, none⟩ = some (.int .i64 o.x0) ∧ w.cell? ⟨b, off + i * 4 + 1, none⟩ = some (.int .i64 o.x1) ∧ w.cell? ⟨b, off + i * 4 + 2, none⟩ = some (.int .i64 o.x2) ∧ w.cell? ⟨b, off + i * 4 + 3, none⟩ = some (.int .u64 o.x3) ∧ (Lit.int .i64 o.x0).wf = true ∧ (Lit.int .i64 o.x1).wf = true ∧ (Lit.int .i64 o.x2).wf = true ∧ (Lit.int .u64 o.x3).wf = true
section
variable {H : Type} {enc : TypeId × Value → H} {W : World} {base : Nat} {held : Bool}
theorem choose_wop {n : Nat} {P : Nat → wopRec → Prop} (h : ∀ i, i < n → ∃ o, P i o) : ∃ l : List wopRec, l.length = n ∧ ∀ i o, l[i]? = some o → P i o := by
  induction n with
  | zero => exact ⟨[], rfl, fun i o h => by simp at h⟩
  | succ n ih =>
    obtain ⟨l, hl, hp⟩ := ih (fun i hi => h i (by omega))
    obtain ⟨o, ho⟩ := h n (by omega)
    refine ⟨l ++ [o], by simp [hl], fun i x hx => ?_⟩
    rcases Nat.lt_trichotomy i n with hi | hi | hi
    · rw [List.getElem?_append_left (by omega)] at hx; exact hp i x hx
    · subst hi
      rw [List.getElem?_append_right (by omega), hl, Nat.sub_self] at hx
      simp at hx; subst hx; exact ho
    · rw [List.getElem?_eq_none (by simp; omega)] at hx; cases hx
theorem open_wop {fuel : Nat} {c : Value} {x : DataW H × List MemPlace} (h : DataW.trod enc Try.prog W base (fun _ => true) held fuel 22 [c] = some x) :
    ∃ a len cap l, c = .slice a len cap ∧ l.length = len ∧ wopAt W a l ∧ len ≤ 9223372036854775807 := by
  have hC : Try.prog.cellsOf 33 = 4 := by kernel_rfl
  rcases open_slice Try.underlying22 h with ⟨hc, _⟩ | ⟨a, len, cap, m, n, D, Pl, hc, hb, hl, hm, hmm, hx, hcell⟩
  · have e : c = .slice none 0 0 := by simpa using hc
    exact ⟨none, 0, 0, [], e, rfl, fun h => absurd rfl h, by omega⟩
  · have e : c = .slice (some a) len cap := by simpa using hc
    rw [hC] at hcell
    obtain ⟨l, hol, hop⟩ := choose_wop (n := len) (P := fun i o => W.cell? ((a.add (i * 4)).add 0) = some (.int .i64 o.x0) ∧ W.cell? ((a.add (i * 4)).add 1) = some (.int .i64 o.x1) ∧ W.cell? ((a.add (i * 4)).add 2) = some (.int .i64 o.x2) ∧ W.cell? ((a.add (i * 4)).add 3) = some (.int .u64 o.x3) ∧ (Lit.int .i64 o.x0).wf = true ∧ (Lit.int .i64 o.x1).wf = true ∧ (Lit.int .i64 o.x2).wf = true ∧ (Lit.int .u64 o.x3).wf = true) (fun i hi => by
      obtain ⟨cs, h1, h2⟩ := hcell i (by rw [hmm]; simp; omega)
      obtain ⟨_, hlen, hat⟩ := World.cells?_some h1
      obtain ⟨xs, n', _, hxx, _, hlen2, hg⟩ := DataW.trod_struct Try.underlying33 h2
      match cs, hlen with
      | [c0, c1, c2, c3], _ =>
        match xs, hlen2 with
        | [y0, y1, y2, y3], _ =>
          have g0 := hg 0 _ rfl
          have g1 := hg 1 _ rfl
          have g2 := hg 2 _ rfl
          have g3 := hg 3 _ rfl
          obtain ⟨x0, e0, _, w0⟩ := DataW.trod_int Try.underlying3 (show DataW.trod enc Try.prog W base (fun _ => true) held n' 3 [c0] = some y0 from g0)
          obtain ⟨x1, e1, _, w1⟩ := DataW.trod_int Try.underlying3 (show DataW.trod enc Try.prog W base (fun _ => true) held n' 3 [c1] = some y1 from g1)
          obtain ⟨x2, e2, _, w2⟩ := DataW.trod_int Try.underlying3 (show DataW.trod enc Try.prog W base (fun _ => true) held n' 3 [c2] = some y2 from g2)
          obtain ⟨x3, e3, _, w3⟩ := DataW.trod_int Try.underlying31 (show DataW.trod enc Try.prog W base (fun _ => true) held n' 31 [c3] = some y3 from g3)
          simp only [List.cons.injEq, and_true] at e0 e1 e2 e3
          subst e0 e1 e2 e3
          have t0 := hat 0 (by omega)
          have t1 := hat 1 (by omega)
          have t2 := hat 2 (by omega)
          have t3 := hat 3 (by omega)
          exact ⟨⟨x0, x1, x2, x3⟩, t0, t1, t2, t3, w0, w1, w2, w3⟩)
    refine ⟨some a, len, cap, l, e, hol, fun hne => ?_, by unfold maxLen at hm; omega⟩
    obtain ⟨b, off, spot⟩ := a
    obtain ⟨o, ho⟩ : ∃ o, l[0]? = some o := by
      cases l with
      | nil => exact absurd rfl hne
      | cons o r => exact ⟨o, rfl⟩
    have h0 := (hop 0 o ho).1
    have hspot : spot = none := by simpa [Addr.add] using World.cell?_spot h0
    subst hspot
    refine ⟨b, off, rfl, World.block_lt_of_cell? W _ h0, fun i o ho => ?_⟩
    have := hop i o ho
    simpa [Addr.add_lit, Nat.add_assoc] using this
end
section
variable {H : Type} {enc : TypeId × Value → H} {W : World} {base : Nat} {held : Bool}
theorem okWide_array {P : Program} {w : World} {r : Reach} {b0 n : Nat} {t e : TypeId} {v : Value} (ht : P.underlying t = some (.array n e)) (h : Value.okWide P w r b0 t v) : ∃ cs, v = .agg cs ∧ cs.size = P.cellsOf t := by
  simp only [Value.okWide, ht] at h
  obtain ⟨cs, h1, h2, _⟩ := h
  exact ⟨cs, h1, h2⟩
theorem open_pair64 {r : Reach} {b0 : Nat} {v : Value} {dd : DataW H} {p : List MemPlace} (hv : Value.okWide Try.prog W r b0 44 v) (h : DataW.Trod enc Try.prog W base (fun _ => true) held 44 v dd p) :
    ∃ (x0 x1 : Int), v = .agg #[.int .u64 x0, .int .u64 x1] ∧ (0 ≤ x0 ∧ x0 ≤ 18446744073709551615) ∧ (0 ≤ x1 ∧ x1 ≤ 18446744073709551615) := by
  obtain ⟨cs, rfl, hsz⟩ := okWide_array Try.underlying44 hv
  have hC : Try.prog.cellsOf 44 = 2 := by kernel_rfl
  obtain ⟨l⟩ := cs
  have hl : l.length = 2 := by simpa [hC] using hsz
  obtain ⟨fuel, hf⟩ := h
  obtain ⟨xs, m, _, hx, hlen, hn, hel⟩ := DataW.trod_array Try.underlying44 hf
  have hc5 : Try.prog.cellsOf 31 = 1 := by kernel_rfl
  rw [hc5] at hel
  match l, hl with
  | [c0, c1], _ =>
    match xs, hlen with
    | [y0, y1], _ =>
      have g0 := hel 0 (by omega)
      have g1 := hel 1 (by omega)
      simp only [Value.cells] at g0 g1
      obtain ⟨x0, e0, _, w0⟩ := DataW.trod_int Try.underlying31 (show DataW.trod enc Try.prog W base (fun _ => true) held m 31 [c0] = some y0 from g0)
      obtain ⟨x1, e1, _, w1⟩ := DataW.trod_int Try.underlying31 (show DataW.trod enc Try.prog W base (fun _ => true) held m 31 [c1] = some y1 from g1)
      have b0 := bounds_u64 w0
      have b1 := bounds_u64 w1
      simp only [List.cons.injEq, and_true] at e0 e1
      subst e0 e1
      exact ⟨x0, x1, rfl, b0, b1⟩
end
end Go.Proofs.Ytdjkoomgapflcaa
