/- Ports: a script of calls that came in, as the readings of this seat say it. -/
import Derived.Test.YtafoiblacmjpdaaDoorPOpen
import Derived.Test.YtafoiblacmjpdaaDoorRows
import Derived.LaidMore
import Derived.Deep.Slices
import Derived.OpenShut
namespace Go.Proofs.YtafoiblacmjpdaaDoor
open Go.RowKit Go.Deep
open Go.ChangeShapes Go.WideShapes Go.ChangeAt
set_option linter.unusedVariables false
set_option maxRecDepth 100000
structure opsRec where
  x0 : Int
  x1 : Int
  x2 : Int
def opsAt (w : World) (a : Option Addr) (l : List opsRec) : Prop := l ≠ [] → ∃ b off, a = some ⟨b, off, none⟩ ∧ b < w.heap.size ∧ ∀ i o, l[i]? = some o → w.cell? ⟨b, off + i * 3, none⟩ = some (.int .i64 o.x0) ∧ w.cell? ⟨b, off + i * 3 + 1, none⟩ = some (.int .u16 o.x1) ∧ w.cell? ⟨b, off + i * 3 + 2, none⟩ = some (.int .u64 o.x2) ∧ (Lit.int .i64 o.x0).wf = true ∧ (Lit.int .u16 o.x1).wf = true ∧ (Lit.int .u64 o.x2).wf = true
section
variable {H : Type} {enc : TypeId × Value → H} {W : World} {base : Nat} {held : Bool}
theorem choose_ops {n : Nat} {P : Nat → opsRec → Prop} (h : ∀ i, i < n → ∃ o, P i o) : ∃ l : List opsRec, l.length = n ∧ ∀ i o, l[i]? = some o → P i o := by
  induction n with
  | zero => exact ⟨[], rfl, fun i o h => by simp at h⟩
  | succ n ih =>
    obtain ⟨l, hl, hp⟩ := ih (fun i hi => h i (by omega))
    obtain ⟨o, ho⟩ := h n (by omega)
    refine ⟨l ++ [o], by simp [hl], fun i x hx => ?_⟩
    rcases Nat.lt_trichotomy i n with hi | hi | hi
    · rw [List.getElem?_append_left (by omega)] at hx; exact hp i x hx
    · subst hi
      rw [List.getElem?_append_right (by omega), hl, Nat.sub_self] at hx
      simp at hx; subst hx; exact ho
    · rw [List.getElem?_eq_none (by simp; omega)] at hx; cases hx
theorem open_ops {fuel : Nat} {c : Value} {x : DataW H × List MemPlace} (h : DataW.trod enc Tryd.prog W base (fun _ => true) held fuel 22 [c] = some x) :
    ∃ a len cap l, c = .slice a len cap ∧ l.length = len ∧ opsAt W a l ∧ len ≤ 9223372036854775807 := by
  have hC : Tryd.prog.cellsOf 33 = 3 := by kernel_rfl
  rcases open_slice Tryd.underlying22 h with ⟨hc, _⟩ | ⟨a, len, cap, m, n, D, Pl, hc, hb, hl, hm, hmm, hx, hcell⟩
  · have e : c = .slice none 0 0 := by simpa using hc
    exact ⟨none, 0, 0, [], e, rfl, fun h => absurd rfl h, by omega⟩
  · have e : c = .slice (some a) len cap := by simpa using hc
    rw [hC] at hcell
    obtain ⟨l, hol, hop⟩ := choose_ops (n := len) (P := fun i o => W.cell? ((a.add (i * 3)).add 0) = some (.int .i64 o.x0) ∧ W.cell? ((a.add (i * 3)).add 1) = some (.int .u16 o.x1) ∧ W.cell? ((a.add (i * 3)).add 2) = some (.int .u64 o.x2) ∧ (Lit.int .i64 o.x0).wf = true ∧ (Lit.int .u16 o.x1).wf = true ∧ (Lit.int .u64 o.x2).wf = true) (fun i hi => by
      obtain ⟨cs, h1, h2⟩ := hcell i (by rw [hmm]; simp; omega)
      obtain ⟨_, hlen, hat⟩ := World.cells?_some h1
      obtain ⟨xs, n', _, hxx, _, hlen2, hg⟩ := DataW.trod_struct Tryd.underlying33 h2
      match cs, hlen with
      | [c0, c1, c2], _ =>
        match xs, hlen2 with
        | [y0, y1, y2], _ =>
          have g0 := hg 0 _ rfl
          have g1 := hg 1 _ rfl
          have g2 := hg 2 _ rfl
          obtain ⟨x0, e0, _, w0⟩ := DataW.trod_int Tryd.underlying3 (show DataW.trod enc Tryd.prog W base (fun _ => true) held n' 3 [c0] = some y0 from g0)
          obtain ⟨x1, e1, _, w1⟩ := DataW.trod_int Tryd.underlying30 (show DataW.trod enc Tryd.prog W base (fun _ => true) held n' 30 [c1] = some y1 from g1)
          obtain ⟨x2, e2, _, w2⟩ := DataW.trod_int Tryd.underlying31 (show DataW.trod enc Tryd.prog W base (fun _ => true) held n' 31 [c2] = some y2 from g2)
          simp only [List.cons.injEq, and_true] at e0 e1 e2
          subst e0 e1 e2
          have t0 := hat 0 (by omega)
          have t1 := hat 1 (by omega)
          have t2 := hat 2 (by omega)
          exact ⟨⟨x0, x1, x2⟩, t0, t1, t2, w0, w1, w2⟩)
    refine ⟨some a, len, cap, l, e, hol, fun hne => ?_, by unfold maxLen at hm; omega⟩
    obtain ⟨b, off, spot⟩ := a
    obtain ⟨o, ho⟩ : ∃ o, l[0]? = some o := by
      cases l with
      | nil => exact absurd rfl hne
      | cons o r => exact ⟨o, rfl⟩
    have h0 := (hop 0 o ho).1
    have hspot : spot = none := by simpa [Addr.add] using World.cell?_spot h0
    subst hspot
    refine ⟨b, off, rfl, World.block_lt_of_cell? W _ h0, fun i o ho => ?_⟩
    have := hop i o ho
    simpa [Addr.add_lit, Nat.add_assoc] using this
end
end Go.Proofs.YtafoiblacmjpdaaDoor
