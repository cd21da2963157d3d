/- A script of calls that came in, as the readings of this seat say it. -/
import Derived.Test.YthkadjjkoomcgaaFrame
import Derived.Test.YthkadjjkoomcgaaRows
import Derived.LaidMore
import Derived.Deep.Slices
import Derived.OpenShut
namespace Go.Proofs.Ythkadjjkoomcgaa
open Go.RowKit Go.Deep
open Go.ChangeShapes Go.WideShapes Go.ChangeAt
set_option linter.unusedVariables false
set_option maxRecDepth 100000
section
variable {H : Type} {enc : TypeId × Value → H} {W : World} {base : Nat} {spare : Nat → Bool} {held : Bool}
theorem open_row {fuel : Nat} {c : Value} {x : DataW H × List MemPlace} (h : DataW.trod enc Try.prog W base (fun _ => true) held fuel 37 [c] = some x) :
    ∃ a len cap zs, c = .slice a len cap ∧ IsRow .u8 W a len cap zs := by
  rcases open_ints Try.underlying37 Try.underlying5 (by kernel_rfl) h with ⟨hcs, _⟩ | ⟨x, l, c, zs, hcs, _, hl, hm, hz, _, hcell, hwz⟩
  · simp at hcs
    exact ⟨none, 0, 0, [], hcs, .inl ⟨rfl, rfl, rfl, rfl⟩⟩
  · simp at hcs
    exact ⟨_, _, _, zs, hcs, .inr ⟨_, rfl, hl, hm, by simpa using hz, hcell, hwz⟩⟩
end
structure opsRec where
  x0 : Int
  x1 : Int
  x2 : Int
  x3 : Int
  x4 : Int
  x5 : Int
  a6 : Option Addr
  n6 : Nat
  c6 : Nat
  z6 : List Int
def opsAt (w : World) (a : Option Addr) (l : List opsRec) : Prop := l ≠ [] → ∃ b off, a = some ⟨b, off, none⟩ ∧ b < w.heap.size ∧ ∀ i o, l[i]? = some o → w.cell? ⟨b, off + i * 7, none⟩ = some (.int .i64 o.x0) ∧ w.cell? ⟨b, off + i * 7 + 1, none⟩ = some (.int .u64 o.x1) ∧ w.cell? ⟨b, off + i * 7 + 2, none⟩ = some (.int .u8 o.x2) ∧ w.cell? ⟨b, off + i * 7 + 3, none⟩ = some (.int .i32 o.x3) ∧ w.cell? ⟨b, off + i * 7 + 4, none⟩ = some (.int .i32 o.x4) ∧ w.cell? ⟨b, off + i * 7 + 5, none⟩ = some (.int .u16 o.x5) ∧ w.cell? ⟨b, off + i * 7 + 6, none⟩ = some (.slice o.a6 o.n6 o.c6) ∧ (Lit.int .i64 o.x0).wf = true ∧ (Lit.int .u64 o.x1).wf = true ∧ (Lit.int .u8 o.x2).wf = true ∧ (Lit.int .i32 o.x3).wf = true ∧ (Lit.int .i32 o.x4).wf = true ∧ (Lit.int .u16 o.x5).wf = true ∧ IsRow .u8 w o.a6 o.n6 o.c6 o.z6
section
variable {H : Type} {enc : TypeId × Value → H} {W : World} {base : Nat} {held : Bool}
theorem choose_ops {n : Nat} {P : Nat → opsRec → Prop} (h : ∀ i, i < n → ∃ o, P i o) : ∃ l : List opsRec, l.length = n ∧ ∀ i o, l[i]? = some o → P i o := by
  induction n with
  | zero => exact ⟨[], rfl, fun i o h => by simp at h⟩
  | succ n ih =>
    obtain ⟨l, hl, hp⟩ := ih (fun i hi => h i (by omega))
    obtain ⟨o, ho⟩ := h n (by omega)
    refine ⟨l ++ [o], by simp [hl], fun i x hx => ?_⟩
    rcases Nat.lt_trichotomy i n with hi | hi | hi
    · rw [List.getElem?_append_left (by omega)] at hx; exact hp i x hx
    · subst hi
      rw [List.getElem?_append_right (by omega), hl, Nat.sub_self] at hx
      simp at hx; subst hx; exact ho
    · rw [List.getElem?_eq_none (by simp; omega)] at hx; cases hx
theorem open_ops {fuel : Nat} {c : Value} {x : DataW H × List MemPlace} (h : DataW.trod enc Try.prog W base (fun _ => true) held fuel 57 [c] = some x) :
    ∃ a len cap l, c = .slice a len cap ∧ l.length = len ∧ opsAt W a l ∧ len ≤ 9223372036854775807 := by
  have hC : Try.prog.cellsOf 60 = 7 := by kernel_rfl
  rcases open_slice Try.underlying57 h with ⟨hc, _⟩ | ⟨a, len, cap, m, n, D, Pl, hc, hb, hl, hm, hmm, hx, hcell⟩
  · have e : c = .slice none 0 0 := by simpa using hc
    exact ⟨none, 0, 0, [], e, rfl, fun h => absurd rfl h, by omega⟩
  · have e : c = .slice (some a) len cap := by simpa using hc
    rw [hC] at hcell
    obtain ⟨l, hol, hop⟩ := choose_ops (n := len) (P := fun i o => W.cell? ((a.add (i * 7)).add 0) = some (.int .i64 o.x0) ∧ W.cell? ((a.add (i * 7)).add 1) = some (.int .u64 o.x1) ∧ W.cell? ((a.add (i * 7)).add 2) = some (.int .u8 o.x2) ∧ W.cell? ((a.add (i * 7)).add 3) = some (.int .i32 o.x3) ∧ W.cell? ((a.add (i * 7)).add 4) = some (.int .i32 o.x4) ∧ W.cell? ((a.add (i * 7)).add 5) = some (.int .u16 o.x5) ∧ W.cell? ((a.add (i * 7)).add 6) = some (.slice o.a6 o.n6 o.c6) ∧ (Lit.int .i64 o.x0).wf = true ∧ (Lit.int .u64 o.x1).wf = true ∧ (Lit.int .u8 o.x2).wf = true ∧ (Lit.int .i32 o.x3).wf = true ∧ (Lit.int .i32 o.x4).wf = true ∧ (Lit.int .u16 o.x5).wf = true ∧ IsRow .u8 W o.a6 o.n6 o.c6 o.z6) (fun i hi => by
      obtain ⟨cs, h1, h2⟩ := hcell i (by rw [hmm]; simp; omega)
      obtain ⟨_, hlen, hat⟩ := World.cells?_some h1
      obtain ⟨xs, n', _, hxx, _, hlen2, hg⟩ := DataW.trod_struct Try.underlying60 h2
      match cs, hlen with
      | [c0, c1, c2, c3, c4, c5, c6], _ =>
        match xs, hlen2 with
        | [y0, y1, y2, y3, y4, y5, y6], _ =>
          have g0 := hg 0 _ rfl
          have g1 := hg 1 _ rfl
          have g2 := hg 2 _ rfl
          have g3 := hg 3 _ rfl
          have g4 := hg 4 _ rfl
          have g5 := hg 5 _ rfl
          have g6 := hg 6 _ rfl
          obtain ⟨x0, e0, _, w0⟩ := DataW.trod_int Try.underlying3 (show DataW.trod enc Try.prog W base (fun _ => true) held n' 3 [c0] = some y0 from g0)
          obtain ⟨x1, e1, _, w1⟩ := DataW.trod_int Try.underlying31 (show DataW.trod enc Try.prog W base (fun _ => true) held n' 31 [c1] = some y1 from g1)
          obtain ⟨x2, e2, _, w2⟩ := DataW.trod_int Try.underlying5 (show DataW.trod enc Try.prog W base (fun _ => true) held n' 5 [c2] = some y2 from g2)
          obtain ⟨x3, e3, _, w3⟩ := DataW.trod_int Try.underlying21 (show DataW.trod enc Try.prog W base (fun _ => true) held n' 21 [c3] = some y3 from g3)
          obtain ⟨x4, e4, _, w4⟩ := DataW.trod_int Try.underlying21 (show DataW.trod enc Try.prog W base (fun _ => true) held n' 21 [c4] = some y4 from g4)
          obtain ⟨x5, e5, _, w5⟩ := DataW.trod_int Try.underlying36 (show DataW.trod enc Try.prog W base (fun _ => true) held n' 36 [c5] = some y5 from g5)
          obtain ⟨a6, n6, k6, z6, e6, r6⟩ := open_row (show DataW.trod enc Try.prog W base (fun _ => true) held n' 37 [c6] = some y6 from g6)
          simp only [List.cons.injEq, and_true] at e0 e1 e2 e3 e4 e5
          subst e0 e1 e2 e3 e4 e5 e6
          have t0 := hat 0 (by omega)
          have t1 := hat 1 (by omega)
          have t2 := hat 2 (by omega)
          have t3 := hat 3 (by omega)
          have t4 := hat 4 (by omega)
          have t5 := hat 5 (by omega)
          have t6 := hat 6 (by omega)
          exact ⟨⟨x0, x1, x2, x3, x4, x5, a6, n6, k6, z6⟩, t0, t1, t2, t3, t4, t5, t6, w0, w1, w2, w3, w4, w5, r6⟩)
    refine ⟨some a, len, cap, l, e, hol, fun hne => ?_, by unfold maxLen at hm; omega⟩
    obtain ⟨b, off, spot⟩ := a
    obtain ⟨o, ho⟩ : ∃ o, l[0]? = some o := by
      cases l with
      | nil => exact absurd rfl hne
      | cons o r => exact ⟨o, rfl⟩
    have h0 := (hop 0 o ho).1
    have hspot : spot = none := by simpa [Addr.add] using World.cell?_spot h0
    subst hspot
    refine ⟨b, off, rfl, World.block_lt_of_cell? W _ h0, fun i o ho => ?_⟩
    have := hop i o ho
    simpa [Addr.add_lit, Nat.add_assoc] using this
end
end Go.Proofs.Ythkadjjkoomcgaa
