/- What was seen, as it lies in memory. -/
import Derived.Test.YtggnbhihajealaaTkLaws
import Derived.Test.YtggnbhihajealaaFrame
import Derived.Test.YtggnbhihajealaaRows
import Derived.Deep.Slices
import Derived.OpenShut
namespace Go.Proofs.Ytggnbhihajealaa
open Go.RowKit Go.Deep
open Go.ChangeShapes Go.WideShapes Go.ChangeAt
set_option linter.unusedVariables false
set_option maxRecDepth 100000
abbrev Seen2 := Nat × Bool
def SeenAt (w : World) (a : Option Addr) (l : List Seen2) : Prop := l ≠ [] → ∃ b off, a = some ⟨b, off, none⟩ ∧ b < w.heap.size ∧ ∀ i o, l[i]? = some o →
  w.cell? ⟨b, off + i * 2, none⟩ = some (.int .u8 (o.1 : Int)) ∧ w.cell? ⟨b, off + i * 2 + 1, none⟩ = some (.bool o.2) ∧ o.1 < 256
section
variable {H : Type} {enc : TypeId × Value → H} {W : World} {base : Nat} {held : Bool}
theorem choose_seen {n : Nat} {P : Nat → Seen2 → Prop} (h : ∀ i, i < n → ∃ o, P i o) : ∃ l : List Seen2, l.length = n ∧ ∀ i o, l[i]? = some o → P i o := by
  induction n with
  | zero => exact ⟨[], rfl, fun i o h => by simp at h⟩
  | succ n ih =>
    obtain ⟨l, hl, hp⟩ := ih (fun i hi => h i (by omega))
    obtain ⟨o, ho⟩ := h n (by omega)
    refine ⟨l ++ [o], by simp [hl], fun i x hx => ?_⟩
    rcases Nat.lt_trichotomy i n with hi | hi | hi
    · rw [List.getElem?_append_left (by omega)] at hx; exact hp i x hx
    · subst hi
      rw [List.getElem?_append_right (by omega), hl, Nat.sub_self] at hx
      simp at hx; subst hx; exact ho
    · rw [List.getElem?_eq_none (by simp; omega)] at hx; cases hx
theorem open_seen {fuel : Nat} {c : Value} {x : DataW H × List MemPlace} (h : DataW.trod enc Try.prog W base (fun _ => true) held fuel 24 [c] = some x) :
    ∃ a len cap l, c = .slice a len cap ∧ l.length = len ∧ SeenAt W a l ∧ len ≤ 9223372036854775807 := by
  have hC : Try.prog.cellsOf 27 = 2 := by kernel_rfl
  rcases open_slice Try.underlying24 h with ⟨hc, _⟩ | ⟨a, len, cap, m, n, D, Pl, hc, hb, hl, hm, hmm, hx, hcell⟩
  · have e : c = .slice none 0 0 := by simpa using hc
    exact ⟨none, 0, 0, [], e, rfl, fun h => absurd rfl h, by omega⟩
  · have e : c = .slice (some a) len cap := by simpa using hc
    rw [hC] at hcell
    obtain ⟨l, hol, hop⟩ := choose_seen (n := len) (P := fun i o => W.cell? (a.add (i * 2)) = some (.int .u8 (o.1 : Int)) ∧ W.cell? ((a.add (i * 2)).add 1) = some (.bool o.2) ∧ o.1 < 256) (fun i hi => by
      obtain ⟨cs, h1, h2⟩ := hcell i (by rw [hmm]; simp; omega)
      obtain ⟨_, hlen, hat⟩ := World.cells?_some h1
      obtain ⟨xs, n', _, hxx, _, hlen2, hg⟩ := DataW.trod_struct Try.underlying27 h2
      match cs, hlen with
      | [c0, c1], _ =>
        match xs, hlen2 with
        | [y0, y1], _ =>
          have g0 := hg 0 _ rfl
          have g1 := hg 1 _ rfl
          obtain ⟨x0, e0, _, w0⟩ := DataW.trod_int Try.underlying5 (show DataW.trod enc Try.prog W base (fun _ => true) held n' 5 [c0] = some y0 from g0)
          obtain ⟨x1, e1, _⟩ := DataW.trod_bool Try.underlying4 (show DataW.trod enc Try.prog W base (fun _ => true) held n' 4 [c1] = some y1 from g1)
          simp only [List.cons.injEq, and_true] at e0 e1
          subst e0 e1
          have b0 := bounds_u8 w0
          have t0 := hat 0 (by omega)
          have t1 := hat 1 (by omega)
          exact ⟨(x0.toNat, x1), by rw [show ((x0.toNat : Nat) : Int) = x0 by omega]; exact t0, by simpa using t1, by simp only; omega⟩)
    refine ⟨some a, len, cap, l, e, hol, fun hne => ?_, by unfold maxLen at hm; omega⟩
    obtain ⟨b, off, spot⟩ := a
    obtain ⟨o, ho⟩ : ∃ o, l[0]? = some o := by
      cases l with
      | nil => exact absurd rfl hne
      | cons o r => exact ⟨o, rfl⟩
    have h0 := (hop 0 o ho).1
    have hspot : spot = none := by simpa [Addr.add] using World.cell?_spot h0
    subst hspot
    refine ⟨b, off, rfl, World.block_lt_of_cell? W _ h0, fun i o ho => ?_⟩
    have := hop i o ho
    simpa [Addr.add_lit, Nat.add_assoc] using this
theorem open_state {r : Reach} {b0 : Nat} {v : Value} {dd : DataW H} {p : List MemPlace} (hv : Value.okWide Try.prog W r b0 23 v) (h : DataW.Trod enc Try.prog W base (fun _ => true) held 23 v dd p) :
    ∃ (x0 : Bool) (x1 : Bool) (x2 : Bool) (x3 : Bool) (x4 : Bool), v = .agg #[.bool x0, .bool x1, .bool x2, .bool x3, .bool x4] := by
  obtain ⟨cs, rfl, hsz⟩ := okWide_struct Try.underlying23 hv
  have hC : Try.prog.cellsOf 23 = 5 := by kernel_rfl
  obtain ⟨l⟩ := cs
  have hl : l.length = 5 := by simpa [hC] using hsz
  obtain ⟨fuel, hf⟩ := h
  obtain ⟨xs, n, _, hx, _, hlen, hg⟩ := DataW.trod_struct Try.underlying23 hf
  match l, hl with
  | [c0, c1, c2, c3, c4], _ =>
    match xs, hlen with
    | [y0, y1, y2, y3, y4], _ =>
      have g0 := hg 0 _ rfl
      have g1 := hg 1 _ rfl
      have g2 := hg 2 _ rfl
      have g3 := hg 3 _ rfl
      have g4 := hg 4 _ rfl
      simp only [Value.cells] at g0 g1 g2 g3 g4
      obtain ⟨x0, e0, _⟩ := DataW.trod_bool Try.underlying4 (show DataW.trod enc Try.prog W base (fun _ => true) held n 4 [c0] = some y0 from g0)
      obtain ⟨x1, e1, _⟩ := DataW.trod_bool Try.underlying4 (show DataW.trod enc Try.prog W base (fun _ => true) held n 4 [c1] = some y1 from g1)
      obtain ⟨x2, e2, _⟩ := DataW.trod_bool Try.underlying4 (show DataW.trod enc Try.prog W base (fun _ => true) held n 4 [c2] = some y2 from g2)
      obtain ⟨x3, e3, _⟩ := DataW.trod_bool Try.underlying4 (show DataW.trod enc Try.prog W base (fun _ => true) held n 4 [c3] = some y3 from g3)
      obtain ⟨x4, e4, _⟩ := DataW.trod_bool Try.underlying4 (show DataW.trod enc Try.prog W base (fun _ => true) held n 4 [c4] = some y4 from g4)
      simp only [List.cons.injEq, and_true] at e0 e1 e2 e3 e4
      subst e0 e1 e2 e3 e4
      exact ⟨x0, x1, x2, x3, x4, rfl⟩
end
end Go.Proofs.Ytggnbhihajealaa
