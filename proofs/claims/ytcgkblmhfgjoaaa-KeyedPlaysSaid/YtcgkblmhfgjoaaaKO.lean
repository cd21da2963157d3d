/- Scripts of calls as they lie in memory. -/
import Derived.Test.YtcgkblmhfgjoaaaPlain
import Derived.Test.YtcgkblmhfgjoaaaProg
import Derived.Test.YtcgkblmhfgjoaaaRows
import Derived.Deep.Slices
import Derived.OpenShut
namespace Go.Proofs.Ytcgkblmhfgjoaaa
open Go.RowKit Go.Deep
open Go.ChangeShapes Go.WideShapes
set_option linter.unusedVariables false
set_option maxRecDepth 100000
abbrev Op3 := Int × Int × Int
def OpsAt (w : World) (a : Option Addr) (ops : List Op3) : Prop := ops ≠ [] → ∃ b off, a = some ⟨b, off, none⟩ ∧ b < w.heap.size ∧ ∀ i o, ops[i]? = some o →
  w.cell? ⟨b, off + i * 3, none⟩ = some (.int .i64 o.1) ∧ w.cell? ⟨b, off + i * 3 + 1, none⟩ = some (.int .i64 o.2.1) ∧ w.cell? ⟨b, off + i * 3 + 2, none⟩ = some (.int .i64 o.2.2)
theorem OpsAt.below {w w' : World} {a : Option Addr} {ops : List Op3} {B : Nat} (h : OpsAt w a ops) (hb : Below B w w') (hB : w.heap.size ≤ B) : OpsAt w' a ops := by
  intro hne
  obtain ⟨b, off, e, hlt, hc⟩ := h hne
  refine ⟨b, off, e, Nat.lt_of_lt_of_le hlt hb.size, fun i o ho => ?_⟩
  obtain ⟨c0, c1, c2⟩ := hc i o ho
  have hbb : b < B := Nat.lt_of_lt_of_le hlt hB
  exact ⟨(hb.cell (p := ⟨b, _, none⟩) hbb).trans c0, (hb.cell (p := ⟨b, _, none⟩) hbb).trans c1, (hb.cell (p := ⟨b, _, none⟩) hbb).trans c2⟩
section
variable {H : Type} {enc : TypeId × Value → H} {W : World} {base : Nat} {held : Bool}
theorem choose_ops {n : Nat} {P : Nat → Op3 → Prop} (h : ∀ i, i < n → ∃ o, P i o) : ∃ ops : List Op3, ops.length = n ∧ ∀ i o, ops[i]? = some o → P i o := by
  induction n with
  | zero => exact ⟨[], rfl, fun i o h => by simp at h⟩
  | succ n ih =>
    obtain ⟨ops, hl, hp⟩ := ih (fun i hi => h i (by omega))
    obtain ⟨o, ho⟩ := h n (by omega)
    refine ⟨ops ++ [o], by simp [hl], fun i x hx => ?_⟩
    rcases Nat.lt_trichotomy i n with hi | hi | hi
    · rw [List.getElem?_append_left (by omega)] at hx; exact hp i x hx
    · subst hi
      rw [List.getElem?_append_right (by omega), hl, Nat.sub_self] at hx
      simp at hx; subst hx; exact ho
    · rw [List.getElem?_eq_none (by simp; omega)] at hx; cases hx
theorem open_ops {fuel : Nat} {c : Value} {x : DataW H × List MemPlace} (h : DataW.trod enc Try.prog W base (fun _ => true) held fuel 22 [c] = some x) :
    ∃ a len cap ops, c = .slice a len cap ∧ ops.length = len ∧ OpsAt W a ops ∧ len ≤ 9223372036854775807 := by
  have hC : Try.prog.cellsOf 30 = 3 := by kernel_rfl
  rcases open_slice Try.underlying22 h with ⟨hc, _⟩ | ⟨a, len, cap, m, n, D, Pl, hc, hb, hl, hm, hmm, hx, hcell⟩
  · have e : c = .slice none 0 0 := by simpa using hc
    exact ⟨none, 0, 0, [], e, rfl, fun h => absurd rfl h, by omega⟩
  · have e : c = .slice (some a) len cap := by simpa using hc
    rw [hC] at hcell
    obtain ⟨ops, hol, hop⟩ := choose_ops (n := len) (P := fun i o => W.cell? (a.add (i * 3)) = some (.int .i64 o.1) ∧ W.cell? ((a.add (i * 3)).add 1) = some (.int .i64 o.2.1) ∧ W.cell? ((a.add (i * 3)).add 2) = some (.int .i64 o.2.2)) (fun i hi => by
      obtain ⟨cs, h1, h2⟩ := hcell i (by rw [hmm]; simp; omega)
      obtain ⟨_, hlen, hat⟩ := World.cells?_some h1
      obtain ⟨xs, n', _, hxx, _, hlen2, hg⟩ := DataW.trod_struct Try.underlying30 h2
      match cs, hlen with
      | [c0, c1, c2], _ =>
        match xs, hlen2 with
        | [y0, y1, y2], _ =>
          have g0 := hg 0 _ rfl
          have g1 := hg 1 _ rfl
          have g2 := hg 2 _ rfl
          obtain ⟨x0, e0, _, w0⟩ := DataW.trod_int Try.underlying3 (show DataW.trod enc Try.prog W base (fun _ => true) held n' 3 [c0] = some y0 from g0)
          obtain ⟨x1, e1, _, w1⟩ := DataW.trod_int Try.underlying3 (show DataW.trod enc Try.prog W base (fun _ => true) held n' 3 [c1] = some y1 from g1)
          obtain ⟨x2, e2, _, w2⟩ := DataW.trod_int Try.underlying3 (show DataW.trod enc Try.prog W base (fun _ => true) held n' 3 [c2] = some y2 from g2)
          simp only [List.cons.injEq, and_true] at e0 e1 e2
          subst e0 e1 e2
          have t0 := hat 0 (by omega)
          have t1 := hat 1 (by omega)
          have t2 := hat 2 (by omega)
          exact ⟨(x0, x1, x2), t0, by simpa using t1, by simpa using t2⟩)
    refine ⟨some a, len, cap, ops, e, hol, fun hne => ?_, by unfold maxLen at hm; omega⟩
    obtain ⟨b, off, spot⟩ := a
    obtain ⟨o, ho⟩ : ∃ o, ops[0]? = some o := by
      cases ops with
      | nil => exact absurd rfl hne
      | cons o r => exact ⟨o, rfl⟩
    have h0 := (hop 0 o ho).1
    have hspot : spot = none := by simpa [Addr.add] using World.cell?_spot h0
    subst hspot
    refine ⟨b, off, rfl, World.block_lt_of_cell? W _ h0, fun i o ho => ?_⟩
    have := hop i o ho
    simpa [Addr.add_lit, Nat.add_assoc] using this
end
end Go.Proofs.Ytcgkblmhfgjoaaa
