/- A connection that is over stays so: the law walked. -/
import Derived.Test.YtggnbhihajealaaTkOpen
import Derived.OneCell
import Derived.Laws.Rows
namespace Go.Proofs.Ytggnbhihajealaa
open Go.RowKit Go.Deep
set_option linter.unusedVariables false
set_option linter.unusedSimpArgs false
set_option maxRecDepth 100000
theorem below_block {w w' : World} {R B : Nat} {o : Obj} (h : Below B w w') (ho : w.heap[R]? = some o) (hB : w.heap.size ≤ B) : w'.heap[R]? = some o := (h.block R (Nat.lt_of_lt_of_le (lt_of_block ho) hB)).trans ho
theorem five_cells {w : World} {R : Nat} {t : TypeId} {v0 v1 v2 v3 v4 : Value} (h : w.heap[R]? = some (.cells #[v0, v1, v2, v3, v4] t (0, 0))) : w.cell? ⟨R, 0, none⟩ = some v0 ∧ w.cell? ⟨R, 1, none⟩ = some v1 ∧ w.cell? ⟨R, 2, none⟩ = some v2 ∧ w.cell? ⟨R, 3, none⟩ = some v3 ∧ w.cell? ⟨R, 4, none⟩ = some v4 ∧ ∀ i, w.frozen? ⟨R, i, none⟩ = false := by
  refine ⟨?_, ?_, ?_, ?_, ?_, fun i => ?_⟩ <;> simp [World.cell?, World.frozen?, h]
def Box5 (w : World) (R : Nat) (s : St5) : Prop := w.heap[R]? = some (.cells #[.bool s.a, .bool s.b, .bool s.c, .bool s.d, .bool s.e] 23 (0, 0))
/-- A state is stored into its box. -/
theorem Box5.store {w : World} {R : Nat} {s : St5} (h : Box5 w R s) (a b c d e : Bool) : Box5 (((((w.setCell ⟨R, 0, none⟩ (.bool a)).setCell ⟨R, 1, none⟩ (.bool b)).setCell ⟨R, 2, none⟩ (.bool c)).setCell ⟨R, 3, none⟩ (.bool d)).setCell ⟨R, 4, none⟩ (.bool e)) R ⟨a, b, c, d, e⟩ := by
  have h0 := heap_setCell_same w R 0 _ _ (.bool a) h
  have h1 := heap_setCell_same _ R 1 _ _ (.bool b) h0
  have h2 := heap_setCell_same _ R 2 _ _ (.bool c) h1
  have h3 := heap_setCell_same _ R 3 _ _ (.bool d) h2
  exact heap_setCell_same _ R 4 _ _ (.bool e) h3
theorem Box5.below {w w' : World} {R B : Nat} {s : St5} (h : Box5 w R s) (hb : Below B w w') (hB : w.heap.size ≤ B) : Box5 w' R s := below_block hb h hB
theorem below5 {W w : World} {B R : Nat} (h : Below B W w) (hR : B ≤ R) (a b c d e : Value) : Below B W (((((w.setCell ⟨R, 0, none⟩ a).setCell ⟨R, 1, none⟩ b).setCell ⟨R, 2, none⟩ c).setCell ⟨R, 3, none⟩ d).setCell ⟨R, 4, none⟩ e) :=
  ((((h.setCell (p := ⟨R, 0, none⟩) hR a).setCell (p := ⟨R, 1, none⟩) hR b).setCell (p := ⟨R, 2, none⟩) hR c).setCell (p := ⟨R, 3, none⟩) hR d).setCell (p := ⟨R, 4, none⟩) hR e
/-- What a round tells: the state, and what stands in the tests. -/
theorem over_leaves (s : St5) (f : Nat) (out : Bool) : ∃ (a b c d e : Bool) (l : Nat), nx s f out = ⟨a, b, c, d, e⟩ ∧ lim 6 ⟨a, b, c, d, e⟩ = l ∧
    ((e = true ∧ l = 240 ∧ overB s = true) ∨ (e = true ∧ l = 240 ∧ overB s = false) ∨ (e = false ∧ c = true ∧ d = true ∧ l = 240 ∧ overB s = true) ∨ (e = false ∧ c = true ∧ d = true ∧ l = 240 ∧ overB s = false) ∨
      (e = false ∧ c = false ∧ a = true ∧ b = true ∧ l = 7440 ∧ overB s = false) ∨ (e = false ∧ c = false ∧ l = 240 ∧ overB s = false) ∨
      (e = false ∧ c = true ∧ d = false ∧ a = true ∧ b = true ∧ l = 7440 ∧ overB s = false) ∨ (e = false ∧ c = true ∧ d = false ∧ l = 240 ∧ overB s = false) ∨
      (out = true ∧ begB f = true ∧ a = true ∧ b = false ∧ c = false ∧ d = false ∧ e = false ∧ l = 240 ∧ overB s = true)) := by
  by_cases h : (out && begB f && overB s) = true
  · refine ⟨true, false, false, false, false, 240, nx_yes h, rfl, ?_⟩
    simp only [Bool.and_eq_true] at h
    simp [h]
  · have h' : (out && begB f && overB s) = false := by simpa using h
    have hn := nx_no h'
    have hm : overB s = true → overB (nx s f out) = true := by
      rw [hn]
      unfold overB
      simp only [Bool.or_eq_true, Bool.and_eq_true]
      rintro (h | ⟨h1, h2⟩)
      · exact .inl (.inl h)
      · exact .inr ⟨.inl h1, .inl h2⟩
    obtain ⟨q, hq⟩ : ∃ q, nx s f out = q := ⟨_, rfl⟩
    rw [hq] at hm ⊢
    obtain ⟨a, b, c, d, e⟩ := q
    refine ⟨a, b, c, d, e, _, rfl, rfl, ?_⟩
    generalize overB s = ov at *
    clear hn h h' hq
    unfold lim openB
    unfold overB at *
    cases ov <;> cases e <;> cases c <;> cases d <;> cases a <;> cases b <;> simp_all
end Go.Proofs.Ytggnbhihajealaa
