/- What trans.ReadTCP answers. -/
import Derived.Test.YtlipckpacdioiaaDoorTEye
import Derived.Test.YtlipckpacdioiaaDoorTLay
namespace Go.Proofs.YtlipckpacdioiaaDoor
open Go.RowKit
set_option linter.unusedVariables false
set_option linter.unusedSimpArgs false
set_option maxRecDepth 100000
theorem nine_cells {w : World} {F : Nat} {t : TypeId} {a b c d e f g h i : Value} (hh : w.heap[F]? = some (.cells #[a, b, c, d, e, f, g, h, i] t (0, 0))) :
    (w.cell? ⟨F, 0, none⟩ = some a ∧ w.cell? ⟨F, 1, none⟩ = some b ∧ w.cell? ⟨F, 2, none⟩ = some c ∧ w.cell? ⟨F, 3, none⟩ = some d ∧ w.cell? ⟨F, 4, none⟩ = some e ∧ w.cell? ⟨F, 5, none⟩ = some f ∧ w.cell? ⟨F, 6, none⟩ = some g ∧ w.cell? ⟨F, 7, none⟩ = some h ∧ w.cell? ⟨F, 8, none⟩ = some i) ∧ ∀ j, w.frozen? ⟨F, j, none⟩ = false := by
  simp [World.cell?, World.frozen?, hh]
theorem nine_set {w : World} {b i : Nat} {u1 u2 u3 u4 u5 u6 u7 u8 u9 z : Value} {t : TypeId} (h : w.heap[b]? = some (.cells #[u1, u2, u3, u4, u5, u6, u7, u8, u9] t (0, 0))) : (w.setCell ⟨b, i, none⟩ z).heap[b]? = some (.cells (#[u1, u2, u3, u4, u5, u6, u7, u8, u9].setIfInBounds i z) t (0, 0)) := by
  have hlt := lt_of_block h
  have h' : w.heap[b] = .cells #[u1, u2, u3, u4, u5, u6, u7, u8, u9] t (0, 0) := by simpa [Array.getElem?_eq_getElem hlt] using h
  show (w.heap.modify b _)[b]? = _
  rw [Array.getElem?_eq_getElem (by simpa using hlt), Array.getElem_modify_self, h']
  rfl
theorem set_ne_block {w : World} {F R i : Nat} {z : Value} {o : Obj} (h : w.heap[R]? = some o) (hne : R ≠ F) : (w.setCell ⟨F, i, none⟩ z).heap[R]? = some o := (Below.heap_setCell _ _ _ _ hne).trans h

end Go.Proofs.YtlipckpacdioiaaDoor
