/- Flows: their order, the program's and the document's. -/
import Derived.Test.YtgggcapgaikbeaaPk08
namespace Go.Proofs.Ytgggcapgaikbeaa
open Go.RowKit
set_option linter.unusedVariables false
set_option linter.unusedSimpArgs false
set_option maxRecDepth 100000
theorem five_cells {w : World} {R : Nat} {t : TypeId} {v0 v1 v2 v3 v4 : Value} (h : w.heap[R]? = some (.cells #[v0, v1, v2, v3, v4] t (0, 0))) : w.cell? ⟨R, 0, none⟩ = some v0 ∧ w.cell? ⟨R, 1, none⟩ = some v1 ∧ w.cell? ⟨R, 2, none⟩ = some v2 ∧ w.cell? ⟨R, 3, none⟩ = some v3 ∧ w.cell? ⟨R, 4, none⟩ = some v4 ∧ ∀ i, w.frozen? ⟨R, i, none⟩ = false := by
  refine ⟨?_, ?_, ?_, ?_, ?_, fun i => ?_⟩ <;> simp [World.cell?, World.frozen?, h]
theorem two_flows {w W : World} {v0 v1 v2 v3 v4 u0 u1 u2 u3 u4 : Value} (hW : (w.alloc (.cells #[v0, v1, v2, v3, v4] 29)).alloc (.cells #[u0, u1, u2, u3, u4] 29) = W) :
    W.heap[w.heap.size]? = some (.cells #[v0, v1, v2, v3, v4] 29 (0, 0)) ∧ W.heap[w.heap.size + 1]? = some (.cells #[u0, u1, u2, u3, u4] 29 (0, 0)) ∧ Below w.heap.size w W ∧ W.heap.size = w.heap.size + 1 + 1 := by
  subst hW
  have h0 := heap_alloc_new w (.cells #[v0, v1, v2, v3, v4] 29)
  have h1 := heap_alloc_new (w.alloc (.cells #[v0, v1, v2, v3, v4] 29)) (.cells #[u0, u1, u2, u3, u4] 29)
  refine ⟨below_block ((Below.refl _ _).alloc (Nat.le_refl _) _) h0 (Nat.le_refl _), ?_, ((Below.refl _ _).alloc (Nat.le_refl _) _).alloc (by simp) _, by simp⟩
  have hz : (w.alloc (.cells #[v0, v1, v2, v3, v4] 29)).heap.size = w.heap.size + 1 := by simp
  rw [hz] at h1
  exact h1
theorem getl (a b c d e : Int) (B : Nat) (w : World) (h : w.heap[B]? = some (.cells #[.int .u64 a, .int .u64 b, .int .u64 c, .int .u64 d, .int .u64 e] 88 (0, 0))) (i : Nat) (hi : i < 5) : w.cell? ⟨B, i, none⟩ = some (.int .u64 ([a, b, c, d, e][i]?.getD 0)) := by
  obtain ⟨c0, c1, c2, c3, c4, _⟩ := five_cells h
  match i, hi with
  | 0, _ => exact c0
  | 1, _ => exact c1
  | 2, _ => exact c2
  | 3, _ => exact c3
  | 4, _ => exact c4
end Go.Proofs.Ytgggcapgaikbeaa
