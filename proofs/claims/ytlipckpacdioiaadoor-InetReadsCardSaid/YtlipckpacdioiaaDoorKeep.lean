/- Blocks of other types stay. -/
import Derived.Test.YtlipckpacdioiaaDoorPairs
namespace Go.Proofs.YtlipckpacdioiaaDoor
open Go.RowKit
set_option linter.unusedVariables false
set_option linter.unusedSimpArgs false
theorem Tryd.info22 : (Tryd.prog.info? 22).map (fun i => (i.zero, i.size, i.bytes)) = some (some (.int .u16 0), 1, 2) := by kernel_rfl

/-- Blocks of other types stay. -/
def Keep (w w' : World) : Prop := ∀ (B : Nat) (cs : Array Value) (t : TypeId), w.heap[B]? = some (.cells cs t (0, 0)) → t = 25 ∨ t = 5 → w'.heap[B]? = some (.cells cs t (0, 0))
theorem Keep.trans {a b c : World} (h : Keep a b) (k : Keep b c) : Keep a c := fun B cs t hB ht => k B cs t (h B cs t hB ht) ht
theorem Keep.owns {w w' : World} {base : Nat} {v : Value} {n : Nat} {xs : List Value} (h : Keep w w') (ho : w.ownsRow base 5 1 v n xs) : w'.ownsRow base 5 1 v n xs := by
  refine ⟨ho.1, ?_⟩
  rcases ho.2 with h1 | ⟨g, cap, cur, hv, hg, hh, r⟩
  · exact .inl h1
  · exact .inr ⟨g, cap, cur, hv, hg, h g cur 5 hh (.inr rfl), r⟩
end Go.Proofs.YtlipckpacdioiaaDoor
