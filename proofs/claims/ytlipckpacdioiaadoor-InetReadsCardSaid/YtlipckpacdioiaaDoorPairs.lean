/- What octet.Pairs answers: a closure over a box that holds a copy. -/
import Derived.Test.YtlipckpacdioiaaDoorClone
namespace Go.Proofs.YtlipckpacdioiaaDoor
open Go.RowKit
set_option linter.unusedVariables false
set_option linter.unusedSimpArgs false
/-- 'Pairs(b)': a closure over a box that holds a copy. -/
theorem pairs_make (a : Option Addr) (xs : List Int) (cap : Nat) (w : World) (hr : Row .u8 w a xs) (hlen : xs.length ≤ 140737488351232) :
    Calls Tryd.prog 39 #[.slice a xs.length cap] w fun e w' => ∃ a' cap' B, e = .returned (.func (.func 51) #[] #[.pointer (some ⟨B, 0, none⟩)]) ∧
      w.heap.size ≤ B ∧ w'.heap[B]? = some (.cells #[.slice a' xs.length cap'] 25 (0, 0)) ∧ w'.ownsRow w.heap.size 5 1 (.slice a' xs.length cap') xs.length (xs.map (Value.int .u8)) ∧ Below w.heap.size w w' := by
  have hmf : ∀ (fn : Fn) (first cap : Array Value) (w : World), (Instr.makeFunc fn first cap).run Tryd.prog w = .ok (.func fn first cap) w := fun _ _ _ _ => rfl
  go_enter Tryd.func39, Tryd.ntmps39
  go_wp2_with (go_at_call 43; refine (clone_any a xs cap _ hr hlen).mono ?_; rintro e w1 ⟨a', cap', rfl, hown, hbel⟩)
  go_ret
  exact ⟨a', cap', _, rfl, hbel.size, heap_alloc_new _ _, hown.alloc _, hbel.alloc hbel.size _⟩
end Go.Proofs.YtlipckpacdioiaaDoor
