/- A slice of bytes as a string. -/
import Derived.Test.YtlipckpacdioiaaDoorPlain
import Derived.Test.YtlipckpacdioiaaDoorRows
import Derived.WalkKit
namespace Go.Proofs.YtlipckpacdioiaaDoor
open Go.RowKit
set_option linter.unusedVariables false
set_option linter.unusedSimpArgs false
theorem conv_any (a : Option Addr) (xs : List Int) (cap : Nat) (w : World) (hr : Row .u8 w a xs) :
    (convert 25 9 (.slice a xs.length cap)).run Tryd.prog w = .ok (.string (strOfNums xs)) w := by
  cases xs with
  | nil =>
    cases a with
    | none => rw [List.length_nil, run_convert_bytes_nil (P := Tryd.prog) w 25 5 Tryd.underlying25 Tryd.underlying5 0 cap 9 Tryd.underlying9]; rfl
    | some ad =>
      rw [List.length_nil, run_convert_bytes_string w 25 9 5 _ 0 cap Tryd.underlying25 Tryd.underlying5 Tryd.underlying9]
      rw [run_bytesToString w ad 0 cap [] (by simp [loadCells, loadCellsFrom])]
      rfl
  | cons x r =>
    obtain ⟨b, off, rfl, _, hc⟩ := hr (by simp)
    exact run_convert_bytes_arg (P := Tryd.prog) w 25 5 Tryd.underlying25 Tryd.underlying5 b off _ cap (x :: r) rfl (fun i hi => by rw [hc i hi, List.getD_eq_getElem?_getD]) 9 Tryd.underlying9

end Go.Proofs.YtlipckpacdioiaaDoor
