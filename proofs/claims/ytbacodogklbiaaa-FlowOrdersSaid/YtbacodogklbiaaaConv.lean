/- A slice of bytes as a string. -/
import Derived.Test.YtbacodogklbiaaaPlain
import Derived.Test.YtbacodogklbiaaaRows
import Derived.WalkKit
namespace Go.Proofs.Ytbacodogklbiaaa
open Go.RowKit
set_option linter.unusedVariables false
set_option linter.unusedSimpArgs false
theorem conv_any (a : Option Addr) (xs : List Int) (cap : Nat) (w : World) (hr : Row .u8 w a xs) :
    (convert 25 9 (.slice a xs.length cap)).run Try.prog w = .ok (.string (strOfNums xs)) w := by
  cases xs with
  | nil =>
    cases a with
    | none => rw [List.length_nil, run_convert_bytes_nil (P := Try.prog) w 25 5 Try.underlying25 Try.underlying5 0 cap 9 Try.underlying9]; rfl
    | some ad =>
      rw [List.length_nil, run_convert_bytes_string w 25 9 5 _ 0 cap Try.underlying25 Try.underlying5 Try.underlying9]
      rw [run_bytesToString w ad 0 cap [] (by simp [loadCells, loadCellsFrom])]
      rfl
  | cons x r =>
    obtain ⟨b, off, rfl, _, hc⟩ := hr (by simp)
    exact run_convert_bytes_arg (P := Try.prog) w 25 5 Try.underlying25 Try.underlying5 b off _ cap (x :: r) rfl (fun i hi => by rw [hc i hi, List.getD_eq_getElem?_getD]) 9 Try.underlying9

end Go.Proofs.Ytbacodogklbiaaa
