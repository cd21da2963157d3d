/- What trans.lay does: it puts a number of two bytes into its place. -/
import Derived.Test.YtlipckpacdioiaaDoorTHelp
namespace Go.Proofs.YtlipckpacdioiaaDoor
open Go.RowKit
set_option linter.unusedVariables false
set_option linter.unusedSimpArgs false
set_option maxRecDepth 100000

theorem below_of_drew {B : Nat} {w w' : World} (h : Below B w.drew w') : Below B w w' := ((Below.refl _ w).drew).trans h
end Go.Proofs.YtlipckpacdioiaaDoor
