/- What the document's SameTCP answers of segments that are one. -/
import Derived.Test.YtbacodogklbiaaaTcpR
import Derived.Test.YtbacodogklbiaaaConv
namespace Go.Proofs.Ytbacodogklbiaaa
open Go.RowKit
set_option linter.unusedVariables false
set_option linter.unusedSimpArgs false
set_option maxRecDepth 100000
end Go.Proofs.Ytbacodogklbiaaa
