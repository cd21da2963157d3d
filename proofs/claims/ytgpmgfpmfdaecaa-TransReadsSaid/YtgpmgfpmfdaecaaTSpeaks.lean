/- What 'speaks' of layer 5 answers. -/
import Derived.Test.YtgpmgfpmfdaecaaUdpW
import Derived.Test.YtgpmgfpmfdaecaaConv
import Derived.Test.YtgpmgfpmfdaecaaTPlain
namespace Go.Proofs.Ytgpmgfpmfdaecaa
open Go.RowKit
set_option linter.unusedVariables false
set_option linter.unusedSimpArgs false
set_option maxRecDepth 100000
set_option maxHeartbeats 800000 in
theorem speaks5_any (w : World) : Calls Try.prog 15 #[] w fun e w' => e = .returned (.bool true) ∧ Below w.heap.size w w' := by
  have hw := wudp_plain w 1 2 68 67 none [] 0 0 (fun h => absurd rfl h) (fun _ => rfl) rfl (by omega) (by omega) (by omega) (by omega) (by omega)
  have HW := hide hw
  clear hw
  go_enter Try.func15, Try.ntmps15
  go_wp2_with fail
  refine HW.out.mono ?_
  rintro e w1 ⟨a, c, rfl, hown, hbel⟩
  have hcv : (convert 22 9 (.slice a (8 + 0) c)).run Try.prog w1 = .ok (.string { data := #[0, 68, 0, 67, 0, 8, 0, 0] }) w1 := conv_any a (udpZ 68 67 []) c w1 (Row.of_owns (n := 8) hown)
  rw [show 8 + 0 = 8 from rfl] at hcv
  have HB := hide hbel
  clear hown hbel
  go_wp2
  go_ret
  exact ⟨rfl, HB.out⟩
end Go.Proofs.Ytgpmgfpmfdaecaa
