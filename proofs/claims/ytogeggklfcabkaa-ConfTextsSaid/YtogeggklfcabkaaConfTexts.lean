/- The law of UUIDs, walked. -/
import Derived.Test.YtogeggklfcabkaaCSpeaks
import Derived.Test.YtogeggklfcabkaaCUuidR
namespace Go.Proofs.Ytogeggklfcabkaa
open Go.RowKit
set_option linter.unusedVariables false
set_option linter.unusedSimpArgs false
set_option maxRecDepth 100000
set_option maxHeartbeats 1600000 in
theorem confTexts_any (s : ByteArray) (w : World) (hs : s.size ≤ 9223372036854775807) : Calls Try.prog 5 #[.string s] w fun e w' => e = .returned (.bool true) ∧ Below w.heap.size w w' := by
  obtain ⟨r, hr⟩ : ∃ r, uuidB s = r := ⟨_, rfl⟩
  have HU := hide (fun V => uuid_any s V hs)
  have HV := hide (fun V => uuidR_any s V hs)
  rw [hr] at HU HV
  clear hr
  by_cases h : 1000 < s.size
  · have h1 : decide (1000 < (s.size : Int)) = true := by simp; omega
    clear HU HV
    go_enter Try.func5, Try.ntmps5
    go_wp2_with fail
    refine (speaks9_any _).mono ?_
    rintro e w1 ⟨rfl, b1⟩
    have HB1 := hide b1
    clear b1
    go_wp2_with fail
    go_ret
    exact ⟨rfl, HB1.out⟩
  · have h1 : decide (1000 < (s.size : Int)) = false := by simp; omega
    go_enter Try.func5, Try.ntmps5
    go_wp2_with fail
    refine (speaks9_any _).mono ?_
    rintro e w1 ⟨rfl, b1⟩
    have HB1 := hide b1
    clear b1
    cases r <;>
    · go_wp2_with fail
      refine (HU.out _).mono ?_
      rintro e w2 ⟨rfl, b2⟩
      have HB2 := hide (HB1.out.trans (b2.mono HB1.out.size))
      clear b2
      go_wp2_with fail
      refine (HV.out _).mono ?_
      rintro e w3 ⟨rfl, rfl⟩
      go_wp2_with fail
      go_ret
      exact ⟨rfl, HB2.out⟩
end Go.Proofs.Ytogeggklfcabkaa
