/- For every message the law that it is put into bytes, or refused, exactly, and read back as it was, answers true, and leaves its argument as it was; no condition. -/
import Derived.Test.YtimdkcndpfogcaaRows
import Derived.Test.YtimdkcndpfogcaaTransMessages
import Derived.Test.YtimdkcndpfogcaaTOpen
import Derived.WalkKit
import Derived.ProofKit
import Derived.OpenShut
import Derived.ShutString
import Derived.ChangeOld
import Derived.Below
namespace Go.Proofs.Ytimdkcndpfogcaa.transMessages
open Go.ChangeShapes Go.WideShapes Go.ChangeAt Go.RowKit
open Go.ChangeMaps (open_string shut_string)
set_option linter.unusedVariables false

theorem own : ownKnob Try.prog.godebug = none := by kernel_rfl
theorem laidOut : laidOutB Try.prog = true := by kernel_rfl

theorem walk (p_0 q_0 r_0 : Nat) (a_0 : Option Addr) (len_0 cap_0 : Nat) (z_0 : List Int) (w : World) (hp_0 : p_0 ≤ 255) (hq_0 : q_0 ≤ 255) (hr_0 : r_0 ≤ 4294967295) (w_0 : IsRow .u8 w a_0 len_0 cap_0 z_0) :
    Calls Try.prog 5 #[.agg #[.int .u8 (p_0 : Int), .int .u8 (q_0 : Int), .int .u32 (r_0 : Int), .slice a_0 len_0 cap_0]] w fun e w' => e = .returned (.bool true) ∧ Below w.heap.size w w' := by
  obtain ⟨xs, hl, hr, hw⟩ := w_0.row
  exact transMessages_any w p_0 q_0 r_0 a_0 xs len_0 cap_0 hr w_0.row2.1 hl (wf_u8 hw) hp_0 hq_0 hr_0 w_0.row2.2

set_option maxRecDepth 100000 in
theorem lifted (os : Os) (started : os.Started) (H : Type) (enc : TypeId × Value → H) :
    ReturnsInHanded {} Try.checked os 5 .any (Rows.transMessagesSpec.pre6 enc Try.prog Try.f5 Rows.transMessagesRow.domain false) (Rows.transMessagesSpec.post enc Try.prog Try.f5 false true false false) := by
  refine returnsInHanded_of_change (C := Try.checked) own started (by kernel_rfl) Try.func5
    (ChangeSpec.witness6 (enc := enc) (C := Try.checked) false ⟨#[], #[.agg #[.int .u8 0, .int .u8 0, .int .u32 0, .slice none 0 0]], []⟩ 8 (by kernel_rfl) (by kernel_rfl) (by kernel_rfl) (by kernel_rfl)) ?_
  intro W base args ds gs before hval0 hW hcnd _
  have hval : ∀ (j : Nat) t v, Try.f5.params[j]? = some t → args[j]? = some v → Value.okWide Try.prog W .any base t v := hval0
  have hW' := hW
  obtain ⟨p, q, hA0, hV, rfl, hfz, hnd⟩ := hW
  have hA : DataW.TrodAll enc Try.prog W 0 (fun _ => true) true Try.f5.params.toList args.toList ds p := hA0
  rw [Try.params5] at hA hval
  obtain ⟨v0, vs0, e0, ds0, p0, q0, hargs, rfl, rfl, h0, r0⟩ := trodAll_cons hA
  obtain ⟨rfl, rfl, rfl⟩ := trodAll_nil r0
  obtain rfl : args = #[v0] := by cases args; simp_all
  obtain ⟨rfl, rfl⟩ := trodVars_none hV
  have t0 := h0
  have lt0 : ∀ x ∈ p0, x.block < W.heap.size := by obtain ⟨m, hm⟩ := t0; exact DataW.trod_lt m _ _ _ hm
  obtain ⟨p_0, q_0, r_0, a_0, len_0, cap_0, z_0, rfl, hp_0, hq_0, hr_0, w_0⟩ := open_msg (hval 0 48 v0 rfl rfl) h0
  clear hA0 hval0
  refine (walk p_0 q_0 r_0 a_0 len_0 cap_0 z_0 W hp_0 hq_0 hr_0 w_0).mono fun e W' ⟨he, bel⟩ => ?_
  subst he
  exact ⟨_, rfl, _, _, _, [], _, [], hW', trodAll_mk1 (shut_bool Try.underlying4 _), (trodAll_cons_mk (Below.trod laidOut (by kernel_rfl) (of_decide_eq_true (by kernel_rfl)) t0 bel lt0) trodAll_mk0), rfl, bel.frame _, fun h => by cases h⟩

theorem over : Rows.transMessagesRow.holds Try.pinned (OpenSpec.ofChange Rows.transMessagesSpec) :=
  OpenClaim.holds_of_wide 5 Try.f5 rfl rfl rfl rfl rfl rfl rfl ⟨rfl, rfl, rfl, rfl, rfl⟩ rfl rfl rfl rfl rfl (by kernel_rfl) Try.func5 (by kernel_rfl)
    (of_decide_eq_true (by kernel_rfl)) (by unfold Func.isWrapper; first | (rw [if_pos (by decide +kernel)]; kernel_rfl) | (rw [if_neg (by decide +kernel)]; exact ⟨rfl, rfl⟩))
    (fun os started H enc _ => lifted os started H enc)

/-- ████ THE STATEMENT ████ -/
theorem proved : Rows.TransMessagesSaid := over
#print axioms proved
end Go.Proofs.Ytimdkcndpfogcaa.transMessages
