/- For all bytes the law that these are read as a frame, or refused, as the document says, and that a frame that was read is written as the same bytes, answers true, and leaves its arguments as they were; no condition. -/
import Derived.Test.YtgpmgfpmfdaecaaRows
import Derived.Test.YtgpmgfpmfdaecaaEtherReads
import Derived.Test.YtgpmgfpmfdaecaaFrameOpen
import Derived.WalkKit
import Derived.ProofKit
import Derived.OpenShut
import Derived.ShutString
import Derived.ChangeOld
import Derived.Below
namespace Go.Proofs.Ytgpmgfpmfdaecaa.etherReads
open Go.ChangeShapes Go.WideShapes Go.ChangeAt Go.RowKit
open Go.ChangeMaps (open_string shut_string)
set_option linter.unusedVariables false

theorem own : ownKnob Try.prog.godebug = none := by kernel_rfl
theorem laidOut : laidOutB Try.prog = true := by kernel_rfl

theorem walk (a_0 : Option Addr) (len_0 cap_0 : Nat) (z_0 : List Int) (w : World) (w_0 : IsRow .u8 w a_0 len_0 cap_0 z_0) :
    Calls Try.prog 3 #[.slice a_0 len_0 cap_0] w fun e w' => e = .returned (.bool true) ∧ Below w.heap.size w w' := by
  obtain ⟨xs, hl, hr, hw⟩ := w_0.row
  have hle : len_0 ≤ cap_0 ∧ cap_0 ≤ 9223372036854775807 := by
    rcases w_0 with ⟨rfl, rfl, rfl, rfl⟩ | ⟨x, rfl, h1, h2, _⟩
    · exact ⟨Nat.le_refl _, by omega⟩
    · exact ⟨h1, by unfold maxLen at h2; omega⟩
  exact etherReads_any w a_0 xs len_0 cap_0 ⟨hr, w_0.row2.1, hle.1, hle.2⟩ hl (wf_u8 hw)

set_option maxRecDepth 100000 in
theorem lifted (os : Os) (started : os.Started) (H : Type) (enc : TypeId × Value → H) :
    ReturnsInHanded {} Try.checked os 3 .any (Rows.etherReadsSpec.pre6 enc Try.prog Try.f3 Rows.etherReadsRow.domain false) (Rows.etherReadsSpec.post enc Try.prog Try.f3 false true false false) := by
  refine returnsInHanded_of_change (C := Try.checked) own started (by kernel_rfl) Try.func3
    (ChangeSpec.witness6 (enc := enc) (C := Try.checked) false ⟨#[], #[.slice none 0 0], []⟩ 8 (by kernel_rfl) (by kernel_rfl) (by kernel_rfl) (by kernel_rfl)) ?_
  intro W base args ds gs before hval0 hW hcnd _
  have hval : ∀ (j : Nat) t v, Try.f3.params[j]? = some t → args[j]? = some v → Value.okWide Try.prog W .any base t v := hval0
  have hW' := hW
  obtain ⟨p, q, hA0, hV, rfl, hfz, hnd⟩ := hW
  have hA : DataW.TrodAll enc Try.prog W 0 (fun _ => true) true Try.f3.params.toList args.toList ds p := hA0
  rw [Try.params3] at hA hval
  obtain ⟨v0, vs0, e0, ds0, p0, q0, hargs, rfl, rfl, h0, r0⟩ := trodAll_cons hA
  obtain ⟨rfl, rfl, rfl⟩ := trodAll_nil r0
  obtain rfl : args = #[v0] := by cases args; simp_all
  obtain ⟨rfl, rfl⟩ := trodVars_none hV
  have t0 := h0
  have lt0 : ∀ x ∈ p0, x.block < W.heap.size := by obtain ⟨m, hm⟩ := t0; exact DataW.trod_lt m _ _ _ hm
  obtain ⟨a_0, len_0, cap_0, rfl⟩ := okWide_slice Try.underlying22 (hval 0 22 v0 rfl rfl)
  obtain ⟨z_0, w_0⟩ : ∃ zs, IsRow .u8 W a_0 len_0 cap_0 zs := by
    obtain ⟨fuel, hf⟩ := h0
    obtain ⟨a, len, cap, zs, he, hr⟩ := open_row (by simpa [Value.cells] using hf)
    cases he
    exact ⟨zs, hr⟩
  clear hA0 hval0
  refine (walk a_0 len_0 cap_0 z_0 W w_0).mono fun e W' ⟨he, bel⟩ => ?_
  subst he
  exact ⟨_, rfl, _, _, _, [], _, [], hW', trodAll_mk1 (shut_bool Try.underlying4 _), (trodAll_cons_mk (Below.trod laidOut (by kernel_rfl) (of_decide_eq_true (by kernel_rfl)) t0 bel lt0) trodAll_mk0), rfl, bel.frame _, fun h => by cases h⟩

theorem over : Rows.etherReadsRow.holds Try.pinned (OpenSpec.ofChange Rows.etherReadsSpec) :=
  OpenClaim.holds_of_wide 3 Try.f3 rfl rfl rfl rfl rfl rfl rfl ⟨rfl, rfl, rfl, rfl, rfl⟩ rfl rfl rfl rfl rfl (by kernel_rfl) Try.func3 (by kernel_rfl)
    (of_decide_eq_true (by kernel_rfl)) (by unfold Func.isWrapper; first | (rw [if_pos (by decide +kernel)]; kernel_rfl) | (rw [if_neg (by decide +kernel)]; exact ⟨rfl, rfl⟩))
    (fun os started H enc _ => lifted os started H enc)

/-- ████ THE STATEMENT ████ -/
theorem proved : Rows.EtherReadsSaid := over
#print axioms proved
end Go.Proofs.Ytgpmgfpmfdaecaa.etherReads
