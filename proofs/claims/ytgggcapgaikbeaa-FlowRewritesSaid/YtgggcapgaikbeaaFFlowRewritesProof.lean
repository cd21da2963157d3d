/- For every packet and every flow the law that the packet is let go between these ends, or refused, exactly as the document says, answers true, and leaves its arguments as they were; no condition. -/
import Derived.Test.YtgggcapgaikbeaaRows
import Derived.Test.YtgggcapgaikbeaaPk27
import Derived.WalkKit
import Derived.ProofKit
import Derived.OpenShut
import Derived.ShutString
import Derived.ChangeOld
import Derived.Below
namespace Go.Proofs.Ytgggcapgaikbeaa.flowRewrites
open Go.ChangeShapes Go.WideShapes Go.ChangeAt Go.RowKit
open Go.ChangeMaps (open_string shut_string)
set_option linter.unusedVariables false

theorem own : ownKnob Try.prog.godebug = none := by kernel_rfl
theorem laidOut : laidOutB Try.prog = true := by kernel_rfl

theorem walk (x0_0 x1_0 x2_0 x3_0 x4_0 : Nat) (a5_0 : Option Addr) (len5_0 cap5_0 : Nat) (z5_0 : List Int) (x0_1 x1_1 x2_1 x3_1 x4_1 : Nat) (w : World) (hx0_0 : x0_0 ≤ 255) (hx1_0 : x1_0 ≤ 255) (hx2_0 : x2_0 ≤ 65535) (hx3_0 : x3_0 ≤ 4294967295) (hx4_0 : x4_0 ≤ 4294967295) (w5_0 : IsRow .u8 w a5_0 len5_0 cap5_0 z5_0) (hx0_1 : x0_1 ≤ 255) (hx1_1 : x1_1 ≤ 4294967295) (hx2_1 : x2_1 ≤ 4294967295) (hx3_1 : x3_1 ≤ 65535) (hx4_1 : x4_1 ≤ 65535) :
    Calls Try.prog 3 #[.agg #[.int .u8 (x0_0 : Int), .int .u8 (x1_0 : Int), .int .u16 (x2_0 : Int), .int .u32 (x3_0 : Int), .int .u32 (x4_0 : Int), .slice a5_0 len5_0 cap5_0], .agg #[.int .u8 (x0_1 : Int), .int .u32 (x1_1 : Int), .int .u32 (x2_1 : Int), .int .u16 (x3_1 : Int), .int .u16 (x4_1 : Int)]] w fun e w' => e = .returned (.bool true) ∧ Below w.heap.size w w' := by
  obtain ⟨xs, hl, hr, hw⟩ := w5_0.row
  have hle : len5_0 ≤ cap5_0 ∧ cap5_0 ≤ 9223372036854775807 := by
    rcases w5_0 with ⟨rfl, rfl, rfl, rfl⟩ | ⟨x, rfl, h1, h2, _⟩
    · exact ⟨Nat.le_refl _, by omega⟩
    · exact ⟨h1, by unfold maxLen at h2; omega⟩
  exact flowRewrites_any w x0_0 x1_0 x2_0 x3_0 x4_0 a5_0 xs len5_0 cap5_0 x0_1 x1_1 x2_1 x3_1 x4_1 ⟨hr, w5_0.row2.1, hle.1, hle.2⟩ hl (wf_u8 hw) hx3_0 hx4_0 hx0_1 hx1_1 hx2_1 hx3_1 hx4_1

set_option maxRecDepth 100000 in
theorem lifted (os : Os) (started : os.Started) (H : Type) (enc : TypeId × Value → H) :
    ReturnsInHanded {} Try.checked os 3 .any (Rows.flowRewritesSpec.pre6 enc Try.prog Try.f3 Rows.flowRewritesRow.domain false) (Rows.flowRewritesSpec.post enc Try.prog Try.f3 false true false false) := by
  refine returnsInHanded_of_change (C := Try.checked) own started (by kernel_rfl) Try.func3
    (ChangeSpec.witness6 (enc := enc) (C := Try.checked) false ⟨#[], #[.agg #[.int .u8 0, .int .u8 0, .int .u16 0, .int .u32 0, .int .u32 0, .slice none 0 0], .agg #[.int .u8 0, .int .u32 0, .int .u32 0, .int .u16 0, .int .u16 0]], []⟩ 8 (by kernel_rfl) (by kernel_rfl) (by kernel_rfl) (by kernel_rfl)) ?_
  intro W base args ds gs before hval0 hW hcnd _
  have hval : ∀ (j : Nat) t v, Try.f3.params[j]? = some t → args[j]? = some v → Value.okWide Try.prog W .any base t v := hval0
  have hW' := hW
  obtain ⟨p, q, hA0, hV, rfl, hfz, hnd⟩ := hW
  have hA : DataW.TrodAll enc Try.prog W 0 (fun _ => true) true Try.f3.params.toList args.toList ds p := hA0
  rw [Try.params3] at hA hval
  obtain ⟨v0, vs0, e0, ds0, p0, q0, hargs, rfl, rfl, h0, r0⟩ := trodAll_cons hA
  obtain ⟨v1, vs1, e1, ds1, p1, q1, rfl, rfl, rfl, h1, r1⟩ := trodAll_cons r0
  obtain ⟨rfl, rfl, rfl⟩ := trodAll_nil r1
  obtain rfl : args = #[v0, v1] := by cases args; simp_all
  obtain ⟨rfl, rfl⟩ := trodVars_none hV
  have t0 := h0
  have lt0 : ∀ x ∈ p0, x.block < W.heap.size := by obtain ⟨m, hm⟩ := t0; exact DataW.trod_lt m _ _ _ hm
  obtain ⟨x0_0, x1_0, x2_0, x3_0, x4_0, a5_0, len5_0, cap5_0, z5_0, rfl, hx0_0, hx1_0, hx2_0, hx3_0, hx4_0, w5_0⟩ := open_packet (hval 0 27 v0 rfl rfl) h0
  have t1 := h1
  have lt1 : ∀ x ∈ p1, x.block < W.heap.size := by obtain ⟨m, hm⟩ := t1; exact DataW.trod_lt m _ _ _ hm
  obtain ⟨x0_1, x1_1, x2_1, x3_1, x4_1, rfl, hx0_1, hx1_1, hx2_1, hx3_1, hx4_1⟩ := open_flow (hval 1 29 v1 rfl rfl) h1
  clear hA0 hval0
  refine (walk x0_0 x1_0 x2_0 x3_0 x4_0 a5_0 len5_0 cap5_0 z5_0 x0_1 x1_1 x2_1 x3_1 x4_1 W hx0_0 hx1_0 hx2_0 hx3_0 hx4_0 w5_0 hx0_1 hx1_1 hx2_1 hx3_1 hx4_1).mono fun e W' ⟨he, bel⟩ => ?_
  subst he
  exact ⟨_, rfl, _, _, _, [], _, [], hW', trodAll_mk1 (shut_bool Try.underlying4 _), (trodAll_cons_mk (Below.trod laidOut (by kernel_rfl) (of_decide_eq_true (by kernel_rfl)) t0 bel lt0) (trodAll_cons_mk (Below.trod laidOut (by kernel_rfl) (of_decide_eq_true (by kernel_rfl)) t1 bel lt1) trodAll_mk0)), rfl, bel.frame _, fun h => by cases h⟩

theorem over : Rows.flowRewritesRow.holds Try.pinned (OpenSpec.ofChange Rows.flowRewritesSpec) :=
  OpenClaim.holds_of_wide 3 Try.f3 rfl rfl rfl rfl rfl rfl rfl ⟨rfl, rfl, rfl, rfl, rfl⟩ rfl rfl rfl rfl rfl (by kernel_rfl) Try.func3 (by kernel_rfl)
    (of_decide_eq_true (by kernel_rfl)) (by unfold Func.isWrapper; first | (rw [if_pos (by decide +kernel)]; kernel_rfl) | (rw [if_neg (by decide +kernel)]; exact ⟨rfl, rfl⟩))
    (fun os started H enc _ => lifted os started H enc)

/-- ████ THE STATEMENT ████ -/
theorem proved : Rows.FlowRewritesSaid := over
#print axioms proved
end Go.Proofs.Ytgggcapgaikbeaa.flowRewrites
