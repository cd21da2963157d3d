/- For any two numbers and any script the law that an RST of the next place ends a connection at once, and that another one, and whatever comes then, changes nothing, answers true, and leaves its arguments as they were; no condition. -/
import Derived.Test.YthkadjjkoomcgaaRows
import Derived.Test.YthkadjjkoomcgaaStReset
import Derived.WalkKit
import Derived.ProofKit
import Derived.OpenShut
import Derived.ShutString
import Derived.ChangeOld
import Derived.Below
namespace Go.Proofs.Ythkadjjkoomcgaa.streamReset
open Go.ChangeShapes Go.WideShapes Go.ChangeAt Go.RowKit
open Go.ChangeMaps (open_string shut_string)
set_option linter.unusedVariables false

theorem own : ownKnob Try.prog.godebug = none := by kernel_rfl
theorem laidOut : laidOutB Try.prog = true := by kernel_rfl

theorem walk (x_0 : Nat) (x_1 : Nat) (a_2 : Option Addr) (len_2 cap_2 : Nat) (os_2 : List opsRec) (w : World) (hx_0 : x_0 ≤ 4294967295) (hx_1 : x_1 ≤ 4294967295) (w_2 : os_2.length = len_2 ∧ opsAt w a_2 os_2 ∧ len_2 ≤ 9223372036854775807) :
    Calls Try.prog 6 #[.int .u32 (x_0 : Int), .int .u32 (x_1 : Int), .slice a_2 len_2 cap_2] w fun e w' => e = .returned (.bool true) ∧ Below w.heap.size w w' := by
  exact reset_any w x_0 x_1 a_2 os_2 len_2 cap_2 w_2.2.1 w_2.1 w_2.2.2

set_option maxRecDepth 100000 in
theorem lifted (os : Os) (started : os.Started) (H : Type) (enc : TypeId × Value → H) :
    ReturnsInHanded {} Try.checked os 6 .any (Rows.streamResetSpec.pre6 enc Try.prog Try.f6 Rows.streamResetRow.domain false) (Rows.streamResetSpec.post enc Try.prog Try.f6 false true false false) := by
  refine returnsInHanded_of_change (C := Try.checked) own started (by kernel_rfl) Try.func6
    (ChangeSpec.witness6 (enc := enc) (C := Try.checked) false ⟨#[], #[.int .u32 0, .int .u32 0, .slice none 0 0], []⟩ 8 (by kernel_rfl) (by kernel_rfl) (by kernel_rfl) (by kernel_rfl)) ?_
  intro W base args ds gs before hval0 hW hcnd _
  have hval : ∀ (j : Nat) t v, Try.f6.params[j]? = some t → args[j]? = some v → Value.okWide Try.prog W .any base t v := hval0
  have hW' := hW
  obtain ⟨p, q, hA0, hV, rfl, hfz, hnd⟩ := hW
  have hA : DataW.TrodAll enc Try.prog W 0 (fun _ => true) true Try.f6.params.toList args.toList ds p := hA0
  rw [Try.params6] at hA hval
  obtain ⟨v0, vs0, e0, ds0, p0, q0, hargs, rfl, rfl, h0, r0⟩ := trodAll_cons hA
  obtain ⟨v1, vs1, e1, ds1, p1, q1, rfl, rfl, rfl, h1, r1⟩ := trodAll_cons r0
  obtain ⟨v2, vs2, e2, ds2, p2, q2, rfl, rfl, rfl, h2, r2⟩ := trodAll_cons r1
  obtain ⟨rfl, rfl, rfl⟩ := trodAll_nil r2
  obtain rfl : args = #[v0, v1, v2] := by cases args; simp_all
  obtain ⟨rfl, rfl⟩ := trodVars_none hV
  have t0 := h0
  have lt0 : ∀ x ∈ p0, x.block < W.heap.size := by obtain ⟨m, hm⟩ := t0; exact DataW.trod_lt m _ _ _ hm
  obtain ⟨n_0, rfl⟩ := okWide_int Try.underlying22 (hval 0 22 v0 rfl rfl)
  have hb_0 : 0 ≤ n_0 ∧ n_0 ≤ 4294967295 := by
    obtain ⟨fuel, hf⟩ := h0
    obtain ⟨m, e, _, hw⟩ := DataW.trod_int Try.underlying22 (by simpa [Value.cells] using hf)
    simp at e
    subst e
    exact bounds_u32 hw
  obtain ⟨x_0, rfl⟩ := Int.eq_ofNat_of_zero_le hb_0.1
  have hx_0 : x_0 ≤ 4294967295 := by omega
  have t1 := h1
  have lt1 : ∀ x ∈ p1, x.block < W.heap.size := by obtain ⟨m, hm⟩ := t1; exact DataW.trod_lt m _ _ _ hm
  obtain ⟨n_1, rfl⟩ := okWide_int Try.underlying22 (hval 1 22 v1 rfl rfl)
  have hb_1 : 0 ≤ n_1 ∧ n_1 ≤ 4294967295 := by
    obtain ⟨fuel, hf⟩ := h1
    obtain ⟨m, e, _, hw⟩ := DataW.trod_int Try.underlying22 (by simpa [Value.cells] using hf)
    simp at e
    subst e
    exact bounds_u32 hw
  obtain ⟨x_1, rfl⟩ := Int.eq_ofNat_of_zero_le hb_1.1
  have hx_1 : x_1 ≤ 4294967295 := by omega
  have t2 := h2
  have lt2 : ∀ x ∈ p2, x.block < W.heap.size := by obtain ⟨m, hm⟩ := t2; exact DataW.trod_lt m _ _ _ hm
  obtain ⟨a_2, len_2, cap_2, rfl⟩ := okWide_slice Try.underlying57 (hval 2 57 v2 rfl rfl)
  obtain ⟨os_2, w_2⟩ : ∃ ops : List opsRec, ops.length = len_2 ∧ opsAt W a_2 ops ∧ len_2 ≤ 9223372036854775807 := by
    obtain ⟨fuel, hf⟩ := h2
    obtain ⟨a, len, cap, ops, he, g1, g2, g3⟩ := open_ops (by simpa [Value.cells] using hf)
    cases he
    exact ⟨ops, g1, g2, g3⟩
  clear hA0 hval0
  refine (walk x_0 x_1 a_2 len_2 cap_2 os_2 W hx_0 hx_1 w_2).mono fun e W' ⟨he, bel⟩ => ?_
  subst he
  exact ⟨_, rfl, _, _, _, [], _, [], hW', trodAll_mk1 (shut_bool Try.underlying4 _), (trodAll_cons_mk (Below.trod laidOut (by kernel_rfl) (of_decide_eq_true (by kernel_rfl)) t0 bel lt0) (trodAll_cons_mk (Below.trod laidOut (by kernel_rfl) (of_decide_eq_true (by kernel_rfl)) t1 bel lt1) (trodAll_cons_mk (Below.trod laidOut (by kernel_rfl) (of_decide_eq_true (by kernel_rfl)) t2 bel lt2) trodAll_mk0))), rfl, bel.frame _, fun h => by cases h⟩

theorem over : Rows.streamResetRow.holds Try.pinned (OpenSpec.ofChange Rows.streamResetSpec) :=
  OpenClaim.holds_of_wide 6 Try.f6 rfl rfl rfl rfl rfl rfl rfl ⟨rfl, rfl, rfl, rfl, rfl⟩ rfl rfl rfl rfl rfl (by kernel_rfl) Try.func6 (by kernel_rfl)
    (of_decide_eq_true (by kernel_rfl)) (by unfold Func.isWrapper; first | (rw [if_pos (by decide +kernel)]; kernel_rfl) | (rw [if_neg (by decide +kernel)]; exact ⟨rfl, rfl⟩))
    (fun os started H enc _ => lifted os started H enc)

/-- ████ THE STATEMENT ████ -/
theorem proved : Rows.StreamResetSaid := over
#print axioms proved
end Go.Proofs.Ythkadjjkoomcgaa.streamReset
