/- Wheels: for every list of ends, and any two seconds: what has ended by the one, and then by the other, is what has ended by the other. Conditions: those of the row. -/
import Derived.Test.YtdjkoomgapflcaaRows
import Derived.Test.YtdjkoomgapflcaaWTwice
import Derived.WalkKit
import Derived.ProofKit
import Derived.OpenShut
import Derived.ShutString
import Derived.ChangeOld
import Derived.Below
namespace Go.Proofs.Ytdjkoomgapflcaa.wheelTwice
open Go.ChangeShapes Go.WideShapes Go.ChangeAt Go.RowKit
open Go.ChangeMaps (open_string shut_string)
set_option linter.unusedVariables false

theorem own : ownKnob Try.prog.godebug = none := by kernel_rfl
theorem laidOut : laidOutB Try.prog = true := by kernel_rfl

theorem walk (a_0 : Option Addr) (len_0 cap_0 : Nat) (os_0 : List wopRec) (n_1 : Int) (n_2 : Int) (w : World) (w_0 : os_0.length = len_0 ∧ wopAt w a_0 os_0 ∧ len_0 ≤ 9223372036854775807) (hn0_1 : 0 ≤ n_1) (hn1_1 : n_1 ≤ 18446744073709551615) (hn0_2 : 0 ≤ n_2) (hn1_2 : n_2 ≤ 18446744073709551615) :
    Calls Try.prog 4 #[.slice a_0 len_0 cap_0, .int .u64 n_1, .int .u64 n_2] w fun e w' => e = .returned (.bool true) ∧ Below w.heap.size w w' := by
  obtain ⟨w0, w1, w2⟩ := w_0
  obtain ⟨ops, hl, hO⟩ := oat_of w1
  exact wheelTwice_any w a_0 len_0 cap_0 ops n_1 n_2 (hl.trans w0) hO w2

set_option maxRecDepth 100000 in
theorem lifted (os : Os) (started : os.Started) (H : Type) (enc : TypeId × Value → H) :
    ReturnsInHanded {} Try.checked os 4 .any (Rows.wheelTwiceSpec.pre6 enc Try.prog Try.f4 Rows.wheelTwiceRow.domain false) (Rows.wheelTwiceSpec.post enc Try.prog Try.f4 false true false false) := by
  refine returnsInHanded_of_change (C := Try.checked) own started (by kernel_rfl) Try.func4
    (ChangeSpec.witness6 (enc := enc) (C := Try.checked) false ⟨#[], #[.slice none 0 0, .int .u64 0, .int .u64 0], []⟩ 8 (by kernel_rfl) (by kernel_rfl) (by kernel_rfl) (by kernel_rfl)) ?_
  intro W base args ds gs before hval0 hW hcnd _
  have hval : ∀ (j : Nat) t v, Try.f4.params[j]? = some t → args[j]? = some v → Value.okWide Try.prog W .any base t v := hval0
  have hW' := hW
  obtain ⟨p, q, hA0, hV, rfl, hfz, hnd⟩ := hW
  have hA : DataW.TrodAll enc Try.prog W 0 (fun _ => true) true Try.f4.params.toList args.toList ds p := hA0
  rw [Try.params4] at hA hval
  obtain ⟨v0, vs0, e0, ds0, p0, q0, hargs, rfl, rfl, h0, r0⟩ := trodAll_cons hA
  obtain ⟨v1, vs1, e1, ds1, p1, q1, rfl, rfl, rfl, h1, r1⟩ := trodAll_cons r0
  obtain ⟨v2, vs2, e2, ds2, p2, q2, rfl, rfl, rfl, h2, r2⟩ := trodAll_cons r1
  obtain ⟨rfl, rfl, rfl⟩ := trodAll_nil r2
  obtain rfl : args = #[v0, v1, v2] := by cases args; simp_all
  obtain ⟨rfl, rfl⟩ := trodVars_none hV
  have t0 := h0
  have lt0 : ∀ x ∈ p0, x.block < W.heap.size := by obtain ⟨m, hm⟩ := t0; exact DataW.trod_lt m _ _ _ hm
  obtain ⟨a_0, len_0, cap_0, rfl⟩ := okWide_slice Try.underlying22 (hval 0 22 v0 rfl rfl)
  obtain ⟨os_0, w_0⟩ : ∃ ops : List wopRec, ops.length = len_0 ∧ wopAt W a_0 ops ∧ len_0 ≤ 9223372036854775807 := by
    obtain ⟨fuel, hf⟩ := h0
    obtain ⟨a, len, cap, ops, he, g1, g2, g3⟩ := open_wop (by simpa [Value.cells] using hf)
    cases he
    exact ⟨ops, g1, g2, g3⟩
  have t1 := h1
  have lt1 : ∀ x ∈ p1, x.block < W.heap.size := by obtain ⟨m, hm⟩ := t1; exact DataW.trod_lt m _ _ _ hm
  obtain ⟨n_1, rfl⟩ := okWide_int Try.underlying31 (hval 1 31 v1 rfl rfl)
  have hb_1 : 0 ≤ n_1 ∧ n_1 ≤ 18446744073709551615 := by
    obtain ⟨fuel, hf⟩ := h1
    obtain ⟨m, e, _, hw⟩ := DataW.trod_int Try.underlying31 (by simpa [Value.cells] using hf)
    simp at e
    subst e
    exact bounds_u64 hw
  have hn0_1 := hb_1.1
  have hn1_1 := hb_1.2
  have t2 := h2
  have lt2 : ∀ x ∈ p2, x.block < W.heap.size := by obtain ⟨m, hm⟩ := t2; exact DataW.trod_lt m _ _ _ hm
  obtain ⟨n_2, rfl⟩ := okWide_int Try.underlying31 (hval 2 31 v2 rfl rfl)
  have hb_2 : 0 ≤ n_2 ∧ n_2 ≤ 18446744073709551615 := by
    obtain ⟨fuel, hf⟩ := h2
    obtain ⟨m, e, _, hw⟩ := DataW.trod_int Try.underlying31 (by simpa [Value.cells] using hf)
    simp at e
    subst e
    exact bounds_u64 hw
  have hn0_2 := hb_2.1
  have hn1_2 := hb_2.2
  clear hA0 hval0
  refine (walk a_0 len_0 cap_0 os_0 n_1 n_2 W w_0 hn0_1 hn1_1 hn0_2 hn1_2).mono fun e W' ⟨he, bel⟩ => ?_
  subst he
  exact ⟨_, rfl, _, _, _, [], _, [], hW', trodAll_mk1 (shut_bool Try.underlying4 _), (trodAll_cons_mk (Below.trod laidOut (by kernel_rfl) (of_decide_eq_true (by kernel_rfl)) t0 bel lt0) (trodAll_cons_mk (Below.trod laidOut (by kernel_rfl) (of_decide_eq_true (by kernel_rfl)) t1 bel lt1) (trodAll_cons_mk (Below.trod laidOut (by kernel_rfl) (of_decide_eq_true (by kernel_rfl)) t2 bel lt2) trodAll_mk0))), rfl, bel.frame _, fun h => by cases h⟩

theorem over : Rows.wheelTwiceRow.holds Try.pinned (OpenSpec.ofChange Rows.wheelTwiceSpec) :=
  OpenClaim.holds_of_wide 4 Try.f4 rfl rfl rfl rfl rfl rfl rfl ⟨rfl, rfl, rfl, rfl, rfl⟩ rfl rfl rfl rfl rfl (by kernel_rfl) Try.func4 (by kernel_rfl)
    (of_decide_eq_true (by kernel_rfl)) (by unfold Func.isWrapper; first | (rw [if_pos (by decide +kernel)]; kernel_rfl) | (rw [if_neg (by decide +kernel)]; exact ⟨rfl, rfl⟩))
    (fun os started H enc _ => lifted os started H enc)

/-- ████ THE STATEMENT ████ -/
theorem proved : Rows.WheelTwiceSaid := over
#print axioms proved
end Go.Proofs.Ytdjkoomgapflcaa.wheelTwice
