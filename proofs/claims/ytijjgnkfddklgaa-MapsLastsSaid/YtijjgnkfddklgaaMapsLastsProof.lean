/- Mappings: for any two leases, and any second meanwhile: a mapping is there until its lease has gone by, and no longer; renewed it lasts from then on. Conditions: those of the row. -/
import Derived.Test.YtijjgnkfddklgaaRows
import Derived.Test.YtijjgnkfddklgaaMLasts
import Derived.WalkKit
import Derived.ProofKit
import Derived.OpenShut
import Derived.ShutString
import Derived.ChangeOld
import Derived.Below
namespace Go.Proofs.Ytijjgnkfddklgaa.mapsLasts
open Go.ChangeShapes Go.WideShapes Go.ChangeAt Go.RowKit
open Go.ChangeMaps (open_string shut_string)
set_option linter.unusedVariables false

theorem own : ownKnob Try.prog.godebug = none := by kernel_rfl
theorem laidOut : laidOutB Try.prog = true := by kernel_rfl

theorem walk (x_0 y_0 : Int) (n_1 : Int) (w : World) (hx_0 : 0 ≤ x_0 ∧ x_0 ≤ 18446744073709551615) (hy_0 : 0 ≤ y_0 ∧ y_0 ≤ 18446744073709551615) (hn0_1 : 0 ≤ n_1) (hn1_1 : n_1 ≤ 18446744073709551615) :
    Calls Try.prog 5 #[.agg #[.int .u64 x_0, .int .u64 y_0], .int .u64 n_1] w fun e w' => e = .returned (.bool true) ∧ Below w.heap.size w w' := by
  exact mapsLasts_any w x_0 y_0 n_1 hx_0 hy_0 ⟨hn0_1, hn1_1⟩

set_option maxRecDepth 100000 in
theorem lifted (os : Os) (started : os.Started) (H : Type) (enc : TypeId × Value → H) :
    ReturnsInHanded {} Try.checked os 5 .any (Rows.mapsLastsSpec.pre6 enc Try.prog Try.f5 Rows.mapsLastsRow.domain false) (Rows.mapsLastsSpec.post enc Try.prog Try.f5 false true false false) := by
  refine returnsInHanded_of_change (C := Try.checked) own started (by kernel_rfl) Try.func5
    (ChangeSpec.witness6 (enc := enc) (C := Try.checked) false ⟨#[], #[.agg #[.int .u64 0, .int .u64 0], .int .u64 0], []⟩ 8 (by kernel_rfl) (by kernel_rfl) (by kernel_rfl) (by kernel_rfl)) ?_
  intro W base args ds gs before hval0 hW hcnd _
  have hval : ∀ (j : Nat) t v, Try.f5.params[j]? = some t → args[j]? = some v → Value.okWide Try.prog W .any base t v := hval0
  have hW' := hW
  obtain ⟨p, q, hA0, hV, rfl, hfz, hnd⟩ := hW
  have hA : DataW.TrodAll enc Try.prog W 0 (fun _ => true) true Try.f5.params.toList args.toList ds p := hA0
  rw [Try.params5] at hA hval
  obtain ⟨v0, vs0, e0, ds0, p0, q0, hargs, rfl, rfl, h0, r0⟩ := trodAll_cons hA
  obtain ⟨v1, vs1, e1, ds1, p1, q1, rfl, rfl, rfl, h1, r1⟩ := trodAll_cons r0
  obtain ⟨rfl, rfl, rfl⟩ := trodAll_nil r1
  obtain rfl : args = #[v0, v1] := by cases args; simp_all
  obtain ⟨rfl, rfl⟩ := trodVars_none hV
  have t0 := h0
  have lt0 : ∀ x ∈ p0, x.block < W.heap.size := by obtain ⟨m, hm⟩ := t0; exact DataW.trod_lt m _ _ _ hm
  obtain ⟨x_0, y_0, rfl, hx_0, hy_0⟩ := open_pair64 (hval 0 56 v0 rfl rfl) h0
  have t1 := h1
  have lt1 : ∀ x ∈ p1, x.block < W.heap.size := by obtain ⟨m, hm⟩ := t1; exact DataW.trod_lt m _ _ _ hm
  obtain ⟨n_1, rfl⟩ := okWide_int Try.underlying35 (hval 1 35 v1 rfl rfl)
  have hb_1 : 0 ≤ n_1 ∧ n_1 ≤ 18446744073709551615 := by
    obtain ⟨fuel, hf⟩ := h1
    obtain ⟨m, e, _, hw⟩ := DataW.trod_int Try.underlying35 (by simpa [Value.cells] using hf)
    simp at e
    subst e
    exact bounds_u64 hw
  have hn0_1 := hb_1.1
  have hn1_1 := hb_1.2
  clear hA0 hval0
  refine (walk x_0 y_0 n_1 W hx_0 hy_0 hn0_1 hn1_1).mono fun e W' ⟨he, bel⟩ => ?_
  subst he
  exact ⟨_, rfl, _, _, _, [], _, [], hW', trodAll_mk1 (shut_bool Try.underlying4 _), (trodAll_cons_mk (Below.trod laidOut (by kernel_rfl) (of_decide_eq_true (by kernel_rfl)) t0 bel lt0) (trodAll_cons_mk (Below.trod laidOut (by kernel_rfl) (of_decide_eq_true (by kernel_rfl)) t1 bel lt1) trodAll_mk0)), rfl, bel.frame _, fun h => by cases h⟩

theorem over : Rows.mapsLastsRow.holds Try.pinned (OpenSpec.ofChange Rows.mapsLastsSpec) :=
  OpenClaim.holds_of_wide 5 Try.f5 rfl rfl rfl rfl rfl rfl rfl ⟨rfl, rfl, rfl, rfl, rfl⟩ rfl rfl rfl rfl rfl (by kernel_rfl) Try.func5 (by kernel_rfl)
    (of_decide_eq_true (by kernel_rfl)) (by unfold Func.isWrapper; first | (rw [if_pos (by decide +kernel)]; kernel_rfl) | (rw [if_neg (by decide +kernel)]; exact ⟨rfl, rfl⟩))
    (fun os started H enc _ => lifted os started H enc)

/-- ████ THE STATEMENT ████ -/
theorem proved : Rows.MapsLastsSaid := over
#print axioms proved
end Go.Proofs.Ytijjgnkfddklgaa.mapsLasts
