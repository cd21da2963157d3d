/- However many hosts are learned, of which addresses ever, the cache knows the last 256 at most, among them the last one, and gives each packet that is held once. Conditions: those of the row. -/
import Derived.Test.YtbibobjkclgogaaRows
import Derived.Test.YtbibobjkclgogaaNMany
import Derived.WalkKit
import Derived.ProofKit
import Derived.OpenShut
import Derived.ShutString
import Derived.ChangeOld
import Derived.Below
namespace Go.Proofs.Ytbibobjkclgogaa.neighMany
open Go.ChangeShapes Go.WideShapes Go.ChangeAt Go.RowKit
open Go.ChangeMaps (open_string shut_string)
set_option linter.unusedVariables false

theorem own : ownKnob Try.prog.godebug = none := by kernel_rfl
theorem laidOut : laidOutB Try.prog = true := by kernel_rfl

theorem walk (n_0 : Int) (x_1 : Nat) (x_2 : Nat) (w : World) (hn0_0 : -9223372036854775808 ≤ n_0) (hn1_0 : n_0 ≤ 9223372036854775807) (hx_1 : x_1 ≤ 4294967295) (hx_2 : x_2 ≤ 4294967295) :
    Calls Try.prog 4 #[.int .i64 n_0, .int .u32 (x_1 : Int), .int .u32 (x_2 : Int)] w fun e w' => e = .returned (.bool true) ∧ Below w.heap.size w w' := by
  exact neighMany_any w n_0 x_1 x_2 hn0_0 hn1_0 hx_1 hx_2

set_option maxRecDepth 100000 in
theorem lifted (os : Os) (started : os.Started) (H : Type) (enc : TypeId × Value → H) :
    ReturnsInHanded {} Try.checked os 4 .any (Rows.neighManySpec.pre6 enc Try.prog Try.f4 Rows.neighManyRow.domain false) (Rows.neighManySpec.post enc Try.prog Try.f4 false true false false) := by
  refine returnsInHanded_of_change (C := Try.checked) own started (by kernel_rfl) Try.func4
    (ChangeSpec.witness6 (enc := enc) (C := Try.checked) false ⟨#[], #[.int .i64 0, .int .u32 0, .int .u32 0], []⟩ 8 (by kernel_rfl) (by kernel_rfl) (by kernel_rfl) (by kernel_rfl)) ?_
  intro W base args ds gs before hval0 hW hcnd _
  have hval : ∀ (j : Nat) t v, Try.f4.params[j]? = some t → args[j]? = some v → Value.okWide Try.prog W .any base t v := hval0
  have hW' := hW
  obtain ⟨p, q, hA0, hV, rfl, hfz, hnd⟩ := hW
  have hA : DataW.TrodAll enc Try.prog W 0 (fun _ => true) true Try.f4.params.toList args.toList ds p := hA0
  rw [Try.params4] at hA hval
  obtain ⟨v0, vs0, e0, ds0, p0, q0, hargs, rfl, rfl, h0, r0⟩ := trodAll_cons hA
  obtain ⟨v1, vs1, e1, ds1, p1, q1, rfl, rfl, rfl, h1, r1⟩ := trodAll_cons r0
  obtain ⟨v2, vs2, e2, ds2, p2, q2, rfl, rfl, rfl, h2, r2⟩ := trodAll_cons r1
  obtain ⟨rfl, rfl, rfl⟩ := trodAll_nil r2
  obtain rfl : args = #[v0, v1, v2] := by cases args; simp_all
  obtain ⟨rfl, rfl⟩ := trodVars_none hV
  have t0 := h0
  have lt0 : ∀ x ∈ p0, x.block < W.heap.size := by obtain ⟨m, hm⟩ := t0; exact DataW.trod_lt m _ _ _ hm
  obtain ⟨n_0, rfl⟩ := okWide_int Try.underlying3 (hval 0 3 v0 rfl rfl)
  have hb_0 : -9223372036854775808 ≤ n_0 ∧ n_0 ≤ 9223372036854775807 := by
    obtain ⟨fuel, hf⟩ := h0
    obtain ⟨m, e, _, hw⟩ := DataW.trod_int Try.underlying3 (by simpa [Value.cells] using hf)
    simp at e
    subst e
    exact bounds_i64 hw
  have hn0_0 := hb_0.1
  have hn1_0 := hb_0.2
  have t1 := h1
  have lt1 : ∀ x ∈ p1, x.block < W.heap.size := by obtain ⟨m, hm⟩ := t1; exact DataW.trod_lt m _ _ _ hm
  obtain ⟨n_1, rfl⟩ := okWide_int Try.underlying24 (hval 1 24 v1 rfl rfl)
  have hb_1 : 0 ≤ n_1 ∧ n_1 ≤ 4294967295 := by
    obtain ⟨fuel, hf⟩ := h1
    obtain ⟨m, e, _, hw⟩ := DataW.trod_int Try.underlying24 (by simpa [Value.cells] using hf)
    simp at e
    subst e
    exact bounds_u32 hw
  obtain ⟨x_1, rfl⟩ := Int.eq_ofNat_of_zero_le hb_1.1
  have hx_1 : x_1 ≤ 4294967295 := by omega
  have t2 := h2
  have lt2 : ∀ x ∈ p2, x.block < W.heap.size := by obtain ⟨m, hm⟩ := t2; exact DataW.trod_lt m _ _ _ hm
  obtain ⟨n_2, rfl⟩ := okWide_int Try.underlying24 (hval 2 24 v2 rfl rfl)
  have hb_2 : 0 ≤ n_2 ∧ n_2 ≤ 4294967295 := by
    obtain ⟨fuel, hf⟩ := h2
    obtain ⟨m, e, _, hw⟩ := DataW.trod_int Try.underlying24 (by simpa [Value.cells] using hf)
    simp at e
    subst e
    exact bounds_u32 hw
  obtain ⟨x_2, rfl⟩ := Int.eq_ofNat_of_zero_le hb_2.1
  have hx_2 : x_2 ≤ 4294967295 := by omega
  clear hA0 hval0
  refine (walk n_0 x_1 x_2 W hn0_0 hn1_0 hx_1 hx_2).mono fun e W' ⟨he, bel⟩ => ?_
  subst he
  exact ⟨_, rfl, _, _, _, [], _, [], hW', trodAll_mk1 (shut_bool Try.underlying4 _), (trodAll_cons_mk (Below.trod laidOut (by kernel_rfl) (of_decide_eq_true (by kernel_rfl)) t0 bel lt0) (trodAll_cons_mk (Below.trod laidOut (by kernel_rfl) (of_decide_eq_true (by kernel_rfl)) t1 bel lt1) (trodAll_cons_mk (Below.trod laidOut (by kernel_rfl) (of_decide_eq_true (by kernel_rfl)) t2 bel lt2) trodAll_mk0))), rfl, bel.frame _, fun h => by cases h⟩

theorem over : Rows.neighManyRow.holds Try.pinned (OpenSpec.ofChange Rows.neighManySpec) :=
  OpenClaim.holds_of_wide 4 Try.f4 rfl rfl rfl rfl rfl rfl rfl ⟨rfl, rfl, rfl, rfl, rfl⟩ rfl rfl rfl rfl rfl (by kernel_rfl) Try.func4 (by kernel_rfl)
    (of_decide_eq_true (by kernel_rfl)) (by unfold Func.isWrapper; first | (rw [if_pos (by decide +kernel)]; kernel_rfl) | (rw [if_neg (by decide +kernel)]; exact ⟨rfl, rfl⟩))
    (fun os started H enc _ => lifted os started H enc)

/-- ████ THE STATEMENT ████ -/
theorem proved : Rows.NeighManySaid := over
#print axioms proved
end Go.Proofs.Ytbibobjkclgogaa.neighMany
