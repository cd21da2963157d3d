/- For every state, every list of segments and every protocol the law that what is seen of a connection, and how long it lasts, is told as the document says, answers true, and leaves its arguments as they were; no condition. -/
import Derived.Test.YtggnbhihajealaaRows
import Derived.Test.YtggnbhihajealaaTrackPlays
import Derived.Test.YtggnbhihajealaaFrame
import Derived.WalkKit
import Derived.ProofKit
import Derived.OpenShut
import Derived.ShutString
import Derived.ChangeOld
import Derived.Below
namespace Go.Proofs.Ytggnbhihajealaa.trackPlays
open Go.ChangeShapes Go.WideShapes Go.ChangeAt Go.RowKit
open Go.ChangeMaps (open_string shut_string)
set_option linter.unusedVariables false

theorem own : ownKnob Try.prog.godebug = none := by kernel_rfl
theorem laidOut : laidOutB Try.prog = true := by kernel_rfl

theorem walk (p_0 q_0 r_0 u_0 v_0 : Bool) (a_1 : Option Addr) (len_1 cap_1 : Nat) (os_1 : List Seen2) (x_2 : Nat) (w : World)  (w_1 : os_1.length = len_1 ∧ SeenAt w a_1 os_1 ∧ len_1 ≤ 9223372036854775807) (hx_2 : x_2 ≤ 255) :
    Calls Try.prog 3 #[.agg #[.bool p_0, .bool q_0, .bool r_0, .bool u_0, .bool v_0], .slice a_1 len_1 cap_1, .int .u8 (x_2 : Int)] w fun e w' => e = .returned (.bool true) ∧ Below w.heap.size w w' := by
  exact trackPlays_any w ⟨p_0, q_0, r_0, u_0, v_0⟩ a_1 os_1 len_1 cap_1 x_2 w_1.2.1 w_1.1 w_1.2.2 (by omega)

set_option maxRecDepth 100000 in
theorem lifted (os : Os) (started : os.Started) (H : Type) (enc : TypeId × Value → H) :
    ReturnsInHanded {} Try.checked os 3 .any (Rows.trackPlaysSpec.pre6 enc Try.prog Try.f3 Rows.trackPlaysRow.domain false) (Rows.trackPlaysSpec.post enc Try.prog Try.f3 false true false false) := by
  refine returnsInHanded_of_change (C := Try.checked) own started (by kernel_rfl) Try.func3
    (ChangeSpec.witness6 (enc := enc) (C := Try.checked) false ⟨#[], #[.agg #[.bool false, .bool false, .bool false, .bool false, .bool false], .slice none 0 0, .int .u8 0], []⟩ 8 (by kernel_rfl) (by kernel_rfl) (by kernel_rfl) (by kernel_rfl)) ?_
  intro W base args ds gs before hval0 hW hcnd _
  have hval : ∀ (j : Nat) t v, Try.f3.params[j]? = some t → args[j]? = some v → Value.okWide Try.prog W .any base t v := hval0
  have hW' := hW
  obtain ⟨p, q, hA0, hV, rfl, hfz, hnd⟩ := hW
  have hA : DataW.TrodAll enc Try.prog W 0 (fun _ => true) true Try.f3.params.toList args.toList ds p := hA0
  rw [Try.params3] at hA hval
  obtain ⟨v0, vs0, e0, ds0, p0, q0, hargs, rfl, rfl, h0, r0⟩ := trodAll_cons hA
  obtain ⟨v1, vs1, e1, ds1, p1, q1, rfl, rfl, rfl, h1, r1⟩ := trodAll_cons r0
  obtain ⟨v2, vs2, e2, ds2, p2, q2, rfl, rfl, rfl, h2, r2⟩ := trodAll_cons r1
  obtain ⟨rfl, rfl, rfl⟩ := trodAll_nil r2
  obtain rfl : args = #[v0, v1, v2] := by cases args; simp_all
  obtain ⟨rfl, rfl⟩ := trodVars_none hV
  have t0 := h0
  have lt0 : ∀ x ∈ p0, x.block < W.heap.size := by obtain ⟨m, hm⟩ := t0; exact DataW.trod_lt m _ _ _ hm
  obtain ⟨p_0, q_0, r_0, u_0, v_0, rfl⟩ := open_state (hval 0 23 v0 rfl rfl) h0
  have t1 := h1
  have lt1 : ∀ x ∈ p1, x.block < W.heap.size := by obtain ⟨m, hm⟩ := t1; exact DataW.trod_lt m _ _ _ hm
  obtain ⟨a_1, len_1, cap_1, rfl⟩ := okWide_slice Try.underlying24 (hval 1 24 v1 rfl rfl)
  obtain ⟨os_1, w_1⟩ : ∃ ops : List Seen2, ops.length = len_1 ∧ SeenAt W a_1 ops ∧ len_1 ≤ 9223372036854775807 := by
    obtain ⟨fuel, hf⟩ := h1
    obtain ⟨a, len, cap, ops, he, g1, g2, g3⟩ := open_seen (by simpa [Value.cells] using hf)
    cases he
    exact ⟨ops, g1, g2, g3⟩
  have t2 := h2
  have lt2 : ∀ x ∈ p2, x.block < W.heap.size := by obtain ⟨m, hm⟩ := t2; exact DataW.trod_lt m _ _ _ hm
  obtain ⟨n_2, rfl⟩ := okWide_int Try.underlying5 (hval 2 5 v2 rfl rfl)
  have hb_2 : 0 ≤ n_2 ∧ n_2 ≤ 255 := by
    obtain ⟨fuel, hf⟩ := h2
    obtain ⟨m, e, _, hw⟩ := DataW.trod_int Try.underlying5 (by simpa [Value.cells] using hf)
    simp at e
    subst e
    exact bounds_u8 hw
  obtain ⟨x_2, rfl⟩ := Int.eq_ofNat_of_zero_le hb_2.1
  have hx_2 : x_2 ≤ 255 := by omega
  clear hA0 hval0
  refine (walk p_0 q_0 r_0 u_0 v_0 a_1 len_1 cap_1 os_1 x_2 W  w_1 hx_2).mono fun e W' ⟨he, bel⟩ => ?_
  subst he
  exact ⟨_, rfl, _, _, _, [], _, [], hW', trodAll_mk1 (shut_bool Try.underlying4 _), (trodAll_cons_mk (Below.trod laidOut (by kernel_rfl) (of_decide_eq_true (by kernel_rfl)) t0 bel lt0) (trodAll_cons_mk (Below.trod laidOut (by kernel_rfl) (of_decide_eq_true (by kernel_rfl)) t1 bel lt1) (trodAll_cons_mk (Below.trod laidOut (by kernel_rfl) (of_decide_eq_true (by kernel_rfl)) t2 bel lt2) trodAll_mk0))), rfl, bel.frame _, fun h => by cases h⟩

theorem over : Rows.trackPlaysRow.holds Try.pinned (OpenSpec.ofChange Rows.trackPlaysSpec) :=
  OpenClaim.holds_of_wide 3 Try.f3 rfl rfl rfl rfl rfl rfl rfl ⟨rfl, rfl, rfl, rfl, rfl⟩ rfl rfl rfl rfl rfl (by kernel_rfl) Try.func3 (by kernel_rfl)
    (of_decide_eq_true (by kernel_rfl)) (by unfold Func.isWrapper; first | (rw [if_pos (by decide +kernel)]; kernel_rfl) | (rw [if_neg (by decide +kernel)]; exact ⟨rfl, rfl⟩))
    (fun os started H enc _ => lifted os started H enc)

/-- ████ THE STATEMENT ████ -/
theorem proved : Rows.TrackPlaysSaid := over
#print axioms proved
end Go.Proofs.Ytggnbhihajealaa.trackPlays
