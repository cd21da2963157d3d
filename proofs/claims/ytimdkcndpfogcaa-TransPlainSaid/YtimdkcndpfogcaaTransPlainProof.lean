/- For every datagram and every two pairs of addresses the law that a datagram is read between which addresses answers true, and leaves its arguments as they were; no condition. -/
import Derived.Test.YtimdkcndpfogcaaRows
import Derived.Test.YtimdkcndpfogcaaTransPlain
import Derived.Test.YtimdkcndpfogcaaTOpen
import Derived.WalkKit
import Derived.ProofKit
import Derived.OpenShut
import Derived.ShutString
import Derived.ChangeOld
import Derived.Below
namespace Go.Proofs.Ytimdkcndpfogcaa.transPlain
open Go.ChangeShapes Go.WideShapes Go.ChangeAt Go.RowKit
open Go.ChangeMaps (open_string shut_string)
set_option linter.unusedVariables false

theorem own : ownKnob Try.prog.godebug = none := by kernel_rfl
theorem laidOut : laidOutB Try.prog = true := by kernel_rfl

theorem walk (p_0 q_0 : Nat) (b_0 : Bool) (a_0 : Option Addr) (len_0 cap_0 : Nat) (z_0 : List Int) (x_1 y_1 : Nat) (x_2 y_2 : Nat) (w : World) (hp_0 : p_0 ≤ 65535) (hq_0 : q_0 ≤ 65535) (w_0 : IsRow .u8 w a_0 len_0 cap_0 z_0) (hx_1 : x_1 ≤ 4294967295) (hy_1 : y_1 ≤ 4294967295) (hx_2 : x_2 ≤ 4294967295) (hy_2 : y_2 ≤ 4294967295) :
    Calls Try.prog 8 #[.agg #[.int .u16 (p_0 : Int), .int .u16 (q_0 : Int), .bool b_0, .slice a_0 len_0 cap_0], .agg #[.int .u32 (x_1 : Int), .int .u32 (y_1 : Int)], .agg #[.int .u32 (x_2 : Int), .int .u32 (y_2 : Int)]] w fun e w' => e = .returned (.bool true) ∧ Below w.heap.size w w' := by
  obtain ⟨xs, hl, hr, hw⟩ := w_0.row
  exact transPlain_any w p_0 q_0 b_0 a_0 xs len_0 cap_0 x_1 y_1 x_2 y_2 hr w_0.row2.1 hl (wf_u8 hw) hp_0 hq_0 hx_1 hy_1 hx_2 hy_2 w_0.row2.2

set_option maxRecDepth 100000 in
theorem lifted (os : Os) (started : os.Started) (H : Type) (enc : TypeId × Value → H) :
    ReturnsInHanded {} Try.checked os 8 .any (Rows.transPlainSpec.pre6 enc Try.prog Try.f8 Rows.transPlainRow.domain false) (Rows.transPlainSpec.post enc Try.prog Try.f8 false true false false) := by
  refine returnsInHanded_of_change (C := Try.checked) own started (by kernel_rfl) Try.func8
    (ChangeSpec.witness6 (enc := enc) (C := Try.checked) false ⟨#[], #[.agg #[.int .u16 0, .int .u16 0, .bool false, .slice none 0 0], .agg #[.int .u32 0, .int .u32 0], .agg #[.int .u32 0, .int .u32 0]], []⟩ 8 (by kernel_rfl) (by kernel_rfl) (by kernel_rfl) (by kernel_rfl)) ?_
  intro W base args ds gs before hval0 hW hcnd _
  have hval : ∀ (j : Nat) t v, Try.f8.params[j]? = some t → args[j]? = some v → Value.okWide Try.prog W .any base t v := hval0
  have hW' := hW
  obtain ⟨p, q, hA0, hV, rfl, hfz, hnd⟩ := hW
  have hA : DataW.TrodAll enc Try.prog W 0 (fun _ => true) true Try.f8.params.toList args.toList ds p := hA0
  rw [Try.params8] at hA hval
  obtain ⟨v0, vs0, e0, ds0, p0, q0, hargs, rfl, rfl, h0, r0⟩ := trodAll_cons hA
  obtain ⟨v1, vs1, e1, ds1, p1, q1, rfl, rfl, rfl, h1, r1⟩ := trodAll_cons r0
  obtain ⟨v2, vs2, e2, ds2, p2, q2, rfl, rfl, rfl, h2, r2⟩ := trodAll_cons r1
  obtain ⟨rfl, rfl, rfl⟩ := trodAll_nil r2
  obtain rfl : args = #[v0, v1, v2] := by cases args; simp_all
  obtain ⟨rfl, rfl⟩ := trodVars_none hV
  have t0 := h0
  have lt0 : ∀ x ∈ p0, x.block < W.heap.size := by obtain ⟨m, hm⟩ := t0; exact DataW.trod_lt m _ _ _ hm
  obtain ⟨p_0, q_0, b_0, a_0, len_0, cap_0, z_0, rfl, hp_0, hq_0, w_0⟩ := open_dgram (hval 0 40 v0 rfl rfl) h0
  have t1 := h1
  have lt1 : ∀ x ∈ p1, x.block < W.heap.size := by obtain ⟨m, hm⟩ := t1; exact DataW.trod_lt m _ _ _ hm
  obtain ⟨x_1, y_1, rfl, hx_1, hy_1⟩ := open_addrs (hval 1 38 v1 rfl rfl) h1
  have t2 := h2
  have lt2 : ∀ x ∈ p2, x.block < W.heap.size := by obtain ⟨m, hm⟩ := t2; exact DataW.trod_lt m _ _ _ hm
  obtain ⟨x_2, y_2, rfl, hx_2, hy_2⟩ := open_addrs (hval 2 38 v2 rfl rfl) h2
  clear hA0 hval0
  refine (walk p_0 q_0 b_0 a_0 len_0 cap_0 z_0 x_1 y_1 x_2 y_2 W hp_0 hq_0 w_0 hx_1 hy_1 hx_2 hy_2).mono fun e W' ⟨he, bel⟩ => ?_
  subst he
  exact ⟨_, rfl, _, _, _, [], _, [], hW', trodAll_mk1 (shut_bool Try.underlying4 _), (trodAll_cons_mk (Below.trod laidOut (by kernel_rfl) (of_decide_eq_true (by kernel_rfl)) t0 bel lt0) (trodAll_cons_mk (Below.trod laidOut (by kernel_rfl) (of_decide_eq_true (by kernel_rfl)) t1 bel lt1) (trodAll_cons_mk (Below.trod laidOut (by kernel_rfl) (of_decide_eq_true (by kernel_rfl)) t2 bel lt2) trodAll_mk0))), rfl, bel.frame _, fun h => by cases h⟩

theorem over : Rows.transPlainRow.holds Try.pinned (OpenSpec.ofChange Rows.transPlainSpec) :=
  OpenClaim.holds_of_wide 8 Try.f8 rfl rfl rfl rfl rfl rfl rfl ⟨rfl, rfl, rfl, rfl, rfl⟩ rfl rfl rfl rfl rfl (by kernel_rfl) Try.func8 (by kernel_rfl)
    (of_decide_eq_true (by kernel_rfl)) (by unfold Func.isWrapper; first | (rw [if_pos (by decide +kernel)]; kernel_rfl) | (rw [if_neg (by decide +kernel)]; exact ⟨rfl, rfl⟩))
    (fun os started H enc _ => lifted os started H enc)

/-- ████ THE STATEMENT ████ -/
theorem proved : Rows.TransPlainSaid := over
#print axioms proved
end Go.Proofs.Ytimdkcndpfogcaa.transPlain
