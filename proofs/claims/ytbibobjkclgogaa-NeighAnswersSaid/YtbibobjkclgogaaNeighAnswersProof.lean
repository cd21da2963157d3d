/- For any configuration and any ARP packet: who asks for the gateway is answered and known from then on, who asks for another is not answered, who is no host is not known. Conditions: those of the row. -/
import Derived.Test.YtbibobjkclgogaaRows
import Derived.Test.YtbibobjkclgogaaNAns
import Derived.Test.YtbibobjkclgogaaArpOpen
import Derived.WalkKit
import Derived.ProofKit
import Derived.OpenShut
import Derived.ShutString
import Derived.ChangeOld
import Derived.Below
namespace Go.Proofs.Ytbibobjkclgogaa.neighAnswers
open Go.ChangeShapes Go.WideShapes Go.ChangeAt Go.RowKit
open Go.ChangeMaps (open_string shut_string)
set_option linter.unusedVariables false

theorem own : ownKnob Try.prog.godebug = none := by kernel_rfl
theorem laidOut : laidOutB Try.prog = true := by kernel_rfl

theorem walk (c_0 : Cfg) (a_0 : Option Addr) (n_0 cap_0 : Nat) (fs_0 : List Fwd) (o_1 : Nat) (d_1 s_1 : Nat → UInt8) (x_1 y_1 : Nat) (w : World) (hc_0 : CfOk c_0) (hl_0 : fs_0.length = n_0) (hw_0 : FwAt w a_0 fs_0) (hf_0 : ∀ f ∈ fs_0, FwOk f) (hn_0 : n_0 ≤ 9223372036854775807) (hm_0 : n_0 ≤ cap_0) (ho_1 : o_1 ≤ 65535) (hx_1 : x_1 ≤ 4294967295) (hy_1 : y_1 ≤ 4294967295) :
    Calls Try.prog 5 #[.agg (c_0.cells a_0 n_0 cap_0), .agg #[.int .u16 (o_1 : Int), .int .u8 ((d_1 0).toNat : Int), .int .u8 ((d_1 1).toNat : Int), .int .u8 ((d_1 2).toNat : Int), .int .u8 ((d_1 3).toNat : Int), .int .u8 ((d_1 4).toNat : Int), .int .u8 ((d_1 5).toNat : Int), .int .u8 ((s_1 0).toNat : Int), .int .u8 ((s_1 1).toNat : Int), .int .u8 ((s_1 2).toNat : Int), .int .u8 ((s_1 3).toNat : Int), .int .u8 ((s_1 4).toNat : Int), .int .u8 ((s_1 5).toNat : Int), .int .u32 (x_1 : Int), .int .u32 (y_1 : Int)]] w fun e w' => e = .returned (.bool true) ∧ Below w.heap.size w w' := by
  exact neighAnswers_any (c_0.cells a_0 n_0 cap_0) c_0 a_0 n_0 cap_0 fs_0 (fun i => ((c_0.m0 i).toNat : Int)) ⟨(o_1 : Int), (d_1 0).toNat, ((d_1 1).toNat : Int), ((d_1 2).toNat : Int), ((d_1 3).toNat : Int), ((d_1 4).toNat : Int), ((d_1 5).toNat : Int), ((s_1 0).toNat : Int), ((s_1 1).toNat : Int), ((s_1 2).toNat : Int), ((s_1 3).toNat : Int), ((s_1 4).toNat : Int), ((s_1 5).toNat : Int), x_1, y_1⟩ w (c_0.cfA a_0 n_0 cap_0) ⟨⟨rfl, rfl, rfl⟩, rfl, rfl, rfl, rfl, rfl, rfl⟩ hc_0 hw_0 hl_0 hf_0 hn_0 hm_0 ⟨by have := (d_1 0).toNat_lt; show (d_1 0).toNat ≤ 255; omega, hx_1, hy_1⟩

set_option maxRecDepth 100000 in
theorem lifted (os : Os) (started : os.Started) (H : Type) (enc : TypeId × Value → H) :
    ReturnsInHanded {} Try.checked os 5 .any (Rows.neighAnswersSpec.pre6 enc Try.prog Try.f5 Rows.neighAnswersRow.domain false) (Rows.neighAnswersSpec.post enc Try.prog Try.f5 false true false false) := by
  refine returnsInHanded_of_change (C := Try.checked) own started (by kernel_rfl) Try.func5
    (ChangeSpec.witness6 (enc := enc) (C := Try.checked) false ⟨#[], #[.agg #[.int .u8 0, .int .u8 0, .int .u8 0, .int .u8 0, .int .u8 0, .int .u8 0, .int .u8 0, .int .u8 0, .int .u8 0, .int .u8 0, .int .u8 0, .int .u8 0, .int .u8 0, .int .u8 0, .int .u8 0, .int .u8 0, .int .u8 0, .int .u8 0, .int .u32 0, .int .u32 0, .int .i64 0, .int .i64 0, .int .i64 0, .int .i64 0, .int .i64 0, .slice none 0 0, .int .u32 0, .string ⟨#[]⟩], .agg #[.int .u16 0, .int .u8 0, .int .u8 0, .int .u8 0, .int .u8 0, .int .u8 0, .int .u8 0, .int .u8 0, .int .u8 0, .int .u8 0, .int .u8 0, .int .u8 0, .int .u8 0, .int .u32 0, .int .u32 0]], []⟩ 8 (by kernel_rfl) (by kernel_rfl) (by kernel_rfl) (by kernel_rfl)) ?_
  intro W base args ds gs before hval0 hW hcnd _
  have hval : ∀ (j : Nat) t v, Try.f5.params[j]? = some t → args[j]? = some v → Value.okWide Try.prog W .any base t v := hval0
  have hW' := hW
  obtain ⟨p, q, hA0, hV, rfl, hfz, hnd⟩ := hW
  have hA : DataW.TrodAll enc Try.prog W 0 (fun _ => true) true Try.f5.params.toList args.toList ds p := hA0
  rw [Try.params5] at hA hval
  obtain ⟨v0, vs0, e0, ds0, p0, q0, hargs, rfl, rfl, h0, r0⟩ := trodAll_cons hA
  obtain ⟨v1, vs1, e1, ds1, p1, q1, rfl, rfl, rfl, h1, r1⟩ := trodAll_cons r0
  obtain ⟨rfl, rfl, rfl⟩ := trodAll_nil r1
  obtain rfl : args = #[v0, v1] := by cases args; simp_all
  obtain ⟨rfl, rfl⟩ := trodVars_none hV
  have t0 := h0
  have lt0 : ∀ x ∈ p0, x.block < W.heap.size := by obtain ⟨m, hm⟩ := t0; exact DataW.trod_lt m _ _ _ hm
  obtain ⟨c_0, a_0, n_0, cap_0, fs_0, rfl, hc_0, hl_0, hw_0, hf_0, hn_0, hm_0⟩ := open_cfg (hval 0 28 v0 rfl rfl) h0
  have t1 := h1
  have lt1 : ∀ x ∈ p1, x.block < W.heap.size := by obtain ⟨m, hm⟩ := t1; exact DataW.trod_lt m _ _ _ hm
  obtain ⟨o_1, d_1, s_1, x_1, y_1, rfl, ho_1, hx_1, hy_1⟩ := open_arp (hval 1 41 v1 rfl rfl) h1
  clear hA0 hval0
  refine (walk c_0 a_0 n_0 cap_0 fs_0 o_1 d_1 s_1 x_1 y_1 W hc_0 hl_0 hw_0 hf_0 hn_0 hm_0 ho_1 hx_1 hy_1).mono fun e W' ⟨he, bel⟩ => ?_
  subst he
  exact ⟨_, rfl, _, _, _, [], _, [], hW', trodAll_mk1 (shut_bool Try.underlying4 _), (trodAll_cons_mk (Below.trod laidOut (by kernel_rfl) (of_decide_eq_true (by kernel_rfl)) t0 bel lt0) (trodAll_cons_mk (Below.trod laidOut (by kernel_rfl) (of_decide_eq_true (by kernel_rfl)) t1 bel lt1) trodAll_mk0)), rfl, bel.frame _, fun h => by cases h⟩

theorem over : Rows.neighAnswersRow.holds Try.pinned (OpenSpec.ofChange Rows.neighAnswersSpec) :=
  OpenClaim.holds_of_wide 5 Try.f5 rfl rfl rfl rfl rfl rfl rfl ⟨rfl, rfl, rfl, rfl, rfl⟩ rfl rfl rfl rfl rfl (by kernel_rfl) Try.func5 (by kernel_rfl)
    (of_decide_eq_true (by kernel_rfl)) (by unfold Func.isWrapper; first | (rw [if_pos (by decide +kernel)]; kernel_rfl) | (rw [if_neg (by decide +kernel)]; exact ⟨rfl, rfl⟩))
    (fun os started H enc _ => lifted os started H enc)

/-- ████ THE STATEMENT ████ -/
theorem proved : Rows.NeighAnswersSaid := over
#print axioms proved
end Go.Proofs.Ytbibobjkclgogaa.neighAnswers
