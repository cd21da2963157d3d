/- For every address, packet and code the law of where an error goes that is told of a packet answers true, and leaves its arguments as they were; no condition. -/
import Derived.Test.YtgggcapgaikbeaaRows
import Derived.Test.YtgggcapgaikbeaaPk23
import Derived.Test.YtgggcapgaikbeaaPk21
import Derived.WalkKit
import Derived.ProofKit
import Derived.OpenShut
import Derived.ShutString
import Derived.ChangeOld
import Derived.Below
namespace Go.Proofs.Ytgggcapgaikbeaa.icmpGoes
open Go.ChangeShapes Go.WideShapes Go.ChangeAt Go.RowKit
open Go.ChangeMaps (open_string shut_string)
set_option linter.unusedVariables false

theorem own : ownKnob Try.prog.godebug = none := by kernel_rfl
theorem laidOut : laidOutB Try.prog = true := by kernel_rfl

theorem walk (x_0 : Nat) (x0_1 x1_1 x2_1 x3_1 x4_1 : Nat) (a5_1 : Option Addr) (len5_1 cap5_1 : Nat) (z5_1 : List Int) (x_2 : Nat) (w : World) (hx_0 : x_0 ≤ 4294967295) (hx0_1 : x0_1 ≤ 255) (hx1_1 : x1_1 ≤ 255) (hx2_1 : x2_1 ≤ 65535) (hx3_1 : x3_1 ≤ 4294967295) (hx4_1 : x4_1 ≤ 4294967295) (w5_1 : IsRow .u8 w a5_1 len5_1 cap5_1 z5_1) (hx_2 : x_2 ≤ 255) :
    Calls Try.prog 7 #[.int .u32 (x_0 : Int), .agg #[.int .u8 (x0_1 : Int), .int .u8 (x1_1 : Int), .int .u16 (x2_1 : Int), .int .u32 (x3_1 : Int), .int .u32 (x4_1 : Int), .slice a5_1 len5_1 cap5_1], .int .u8 (x_2 : Int)] w fun e w' => e = .returned (.bool true) ∧ Below w.heap.size w w' := by
  obtain ⟨xs, hl, hr, hw⟩ := w5_1.row
  have hle : len5_1 ≤ cap5_1 ∧ cap5_1 ≤ 9223372036854775807 := by
    rcases w5_1 with ⟨rfl, rfl, rfl, rfl⟩ | ⟨x, rfl, h1, h2, _⟩
    · exact ⟨Nat.le_refl _, by omega⟩
    · exact ⟨h1, by unfold maxLen at h2; omega⟩
  exact icmpGoes_any w x_0 x_2 x0_1 x1_1 x2_1 x3_1 x4_1 a5_1 xs len5_1 cap5_1 ⟨hr, w5_1.row2.1, hle.1, hle.2⟩ hl (wf_u8 hw) hx0_1 hx1_1 hx2_1 hx3_1 hx4_1 hx_2 hx_0

set_option maxRecDepth 100000 in
theorem lifted (os : Os) (started : os.Started) (H : Type) (enc : TypeId × Value → H) :
    ReturnsInHanded {} Try.checked os 7 .any (Rows.icmpGoesSpec.pre6 enc Try.prog Try.f7 Rows.icmpGoesRow.domain false) (Rows.icmpGoesSpec.post enc Try.prog Try.f7 false true false false) := by
  refine returnsInHanded_of_change (C := Try.checked) own started (by kernel_rfl) Try.func7
    (ChangeSpec.witness6 (enc := enc) (C := Try.checked) false ⟨#[], #[.int .u32 0, .agg #[.int .u8 0, .int .u8 0, .int .u16 0, .int .u32 0, .int .u32 0, .slice none 0 0], .int .u8 0], []⟩ 8 (by kernel_rfl) (by kernel_rfl) (by kernel_rfl) (by kernel_rfl)) ?_
  intro W base args ds gs before hval0 hW hcnd _
  have hval : ∀ (j : Nat) t v, Try.f7.params[j]? = some t → args[j]? = some v → Value.okWide Try.prog W .any base t v := hval0
  have hW' := hW
  obtain ⟨p, q, hA0, hV, rfl, hfz, hnd⟩ := hW
  have hA : DataW.TrodAll enc Try.prog W 0 (fun _ => true) true Try.f7.params.toList args.toList ds p := hA0
  rw [Try.params7] at hA hval
  obtain ⟨v0, vs0, e0, ds0, p0, q0, hargs, rfl, rfl, h0, r0⟩ := trodAll_cons hA
  obtain ⟨v1, vs1, e1, ds1, p1, q1, rfl, rfl, rfl, h1, r1⟩ := trodAll_cons r0
  obtain ⟨v2, vs2, e2, ds2, p2, q2, rfl, rfl, rfl, h2, r2⟩ := trodAll_cons r1
  obtain ⟨rfl, rfl, rfl⟩ := trodAll_nil r2
  obtain rfl : args = #[v0, v1, v2] := by cases args; simp_all
  obtain ⟨rfl, rfl⟩ := trodVars_none hV
  have t0 := h0
  have lt0 : ∀ x ∈ p0, x.block < W.heap.size := by obtain ⟨m, hm⟩ := t0; exact DataW.trod_lt m _ _ _ hm
  obtain ⟨n_0, rfl⟩ := okWide_int Try.underlying24 (hval 0 24 v0 rfl rfl)
  have hb_0 : 0 ≤ n_0 ∧ n_0 ≤ 4294967295 := by
    obtain ⟨fuel, hf⟩ := h0
    obtain ⟨m, e, _, hw⟩ := DataW.trod_int Try.underlying24 (by simpa [Value.cells] using hf)
    simp at e
    subst e
    exact bounds_u32 hw
  obtain ⟨x_0, rfl⟩ := Int.eq_ofNat_of_zero_le hb_0.1
  have hx_0 : x_0 ≤ 4294967295 := by omega
  have t1 := h1
  have lt1 : ∀ x ∈ p1, x.block < W.heap.size := by obtain ⟨m, hm⟩ := t1; exact DataW.trod_lt m _ _ _ hm
  obtain ⟨x0_1, x1_1, x2_1, x3_1, x4_1, a5_1, len5_1, cap5_1, z5_1, rfl, hx0_1, hx1_1, hx2_1, hx3_1, hx4_1, w5_1⟩ := open_packet (hval 1 27 v1 rfl rfl) h1
  have t2 := h2
  have lt2 : ∀ x ∈ p2, x.block < W.heap.size := by obtain ⟨m, hm⟩ := t2; exact DataW.trod_lt m _ _ _ hm
  obtain ⟨n_2, rfl⟩ := okWide_int Try.underlying5 (hval 2 5 v2 rfl rfl)
  have hb_2 : 0 ≤ n_2 ∧ n_2 ≤ 255 := by
    obtain ⟨fuel, hf⟩ := h2
    obtain ⟨m, e, _, hw⟩ := DataW.trod_int Try.underlying5 (by simpa [Value.cells] using hf)
    simp at e
    subst e
    exact bounds_u8 hw
  obtain ⟨x_2, rfl⟩ := Int.eq_ofNat_of_zero_le hb_2.1
  have hx_2 : x_2 ≤ 255 := by omega
  clear hA0 hval0
  refine (walk x_0 x0_1 x1_1 x2_1 x3_1 x4_1 a5_1 len5_1 cap5_1 z5_1 x_2 W hx_0 hx0_1 hx1_1 hx2_1 hx3_1 hx4_1 w5_1 hx_2).mono fun e W' ⟨he, bel⟩ => ?_
  subst he
  exact ⟨_, rfl, _, _, _, [], _, [], hW', trodAll_mk1 (shut_bool Try.underlying4 _), (trodAll_cons_mk (Below.trod laidOut (by kernel_rfl) (of_decide_eq_true (by kernel_rfl)) t0 bel lt0) (trodAll_cons_mk (Below.trod laidOut (by kernel_rfl) (of_decide_eq_true (by kernel_rfl)) t1 bel lt1) (trodAll_cons_mk (Below.trod laidOut (by kernel_rfl) (of_decide_eq_true (by kernel_rfl)) t2 bel lt2) trodAll_mk0))), rfl, bel.frame _, fun h => by cases h⟩

theorem over : Rows.icmpGoesRow.holds Try.pinned (OpenSpec.ofChange Rows.icmpGoesSpec) :=
  OpenClaim.holds_of_wide 7 Try.f7 rfl rfl rfl rfl rfl rfl rfl ⟨rfl, rfl, rfl, rfl, rfl⟩ rfl rfl rfl rfl rfl (by kernel_rfl) Try.func7 (by kernel_rfl)
    (of_decide_eq_true (by kernel_rfl)) (by unfold Func.isWrapper; first | (rw [if_pos (by decide +kernel)]; kernel_rfl) | (rw [if_neg (by decide +kernel)]; exact ⟨rfl, rfl⟩))
    (fun os started H enc _ => lifted os started H enc)

/-- ████ THE STATEMENT ████ -/
theorem proved : Rows.IcmpGoesSaid := over
#print axioms proved
end Go.Proofs.Ytgggcapgaikbeaa.icmpGoes
