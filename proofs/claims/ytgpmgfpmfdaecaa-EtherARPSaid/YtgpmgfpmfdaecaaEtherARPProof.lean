/- For every ARP packet and all bytes the law that the packet is put into bytes, or refused, and bytes are read as one, or refused, as the document says, and that what was put is read, answers true, and leaves its arguments as they were; no condition. -/
import Derived.Test.YtgpmgfpmfdaecaaRows
import Derived.Test.YtgpmgfpmfdaecaaEtherARP
import Derived.Test.YtgpmgfpmfdaecaaArpOpen
import Derived.Test.YtgpmgfpmfdaecaaFrameOpen
import Derived.WalkKit
import Derived.ProofKit
import Derived.OpenShut
import Derived.ShutString
import Derived.ChangeOld
import Derived.Below
namespace Go.Proofs.Ytgpmgfpmfdaecaa.etherARP
open Go.ChangeShapes Go.WideShapes Go.ChangeAt Go.RowKit
open Go.ChangeMaps (open_string shut_string)
set_option linter.unusedVariables false

theorem own : ownKnob Try.prog.godebug = none := by kernel_rfl
theorem laidOut : laidOutB Try.prog = true := by kernel_rfl

theorem walk (o_0 : Nat) (d_0 s_0 : Nat → UInt8) (x_0 y_0 : Nat) (a_1 : Option Addr) (len_1 cap_1 : Nat) (z_1 : List Int) (a_2 : Option Addr) (len_2 cap_2 : Nat) (z_2 : List Int) (w : World) (ho_0 : o_0 ≤ 65535) (hx_0 : x_0 ≤ 4294967295) (hy_0 : y_0 ≤ 4294967295) (w_1 : IsRow .u8 w a_1 len_1 cap_1 z_1) (w_2 : IsRow .u8 w a_2 len_2 cap_2 z_2) :
    Calls Try.prog 4 #[.agg #[.int .u16 (o_0 : Int), .int .u8 ((d_0 0).toNat : Int), .int .u8 ((d_0 1).toNat : Int), .int .u8 ((d_0 2).toNat : Int), .int .u8 ((d_0 3).toNat : Int), .int .u8 ((d_0 4).toNat : Int), .int .u8 ((d_0 5).toNat : Int), .int .u8 ((s_0 0).toNat : Int), .int .u8 ((s_0 1).toNat : Int), .int .u8 ((s_0 2).toNat : Int), .int .u8 ((s_0 3).toNat : Int), .int .u8 ((s_0 4).toNat : Int), .int .u8 ((s_0 5).toNat : Int), .int .u32 (x_0 : Int), .int .u32 (y_0 : Int)], .slice a_1 len_1 cap_1, .slice a_2 len_2 cap_2] w fun e w' => e = .returned (.bool true) ∧ Below w.heap.size w w' := by
  obtain ⟨xs, hl, hr, hw⟩ := w_1.row
  obtain ⟨ms, hlm, hrm, hwm⟩ := w_2.row
  have hle1 : len_1 ≤ cap_1 ∧ cap_1 ≤ 9223372036854775807 := by
    rcases w_1 with ⟨rfl, rfl, rfl, rfl⟩ | ⟨x, rfl, h1, h2, _⟩
    · exact ⟨Nat.le_refl _, by omega⟩
    · exact ⟨h1, by unfold maxLen at h2; omega⟩
  have hle2 : len_2 ≤ cap_2 ∧ cap_2 ≤ 9223372036854775807 := by
    rcases w_2 with ⟨rfl, rfl, rfl, rfl⟩ | ⟨x, rfl, h1, h2, _⟩
    · exact ⟨Nat.le_refl _, by omega⟩
    · exact ⟨h1, by unfold maxLen at h2; omega⟩
  exact etherARP_any w o_0 x_0 y_0 d_0 s_0 a_1 xs len_1 cap_1 a_2 ms len_2 cap_2 ⟨hr, w_1.row2.1, hle1.1, hle1.2⟩ ⟨hrm, w_2.row2.1, hle2.1, hle2.2⟩ hl hlm (wf_u8 hw) (wf_u8 hwm) ho_0 hx_0 hy_0

set_option maxRecDepth 100000 in
theorem lifted (os : Os) (started : os.Started) (H : Type) (enc : TypeId × Value → H) :
    ReturnsInHanded {} Try.checked os 4 .any (Rows.etherARPSpec.pre6 enc Try.prog Try.f4 Rows.etherARPRow.domain false) (Rows.etherARPSpec.post enc Try.prog Try.f4 false true false false) := by
  refine returnsInHanded_of_change (C := Try.checked) own started (by kernel_rfl) Try.func4
    (ChangeSpec.witness6 (enc := enc) (C := Try.checked) false ⟨#[], #[.agg #[.int .u16 0, .int .u8 0, .int .u8 0, .int .u8 0, .int .u8 0, .int .u8 0, .int .u8 0, .int .u8 0, .int .u8 0, .int .u8 0, .int .u8 0, .int .u8 0, .int .u8 0, .int .u32 0, .int .u32 0], .slice none 0 0, .slice none 0 0], []⟩ 8 (by kernel_rfl) (by kernel_rfl) (by kernel_rfl) (by kernel_rfl)) ?_
  intro W base args ds gs before hval0 hW hcnd _
  have hval : ∀ (j : Nat) t v, Try.f4.params[j]? = some t → args[j]? = some v → Value.okWide Try.prog W .any base t v := hval0
  have hW' := hW
  obtain ⟨p, q, hA0, hV, rfl, hfz, hnd⟩ := hW
  have hA : DataW.TrodAll enc Try.prog W 0 (fun _ => true) true Try.f4.params.toList args.toList ds p := hA0
  rw [Try.params4] at hA hval
  obtain ⟨v0, vs0, e0, ds0, p0, q0, hargs, rfl, rfl, h0, r0⟩ := trodAll_cons hA
  obtain ⟨v1, vs1, e1, ds1, p1, q1, rfl, rfl, rfl, h1, r1⟩ := trodAll_cons r0
  obtain ⟨v2, vs2, e2, ds2, p2, q2, rfl, rfl, rfl, h2, r2⟩ := trodAll_cons r1
  obtain ⟨rfl, rfl, rfl⟩ := trodAll_nil r2
  obtain rfl : args = #[v0, v1, v2] := by cases args; simp_all
  obtain ⟨rfl, rfl⟩ := trodVars_none hV
  have t0 := h0
  have lt0 : ∀ x ∈ p0, x.block < W.heap.size := by obtain ⟨m, hm⟩ := t0; exact DataW.trod_lt m _ _ _ hm
  obtain ⟨o_0, d_0, s_0, x_0, y_0, rfl, ho_0, hx_0, hy_0⟩ := open_arp (hval 0 41 v0 rfl rfl) h0
  have t1 := h1
  have lt1 : ∀ x ∈ p1, x.block < W.heap.size := by obtain ⟨m, hm⟩ := t1; exact DataW.trod_lt m _ _ _ hm
  obtain ⟨a_1, len_1, cap_1, rfl⟩ := okWide_slice Try.underlying22 (hval 1 22 v1 rfl rfl)
  obtain ⟨z_1, w_1⟩ : ∃ zs, IsRow .u8 W a_1 len_1 cap_1 zs := by
    obtain ⟨fuel, hf⟩ := h1
    obtain ⟨a, len, cap, zs, he, hr⟩ := open_row (by simpa [Value.cells] using hf)
    cases he
    exact ⟨zs, hr⟩
  have t2 := h2
  have lt2 : ∀ x ∈ p2, x.block < W.heap.size := by obtain ⟨m, hm⟩ := t2; exact DataW.trod_lt m _ _ _ hm
  obtain ⟨a_2, len_2, cap_2, rfl⟩ := okWide_slice Try.underlying22 (hval 2 22 v2 rfl rfl)
  obtain ⟨z_2, w_2⟩ : ∃ zs, IsRow .u8 W a_2 len_2 cap_2 zs := by
    obtain ⟨fuel, hf⟩ := h2
    obtain ⟨a, len, cap, zs, he, hr⟩ := open_row (by simpa [Value.cells] using hf)
    cases he
    exact ⟨zs, hr⟩
  clear hA0 hval0
  refine (walk o_0 d_0 s_0 x_0 y_0 a_1 len_1 cap_1 z_1 a_2 len_2 cap_2 z_2 W ho_0 hx_0 hy_0 w_1 w_2).mono fun e W' ⟨he, bel⟩ => ?_
  subst he
  exact ⟨_, rfl, _, _, _, [], _, [], hW', trodAll_mk1 (shut_bool Try.underlying4 _), (trodAll_cons_mk (Below.trod laidOut (by kernel_rfl) (of_decide_eq_true (by kernel_rfl)) t0 bel lt0) (trodAll_cons_mk (Below.trod laidOut (by kernel_rfl) (of_decide_eq_true (by kernel_rfl)) t1 bel lt1) (trodAll_cons_mk (Below.trod laidOut (by kernel_rfl) (of_decide_eq_true (by kernel_rfl)) t2 bel lt2) trodAll_mk0))), rfl, bel.frame _, fun h => by cases h⟩

theorem over : Rows.etherARPRow.holds Try.pinned (OpenSpec.ofChange Rows.etherARPSpec) :=
  OpenClaim.holds_of_wide 4 Try.f4 rfl rfl rfl rfl rfl rfl rfl ⟨rfl, rfl, rfl, rfl, rfl⟩ rfl rfl rfl rfl rfl (by kernel_rfl) Try.func4 (by kernel_rfl)
    (of_decide_eq_true (by kernel_rfl)) (by unfold Func.isWrapper; first | (rw [if_pos (by decide +kernel)]; kernel_rfl) | (rw [if_neg (by decide +kernel)]; exact ⟨rfl, rfl⟩))
    (fun os started H enc _ => lifted os started H enc)

/-- ████ THE STATEMENT ████ -/
theorem proved : Rows.EtherARPSaid := over
#print axioms proved
end Go.Proofs.Ytgpmgfpmfdaecaa.etherARP
