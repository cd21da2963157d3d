/- For any two frames and any two ARP packets the law that unlike ones have unlike bytes answers true, and leaves its arguments as they were; no condition. -/
import Derived.Test.YtebokkhaenadmaaRows
import Derived.Test.YtebokkhaenadmaaEtherApartB
import Derived.Test.YtebokkhaenadmaaArpOpen
import Derived.WalkKit
import Derived.ProofKit
import Derived.OpenShut
import Derived.ShutString
import Derived.ChangeOld
import Derived.Below
namespace Go.Proofs.Ytebokkhaenadmaa.etherApart
open Go.ChangeShapes Go.WideShapes Go.ChangeAt Go.RowKit
open Go.ChangeMaps (open_string shut_string)
set_option linter.unusedVariables false

theorem own : ownKnob Try.prog.godebug = none := by kernel_rfl
theorem laidOut : laidOutB Try.prog = true := by kernel_rfl

theorem walk (d0 s0 : Nat → UInt8) (k0 : Nat) (a0 : Option Addr) (len0 cap0 : Nat) (z0 : List Int) (d1 s1 : Nat → UInt8) (k1 : Nat) (a1 : Option Addr) (len1 cap1 : Nat) (z1 : List Int) (o2 : Nat) (d2 s2 : Nat → UInt8) (x2 y2 : Nat) (o3 : Nat) (d3 s3 : Nat → UInt8) (x3 y3 : Nat) (w : World) (hk0 : k0 ≤ 65535) (w0 : IsRow .u8 w a0 len0 cap0 z0) (hk1 : k1 ≤ 65535) (w1 : IsRow .u8 w a1 len1 cap1 z1) (ho2 : o2 ≤ 65535) (hx2 : x2 ≤ 4294967295) (hy2 : y2 ≤ 4294967295) (ho3 : o3 ≤ 65535) (hx3 : x3 ≤ 4294967295) (hy3 : y3 ≤ 4294967295) :
    Calls Try.prog 7 #[.agg #[.int .u8 ((d0 0).toNat : Int), .int .u8 ((d0 1).toNat : Int), .int .u8 ((d0 2).toNat : Int), .int .u8 ((d0 3).toNat : Int), .int .u8 ((d0 4).toNat : Int), .int .u8 ((d0 5).toNat : Int), .int .u8 ((s0 0).toNat : Int), .int .u8 ((s0 1).toNat : Int), .int .u8 ((s0 2).toNat : Int), .int .u8 ((s0 3).toNat : Int), .int .u8 ((s0 4).toNat : Int), .int .u8 ((s0 5).toNat : Int), .int .u16 (k0 : Int), .slice a0 len0 cap0], .agg #[.int .u8 ((d1 0).toNat : Int), .int .u8 ((d1 1).toNat : Int), .int .u8 ((d1 2).toNat : Int), .int .u8 ((d1 3).toNat : Int), .int .u8 ((d1 4).toNat : Int), .int .u8 ((d1 5).toNat : Int), .int .u8 ((s1 0).toNat : Int), .int .u8 ((s1 1).toNat : Int), .int .u8 ((s1 2).toNat : Int), .int .u8 ((s1 3).toNat : Int), .int .u8 ((s1 4).toNat : Int), .int .u8 ((s1 5).toNat : Int), .int .u16 (k1 : Int), .slice a1 len1 cap1], .agg #[.int .u16 (o2 : Int), .int .u8 ((d2 0).toNat : Int), .int .u8 ((d2 1).toNat : Int), .int .u8 ((d2 2).toNat : Int), .int .u8 ((d2 3).toNat : Int), .int .u8 ((d2 4).toNat : Int), .int .u8 ((d2 5).toNat : Int), .int .u8 ((s2 0).toNat : Int), .int .u8 ((s2 1).toNat : Int), .int .u8 ((s2 2).toNat : Int), .int .u8 ((s2 3).toNat : Int), .int .u8 ((s2 4).toNat : Int), .int .u8 ((s2 5).toNat : Int), .int .u32 (x2 : Int), .int .u32 (y2 : Int)], .agg #[.int .u16 (o3 : Int), .int .u8 ((d3 0).toNat : Int), .int .u8 ((d3 1).toNat : Int), .int .u8 ((d3 2).toNat : Int), .int .u8 ((d3 3).toNat : Int), .int .u8 ((d3 4).toNat : Int), .int .u8 ((d3 5).toNat : Int), .int .u8 ((s3 0).toNat : Int), .int .u8 ((s3 1).toNat : Int), .int .u8 ((s3 2).toNat : Int), .int .u8 ((s3 3).toNat : Int), .int .u8 ((s3 4).toNat : Int), .int .u8 ((s3 5).toNat : Int), .int .u32 (x3 : Int), .int .u32 (y3 : Int)]] w fun e w' => e = .returned (.bool true) ∧ Below w.heap.size w w' := by
  obtain ⟨xs, hl0, hr0, hw0⟩ := w0.row
  obtain ⟨ys, hl1, hr1, hw1⟩ := w1.row
  exact etherApart_any w d0 s0 k0 a0 xs len0 cap0 d1 s1 k1 a1 ys len1 cap1 o2 d2 s2 x2 y2 o3 d3 s3 x3 y3 hr0 (wf_u8 hw0) w0.row2.1 hl0 hk0 hr1 (wf_u8 hw1) w1.row2.1 hl1 hk1 ho2 hx2 hy2 ho3 hx3 hy3

set_option maxRecDepth 100000 in
theorem lifted (os : Os) (started : os.Started) (H : Type) (enc : TypeId × Value → H) :
    ReturnsInHanded {} Try.checked os 7 .any (Rows.etherApartSpec.pre6 enc Try.prog Try.f7 Rows.etherApartRow.domain false) (Rows.etherApartSpec.post enc Try.prog Try.f7 false true false false) := by
  refine returnsInHanded_of_change (C := Try.checked) own started (by kernel_rfl) Try.func7
    (ChangeSpec.witness6 (enc := enc) (C := Try.checked) false ⟨#[], #[.agg #[.int .u8 0, .int .u8 0, .int .u8 0, .int .u8 0, .int .u8 0, .int .u8 0, .int .u8 0, .int .u8 0, .int .u8 0, .int .u8 0, .int .u8 0, .int .u8 0, .int .u16 0, .slice none 0 0], .agg #[.int .u8 0, .int .u8 0, .int .u8 0, .int .u8 0, .int .u8 0, .int .u8 0, .int .u8 0, .int .u8 0, .int .u8 0, .int .u8 0, .int .u8 0, .int .u8 0, .int .u16 0, .slice none 0 0], .agg #[.int .u16 0, .int .u8 0, .int .u8 0, .int .u8 0, .int .u8 0, .int .u8 0, .int .u8 0, .int .u8 0, .int .u8 0, .int .u8 0, .int .u8 0, .int .u8 0, .int .u8 0, .int .u32 0, .int .u32 0], .agg #[.int .u16 0, .int .u8 0, .int .u8 0, .int .u8 0, .int .u8 0, .int .u8 0, .int .u8 0, .int .u8 0, .int .u8 0, .int .u8 0, .int .u8 0, .int .u8 0, .int .u8 0, .int .u32 0, .int .u32 0]], []⟩ 8 (by kernel_rfl) (by kernel_rfl) (by kernel_rfl) (by kernel_rfl)) ?_
  intro W base args ds gs before hval0 hW hcnd _
  have hval : ∀ (j : Nat) t v, Try.f7.params[j]? = some t → args[j]? = some v → Value.okWide Try.prog W .any base t v := hval0
  have hW' := hW
  obtain ⟨p, q, hA0, hV, rfl, hfz, hnd⟩ := hW
  have hA : DataW.TrodAll enc Try.prog W 0 (fun _ => true) true Try.f7.params.toList args.toList ds p := hA0
  rw [Try.params7] at hA hval
  obtain ⟨v0, vs0, e0, ds0, p0, q0, hargs, rfl, rfl, h0, r0⟩ := trodAll_cons hA
  obtain ⟨v1, vs1, e1, ds1, p1, q1, rfl, rfl, rfl, h1, r1⟩ := trodAll_cons r0
  obtain ⟨v2, vs2, e2, ds2, p2, q2, rfl, rfl, rfl, h2, r2⟩ := trodAll_cons r1
  obtain ⟨v3, vs3, e3, ds3, p3, q3, rfl, rfl, rfl, h3, r3⟩ := trodAll_cons r2
  obtain ⟨rfl, rfl, rfl⟩ := trodAll_nil r3
  obtain rfl : args = #[v0, v1, v2, v3] := by cases args; simp_all
  obtain ⟨rfl, rfl⟩ := trodVars_none hV
  have t0 := h0
  have lt0 : ∀ x ∈ p0, x.block < W.heap.size := by obtain ⟨m, hm⟩ := t0; exact DataW.trod_lt m _ _ _ hm
  obtain ⟨d0, s0, k0, a0, len0, cap0, z0, rfl, hk0, w0⟩ := open_frame (hval 0 29 v0 rfl rfl) h0
  have t1 := h1
  have lt1 : ∀ x ∈ p1, x.block < W.heap.size := by obtain ⟨m, hm⟩ := t1; exact DataW.trod_lt m _ _ _ hm
  obtain ⟨d1, s1, k1, a1, len1, cap1, z1, rfl, hk1, w1⟩ := open_frame (hval 1 29 v1 rfl rfl) h1
  have t2 := h2
  have lt2 : ∀ x ∈ p2, x.block < W.heap.size := by obtain ⟨m, hm⟩ := t2; exact DataW.trod_lt m _ _ _ hm
  obtain ⟨o2, d2, s2, x2, y2, rfl, ho2, hx2, hy2⟩ := open_arp (hval 2 45 v2 rfl rfl) h2
  have t3 := h3
  have lt3 : ∀ x ∈ p3, x.block < W.heap.size := by obtain ⟨m, hm⟩ := t3; exact DataW.trod_lt m _ _ _ hm
  obtain ⟨o3, d3, s3, x3, y3, rfl, ho3, hx3, hy3⟩ := open_arp (hval 3 45 v3 rfl rfl) h3
  clear hA0 hval0
  refine (walk d0 s0 k0 a0 len0 cap0 z0 d1 s1 k1 a1 len1 cap1 z1 o2 d2 s2 x2 y2 o3 d3 s3 x3 y3 W hk0 w0 hk1 w1 ho2 hx2 hy2 ho3 hx3 hy3).mono fun e W' ⟨he, bel⟩ => ?_
  subst he
  exact ⟨_, rfl, _, _, _, [], _, [], hW', trodAll_mk1 (shut_bool Try.underlying4 _), (trodAll_cons_mk (Below.trod laidOut (by kernel_rfl) (of_decide_eq_true (by kernel_rfl)) t0 bel lt0) (trodAll_cons_mk (Below.trod laidOut (by kernel_rfl) (of_decide_eq_true (by kernel_rfl)) t1 bel lt1) (trodAll_cons_mk (Below.trod laidOut (by kernel_rfl) (of_decide_eq_true (by kernel_rfl)) t2 bel lt2) (trodAll_cons_mk (Below.trod laidOut (by kernel_rfl) (of_decide_eq_true (by kernel_rfl)) t3 bel lt3) trodAll_mk0)))), rfl, bel.frame _, fun h => by cases h⟩

theorem over : Rows.etherApartRow.holds Try.pinned (OpenSpec.ofChange Rows.etherApartSpec) :=
  OpenClaim.holds_of_wide 7 Try.f7 rfl rfl rfl rfl rfl rfl rfl ⟨rfl, rfl, rfl, rfl, rfl⟩ rfl rfl rfl rfl rfl (by kernel_rfl) Try.func7 (by kernel_rfl)
    (of_decide_eq_true (by kernel_rfl)) (by unfold Func.isWrapper; first | (rw [if_pos (by decide +kernel)]; kernel_rfl) | (rw [if_neg (by decide +kernel)]; exact ⟨rfl, rfl⟩))
    (fun os started H enc _ => lifted os started H enc)

/-- ████ THE STATEMENT ████ -/
theorem proved : Rows.EtherApartSaid := over
#print axioms proved
end Go.Proofs.Ytebokkhaenadmaa.etherApart
