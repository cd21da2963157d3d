/- What the document's ReadICMP answers. -/
import Derived.Test.YtbacodogklbiaaaRRTcpO
import Derived.Test.YtbacodogklbiaaaSameUI
import Derived.Test.YtbacodogklbiaaaIcmpR
import Derived.Deep.RegionHeld3
namespace Go.Proofs.Ytbacodogklbiaaa
open Go.RowKit
set_option linter.unusedVariables false
set_option linter.unusedSimpArgs false
set_option maxRecDepth 100000
theorem owns_nil_at {w : World} {L base : Nat} (h : w.heap[L]? = some (.cells #[] 5 (0, 0))) (hb : base ≤ L) : w.ownsRow base 5 1 (.slice (some ⟨L, 0, none⟩) 0 0) 0 (([] : List Int).map (Value.int .u8)) :=
  ⟨by simp, .inr ⟨L, 0, #[], rfl, hb, h, Nat.le_refl _, by unfold maxLen; omega, rfl, rfl⟩⟩

set_option maxHeartbeats 800000 in
theorem rricmp_short (w : World) (a : Option Addr) (n cap : Nat) (h : n < 8) :
    Calls Try.prog 25 #[.slice a n cap] w fun e w' => e = .returned (.tuple #[.agg #[.int .u8 0, .int .u8 0, .int .u32 0, .slice none 0 0], .int .i64 10]) ∧ Below w.heap.size w w' := by
  go_enter Try.func25, Try.ntmps25
  go_wp2
  refine bodyPost_ret (v := .tuple #[.agg #[.int .u8 0, .int .u8 0, .int .u32 0, .slice none 0 0], .int .i64 10]) (by simp [results, Try.results25, go_sem]) rfl ⟨rfl, ?_⟩
  repeat (first | exact Below.refl _ _ | refine Below.setCell ?_ (Nat.le_refl _) _ | exact Below.alloc (Below.refl _ _) (Nat.le_refl _) _)

set_option maxHeartbeats 800000 in
theorem rricmp_long (w : World) (a : Option Addr) (n cap : Nat) (h : 1480 < n) :
    Calls Try.prog 25 #[.slice a n cap] w fun e w' => e = .returned (.tuple #[.agg #[.int .u8 0, .int .u8 0, .int .u32 0, .slice none 0 0], .int .i64 14]) ∧ Below w.heap.size w w' := by
  go_enter Try.func25, Try.ntmps25
  go_wp2
  refine bodyPost_ret (v := .tuple #[.agg #[.int .u8 0, .int .u8 0, .int .u32 0, .slice none 0 0], .int .i64 14]) (by simp [results, Try.results25, go_sem]) rfl ⟨rfl, ?_⟩
  repeat (first | exact Below.refl _ _ | refine Below.setCell ?_ (Nat.le_refl _) _ | exact Below.alloc (Below.refl _ _) (Nat.le_refl _) _)

set_option maxHeartbeats 800000 in
theorem rricmp_bad (w : World) (a : Option Addr) (xs : List Int) (n cap : Nat) (hr : Row .u8 w a xs) (hno : a = none → cap = 0) (hl : xs.length = n) (hbb : ∀ x ∈ xs, 0 ≤ x ∧ x ≤ 255) (h1 : 8 ≤ n) (h2 : n ≤ 1480) (HCS : Hid (csum xs ≠ 0)) :
    Calls Try.prog 25 #[.slice a n cap] w fun e w' => e = .returned (.tuple #[.agg #[.int .u8 0, .int .u8 0, .int .u32 0, .slice none 0 0], .int .i64 12]) ∧ Below w.heap.size w w' := by
  have HR := hide hr
  have HL := hide hl
  have HB := hide hbb
  have hl1 : 8 ≤ xs.length := by omega
  have hb1 : Below w.heap.size w (w.alloc (.cells #[.int .u8 0, .int .u8 0, .int .u32 0, .slice none 0 0] 56)) := (Below.refl _ _).alloc (Nat.le_refl _) _
  have hrs := refSum_any a xs cap (w.alloc (.cells #[.int .u8 0, .int .u8 0, .int .u32 0, .slice none 0 0] 56)) (HR.out.below hb1 (Nat.le_refl _)) hbb (by omega)
  rw [HL.out] at hrs
  obtain ⟨K, HK⟩ : ∃ K, Hid (csum xs = K) := ⟨_, rfl⟩
  rw [HK.out] at hrs HCS
  have hKn : (K != 0) = true := by have := HCS.out; simpa using this
  have HRS := hide hrs
  have HB1 := hide hb1
  have HZ := hide (heap_alloc_new w (.cells #[.int .u8 0, .int .u8 0, .int .u32 0, .slice none 0 0] 56))
  clear hr hl hbb hrs hb1
  have hn1 : ¬ ((n : Int) < 8) := by omega
  have hn2 : ¬ ((1480 : Int) < (n : Int)) := by omega
  go_enter Try.func25, Try.ntmps25
  go_wp2_with fail
  refine HRS.out.mono ?_
  rintro e w2 ⟨rfl, b2⟩
  obtain ⟨q0, q1, q2, q3, qf⟩ := four_cells (below_block b2 HZ.out (Nat.le_refl _))
  have HB2 := hide (HB1.out.trans (b2.mono HB1.out.size))
  have hw0 : w.heap.size ≤ w.heap.size := Nat.le_refl _
  clear b2
  go_wp2
  refine bodyPost_ret (v := .tuple #[.agg #[.int .u8 0, .int .u8 0, .int .u32 0, .slice none 0 0], .int .i64 12]) (by simp [results, Try.results25, go_sem, q0, q1, q2, q3]) rfl ⟨rfl, ?_⟩
  repeat (with_reducible refine Below.setCell ?_ (by assumption) _)
  exact HB2.out
end Go.Proofs.Ytbacodogklbiaaa
