/- Appends onto rows of one's own, for the frames' texts. -/
import Derived.Test.YtgpmgfpmfdaecaaESpeaks
import Derived.Test.YtgpmgfpmfdaecaaREye
import Derived.Deep.RegionHeld3
namespace Go.Proofs.Ytgpmgfpmfdaecaa
open Go.RowKit
set_option linter.unusedVariables false
set_option linter.unusedSimpArgs false
/-- An append onto a row of one's own: it runs. -/
theorem app_own (V : World) (base : Nat) (v : Value) (n : Nat) (xs : List Int) (hV : V.ownsRow base 5 1 v n (xs.map (Value.int .u8))) (a : Option Addr) (ys : List Int) (m c : Nat) (hr : Row .u8 V a ys) (hl : ys.length = m) (hn : a = none → c = 0)
    (hs : n + m ≤ 1099511627776) (hb : base ≤ V.heap.size) :
    ∃ v' w', (Builtin.append_ #[22, 22] 22 #[v, .slice a m c]).run Try.prog V = .ok v' w' ∧ (w'.ownsRow base 5 1 v' (n + m) ((xs ++ ys).map (Value.int .u8)) ∧ Below base V w') := by
  obtain ⟨i0, hi, hz0, hz1, hz2⟩ := info_parts Try.info5
  cases a with
  | none =>
    have hy : ys = [] := row_none hr
    have hm0 : m = 0 := by rw [← hl, hy]; rfl
    have hrun := run_append_owned_none (P := Try.prog) (w := V) base 22 22 5 i0 1 Try.underlying22 hi v n (xs.map (Value.int .u8)) hV
    rw [hn rfl, hm0, hy, List.append_nil]
    exact ⟨_, _, hrun, hV, Below.refl _ _⟩
  | some ad =>
    obtain ⟨v', w', h1, h2, h3, _⟩ := run_append_own (P := Try.prog) V base 22 22 5 i0 (.int .u8 0) 1 1 Try.underlying22 hi hz0 hz1 hz2 rfl (by decide) v n (xs.map (Value.int .u8)) hV ad m c (ys.map (Value.int .u8)) (by simp [hl]) (row_cells hr) (ints_one _ _) (by unfold maxLen; omega) (by omega) hb
    rw [← List.map_append] at h2
    exact ⟨_, _, h1, h2, (Below.refl base V).grown h3 hb (fun k e => (hV.lt k e).1)⟩
theorem refNum2_any (n : Nat) (w : World) (hn : n < 18446744073709551616) :
    Calls Try.prog 49 #[.int .i64 2, .int .u64 n] w fun e w' => ∃ a c, e = .returned (.slice a 2 c) ∧ Row .u8 w' a (numB 2 n) ∧ Below w.heap.size w w' ∧ (a = none → c = 0) := refNum_full 2 n w hn
theorem refNum4_any (n : Nat) (w : World) (hn : n < 18446744073709551616) :
    Calls Try.prog 49 #[.int .i64 4, .int .u64 n] w fun e w' => ∃ a c, e = .returned (.slice a 4 c) ∧ Row .u8 w' a (numB 4 n) ∧ Below w.heap.size w w' ∧ (a = none → c = 0) := refNum_full 4 n w hn
set_option maxHeartbeats 800000 in
theorem ewrite_long (w : World) (d s : Nat → UInt8) (k : Int) (ba : Option Addr) (n bc : Nat) (h1 : 1500 < n) :
    Calls Try.prog 10 #[.agg #[.int .u8 ((d 0).toNat : Int), .int .u8 ((d 1).toNat : Int), .int .u8 ((d 2).toNat : Int), .int .u8 ((d 3).toNat : Int), .int .u8 ((d 4).toNat : Int), .int .u8 ((d 5).toNat : Int), .int .u8 ((s 0).toNat : Int), .int .u8 ((s 1).toNat : Int), .int .u8 ((s 2).toNat : Int), .int .u8 ((s 3).toNat : Int), .int .u8 ((s 4).toNat : Int), .int .u8 ((s 5).toNat : Int), .int .u16 k, .slice ba n bc]] w fun e w' => e = .returned (.tuple #[.slice none 0 0, .int .i64 14]) ∧ Below w.heap.size w w' := by
  go_enter Try.func10, Try.ntmps10
  go_wp2
  go_ret2
  exact ⟨rfl, (Below.refl _ _).alloc (Nat.le_refl _) _⟩
set_option maxHeartbeats 800000 in
theorem ewrite_arg (w : World) (d s : Nat → UInt8) (k : Int) (ba : Option Addr) (n bc : Nat) (h1 : n ≤ 1500) (h2 : k < 1536) :
    Calls Try.prog 10 #[.agg #[.int .u8 ((d 0).toNat : Int), .int .u8 ((d 1).toNat : Int), .int .u8 ((d 2).toNat : Int), .int .u8 ((d 3).toNat : Int), .int .u8 ((d 4).toNat : Int), .int .u8 ((d 5).toNat : Int), .int .u8 ((s 0).toNat : Int), .int .u8 ((s 1).toNat : Int), .int .u8 ((s 2).toNat : Int), .int .u8 ((s 3).toNat : Int), .int .u8 ((s 4).toNat : Int), .int .u8 ((s 5).toNat : Int), .int .u16 k, .slice ba n bc]] w fun e w' => e = .returned (.tuple #[.slice none 0 0, .int .i64 1]) ∧ Below w.heap.size w w' := by
  go_enter Try.func10, Try.ntmps10
  go_wp2
  go_ret2
  exact ⟨rfl, (Below.refl _ _).alloc (Nat.le_refl _) _⟩
set_option maxRecDepth 100000
theorem owns_nil_at {w : World} {L base : Nat} (h : w.heap[L]? = some (.cells #[] 5 (0, 0))) (hb : base ≤ L) : w.ownsRow base 5 1 (.slice (some ⟨L, 0, none⟩) 0 0) 0 (([] : List Int).map (Value.int .u8)) :=
  ⟨by simp, .inr ⟨L, 0, #[], rfl, hb, h, Nat.le_refl _, by unfold maxLen; omega, rfl, rfl⟩⟩
end Go.Proofs.Ytgpmgfpmfdaecaa
