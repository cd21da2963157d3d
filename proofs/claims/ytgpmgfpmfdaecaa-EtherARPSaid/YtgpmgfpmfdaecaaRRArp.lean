/- What the document's ReadARP answers. -/
import Derived.Test.YtgpmgfpmfdaecaaRMac
import Derived.Test.YtgpmgfpmfdaecaaEOwn
import Derived.Test.YtgpmgfpmfdaecaaEARead
import Derived.Test.YtgpmgfpmfdaecaaConv
import Derived.Deep.RegionHeld3
namespace Go.Proofs.Ytgpmgfpmfdaecaa
open Go.RowKit
set_option linter.unusedVariables false
set_option linter.unusedSimpArgs false
set_option maxRecDepth 100000
set_option maxHeartbeats 800000 in
theorem rrarp_short (w : World) (a : Option Addr) (n cap : Nat) (h : n < 28) :
    Calls Try.prog 14 #[.slice a n cap] w fun e w' => e = .returned (.tuple #[.agg #[.int .u16 0, .int .u8 0, .int .u8 0, .int .u8 0, .int .u8 0, .int .u8 0, .int .u8 0, .int .u8 0, .int .u8 0, .int .u8 0, .int .u8 0, .int .u8 0, .int .u8 0, .int .u32 0, .int .u32 0], .int .i64 10]) ∧ Below w.heap.size w w' := by
  go_enter Try.func14, Try.ntmps14
  go_wp2
  refine bodyPost_ret (v := .tuple #[.agg #[.int .u16 0, .int .u8 0, .int .u8 0, .int .u8 0, .int .u8 0, .int .u8 0, .int .u8 0, .int .u8 0, .int .u8 0, .int .u8 0, .int .u8 0, .int .u8 0, .int .u8 0, .int .u32 0, .int .u32 0], .int .i64 10]) (by simp [results, Try.results14, go_sem]) rfl ⟨rfl, ?_⟩
  repeat (first | exact Below.refl _ _ | refine Below.setCell ?_ (Nat.le_refl _) _ | exact Below.alloc (Below.refl _ _) (Nat.le_refl _) _)
theorem arp_str (xs : List Int) (hb : ∀ z ∈ xs, 0 ≤ z ∧ z ≤ 255) : ((strOfNums xs).toList = [0, 1, 8, 0, 6, 4, 0]) ↔ xs = [0, 1, 8, 0, 6, 4, 0] := by
  have h := str_eq xs [0, 1, 8, 0, 6, 4, 0] hb (by decide)
  rw [show (strOfNums [0, 1, 8, 0, 6, 4, 0]).toList = [0, 1, 8, 0, 6, 4, 0] from by decide +kernel] at h
  constructor
  · intro e
    rw [e] at h
    exact of_decide_eq_true (by simpa using h.symm)
  · intro e
    subst e
    decide +kernel
theorem rEye_num (E K k : Nat) (a : Option Addr) (xs : List Int) (n cap : Nat) (w : World) (h : REye w E a n cap K false) (hr : Row .u8 w a xs) (hb : ∀ x ∈ xs, 0 ≤ x ∧ x ≤ 255) (hxn : xs.length = n) (hnc : n ≤ cap) (hcm : cap ≤ 9223372036854775807) (hnil : a = none → cap = 0) (hn : n ≤ 5000) (hk : k ≤ 8) (hk2 : K + k ≤ n) :
    Calls Try.prog 37 #[.pointer (some ⟨E, 0, none⟩), .int .i64 k] w fun e w' => e = .returned (.int .u64 (valB ((xs.drop K).take k))) ∧ REye w' E a n cap (K + k) false ∧ w.grownBy w' (some E) := by
  have h1 := refEyeNum_any E a xs n cap K false k w h hr hb hxn hnc hcm hnil (by omega) hn
  have hs : sz (k : Int) = k := by unfold sz; omega
  rw [hs, if_pos (by omega), if_pos (by omega), show decide (n - K < k) = false by simp; omega] at h1
  exact h1


set_option maxHeartbeats 800000 in
theorem rrarp_forma (w : World) (a : Option Addr) (xs : List Int) (n cap : Nat) (hr : Row .u8 w a xs) (hl : xs.length = n) (h1 : 28 ≤ n) (hnc : n ≤ cap) (hb : ∀ z ∈ xs, 0 ≤ z ∧ z ≤ 255) (hne : xs.take 7 ≠ [0, 1, 8, 0, 6, 4, 0]) :
    Calls Try.prog 14 #[.slice a n cap] w fun e w' => e = .returned (.tuple #[.agg #[.int .u16 0, .int .u8 0, .int .u8 0, .int .u8 0, .int .u8 0, .int .u8 0, .int .u8 0, .int .u8 0, .int .u8 0, .int .u8 0, .int .u8 0, .int .u8 0, .int .u8 0, .int .u32 0, .int .u32 0], .int .i64 11]) ∧ Below w.heap.size w w' := by
  have hc := fun (V : World) (hV : Below w.heap.size w V) => conv_any a (xs.take 7) cap V ((row_take28 hr 7).below hV (Nat.le_refl _))
  have h7 : (xs.take 7).length = 7 := by rw [List.length_take]; omega
  rw [h7] at hc
  have hcv := hc (w.alloc (.cells #[.int .u16 0, .int .u8 0, .int .u8 0, .int .u8 0, .int .u8 0, .int .u8 0, .int .u8 0, .int .u8 0, .int .u8 0, .int .u8 0, .int .u8 0, .int .u8 0, .int .u8 0, .int .u32 0, .int .u32 0] 41)) ((Below.refl _ _).alloc (Nat.le_refl _) _)
  have h7c : (7 : Int) ≤ (cap : Int) := by omega
  have h7n : 7 ≤ cap := by omega
  have h7i : (7 : Int) < (n : Int) := by omega
  have hn28 : ¬ ((n : Int) < 28) := by omega
  have hiff := arp_str (xs.take 7) (fun z hz => hb z (List.mem_of_mem_take hz))
  obtain ⟨S, hS⟩ : ∃ S, strOfNums (xs.take 7) = S := ⟨_, rfl⟩
  rw [hS] at hcv hiff
  have hs1 : ¬ S.toList = [0, 1, 8, 0, 6, 4, 0] := fun h => hne (hiff.1 h)
  clear hc hS hr hb hne h7 hiff hl
  go_enter Try.func14, Try.ntmps14
  go_wp2
  refine bodyPost_ret (v := .tuple #[.agg #[.int .u16 0, .int .u8 0, .int .u8 0, .int .u8 0, .int .u8 0, .int .u8 0, .int .u8 0, .int .u8 0, .int .u8 0, .int .u8 0, .int .u8 0, .int .u8 0, .int .u8 0, .int .u32 0, .int .u32 0], .int .i64 11]) (by simp [results, Try.results14, go_sem]) rfl ⟨rfl, ?_⟩
  repeat (first | exact Below.refl _ _ | refine Below.setCell ?_ (Nat.le_refl _) _ | exact Below.alloc (Below.refl _ _) (Nat.le_refl _) _)

set_option maxHeartbeats 800000 in
theorem rrarp_formb (w : World) (a : Option Addr) (xs : List Int) (n cap : Nat) (hr : Row .u8 w a xs) (hl : xs.length = n) (h1 : 28 ≤ n) (hnc : n ≤ cap) (hb : ∀ z ∈ xs, 0 ≤ z ∧ z ≤ 255) (hne : xs.take 7 = [0, 1, 8, 0, 6, 4, 0]) (hx1 : xs[7]?.getD 0 ≠ 1) (hx2 : xs[7]?.getD 0 ≠ 2) :
    Calls Try.prog 14 #[.slice a n cap] w fun e w' => e = .returned (.tuple #[.agg #[.int .u16 0, .int .u8 0, .int .u8 0, .int .u8 0, .int .u8 0, .int .u8 0, .int .u8 0, .int .u8 0, .int .u8 0, .int .u8 0, .int .u8 0, .int .u8 0, .int .u8 0, .int .u32 0, .int .u32 0], .int .i64 11]) ∧ Below w.heap.size w w' := by
  have hc := fun (V : World) (hV : Below w.heap.size w V) => conv_any a (xs.take 7) cap V ((row_take28 hr 7).below hV (Nat.le_refl _))
  have h7 : (xs.take 7).length = 7 := by rw [List.length_take]; omega
  rw [h7] at hc
  have hcv := hc (w.alloc (.cells #[.int .u16 0, .int .u8 0, .int .u8 0, .int .u8 0, .int .u8 0, .int .u8 0, .int .u8 0, .int .u8 0, .int .u8 0, .int .u8 0, .int .u8 0, .int .u8 0, .int .u8 0, .int .u32 0, .int .u32 0] 41)) ((Below.refl _ _).alloc (Nat.le_refl _) _)
  have h7c : (7 : Int) ≤ (cap : Int) := by omega
  have h7n : 7 ≤ cap := by omega
  have h7i : (7 : Int) < (n : Int) := by omega
  have hn28 : ¬ ((n : Int) < 28) := by omega
  have hiff := arp_str (xs.take 7) (fun z hz => hb z (List.mem_of_mem_take hz))
  obtain ⟨S, hS⟩ : ∃ S, strOfNums (xs.take 7) = S := ⟨_, rfl⟩
  rw [hS] at hcv hiff
  have hs1 : S.toList = [0, 1, 8, 0, 6, 4, 0] := hiff.2 hne
  obtain ⟨b0, o0, rfl, hlt0, hc0⟩ := hr.at (i := 0) (by omega)
  have c7 := hc0 7 (by omega)
  have hb7 := byte_at hb 7
  generalize xs[7]?.getD 0 = x7 at *
  have g1 : (x7 == 1) = false := by simpa using hx1
  have g2 : (x7 == 2) = false := by simpa using hx2
  have g3 : (x7 != 1) = true := by simpa using hx1
  have g4 : (x7 != 2) = true := by simpa using hx2
  have hne0 : ¬ b0 = w.heap.size := by omega
  have hne1 : ¬ w.heap.size = b0 := by omega
  clear hc hS hr hb hne h7 hiff hl hx1 hx2 hc0
  go_enter Try.func14, Try.ntmps14
  go_wp2
  refine bodyPost_ret (v := .tuple #[.agg #[.int .u16 0, .int .u8 0, .int .u8 0, .int .u8 0, .int .u8 0, .int .u8 0, .int .u8 0, .int .u8 0, .int .u8 0, .int .u8 0, .int .u8 0, .int .u8 0, .int .u8 0, .int .u32 0, .int .u32 0], .int .i64 11]) (by simp [results, Try.results14, go_sem]) rfl ⟨rfl, ?_⟩
  repeat (first | exact Below.refl _ _ | refine Below.setCell ?_ (Nat.le_refl _) _ | exact Below.alloc (Below.refl _ _) (Nat.le_refl _) _)
end Go.Proofs.Ytgpmgfpmfdaecaa
