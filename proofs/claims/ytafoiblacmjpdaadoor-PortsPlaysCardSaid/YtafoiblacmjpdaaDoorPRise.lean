/- Ports: what is told is rising, and as many as are taken. No program is named. -/
import Derived.Test.YtafoiblacmjpdaaDoorPBits
namespace Go.Proofs.YtafoiblacmjpdaaDoor
open Go.RowKit
set_option linter.unusedVariables false
set_option linter.unusedSimpArgs false
theorem bitsOf_rise (X : Nat) : (bitsOf X).Pairwise (· < ·) := List.Pairwise.sublist List.filter_sublist List.pairwise_lt_range
theorem ones_rise (i X : Nat) : (ones i X).Pairwise (· < ·) := by
  unfold ones
  rw [List.pairwise_map]
  exact (bitsOf_rise X).imp (fun h => by omega)
theorem ones_in (i X : Nat) : ∀ x ∈ ones i X, 1024 + 64 * (i : Int) ≤ x ∧ x < 1024 + 64 * ((i : Int) + 1) := by
  intro x hx
  unfold ones at hx
  obtain ⟨b, hb, rfl⟩ := List.mem_map.1 hx
  have := bitsOf_lt X b hb
  omega
theorem told_in (t : Nat → Bool) (k : Nat) : ∀ x ∈ told t k, x < 1024 + 64 * (k : Int) := by
  induction k with
  | zero => simp [told]
  | succ k ih =>
    intro x hx
    unfold told at hx
    rcases List.mem_append.1 hx with h | h
    · have := ih x h; omega
    · have := ones_in k _ x h; omega
theorem told_rise (t : Nat → Bool) (k : Nat) : (told t k).Pairwise (· < ·) := by
  induction k with
  | zero => simp [told]
  | succ k ih =>
    unfold told
    rw [List.pairwise_append]
    refine ⟨ih, ones_rise k _, fun a ha b hb => ?_⟩
    have h1 := told_in t k a ha
    have h2 := ones_in k _ b hb
    omega
theorem stop_rise (most : Int) (L : List Int) (h : L.Pairwise (· < ·)) (i : Nat) (hi : i + 1 < (stopAt most L).length) : (stopAt most L)[i]?.getD 0 < (stopAt most L)[i + 1]?.getD 0 := by
  have h2 : (stopAt most L).Pairwise (· < ·) := List.Pairwise.sublist (List.take_sublist _ _) h
  rw [List.getElem?_eq_getElem hi, List.getElem?_eq_getElem (show i < _ by omega)]
  exact (List.pairwise_iff_getElem.1 h2) i (i + 1) (by omega) hi (by omega)
theorem bits_cnt (t : Nat → Bool) (b : Nat) (f : Nat → Bool) (k : Nat) (h : ∀ j, j < k → f j = t (b + j)) : ((List.range k).filter f).length + cnt t b = cnt t (b + k) := by
  induction k with
  | zero => simp
  | succ k ih =>
    rw [List.range_succ, List.filter_append, List.length_append, ← Nat.add_assoc, cnt, ← ih (fun j hj => h j (by omega))]
    have hk := h k (by omega)
    cases ht : t (b + k) with
    | true => rw [ht] at hk; simp [hk]; omega
    | false => rw [ht] at hk; simp [hk]
theorem told_cnt (t : Nat → Bool) (k : Nat) : (told t k).length = cnt t (64 * k) := by
  induction k with
  | zero => rfl
  | succ k ih =>
    have h := bits_cnt t (64 * k) (wd t k).testBit 64 (fun j hj => wd_bit t k j hj)
    unfold told
    rw [List.length_append, ih]
    unfold ones
    rw [List.length_map]
    unfold bitsOf
    rw [show 64 * (k + 1) = 64 * k + 64 by omega, ← h]
    omega
theorem stop_len (most : Int) (L : List Int) (n : Nat) (h : L.length = n) : ((stopAt most L).length : Int) = if n = 0 then 0 else max (min (n : Int) most) 1 := by
  unfold stopAt
  rw [List.length_take, h]
  split <;> omega
end Go.Proofs.YtafoiblacmjpdaaDoor
