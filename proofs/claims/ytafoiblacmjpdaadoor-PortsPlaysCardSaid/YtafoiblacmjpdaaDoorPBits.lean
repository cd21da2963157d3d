/- Ports: the ones of a word, rising. No program is named. -/
import Derived.Test.YtafoiblacmjpdaaDoorPPl
namespace Go.Proofs.YtafoiblacmjpdaaDoor
open Go.RowKit
set_option linter.unusedVariables false
set_option linter.unusedSimpArgs false
theorem clear_low (X : Nat) (hX : X < 2 ^ 64) (h0 : X ≠ 0) : Lib.ctz 64 X < 64 ∧ (∀ j, j < Lib.ctz 64 X → X.testBit j = false) ∧ X.testBit (Lib.ctz 64 X) = true ∧ ∀ j, (X &&& (X - 1)).testBit j = (X.testBit j && decide (j ≠ Lib.ctz 64 X)) := by
  obtain ⟨m, hm, hc⟩ := Lib.ctzFrom_spec 64 X (by omega) hX
  have hz : Lib.ctz 64 X = Lib.ctzFrom 64 X := by unfold Lib.ctz; rw [if_neg h0]
  rw [hz]
  generalize Lib.ctzFrom 64 X = c at *
  have hp : 0 < 2 ^ c := Nat.two_pow_pos c
  have hb : ∀ j, X.testBit j = if j < c then false else (2 * m + 1).testBit (j - c) := by
    intro j
    have h := Nat.testBit_two_pow_mul_add (2 * m + 1) (b := 0) hp j
    rw [Nat.add_zero, ← hm, Nat.zero_testBit] at h
    exact h
  have h1 : X - 1 = 2 ^ c * (2 * m) + (2 ^ c - 1) := by
    rw [hm, Nat.mul_add, Nat.mul_one]
    omega
  have hb1 : ∀ j, (X - 1).testBit j = if j < c then (2 ^ c - 1).testBit j else (2 * m).testBit (j - c) := by
    intro j
    rw [h1]
    exact Nat.testBit_two_pow_mul_add (2 * m) (b := 2 ^ c - 1) (by omega) j
  have hl0 : (2 * m + 1).testBit 0 = true := by simp
  have hl1 : (2 * m).testBit 0 = false := by simp
  have hls : ∀ k, (2 * m + 1).testBit (k + 1) = (2 * m).testBit (k + 1) := by
    intro k
    rw [Nat.testBit_succ, Nat.testBit_succ]
    congr 1
    omega
  refine ⟨hc, fun j hj => by rw [hb, if_pos hj], by rw [hb, if_neg (by omega), Nat.sub_self]; exact hl0, fun j => ?_⟩
  rw [Nat.testBit_and, hb, hb1]
  by_cases hj : j < c
  · rw [if_pos hj]; simp
  · rw [if_neg hj, if_neg hj]
    by_cases he : j = c
    · subst he
      rw [Nat.sub_self, hl1]; simp
    · obtain ⟨k, hk⟩ : ∃ k, j - c = k + 1 := ⟨j - c - 1, by omega⟩
      rw [hk, hls k]
      simp [he]
def bitsOf (X : Nat) : List Nat := (List.range 64).filter X.testBit
theorem bitsOf_zero : bitsOf 0 = [] := by simp [bitsOf]
theorem bitsOf_len (X : Nat) : (bitsOf X).length ≤ 64 := by
  have := List.length_filter_le X.testBit (List.range 64)
  simpa [bitsOf] using this
theorem bitsOf_lt (X : Nat) : ∀ b ∈ bitsOf X, b < 64 := by
  intro b hb
  unfold bitsOf at hb
  exact List.mem_range.1 (List.mem_filter.1 hb).1
theorem bitsOf_step (X : Nat) (hX : X < 2 ^ 64) (h0 : X ≠ 0) : bitsOf X = Lib.ctz 64 X :: bitsOf (X &&& (X - 1)) := by
  obtain ⟨hc, hl, ht, ha⟩ := clear_low X hX h0
  generalize Lib.ctz 64 X = c at *
  have hr : List.range 64 = List.range' 0 c ++ (c :: List.range' (c + 1) (63 - c)) := by
    rw [List.range_eq_range', show (64 : Nat) = c + ((63 - c) + 1) by omega, ← List.range'_append_1, Nat.zero_add, List.range'_succ]
  have e1 : ∀ Z : Nat, (∀ j, j < c → Z.testBit j = false) → (List.range' 0 c).filter Z.testBit = [] := by
    intro Z hZ
    rw [List.filter_eq_nil_iff]
    intro a h
    have := List.mem_range'_1.1 h
    rw [hZ a (by omega)]
    simp
  unfold bitsOf
  rw [hr, List.filter_append, List.filter_append, e1 X hl, e1 _ (fun j hj => by rw [ha, hl j hj]; rfl), List.nil_append, List.nil_append, List.filter_cons_of_pos (by rw [ht]), List.filter_cons_of_neg (by rw [ha]; simp)]
  congr 1
  refine List.filter_congr fun j hj => ?_
  have := List.mem_range'_1.1 hj
  rw [ha]
  have hne : decide (j ≠ c) = true := by simp; omega
  rw [hne, Bool.and_true]
/-- What is told of word i: the ports of its ones. -/
def ones (i X : Nat) : List Int := (bitsOf X).map fun b => ((1024 + 64 * i + b : Nat) : Int)
def told (t : Nat → Bool) : Nat → List Int
  | 0 => []
  | k + 1 => told t k ++ ones k (wd t k)
theorem told_len (t : Nat → Bool) (k : Nat) : (told t k).length ≤ 64 * k := by
  induction k with
  | zero => simp [told]
  | succ k ih =>
    unfold told
    have := bitsOf_len (wd t k)
    simp [ones]
    omega
theorem told_prefix (t : Nat → Bool) (k n : Nat) (h : k ≤ n) : ∃ r, told t n = told t k ++ r := by
  induction n with
  | zero => exact ⟨[], by rw [show k = 0 by omega]; simp⟩
  | succ n ih =>
    rcases Nat.lt_or_ge k (n + 1) with hk | hk
    · obtain ⟨r, hr⟩ := ih (by omega)
      exact ⟨r ++ ones n (wd t n), by rw [told, hr, List.append_assoc]⟩
    · exact ⟨[], by rw [show k = n + 1 by omega]; simp⟩
/-- What is told when no more than 'most' are wanted (one is told ahead of the asking). -/
def stopAt (most : Int) (L : List Int) : List Int := L.take (max most 1).toNat
def Going (most : Int) (xs : List Int) : Prop := xs = [] ∨ (xs.length : Int) < most
theorem stopAt_all (most : Int) (L : List Int) (h : Going most L) : stopAt most L = L := by
  unfold stopAt
  refine List.take_of_length_le ?_
  rcases h with rfl | h
  · simp
  · omega
theorem stopAt_here (most : Int) (xs r : List Int) (x : Int) (h : Going most xs) (hs : ¬ ((xs.length : Int) + 1 < most)) : stopAt most (xs ++ [x] ++ r) = xs ++ [x] := by
  unfold stopAt
  have hl : (max most 1).toNat = (xs ++ [x]).length := by
    rw [List.length_append, List.length_singleton]
    rcases h with rfl | h
    · simp at hs ⊢; omega
    · omega
  rw [hl, List.take_left']
  rfl
end Go.Proofs.YtafoiblacmjpdaaDoor
