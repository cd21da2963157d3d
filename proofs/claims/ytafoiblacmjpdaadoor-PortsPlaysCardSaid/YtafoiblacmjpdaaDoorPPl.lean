/- Ports that are taken: plain facts on words, bits and counts. No program is named. -/
import Derived.WalkKit
import Derived.Below
import Derived.Laws.BitsAllLaws
import Derived.Lib.TrailingZeros
namespace Go.Proofs.YtafoiblacmjpdaaDoor
open Go.RowKit
set_option linter.unusedVariables false
set_option linter.unusedSimpArgs false
/-- The word of k ports from b on. -/
def wdN (t : Nat → Bool) (b : Nat) : Nat → Nat
  | 0 => 0
  | k + 1 => wdN t b k + (if t (b + k) then 2 ^ k else 0)
def wd (t : Nat → Bool) (i : Nat) : Nat := wdN t (64 * i) 64
theorem wdN_lt (t : Nat → Bool) (b k : Nat) : wdN t b k < 2 ^ k := by
  induction k with
  | zero => simp [wdN]
  | succ k ih =>
    unfold wdN
    rw [Nat.pow_succ]
    split <;> omega
theorem wd_lt (t : Nat → Bool) (i : Nat) : wd t i < 18446744073709551616 := by
  have h := wdN_lt t (64 * i) 64
  simpa [wd] using h
theorem wdN_bit (t : Nat → Bool) (b : Nat) : ∀ (k j : Nat), (wdN t b k).testBit j = (decide (j < k) && t (b + j)) := by
  intro k
  induction k with
  | zero => intro j; simp [wdN]
  | succ k ih =>
    intro j
    have hlt := wdN_lt t b k
    unfold wdN
    cases hb : t (b + k) with
    | false =>
      simp only [Bool.false_eq_true, if_false, Nat.add_zero]
      rw [ih]
      by_cases h : j = k
      · subst h; simp [hb]
      · have e : decide (j < k + 1) = decide (j < k) := by rw [Bool.eq_iff_iff]; simp; omega
        rw [e]
    | true =>
      simp only [if_true]
      rw [Nat.add_comm]
      rcases Nat.lt_trichotomy j k with h | h | h
      · rw [Nat.testBit_two_pow_add_gt h, ih]
        simp [h, Nat.lt_succ_of_lt h]
      · subst h
        rw [Nat.testBit_two_pow_add_eq, ih]
        simp [hb]
      · have hz : (2 ^ k + wdN t b k) < 2 ^ j := by
          have h2 : 2 ^ (k + 1) ≤ 2 ^ j := Nat.pow_le_pow_right (by decide) (by omega)
          rw [Nat.pow_succ] at h2
          omega
        rw [Nat.testBit_lt_two_pow hz]
        have : ¬ j < k + 1 := by omega
        simp [this]
theorem wd_bit (t : Nat → Bool) (i j : Nat) (hj : j < 64) : (wd t i).testBit j = t (64 * i + j) := by
  unfold wd; rw [wdN_bit]; simp [hj]
theorem wd_high (t : Nat → Bool) (i j : Nat) (hj : 64 ≤ j) : (wd t i).testBit j = false := by
  unfold wd; rw [wdN_bit]; simp; omega
def put (t : Nat → Bool) (p : Nat) (v : Bool) : Nat → Bool := fun q => if q = p then v else t q
theorem wd_put_other (t : Nat → Bool) (p i : Nat) (v : Bool) (h : p / 64 ≠ i) : wd (put t p v) i = wd t i := by
  apply Nat.eq_of_testBit_eq
  intro j
  by_cases hj : j < 64
  · rw [wd_bit _ _ _ hj, wd_bit _ _ _ hj]
    unfold put
    rw [if_neg (by omega)]
  · rw [wd_high _ _ _ (by omega), wd_high _ _ _ (by omega)]
theorem wd_put_true (t : Nat → Bool) (p : Nat) : wd (put t p true) (p / 64) = wd t (p / 64) ||| 2 ^ (p % 64) := by
  apply Nat.eq_of_testBit_eq
  intro j
  rw [Nat.testBit_or, Nat.testBit_two_pow]
  by_cases hj : j < 64
  · rw [wd_bit _ _ _ hj, wd_bit _ _ _ hj]
    unfold put
    by_cases h : j = p % 64
    · subst h
      rw [if_pos (by omega)]
      simp
    · rw [if_neg (by omega)]
      have : ¬ (p % 64 = j) := fun e => h e.symm
      simp [this]
  · rw [wd_high _ _ _ (by omega), wd_high _ _ _ (by omega)]
    have : ¬ (p % 64 = j) := by omega
    simp [this]
theorem wd_put_false (t : Nat → Bool) (p : Nat) : wd (put t p false) (p / 64) = wd t (p / 64) &&& (18446744073709551615 - 2 ^ (p % 64)) := by
  have hp : 2 ^ (p % 64) < 2 ^ 64 := Nat.pow_lt_pow_right (by decide) (by omega)
  have he : 18446744073709551615 - 2 ^ (p % 64) = 2 ^ 64 - (2 ^ (p % 64) + 1) := by omega
  apply Nat.eq_of_testBit_eq
  intro j
  rw [Nat.testBit_and, he, Nat.testBit_two_pow_sub_succ hp, Nat.testBit_two_pow]
  by_cases hj : j < 64
  · rw [wd_bit _ _ _ hj, wd_bit _ _ _ hj]
    unfold put
    by_cases h : j = p % 64
    · subst h
      rw [if_pos (by omega)]
      simp
    · rw [if_neg (by omega)]
      have : ¬ (p % 64 = j) := fun e => h e.symm
      simp [this, hj]
  · rw [wd_high _ _ _ (by omega), wd_high _ _ _ (by omega)]
    simp
theorem and_pow_ne (x j : Nat) : (x &&& 2 ^ j ≠ 0) ↔ x.testBit j = true := by
  constructor
  · intro h
    cases hb : x.testBit j with
    | true => rfl
    | false =>
      exfalso; apply h
      apply Nat.eq_of_testBit_eq
      intro i
      rw [Nat.testBit_and, Nat.testBit_two_pow, Nat.zero_testBit]
      by_cases e : j = i
      · subst e; simp [hb]
      · simp [e]
  · intro h e
    have := congrArg (fun z => z.testBit j) e
    simp [h, Nat.testBit_two_pow] at this
theorem wd_has (t : Nat → Bool) (p : Nat) : (((wd t (p / 64) &&& 2 ^ (p % 64) : Nat) : Int) != 0) = t p := by
  have h := and_pow_ne (wd t (p / 64)) (p % 64)
  rw [wd_bit _ _ _ (by omega), show 64 * (p / 64) + p % 64 = p by omega] at h
  rw [Bool.eq_iff_iff, bne_iff_ne, ← h]
  constructor
  · intro a b; exact a (by rw [b]; rfl)
  · intro a b; exact a (by exact_mod_cast b)
/-- What is open from a place on. -/
def openW (t : Nat → Bool) (a : Nat) : Nat := (18446744073709551615 - wd t (a / 64)) / 2 ^ (a % 64)
theorem openW_bit (t : Nat → Bool) (a j : Nat) : (openW t a).testBit j = (decide (a % 64 + j < 64) && !t (a + j)) := by
  unfold openW
  rw [← Nat.shiftRight_eq_div_pow, Nat.testBit_shiftRight, show 18446744073709551615 - wd t (a / 64) = 2 ^ 64 - (wd t (a / 64) + 1) by omega, Nat.testBit_two_pow_sub_succ (wd_lt t _)]
  by_cases h : a % 64 + j < 64
  · rw [wd_bit _ _ _ h, show 64 * (a / 64) + (a % 64 + j) = a + j by omega]
  · simp [h]
theorem openW_lt (t : Nat → Bool) (a : Nat) : openW t a < 18446744073709551616 := by
  unfold openW
  exact Nat.lt_of_le_of_lt (Nat.div_le_self _ _) (by omega)
theorem ctz_bits (x : Nat) (h0 : x ≠ 0) (h : x < 18446744073709551616) : x.testBit (Lib.ctz 64 x) = true ∧ (∀ j, j < Lib.ctz 64 x → x.testBit j = false) ∧ Lib.ctz 64 x < 64 := by
  unfold Lib.ctz
  rw [if_neg h0]
  obtain ⟨m, hm, hk⟩ := Lib.ctzFrom_spec 64 x (by omega) (by simpa using h)
  generalize Lib.ctzFrom 64 x = k at *
  subst hm
  refine ⟨?_, fun j hj => ?_, hk⟩
  · rw [Nat.mul_comm, Nat.testBit_mul_two_pow]
    simp [Nat.testBit_zero]
  · rw [Nat.mul_comm, Nat.testBit_mul_two_pow]
    simp; omega
/-- The first port from a place on that isn't taken. -/
def FreeIs (t : Nat → Bool) (a p : Nat) : Prop := a ≤ p ∧ p < 64512 ∧ t p = false ∧ ∀ q, a ≤ q → q < p → t q = true
def NoneFrom (t : Nat → Bool) (a : Nat) : Prop := ∀ q, a ≤ q → q < 64512 → t q = true
theorem open_zero (t : Nat → Bool) (a : Nat) (h : openW t a = 0) : ∀ q, a ≤ q → q < a + (64 - a % 64) → t q = true := by
  intro q h1 h2
  have hb := openW_bit t a (q - a)
  rw [h, Nat.zero_testBit, show a + (q - a) = q by omega] at hb
  have : a % 64 + (q - a) < 64 := by omega
  simpa [this] using hb.symm
theorem open_some (t : Nat → Bool) (a : Nat) (h : openW t a ≠ 0) : Lib.ctz 64 (openW t a) + a % 64 < 64 ∧ t (a + Lib.ctz 64 (openW t a)) = false ∧ ∀ q, a ≤ q → q < a + Lib.ctz 64 (openW t a) → t q = true := by
  obtain ⟨h1, h2, h3⟩ := ctz_bits _ h (openW_lt t a)
  generalize Lib.ctz 64 (openW t a) = k at *
  rw [openW_bit] at h1
  simp only [Bool.and_eq_true, decide_eq_true_eq, Bool.not_eq_true'] at h1
  refine ⟨by omega, h1.2, fun q hq1 hq2 => ?_⟩
  have hb := h2 (q - a) (by omega)
  rw [openW_bit, show a + (q - a) = q by omega] at hb
  have : a % 64 + (q - a) < 64 := by omega
  simpa [this] using hb
/-- How many are taken. -/
def cnt (t : Nat → Bool) : Nat → Nat
  | 0 => 0
  | k + 1 => cnt t k + (if t k then 1 else 0)
theorem cnt_le (t : Nat → Bool) (k : Nat) : cnt t k ≤ k := by
  induction k with
  | zero => simp [cnt]
  | succ k ih => unfold cnt; split <;> omega
theorem cnt_all (t : Nat → Bool) (k : Nat) (h : ∀ q, q < k → t q = true) : cnt t k = k := by
  induction k with
  | zero => rfl
  | succ k ih => unfold cnt; rw [ih (fun q hq => h q (by omega)), h k (by omega)]; simp
theorem cnt_some (t : Nat → Bool) (k p : Nat) (hp : p < k) (h : t p = false) : cnt t k < k := by
  induction k with
  | zero => omega
  | succ k ih =>
    unfold cnt
    have := cnt_le t k
    by_cases e : p = k
    · subst e; rw [h]; simp; omega
    · have := ih (by omega); split <;> omega
theorem cnt_put_out (t : Nat → Bool) (k p : Nat) (v : Bool) (hp : k ≤ p) : cnt (put t p v) k = cnt t k := by
  induction k with
  | zero => rfl
  | succ k ih =>
    unfold cnt
    rw [ih (by omega)]
    have : put t p v k = t k := by unfold put; rw [if_neg (by omega)]
    rw [this]
theorem cnt_put_true (t : Nat → Bool) (k p : Nat) (hp : p < k) (h : t p = false) : cnt (put t p true) k = cnt t k + 1 := by
  induction k with
  | zero => omega
  | succ k ih =>
    unfold cnt
    by_cases e : p = k
    · subst e
      rw [cnt_put_out _ _ _ _ (Nat.le_refl _), h]
      simp [put]
    · rw [ih (by omega)]
      have : put t p true k = t k := by unfold put; rw [if_neg (fun x => e x.symm)]
      rw [this]; omega
theorem cnt_put_false (t : Nat → Bool) (k p : Nat) (hp : p < k) (h : t p = true) : cnt (put t p false) k + 1 = cnt t k := by
  induction k with
  | zero => omega
  | succ k ih =>
    unfold cnt
    by_cases e : p = k
    · subst e
      rw [cnt_put_out _ _ _ _ (Nat.le_refl _), h]
      simp [put]
    · have := ih (by omega)
      have e2 : put t p false k = t k := by unfold put; rw [if_neg (fun x => e x.symm)]
      rw [e2]; omega
end Go.Proofs.YtafoiblacmjpdaaDoor
