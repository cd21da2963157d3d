/- Plain facts on addresses: nets by bits. No program is named. -/
import Derived.Test.YtlipckpacdioiaaDoorPlain
namespace Go.Proofs.YtlipckpacdioiaaDoor
open Go.RowKit
set_option linter.unusedVariables false
/-- The step of a comparison by bits. -/
theorem win_step (a n m : Nat) : (a / 2 ^ m = n / 2 ^ m) ↔ (a / 2 ^ (m + 1) = n / 2 ^ (m + 1) ∧ a / 2 ^ m % 2 = n / 2 ^ m % 2) := by
  have h : ∀ x : Nat, x / 2 ^ (m + 1) = x / 2 ^ m / 2 := fun x => by rw [Nat.pow_succ, Nat.div_div_eq_div_mul]
  rw [h, h]; omega
def kb (bits : Int) : Nat := min bits.toNat 32
def winB (a n : Nat) (bits : Int) : Bool := decide (a / 2 ^ (32 - kb bits) = n / 2 ^ (32 - kb bits))
/-- The bits of an address behind the first ones. -/
def low (a : Nat) (bits : Int) : Nat := a % 2 ^ (32 - kb bits)
def innerB (a : Nat) (bits : Int) : Bool := decide (32 - kb bits = 0) || (!decide (low a bits = 0) && !decide (low a bits = 2 ^ (32 - kb bits) - 1))
/-- What the document's loop knows when i bits have been gone through. -/
def InR (a : Nat) (k i n : Nat) (z o : Bool) : Prop := n = i - k ∧ z = decide (a / 2 ^ (32 - i) % 2 ^ (i - k) = 0) ∧ o = decide (a / 2 ^ (32 - i) % 2 ^ (i - k) = 2 ^ (i - k) - 1)
theorem inr_start (a k : Nat) : InR a k k 0 true true := by
  refine ⟨by simp, ?_, ?_⟩ <;> simp [Nat.mod_one]
theorem inr_step {a k i n : Nat} {z o : Bool} (h : InR a k i n z o) (hk : k ≤ i) (hi : i < 32) :
    InR a k (i + 1) (n + 1) (if a / 2 ^ (31 - i) % 2 = 1 then false else z) (if a / 2 ^ (31 - i) % 2 = 1 then o else false) := by
  obtain ⟨h1, h2, h3⟩ := h
  have e1 : 32 - (i + 1) = 31 - i := by omega
  have e2 : 32 - i = (31 - i) + 1 := by omega
  have e3 : i + 1 - k = (i - k) + 1 := by omega
  have hd : a / 2 ^ (32 - i) = a / 2 ^ (31 - i) / 2 := by rw [e2, Nat.pow_succ, Nat.div_div_eq_div_mul]
  obtain ⟨x, hx⟩ : ∃ x, a / 2 ^ (31 - i) = x := ⟨_, rfl⟩
  obtain ⟨p, hp⟩ : ∃ p, 2 ^ (i - k) = p := ⟨_, rfl⟩
  have hpp : 0 < p := by rw [← hp]; exact Nat.two_pow_pos _
  have hm : x % (p * 2) = 2 * (x / 2 % p) + x % 2 := by
    have h1 := Nat.mod_mul_right_div_self x 2 p
    have h2 := Nat.div_add_mod (x % (2 * p)) 2
    have h3 := Nat.mod_mul_right_mod x 2 p
    rw [Nat.mul_comm p 2]; omega
  rw [hd, hx, hp] at h2 h3
  have hlt : x / 2 % p < p := Nat.mod_lt _ hpp
  refine ⟨by omega, ?_, ?_⟩
  · rw [e1, e3, Nat.pow_succ, hp, hx, hm, h2]
    by_cases hb : x % 2 = 1
    · rw [if_pos hb]; simp; omega
    · rw [if_neg hb]; congr 1; simp only [eq_iff_iff]; omega
  · rw [e1, e3, Nat.pow_succ, hp, hx, hm, h3]
    by_cases hb : x % 2 = 1
    · rw [if_pos hb]; congr 1; simp only [eq_iff_iff]; omega
    · rw [if_neg hb]; simp; omega
theorem inr_end {a k n : Nat} {z o : Bool} (h : InR a k 32 n z o) (hk : k ≤ 32) : (decide (n = 0) || (!z && !o)) = (decide (32 - k = 0) || (!decide (a % 2 ^ (32 - k) = 0) && !decide (a % 2 ^ (32 - k) = 2 ^ (32 - k) - 1))) := by
  obtain ⟨rfl, rfl, rfl⟩ := h
  simp
end Go.Proofs.YtlipckpacdioiaaDoor
