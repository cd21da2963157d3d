/- Addresses of a net, by numbers. -/
import Derived.Test.YtogeggklfcabkaaCHost
import Derived.Laws.BitsAllLaws
namespace Go.Proofs.Ytogeggklfcabkaa
open Go.RowKit
set_option linter.unusedVariables false
set_option linter.unusedSimpArgs false
theorem clear_low (x m : Nat) (hx : x < 2 ^ 32) (hm : m ≤ 32) : x &&& (4294967295 - (2 ^ m - 1)) = x / 2 ^ m * 2 ^ m := by
  have hle : 2 ^ m ≤ 2 ^ 32 := Nat.pow_le_pow_right (by decide) hm
  have h1 : 4294967295 - (2 ^ m - 1) = (2 ^ (32 - m) - 1) * 2 ^ m := by
    rw [Nat.sub_mul, ← Nat.pow_add, show 32 - m + m = 32 by omega]
    have := Nat.two_pow_pos m
    omega
  rw [h1]
  apply Nat.eq_of_testBit_eq
  intro i
  rw [Nat.testBit_and, Nat.testBit_mul_two_pow, Nat.testBit_mul_two_pow, Nat.testBit_two_pow_sub_one, Nat.testBit_div_two_pow]
  by_cases hi : m ≤ i
  · rw [show i - m + m = i by omega]
    by_cases h32 : i < 32
    · simp [hi, show i - m < 32 - m by omega]
    · have : x.testBit i = false := Nat.testBit_lt_two_pow (Nat.lt_of_lt_of_le hx (Nat.pow_le_pow_right (by decide) (by omega)))
      simp [this]
  · simp [hi]
theorem or_low (y m v : Nat) (hv : v < 2 ^ m) : y * 2 ^ m ||| v = y * 2 ^ m + v := by
  rw [Nat.mul_comm, Nat.two_pow_add_eq_or_of_lt hv]
theorem add_div (y m v : Nat) (hv : v < 2 ^ m) : (y * 2 ^ m + v) / 2 ^ m = y := by
  rw [Nat.mul_comm, Nat.mul_add_div (Nat.two_pow_pos m), Nat.div_eq_of_lt hv, Nat.add_zero]
theorem add_mod (y m v : Nat) (hv : v < 2 ^ m) : (y * 2 ^ m + v) % 2 ^ m = v := by
  rw [Nat.mul_comm, Nat.mul_add_mod, Nat.mod_eq_of_lt hv]
theorem kb_nat (k : Nat) (h : k ≤ 32) : kb (k : Int) = k := by unfold kb; omega
/-- A host's address, by numbers. -/
theorem host_num (lan k x : Nat) (hk : k ≤ 30) : hostB lan (k : Int) x = (decide (x / 2 ^ (32 - k) = lan / 2 ^ (32 - k)) && !decide (x = lan) && (!decide (x % 2 ^ (32 - k) = 0) && !decide (x % 2 ^ (32 - k) = 2 ^ (32 - k) - 1))) := by
  unfold hostB
  rw [winB_def, innerB_def, kb_nat k (by omega)]
  rw [show decide (32 - k = 0) = false by simp; omega, Bool.false_or]
theorem nv_net (lan k : Nat) (hk : k ≤ 30) : hostB lan k (lan / 2 ^ (32 - k) * 2 ^ (32 - k)) = false := by
  rw [host_num lan k _ hk, Nat.mul_mod_left]; simp
theorem nv_top (lan k : Nat) (hk : k ≤ 30) : hostB lan k (lan / 2 ^ (32 - k) * 2 ^ (32 - k) + (2 ^ (32 - k) - 1)) = false := by
  have := Nat.two_pow_pos (32 - k)
  rw [host_num lan k _ hk, add_mod _ _ _ (by omega)]; simp
theorem nv_lan (lan k : Nat) (hk : k ≤ 30) : hostB lan k lan = false := by
  rw [host_num lan k _ hk]; simp
theorem nv_in (lan k v : Nat) (hk : k ≤ 30) (hv : v < 2 ^ (32 - k)) : hostB lan k (lan / 2 ^ (32 - k) * 2 ^ (32 - k) + v) = (!decide (lan / 2 ^ (32 - k) * 2 ^ (32 - k) + v = lan / 2 ^ (32 - k) * 2 ^ (32 - k)) && !decide (lan / 2 ^ (32 - k) * 2 ^ (32 - k) + v = lan / 2 ^ (32 - k) * 2 ^ (32 - k) + (2 ^ (32 - k) - 1)) && !decide (lan / 2 ^ (32 - k) * 2 ^ (32 - k) + v = lan)) := by
  rw [host_num lan k _ hk, add_mod _ _ _ hv, add_div _ _ _ hv, Bool.eq_iff_iff]
  simp
  omega
theorem nv_any (lan k a : Nat) (hk : k ≤ 30) : hostB lan k a = (decide (a = lan / 2 ^ (32 - k) * 2 ^ (32 - k) + a % 2 ^ (32 - k)) && hostB lan k (lan / 2 ^ (32 - k) * 2 ^ (32 - k) + a % 2 ^ (32 - k))) := by
  have hlt := Nat.mod_lt a (Nat.two_pow_pos (32 - k))
  by_cases h : a / 2 ^ (32 - k) = lan / 2 ^ (32 - k)
  · have he : a = lan / 2 ^ (32 - k) * 2 ^ (32 - k) + a % 2 ^ (32 - k) := by
      rw [← h, Nat.mul_comm]; exact (Nat.div_add_mod a (2 ^ (32 - k))).symm
    rw [← he]; simp
  · have hne : ¬ a = lan / 2 ^ (32 - k) * 2 ^ (32 - k) + a % 2 ^ (32 - k) := fun e => h (by
      have he : a / 2 ^ (32 - k) = (lan / 2 ^ (32 - k) * 2 ^ (32 - k) + a % 2 ^ (32 - k)) / 2 ^ (32 - k) := congrArg (· / 2 ^ (32 - k)) e
      rw [add_div _ _ _ hlt] at he; exact he)
    rw [host_num lan k a hk]
    simp [h, hne]
end Go.Proofs.Ytogeggklfcabkaa
