/- Whether the bits of an address behind the first ones are neither all 0 nor all 1: the program's and the document's. -/
import Derived.Test.YtogeggklfcabkaaCWithin
namespace Go.Proofs.Ytogeggklfcabkaa
open Go.RowKit
set_option linter.unusedVariables false
set_option linter.unusedSimpArgs false
set_option maxRecDepth 100000
theorem ones_div (k : Nat) (hk : k ≤ 32) : (4294967295 : Nat) / 2 ^ k = 2 ^ (32 - k) - 1 := by
  have h : 2 ^ (32 - k) * 2 ^ k = 4294967296 := by rw [← Nat.pow_add, show 32 - k + k = 32 by omega]
  have hp : 0 < 2 ^ k := Nat.two_pow_pos k
  apply Nat.div_eq_of_lt_le
  · have h1 : (2 ^ (32 - k) - 1) * 2 ^ k = 2 ^ (32 - k) * 2 ^ k - 2 ^ k := by rw [Nat.sub_mul, Nat.one_mul]
    omega
  · have h1 : (2 ^ (32 - k) - 1 + 1) * 2 ^ k = 2 ^ (32 - k) * 2 ^ k := by rw [Nat.sub_add_cancel (Nat.two_pow_pos _)]
    omega
theorem ones_int (k : Nat) (hk : k ≤ 32) : (4294967295 : Int) / 2 ^ k = ((2 ^ (32 - k) - 1 : Nat) : Int) := by
  rw [← ones_div k hk]; simp
theorem innerB_def (a : Nat) (nb : Int) : innerB a nb = (decide (32 - kb nb = 0) || (!decide (a % 2 ^ (32 - kb nb) = 0) && !decide (a % 2 ^ (32 - kb nb) = 2 ^ (32 - kb nb) - 1))) := rfl
/-- Ways out: what the tests say, and the answer. -/
theorem inner_of {a m : Nat} {x y r : Bool} (h0 : m ≠ 0) (hx : x = !decide (a % 2 ^ m = 0)) (hy : y = !decide (a % 2 ^ m = 2 ^ m - 1)) (hr : r = (decide (m = 0) || (!decide (a % 2 ^ m = 0) && !decide (a % 2 ^ m = 2 ^ m - 1)))) : r = (x && y) := by
  rw [hr, hx, hy]; simp [h0]
set_option maxHeartbeats 400000 in
theorem amid_any (a : Nat) (nb : Int) (w : World) (ha : a ≤ 4294967295) :
    Calls Try.prog 29 #[.int .u32 (a : Int), .int .i64 nb] w fun e w' => e = .returned (.bool (innerB a nb)) ∧ w' = w := by
  have hw0 := innerB_def a nb
  obtain ⟨r, hr⟩ : ∃ r, innerB a nb = r := ⟨_, rfl⟩
  rw [hr] at hw0
  rw [hr]
  by_cases h1 : nb < 0
  · rw [kb_neg h1] at hw0
    have hm := mask_u32 a 32 ha (by omega)
    have hx : (bits .and .u32 (a : Int) 4294967295 != 0) = !decide (a % 2 ^ 32 = 0) := by
      rw [show (4294967295 : Int) = ((2 ^ 32 - 1 : Nat) : Int) from rfl, hm, show (0 : Int) = ((0 : Nat) : Int) from rfl, int_beq]
    have hy : (bits .and .u32 (a : Int) 4294967295 != 4294967295) = !decide (a % 2 ^ 32 = 2 ^ 32 - 1) := by
      rw [show (4294967295 : Int) = ((2 ^ 32 - 1 : Nat) : Int) from rfl, hm, int_beq]
    obtain ⟨x, hx2⟩ : ∃ x, (bits .and .u32 (a : Int) 4294967295 != 0) = x := ⟨_, rfl⟩
    obtain ⟨y, hy2⟩ : ∃ x, (bits .and .u32 (a : Int) 4294967295 != 4294967295) = x := ⟨_, rfl⟩
    rw [hx2] at hx
    rw [hy2] at hy
    have HR := hide (inner_of (by decide) hx hy hw0)
    clear hm hx hy hw0 hr
    cases x <;> cases y <;>
    · go_enter Try.func29, Try.ntmps29
      go_wp2_with fail
      go_ret
      exact ⟨by rw [HR.out]; rfl, rfl⟩
  · obtain ⟨k, rfl⟩ := Int.eq_ofNat_of_zero_le (show 0 ≤ nb by omega)
    by_cases h2 : k < 32
    · have hk : kb (k : Int) = k := by unfold kb; omega
      rw [hk] at hw0
      have hone := ones_int k (by omega)
      have hm := mask_u32 a (32 - k) ha (by omega)
      have hz : ((4294967295 : Int) / 2 ^ k == 0) = false := by
        rw [hone]
        have : 2 ^ 1 ≤ 2 ^ (32 - k) := Nat.pow_le_pow_right (by decide) (by omega)
        simp; omega
      have hx : (bits .and .u32 (a : Int) ((4294967295 : Int) / 2 ^ k) != 0) = !decide (a % 2 ^ (32 - k) = 0) := by
        rw [hone, hm, show (0 : Int) = ((0 : Nat) : Int) from rfl, int_beq]
      have hy : (bits .and .u32 (a : Int) ((4294967295 : Int) / 2 ^ k) != (4294967295 : Int) / 2 ^ k) = !decide (a % 2 ^ (32 - k) = 2 ^ (32 - k) - 1) := by
        rw [hone, hm, int_beq]
      obtain ⟨x, hx2⟩ : ∃ x, (bits .and .u32 (a : Int) ((4294967295 : Int) / 2 ^ k) != 0) = x := ⟨_, rfl⟩
      obtain ⟨y, hy2⟩ : ∃ x, (bits .and .u32 (a : Int) ((4294967295 : Int) / 2 ^ k) != (4294967295 : Int) / 2 ^ k) = x := ⟨_, rfl⟩
      rw [hx2] at hx
      rw [hy2] at hy
      have HR := hide (inner_of (by omega) hx hy hw0)
      clear hm hx hy hw0 hr hone hk
      cases x <;> cases y <;>
      · go_enter Try.func29, Try.ntmps29
        go_wp2_with fail
        go_ret
        exact ⟨by rw [HR.out]; rfl, rfl⟩
    · have hk : kb (k : Int) = 32 := by unfold kb; omega
      rw [hk] at hw0
      have HR := hide (show r = true by rw [hw0]; rfl)
      have hmn : min k 32 = 32 := by omega
      clear hw0 hr hk
      go_enter Try.func29, Try.ntmps29
      go_wp2_with fail
      go_ret
      exact ⟨by rw [HR.out]; rfl, rfl⟩
set_option maxHeartbeats 800000 in
theorem innerR_any (a : Nat) (nb : Int) (w : World) (ha : a ≤ 4294967295) :
    Calls Try.prog 25 #[.int .u32 (a : Int), .int .i64 nb] w fun e w' => e = .returned (.bool (innerB a nb)) ∧ w' = w := by
  have hw0 := innerB_def a nb
  obtain ⟨r, hr⟩ : ∃ r, innerB a nb = r := ⟨_, rfl⟩
  rw [hr] at hw0
  rw [hr]
  have HW := hide hw0
  clear hw0 hr
  have hkb : kb nb ≤ 32 := by unfold kb; omega
  go_enter Try.func25, Try.ntmps25
  go_wp2_with fail
  go_loop [5, 6, 7, 8] (fun n z o i => ∃ (j m : Nat) (x y : Bool), j ≤ 32 ∧ m ≤ j ∧ i = .int .i64 j ∧ n = .int .i64 m ∧ z = .bool x ∧ o = .bool y ∧ Hid (if j < kb nb then m = 0 ∧ x = true ∧ y = true else InR a (kb nb) j m x y)) (fun _ _ _ i => 32 - (intOf i).toNat)
  case atStart =>
    refine ⟨0, 0, true, true, by omega, by omega, rfl, rfl, rfl, rfl, hide ?_⟩
    split
    · exact ⟨rfl, rfl, rfl⟩
    · have : kb nb = 0 := by omega
      rw [this]; exact inr_start a 0
  case round =>
    obtain ⟨j, m, x, y, hj, hmj, rfl, rfl, rfl, rfl, HR⟩ := hrel
    by_cases hlt : j < 32
    · have h1 : decide ((j : Int) < 32) = true := by simp; omega
      by_cases hb : j < kb nb
      · have h2 : decide ((j : Int) < nb) = true := by unfold kb at hb; simp; omega
        have HN := hide (show (if j + 1 < kb nb then m = 0 ∧ x = true ∧ y = true else InR a (kb nb) (j + 1) m x y) by
          have h := HR.out
          rw [if_pos hb] at h
          split
          · exact h
          · obtain ⟨rfl, rfl, rfl⟩ := h
            rw [show j + 1 = kb nb by omega]; exact inr_start a _)
        clear hb
        go_wp2_with fail
        go_round
        case rel => exact ⟨j + 1, m, x, y, by omega, by omega, by go_num, rfl, rfl, rfl, HN⟩
        case measure => simp [intOf]; omega
      · have h2 : decide ((j : Int) < nb) = false := by unfold kb at hb; simp; omega
        have h3 : (j : Int) ≤ 31 := by omega
        have hA : bits .and .u32 ((a : Int) / 2 ^ (31 - j)) 1 = ((a / 2 ^ (31 - j) % 2 : Nat) : Int) := by rw [shr_nat]; exact and1_u32 _ (div_le _ _ ha)
        have hS := HR.out
        rw [if_neg hb] at hS
        have hN := inr_step hS (by omega) hlt
        by_cases hbit : a / 2 ^ (31 - j) % 2 = 1
        · rw [if_pos hbit, if_pos hbit] at hN
          have HN := hide (show (if j + 1 < kb nb then m + 1 = 0 ∧ false = true ∧ y = true else InR a (kb nb) (j + 1) (m + 1) false y) by rw [if_neg (by omega)]; exact hN)
          have h4 : (bits .and .u32 ((a : Int) / 2 ^ (31 - j)) 1 == 1) = true := by rw [hA, hbit]; rfl
          clear hA hS hN hb hbit
          go_wp2_with fail
          go_round
          case rel => exact ⟨j + 1, m + 1, false, y, by omega, by omega, by go_num, by go_num, rfl, rfl, HN⟩
          case measure => simp [intOf]; omega
        · rw [if_neg hbit, if_neg hbit] at hN
          have HN := hide (show (if j + 1 < kb nb then m + 1 = 0 ∧ x = true ∧ false = true else InR a (kb nb) (j + 1) (m + 1) x false) by rw [if_neg (by omega)]; exact hN)
          have h4 : (bits .and .u32 ((a : Int) / 2 ^ (31 - j)) 1 == 1) = false := by rw [hA, show a / 2 ^ (31 - j) % 2 = 0 by omega]; rfl
          clear hA hS hN hb hbit
          go_wp2_with fail
          go_round
          case rel => exact ⟨j + 1, m + 1, x, false, by omega, by omega, by go_num, by go_num, rfl, rfl, HN⟩
          case measure => simp [intOf]; omega
    · obtain rfl : j = 32 := by omega
      have h1 : decide (((32 : Nat) : Int) < 32) = false := by decide
      have hS := HR.out
      rw [if_neg (by omega)] at hS
      have hE := inr_end hS hkb
      rw [← HW.out] at hE
      have HE := hide hE
      clear hS hE HR hlt
      by_cases hm : m = 0
      · have h2 : ((m : Int) == 0) = true := by simp [hm]
        have HE2 := hide (show r = true by rw [← HE.out]; simp [hm])
        clear hm
        go_wp2_with fail
        go_ret
        exact ⟨by rw [HE2.out]; rfl, rfl⟩
      · have h2 : ((m : Int) == 0) = false := by simp; omega
        have HE2 := hide (show r = (!x && !y) by rw [← HE.out]; simp [hm])
        clear hm
        cases x <;> cases y <;>
        · go_wp2_with fail
          go_ret
          exact ⟨by rw [HE2.out]; rfl, rfl⟩
end Go.Proofs.Ytogeggklfcabkaa
