/- Plain facts on addresses: nets by bits. No program is named. -/
import Derived.Test.YtbibobjkclgogaaGPlain
import Derived.Test.YtbibobjkclgogaaProg
import Derived.IntWalk
import Derived.Below
import Derived.Laws.BitsAllLaws
import Derived.Deep.RegionHeld3
import Derived.Deep.WholeRow
import Derived.Deep.Cut
namespace Go.Proofs.Ytbibobjkclgogaa
open Go.RowKit
set_option linter.unusedVariables false
/-- The step of a comparison by bits. -/
theorem win_step (a n m : Nat) : (a / 2 ^ m = n / 2 ^ m) ↔ (a / 2 ^ (m + 1) = n / 2 ^ (m + 1) ∧ a / 2 ^ m % 2 = n / 2 ^ m % 2) := by
  have h : ∀ x : Nat, x / 2 ^ (m + 1) = x / 2 ^ m / 2 := fun x => by rw [Nat.pow_succ, Nat.div_div_eq_div_mul]
  rw [h, h]; omega
def kb (bits : Int) : Nat := min bits.toNat 32
def winB (a n : Nat) (bits : Int) : Bool := decide (a / 2 ^ (32 - kb bits) = n / 2 ^ (32 - kb bits))
/-- The bits of an address behind the first ones. -/
def low (a : Nat) (bits : Int) : Nat := a % 2 ^ (32 - kb bits)
def innerB (a : Nat) (bits : Int) : Bool := decide (32 - kb bits = 0) || (!decide (low a bits = 0) && !decide (low a bits = 2 ^ (32 - kb bits) - 1))
/-- What the document's loop knows when i bits have been gone through. -/
def InR (a : Nat) (k i n : Nat) (z o : Bool) : Prop := n = i - k ∧ z = decide (a / 2 ^ (32 - i) % 2 ^ (i - k) = 0) ∧ o = decide (a / 2 ^ (32 - i) % 2 ^ (i - k) = 2 ^ (i - k) - 1)
theorem inr_start (a k : Nat) : InR a k k 0 true true := by
  refine ⟨by simp, ?_, ?_⟩ <;> simp [Nat.mod_one]
theorem inr_step {a k i n : Nat} {z o : Bool} (h : InR a k i n z o) (hk : k ≤ i) (hi : i < 32) :
    InR a k (i + 1) (n + 1) (if a / 2 ^ (31 - i) % 2 = 1 then false else z) (if a / 2 ^ (31 - i) % 2 = 1 then o else false) := by
  obtain ⟨h1, h2, h3⟩ := h
  have e1 : 32 - (i + 1) = 31 - i := by omega
  have e2 : 32 - i = (31 - i) + 1 := by omega
  have e3 : i + 1 - k = (i - k) + 1 := by omega
  have hd : a / 2 ^ (32 - i) = a / 2 ^ (31 - i) / 2 := by rw [e2, Nat.pow_succ, Nat.div_div_eq_div_mul]
  obtain ⟨x, hx⟩ : ∃ x, a / 2 ^ (31 - i) = x := ⟨_, rfl⟩
  obtain ⟨p, hp⟩ : ∃ p, 2 ^ (i - k) = p := ⟨_, rfl⟩
  have hpp : 0 < p := by rw [← hp]; exact Nat.two_pow_pos _
  have hm : x % (p * 2) = 2 * (x / 2 % p) + x % 2 := by
    have h1 := Nat.mod_mul_right_div_self x 2 p
    have h2 := Nat.div_add_mod (x % (2 * p)) 2
    have h3 := Nat.mod_mul_right_mod x 2 p
    rw [Nat.mul_comm p 2]; omega
  rw [hd, hx, hp] at h2 h3
  have hlt : x / 2 % p < p := Nat.mod_lt _ hpp
  refine ⟨by omega, ?_, ?_⟩
  · rw [e1, e3, Nat.pow_succ, hp, hx, hm, h2]
    by_cases hb : x % 2 = 1
    · rw [if_pos hb]; simp; omega
    · rw [if_neg hb]; congr 1; simp only [eq_iff_iff]; omega
  · rw [e1, e3, Nat.pow_succ, hp, hx, hm, h3]
    by_cases hb : x % 2 = 1
    · rw [if_pos hb]; congr 1; simp only [eq_iff_iff]; omega
    · rw [if_neg hb]; simp; omega
theorem inr_end {a k n : Nat} {z o : Bool} (h : InR a k 32 n z o) (hk : k ≤ 32) : (decide (n = 0) || (!z && !o)) = (decide (32 - k = 0) || (!decide (a % 2 ^ (32 - k) = 0) && !decide (a % 2 ^ (32 - k) = 2 ^ (32 - k) - 1))) := by
  obtain ⟨rfl, rfl, rfl⟩ := h
  simp
end Go.Proofs.Ytbibobjkclgogaa

/- Whether an address belongs to a net: the program's and the document's. -/
namespace Go.Proofs.Ytbibobjkclgogaa
open Go.RowKit
set_option linter.unusedVariables false
set_option linter.unusedSimpArgs false
set_option maxRecDepth 100000
theorem and1_u32 (x : Nat) (h : x ≤ 4294967295) : bits .and .u32 (x : Int) 1 = ((x % 2 : Nat) : Int) := by
  rw [show (1 : Int) = ((1 : Nat) : Int) from rfl, u32_and_nat _ _ (by omega) (by omega), Nat.and_one_is_mod]
theorem mask_u32 (x m : Nat) (h : x ≤ 4294967295) (hm : m ≤ 32) : bits .and .u32 (x : Int) ((2 ^ m - 1 : Nat) : Int) = ((x % 2 ^ m : Nat) : Int) := by
  have : 2 ^ m ≤ 2 ^ 32 := Nat.pow_le_pow_right (by decide) hm
  rw [u32_and_nat _ _ (by omega) (by omega), Nat.and_two_pow_sub_one_eq_mod]
theorem div_le (a m : Nat) (h : a ≤ 4294967295) : a / 2 ^ m ≤ 4294967295 := Nat.le_trans (Nat.div_le_self _ _) h
theorem shr_nat (a m : Nat) : (a : Int) / (2 : Int) ^ m = ((a / 2 ^ m : Nat) : Int) := by simp
theorem kb_neg {nb : Int} (h : nb < 0) : kb nb = 0 := by unfold kb; omega
theorem kb_big {nb : Int} (h : 32 < nb) : kb nb = 32 := by unfold kb; omega
theorem kb_mid {nb : Int} (h : 0 ≤ nb) (h2 : nb ≤ 32) : kb nb = nb.toNat := by unfold kb; omega
theorem winB_def (a n : Nat) (nb : Int) : winB a n nb = decide (a / 2 ^ (32 - kb nb) = n / 2 ^ (32 - kb nb)) := rfl
theorem int_beq (a b : Nat) : ((a : Int) != (b : Int)) = !decide (a = b) := by
  by_cases h : a = b
  · simp [h]
  · simp [h]; omega
theorem int_beq2 (a b : Nat) : ((a : Int) == (b : Int)) = decide (a = b) := by
  rw [Bool.eq_iff_iff]; simp; omega
set_option maxHeartbeats 400000 in
theorem withinR_any (a n : Nat) (nb : Int) (w : World) (ha : a ≤ 4294967295) (hn : n ≤ 4294967295) :
    Calls Try.prog 40 #[.int .u32 (a : Int), .int .u32 (n : Int), .int .i64 nb] w fun e w' => e = .returned (.bool (winB a n nb)) ∧ w' = w := by
  have hw0 := winB_def a n nb
  obtain ⟨r, hr⟩ : ∃ r, winB a n nb = r := ⟨_, rfl⟩
  rw [hr] at hw0
  rw [hr]
  have HW := hide hw0
  clear hw0 hr
  go_enter Try.func40, Try.ntmps40
  go_wp2_with fail
  go_loop [7] (fun i => ∃ j : Nat, j ≤ kb nb ∧ i = .int .i64 j ∧ Hid (a / 2 ^ (32 - j) = n / 2 ^ (32 - j))) (fun i => 32 - (intOf i).toNat)
  case atStart => exact ⟨0, Nat.zero_le _, rfl, hide (by omega)⟩
  case round =>
    obtain ⟨j, hj, rfl, HR⟩ := hrel
    have hkb : kb nb ≤ 32 := by unfold kb; omega
    by_cases hlt : j < kb nb
    · have h1 : decide ((j : Int) < 32) = true := by unfold kb at hlt; simp; omega
      have h2 : decide ((j : Int) < nb) = true := by unfold kb at hlt; simp; omega
      have h3 : (j : Int) ≤ 31 := by unfold kb at hlt; omega
      have hA : bits .and .u32 ((a : Int) / 2 ^ (31 - j)) 1 = ((a / 2 ^ (31 - j) % 2 : Nat) : Int) := by rw [shr_nat]; exact and1_u32 _ (div_le _ _ ha)
      have hN : bits .and .u32 ((n : Int) / 2 ^ (31 - j)) 1 = ((n / 2 ^ (31 - j) % 2 : Nat) : Int) := by rw [shr_nat]; exact and1_u32 _ (div_le _ _ hn)
      have hst := win_step a n (31 - j)
      rw [show 31 - j + 1 = 32 - j by omega] at hst
      by_cases hb : a / 2 ^ (31 - j) % 2 = n / 2 ^ (31 - j) % 2
      · have hB : (bits .and .u32 ((a : Int) / 2 ^ (31 - j)) 1 != bits .and .u32 ((n : Int) / 2 ^ (31 - j)) 1) = false := by rw [hA, hN, int_beq]; simp [hb]
        have HN := hide (hst.2 ⟨HR.out, hb⟩)
        clear hA hN hst hb
        go_wp2_with fail
        go_round
        case rel => exact ⟨j + 1, by omega, by go_num, by rw [show 32 - (j + 1) = 31 - j by omega]; exact HN⟩
        case measure => simp [intOf]; omega
      · have hB : (bits .and .u32 ((a : Int) / 2 ^ (31 - j)) 1 != bits .and .u32 ((n : Int) / 2 ^ (31 - j)) 1) = true := by rw [hA, hN, int_beq]; simp [hb]
        have HF := hide (show r = false by
          rw [HW.out]
          simp only [decide_eq_false_iff_not]
          intro hc
          have hd : a / 2 ^ (31 - j) = n / 2 ^ (31 - j) := by
            have hp : ∀ x : Nat, x / 2 ^ (31 - j) = x / 2 ^ (32 - kb nb) / 2 ^ (kb nb - 1 - j) := fun x => by
              rw [Nat.div_div_eq_div_mul, ← Nat.pow_add]; congr 2; omega
            rw [hp a, hp n, hc]
          exact hb (hst.1 hd).2)
        clear hA hN hst hb
        go_wp2_with fail
        go_ret
        exact ⟨by rw [HF.out]; rfl, rfl⟩
    · have hje : j = kb nb := by omega
      have HT := hide (show r = true by
        rw [HW.out, ← hje]; simpa using HR.out)
      by_cases h1 : j < 32
      · have h1 : decide ((j : Int) < 32) = true := by simp; omega
        have h2 : decide ((j : Int) < nb) = false := by unfold kb at hje; simp; omega
        clear hje HR
        go_wp2_with fail
        go_ret
        exact ⟨by rw [HT.out]; rfl, rfl⟩
      · have h1 : decide ((j : Int) < 32) = false := by simp; omega
        clear hje HR
        go_wp2_with fail
        go_ret
        exact ⟨by rw [HT.out]; rfl, rfl⟩
end Go.Proofs.Ytbibobjkclgogaa

/- Whether the bits of an address behind the first ones are neither all 0 nor all 1: the program's and the document's. -/
namespace Go.Proofs.Ytbibobjkclgogaa
open Go.RowKit
set_option linter.unusedVariables false
set_option linter.unusedSimpArgs false
set_option maxRecDepth 100000
theorem ones_div (k : Nat) (hk : k ≤ 32) : (4294967295 : Nat) / 2 ^ k = 2 ^ (32 - k) - 1 := by
  have h : 2 ^ (32 - k) * 2 ^ k = 4294967296 := by rw [← Nat.pow_add, show 32 - k + k = 32 by omega]
  have hp : 0 < 2 ^ k := Nat.two_pow_pos k
  apply Nat.div_eq_of_lt_le
  · have h1 : (2 ^ (32 - k) - 1) * 2 ^ k = 2 ^ (32 - k) * 2 ^ k - 2 ^ k := by rw [Nat.sub_mul, Nat.one_mul]
    omega
  · have h1 : (2 ^ (32 - k) - 1 + 1) * 2 ^ k = 2 ^ (32 - k) * 2 ^ k := by rw [Nat.sub_add_cancel (Nat.two_pow_pos _)]
    omega
theorem ones_int (k : Nat) (hk : k ≤ 32) : (4294967295 : Int) / 2 ^ k = ((2 ^ (32 - k) - 1 : Nat) : Int) := by
  rw [← ones_div k hk]; simp
theorem innerB_def (a : Nat) (nb : Int) : innerB a nb = (decide (32 - kb nb = 0) || (!decide (a % 2 ^ (32 - kb nb) = 0) && !decide (a % 2 ^ (32 - kb nb) = 2 ^ (32 - kb nb) - 1))) := rfl
/-- Ways out: what the tests say, and the answer. -/
theorem inner_of {a m : Nat} {x y r : Bool} (h0 : m ≠ 0) (hx : x = !decide (a % 2 ^ m = 0)) (hy : y = !decide (a % 2 ^ m = 2 ^ m - 1)) (hr : r = (decide (m = 0) || (!decide (a % 2 ^ m = 0) && !decide (a % 2 ^ m = 2 ^ m - 1)))) : r = (x && y) := by
  rw [hr, hx, hy]; simp [h0]
set_option maxHeartbeats 800000 in
theorem innerR_any (a : Nat) (nb : Int) (w : World) (ha : a ≤ 4294967295) :
    Calls Try.prog 39 #[.int .u32 (a : Int), .int .i64 nb] w fun e w' => e = .returned (.bool (innerB a nb)) ∧ w' = w := by
  have hw0 := innerB_def a nb
  obtain ⟨r, hr⟩ : ∃ r, innerB a nb = r := ⟨_, rfl⟩
  rw [hr] at hw0
  rw [hr]
  have HW := hide hw0
  clear hw0 hr
  have hkb : kb nb ≤ 32 := by unfold kb; omega
  go_enter Try.func39, Try.ntmps39
  go_wp2_with fail
  go_loop [5, 6, 7, 8] (fun n z o i => ∃ (j m : Nat) (x y : Bool), j ≤ 32 ∧ m ≤ j ∧ i = .int .i64 j ∧ n = .int .i64 m ∧ z = .bool x ∧ o = .bool y ∧ Hid (if j < kb nb then m = 0 ∧ x = true ∧ y = true else InR a (kb nb) j m x y)) (fun _ _ _ i => 32 - (intOf i).toNat)
  case atStart =>
    refine ⟨0, 0, true, true, by omega, by omega, rfl, rfl, rfl, rfl, hide ?_⟩
    split
    · exact ⟨rfl, rfl, rfl⟩
    · have : kb nb = 0 := by omega
      rw [this]; exact inr_start a 0
  case round =>
    obtain ⟨j, m, x, y, hj, hmj, rfl, rfl, rfl, rfl, HR⟩ := hrel
    by_cases hlt : j < 32
    · have h1 : decide ((j : Int) < 32) = true := by simp; omega
      by_cases hb : j < kb nb
      · have h2 : decide ((j : Int) < nb) = true := by unfold kb at hb; simp; omega
        have HN := hide (show (if j + 1 < kb nb then m = 0 ∧ x = true ∧ y = true else InR a (kb nb) (j + 1) m x y) by
          have h := HR.out
          rw [if_pos hb] at h
          split
          · exact h
          · obtain ⟨rfl, rfl, rfl⟩ := h
            rw [show j + 1 = kb nb by omega]; exact inr_start a _)
        clear hb
        go_wp2_with fail
        go_round
        case rel => exact ⟨j + 1, m, x, y, by omega, by omega, by go_num, rfl, rfl, rfl, HN⟩
        case measure => simp [intOf]; omega
      · have h2 : decide ((j : Int) < nb) = false := by unfold kb at hb; simp; omega
        have h3 : (j : Int) ≤ 31 := by omega
        have hA : bits .and .u32 ((a : Int) / 2 ^ (31 - j)) 1 = ((a / 2 ^ (31 - j) % 2 : Nat) : Int) := by rw [shr_nat]; exact and1_u32 _ (div_le _ _ ha)
        have hS := HR.out
        rw [if_neg hb] at hS
        have hN := inr_step hS (by omega) hlt
        by_cases hbit : a / 2 ^ (31 - j) % 2 = 1
        · rw [if_pos hbit, if_pos hbit] at hN
          have HN := hide (show (if j + 1 < kb nb then m + 1 = 0 ∧ false = true ∧ y = true else InR a (kb nb) (j + 1) (m + 1) false y) by rw [if_neg (by omega)]; exact hN)
          have h4 : (bits .and .u32 ((a : Int) / 2 ^ (31 - j)) 1 == 1) = true := by rw [hA, hbit]; rfl
          clear hA hS hN hb hbit
          go_wp2_with fail
          go_round
          case rel => exact ⟨j + 1, m + 1, false, y, by omega, by omega, by go_num, by go_num, rfl, rfl, HN⟩
          case measure => simp [intOf]; omega
        · rw [if_neg hbit, if_neg hbit] at hN
          have HN := hide (show (if j + 1 < kb nb then m + 1 = 0 ∧ x = true ∧ false = true else InR a (kb nb) (j + 1) (m + 1) x false) by rw [if_neg (by omega)]; exact hN)
          have h4 : (bits .and .u32 ((a : Int) / 2 ^ (31 - j)) 1 == 1) = false := by rw [hA, show a / 2 ^ (31 - j) % 2 = 0 by omega]; rfl
          clear hA hS hN hb hbit
          go_wp2_with fail
          go_round
          case rel => exact ⟨j + 1, m + 1, x, false, by omega, by omega, by go_num, by go_num, rfl, rfl, HN⟩
          case measure => simp [intOf]; omega
    · obtain rfl : j = 32 := by omega
      have h1 : decide (((32 : Nat) : Int) < 32) = false := by decide
      have hS := HR.out
      rw [if_neg (by omega)] at hS
      have hE := inr_end hS hkb
      rw [← HW.out] at hE
      have HE := hide hE
      clear hS hE HR hlt
      by_cases hm : m = 0
      · have h2 : ((m : Int) == 0) = true := by simp [hm]
        have HE2 := hide (show r = true by rw [← HE.out]; simp [hm])
        clear hm
        go_wp2_with fail
        go_ret
        exact ⟨by rw [HE2.out]; rfl, rfl⟩
      · have h2 : ((m : Int) == 0) = false := by simp; omega
        have HE2 := hide (show r = (!x && !y) by rw [← HE.out]; simp [hm])
        clear hm
        cases x <;> cases y <;>
        · go_wp2_with fail
          go_ret
          exact ⟨by rw [HE2.out]; rfl, rfl⟩
end Go.Proofs.Ytbibobjkclgogaa

/- Whether an address is a host's: the program's and the document's. -/
namespace Go.Proofs.Ytbibobjkclgogaa
open Go.RowKit
set_option linter.unusedVariables false
set_option linter.unusedSimpArgs false
set_option maxRecDepth 100000
def hostB (lan : Nat) (nb : Int) (a : Nat) : Bool := winB a lan nb && !decide (a = lan) && innerB a nb
/-- The cells of a configuration, as far as hosts hang on them. -/
structure CfH (cs : Array Value) (lan : Nat) (nb : Int) : Prop where
  size : cs.size = 28
  lan : cs[18]? = some (.int .u32 (lan : Int))
  bits : cs[20]? = some (.int .i64 nb)
set_option maxHeartbeats 800000 in
theorem hostR_any (cs : Array Value) (lan : Nat) (nb : Int) (a : Nat) (w : World) (hc : CfH cs lan nb) (hl : lan ≤ 4294967295) (ha : a ≤ 4294967295) :
    Calls Try.prog 17 #[.agg cs, .int .u32 (a : Int)] w fun e w' => e = .returned (.bool (hostB lan nb a)) ∧ Below w.heap.size w w' := by
  have hw0 : hostB lan nb a = (winB a lan nb && !decide (a = lan) && innerB a nb) := rfl
  obtain ⟨r, hr⟩ : ∃ r, hostB lan nb a = r := ⟨_, rfl⟩
  rw [hr] at hw0
  rw [hr]
  obtain ⟨_, c18⟩ := Array.getElem?_eq_some_iff.1 hc.lan
  obtain ⟨_, c20⟩ := Array.getElem?_eq_some_iff.1 hc.bits
  have h2 := hc.size
  have HB := hide ((Below.refl w.heap.size w).alloc (Nat.le_refl _) (.cells cs 28))
  obtain ⟨p, hp⟩ : ∃ p, winB a lan nb = p := ⟨_, rfl⟩
  have hq : ((a : Int) != (lan : Int)) = !decide (a = lan) := int_beq a lan
  obtain ⟨q, hq2⟩ : ∃ q, ((a : Int) != (lan : Int)) = q := ⟨_, rfl⟩
  rw [hq2] at hq
  obtain ⟨t, ht⟩ : ∃ t, innerB a nb = t := ⟨_, rfl⟩
  rw [hp, ← hq, ht] at hw0
  have HW := hide (fun V : World => withinR_any a lan nb V ha hl)
  rw [hp] at HW
  have HA := hide (fun V : World => innerR_any a nb V ha)
  rw [ht] at HA
  have HR := hide hw0
  clear hw0 hr hq hp ht hc
  cases p <;> cases q <;> cases t <;>
  · go_enter Try.func17, Try.ntmps17
    go_wp2_with fail
    refine (HW.out _).mono ?_
    rintro e w1 ⟨rfl, rfl⟩
    have HD := HB
    go_wp2_with (go_at_call 39; refine (HA.out _).mono ?_; rintro e w2 ⟨rfl, rfl⟩)
    go_ret
    exact ⟨by rw [HR.out]; rfl, HD.out⟩
end Go.Proofs.Ytbibobjkclgogaa

/- The example of layer 9. -/
namespace Go.Proofs.Ytbibobjkclgogaa
open Go.RowKit
set_option linter.unusedVariables false
set_option linter.unusedSimpArgs false
set_option maxRecDepth 100000
abbrev exCells : Array Value := #[.int .u8 0, .int .u8 0, .int .u8 0, .int .u8 0, .int .u8 0, .int .u8 0, .int .u8 0, .int .u8 0, .int .u8 0, .int .u8 0, .int .u8 0, .int .u8 0, .int .u8 0, .int .u8 0, .int .u8 0, .int .u8 0, .int .u8 0, .int .u8 0, .int .u32 3232235777, .int .u32 0, .int .i64 24, .int .i64 0, .int .i64 0, .int .i64 0, .int .i64 0, .slice none 0 0, .int .u32 0, .string ⟨#[]⟩]
theorem ex_cf : CfH exCells 3232235777 24 := ⟨rfl, rfl, rfl⟩
theorem ex1 : hostB 3232235777 24 3232235783 = true := by decide +kernel
theorem ex2 : hostB 3232235777 24 3232235776 = false := by decide +kernel
theorem ex3 : hostB 3232235777 24 3232235777 = false := by decide +kernel
theorem ex4 : hostB 3232235777 24 3232236031 = false := by decide +kernel
theorem ex5 : hostB 3232235777 24 3232236039 = false := by decide +kernel
theorem cells_all {w : World} {R : Nat} {t : TypeId} {cs : Array Value} (h : w.heap[R]? = some (.cells cs t (0, 0))) : ∀ i, w.cell? ⟨R, i, none⟩ = cs[i]? := by
  intro i; simp [World.cell?, h]
theorem below_blk {w w' : World} {R B : Nat} {o : Obj} (h : Below B w w') (ho : w.heap[R]? = some o) (hB : w.heap.size ≤ B) : w'.heap[R]? = some o := (h.block R (Nat.lt_of_lt_of_le (lt_of_block ho) hB)).trans ho
/-- A whole block, loaded. -/
theorem run_lcf {P : Program} {w : World} {B : Nat} {cs : Array Value} {t : TypeId} (h : w.heap[B]? = some (.cells cs t (0, 0))) {n : Nat} (hn : cs.size = n) :
    (loadCellsFrom ⟨B, 0, none⟩ 0 n #[]).run P w = .ok cs w := by
  subst hn
  have := run_loadCells_list (P := P) w ⟨B, 0, none⟩ cs.toList (fun j v hv => by
    have hadd : (⟨B, 0, none⟩ : Addr).add j = ⟨B, j, none⟩ := by unfold Addr.add; split <;> simp_all
    rw [hadd, cell_of_row _ _ j cs t (0, 0) h]
    simpa using hv)
  simpa [loadCells] using this
theorem info_cfg : (Try.prog.info? 28).map (·.size) = some 28 := by kernel_rfl
/-- A configuration, loaded whole. -/
theorem ld_cfg {ops : Array Oper} {rest : List Oper} {o : Oper} {a : Act} {w : World} {Q : Exit → Act → World → Prop} (x : Operand) (ho : o.op = .load 28 x) (hw : Region.wanted o (yielded ops a.tmps) = true)
    (g : Nat) (hx : a.eval x = .pointer (some ⟨g, 0, none⟩)) (cs : Array Value) (hg : w.heap[g]? = some (.cells cs 28 (0, 0))) (hs : cs.size = 28)
    (h : wpList Try.prog ops Q rest (a.put o.dst (.agg cs)) w) : wpList Try.prog ops Q (o :: rest) a w :=
  BigFrame.wpList_want hw fun K hK => wp_load_row 28 x ho g hx _ cs (0, 0) _ hg Try.underlying28 rfl (by rw [hs]; exact info_cfg) (hK _ _ h)
def exB : Array Value := exCells
end Go.Proofs.Ytbibobjkclgogaa
