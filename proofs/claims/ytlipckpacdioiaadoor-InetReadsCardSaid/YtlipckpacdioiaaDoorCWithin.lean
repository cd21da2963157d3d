/- Whether an address belongs to a net: the program's and the document's. -/
import Derived.Test.YtlipckpacdioiaaDoorCPlain
import Derived.Test.YtlipckpacdioiaaDoorProg
import Derived.IntWalk
import Derived.Below
import Derived.Laws.BitsAllLaws
import Derived.Deep.RegionHeld3
namespace Go.Proofs.YtlipckpacdioiaaDoor
open Go.RowKit
set_option linter.unusedVariables false
set_option linter.unusedSimpArgs false
set_option maxRecDepth 100000
theorem and1_u32 (x : Nat) (h : x ≤ 4294967295) : bits .and .u32 (x : Int) 1 = ((x % 2 : Nat) : Int) := by
  rw [show (1 : Int) = ((1 : Nat) : Int) from rfl, u32_and_nat _ _ (by omega) (by omega), Nat.and_one_is_mod]
theorem mask_u32 (x m : Nat) (h : x ≤ 4294967295) (hm : m ≤ 32) : bits .and .u32 (x : Int) ((2 ^ m - 1 : Nat) : Int) = ((x % 2 ^ m : Nat) : Int) := by
  have : 2 ^ m ≤ 2 ^ 32 := Nat.pow_le_pow_right (by decide) hm
  rw [u32_and_nat _ _ (by omega) (by omega), Nat.and_two_pow_sub_one_eq_mod]
theorem div_le (a m : Nat) (h : a ≤ 4294967295) : a / 2 ^ m ≤ 4294967295 := Nat.le_trans (Nat.div_le_self _ _) h
theorem shr_nat (a m : Nat) : (a : Int) / (2 : Int) ^ m = ((a / 2 ^ m : Nat) : Int) := by simp
theorem kb_neg {nb : Int} (h : nb < 0) : kb nb = 0 := by unfold kb; omega
theorem kb_big {nb : Int} (h : 32 < nb) : kb nb = 32 := by unfold kb; omega
theorem kb_mid {nb : Int} (h : 0 ≤ nb) (h2 : nb ≤ 32) : kb nb = nb.toNat := by unfold kb; omega
theorem winB_def (a n : Nat) (nb : Int) : winB a n nb = decide (a / 2 ^ (32 - kb nb) = n / 2 ^ (32 - kb nb)) := rfl
theorem int_beq (a b : Nat) : ((a : Int) != (b : Int)) = !decide (a = b) := by
  by_cases h : a = b
  · simp [h]
  · simp [h]; omega
theorem int_beq2 (a b : Nat) : ((a : Int) == (b : Int)) = decide (a = b) := by
  rw [Bool.eq_iff_iff]; simp; omega
set_option maxHeartbeats 400000 in
theorem within_any (a n : Nat) (nb : Int) (w : World) (ha : a ≤ 4294967295) (hn : n ≤ 4294967295) :
    Calls Tryd.prog 15 #[.int .u32 (a : Int), .int .u32 (n : Int), .int .i64 nb] w fun e w' => e = .returned (.bool (winB a n nb)) ∧ ∃ q, w' = w.drewN q := by
  rw [winB_def]
  by_cases h1 : nb < 0
  · rw [kb_neg h1]
    go_enter Tryd.func15, Tryd.ntmps15
    go_wp2_with fail
    go_quiet (fail)
    go_wp2
    go_ret
    refine ⟨congrArg Ending.returned (congrArg Value.bool ?_), _, rfl⟩
    rw [Bool.eq_iff_iff]; simp; omega
  · by_cases h2 : 32 < nb
    · rw [kb_big h2]
      go_enter Tryd.func15, Tryd.ntmps15
      go_wp2_with fail
      go_quiet (fail)
      go_wp2
      go_ret
      refine ⟨congrArg Ending.returned (congrArg Value.bool ?_), _, rfl⟩
      rw [Bool.eq_iff_iff]; simp; omega
    · rw [kb_mid (by omega) (by omega)]
      obtain ⟨k, rfl⟩ := Int.eq_ofNat_of_zero_le (show 0 ≤ nb by omega)
      have hk : k ≤ 32 := by omega
      go_enter Tryd.func15, Tryd.ntmps15
      go_wp2_with fail
      go_quiet (fail)
      go_wp2
      go_ret
      refine ⟨congrArg Ending.returned (congrArg Value.bool ?_), _, rfl⟩
      rw [shr_nat, shr_nat, int_beq2, Int.toNat_natCast]
set_option maxHeartbeats 400000 in
theorem withinR_any (a n : Nat) (nb : Int) (w : World) (ha : a ≤ 4294967295) (hn : n ≤ 4294967295) :
    Calls Tryd.prog 16 #[.int .u32 (a : Int), .int .u32 (n : Int), .int .i64 nb] w fun e w' => e = .returned (.bool (winB a n nb)) ∧ w' = w := by
  have hw0 := winB_def a n nb
  obtain ⟨r, hr⟩ : ∃ r, winB a n nb = r := ⟨_, rfl⟩
  rw [hr] at hw0
  rw [hr]
  have HW := hide hw0
  clear hw0 hr
  go_enter Tryd.func16, Tryd.ntmps16
  go_wp2_with fail
  go_loop [7] (fun i => ∃ j : Nat, j ≤ kb nb ∧ i = .int .i64 j ∧ Hid (a / 2 ^ (32 - j) = n / 2 ^ (32 - j))) (fun i => 32 - (intOf i).toNat)
  case atStart => exact ⟨0, Nat.zero_le _, rfl, hide (by omega)⟩
  case round =>
    obtain ⟨j, hj, rfl, HR⟩ := hrel
    have hkb : kb nb ≤ 32 := by unfold kb; omega
    by_cases hlt : j < kb nb
    · have h1 : decide ((j : Int) < 32) = true := by unfold kb at hlt; simp; omega
      have h2 : decide ((j : Int) < nb) = true := by unfold kb at hlt; simp; omega
      have h3 : (j : Int) ≤ 31 := by unfold kb at hlt; omega
      have hA : bits .and .u32 ((a : Int) / 2 ^ (31 - j)) 1 = ((a / 2 ^ (31 - j) % 2 : Nat) : Int) := by rw [shr_nat]; exact and1_u32 _ (div_le _ _ ha)
      have hN : bits .and .u32 ((n : Int) / 2 ^ (31 - j)) 1 = ((n / 2 ^ (31 - j) % 2 : Nat) : Int) := by rw [shr_nat]; exact and1_u32 _ (div_le _ _ hn)
      have hst := win_step a n (31 - j)
      rw [show 31 - j + 1 = 32 - j by omega] at hst
      by_cases hb : a / 2 ^ (31 - j) % 2 = n / 2 ^ (31 - j) % 2
      · have hB : (bits .and .u32 ((a : Int) / 2 ^ (31 - j)) 1 != bits .and .u32 ((n : Int) / 2 ^ (31 - j)) 1) = false := by rw [hA, hN, int_beq]; simp [hb]
        have HN := hide (hst.2 ⟨HR.out, hb⟩)
        clear hA hN hst hb
        go_wp2_with fail
        go_round
        case rel => exact ⟨j + 1, by omega, by go_num, by rw [show 32 - (j + 1) = 31 - j by omega]; exact HN⟩
        case measure => simp [intOf]; omega
      · have hB : (bits .and .u32 ((a : Int) / 2 ^ (31 - j)) 1 != bits .and .u32 ((n : Int) / 2 ^ (31 - j)) 1) = true := by rw [hA, hN, int_beq]; simp [hb]
        have HF := hide (show r = false by
          rw [HW.out]
          simp only [decide_eq_false_iff_not]
          intro hc
          have hd : a / 2 ^ (31 - j) = n / 2 ^ (31 - j) := by
            have hp : ∀ x : Nat, x / 2 ^ (31 - j) = x / 2 ^ (32 - kb nb) / 2 ^ (kb nb - 1 - j) := fun x => by
              rw [Nat.div_div_eq_div_mul, ← Nat.pow_add]; congr 2; omega
            rw [hp a, hp n, hc]
          exact hb (hst.1 hd).2)
        clear hA hN hst hb
        go_wp2_with fail
        go_ret
        exact ⟨by rw [HF.out]; rfl, rfl⟩
    · have hje : j = kb nb := by omega
      have HT := hide (show r = true by
        rw [HW.out, ← hje]; simpa using HR.out)
      by_cases h1 : j < 32
      · have h1 : decide ((j : Int) < 32) = true := by simp; omega
        have h2 : decide ((j : Int) < nb) = false := by unfold kb at hje; simp; omega
        clear hje HR
        go_wp2_with fail
        go_ret
        exact ⟨by rw [HT.out]; rfl, rfl⟩
      · have h1 : decide ((j : Int) < 32) = false := by simp; omega
        clear hje HR
        go_wp2_with fail
        go_ret
        exact ⟨by rw [HT.out]; rfl, rfl⟩
end Go.Proofs.YtlipckpacdioiaaDoor
