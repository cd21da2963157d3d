/- Which addresses are hosts', by the program. -/
import Derived.Test.YtbibobjkclgogaaCSpeaks
namespace Go.Proofs.Ytbibobjkclgogaa
open Go.RowKit
set_option linter.unusedVariables false
set_option linter.unusedSimpArgs false
set_option maxRecDepth 100000
set_option maxHeartbeats 400000 in
theorem within_any (a n : Nat) (nb : Int) (w : World) (ha : a ≤ 4294967295) (hn : n ≤ 4294967295) :
    Calls Try.prog 66 #[.int .u32 (a : Int), .int .u32 (n : Int), .int .i64 nb] w fun e w' => e = .returned (.bool (winB a n nb)) ∧ ∃ q, w' = w.drewN q := by
  rw [winB_def]
  by_cases h1 : nb < 0
  · rw [kb_neg h1]
    go_enter Try.func66, Try.ntmps66
    go_wp2_with fail
    go_quiet (fail)
    go_wp2
    go_ret
    refine ⟨congrArg Ending.returned (congrArg Value.bool ?_), _, rfl⟩
    rw [Bool.eq_iff_iff]; simp; omega
  · by_cases h2 : 32 < nb
    · rw [kb_big h2]
      go_enter Try.func66, Try.ntmps66
      go_wp2_with fail
      go_quiet (fail)
      go_wp2
      go_ret
      refine ⟨congrArg Ending.returned (congrArg Value.bool ?_), _, rfl⟩
      rw [Bool.eq_iff_iff]; simp; omega
    · rw [kb_mid (by omega) (by omega)]
      obtain ⟨k, rfl⟩ := Int.eq_ofNat_of_zero_le (show 0 ≤ nb by omega)
      have hk : k ≤ 32 := by omega
      go_enter Try.func66, Try.ntmps66
      go_wp2_with fail
      go_quiet (fail)
      go_wp2
      go_ret
      refine ⟨congrArg Ending.returned (congrArg Value.bool ?_), _, rfl⟩
      rw [shr_nat, shr_nat, int_beq2, Int.toNat_natCast]
set_option maxHeartbeats 400000 in
theorem amid_any (a : Nat) (nb : Int) (w : World) (ha : a ≤ 4294967295) :
    Calls Try.prog 67 #[.int .u32 (a : Int), .int .i64 nb] w fun e w' => e = .returned (.bool (innerB a nb)) ∧ w' = w := by
  have hw0 := innerB_def a nb
  obtain ⟨r, hr⟩ : ∃ r, innerB a nb = r := ⟨_, rfl⟩
  rw [hr] at hw0
  rw [hr]
  by_cases h1 : nb < 0
  · rw [kb_neg h1] at hw0
    have hm := mask_u32 a 32 ha (by omega)
    have hx : (bits .and .u32 (a : Int) 4294967295 != 0) = !decide (a % 2 ^ 32 = 0) := by
      rw [show (4294967295 : Int) = ((2 ^ 32 - 1 : Nat) : Int) from rfl, hm, show (0 : Int) = ((0 : Nat) : Int) from rfl, int_beq]
    have hy : (bits .and .u32 (a : Int) 4294967295 != 4294967295) = !decide (a % 2 ^ 32 = 2 ^ 32 - 1) := by
      rw [show (4294967295 : Int) = ((2 ^ 32 - 1 : Nat) : Int) from rfl, hm, int_beq]
    obtain ⟨x, hx2⟩ : ∃ x, (bits .and .u32 (a : Int) 4294967295 != 0) = x := ⟨_, rfl⟩
    obtain ⟨y, hy2⟩ : ∃ x, (bits .and .u32 (a : Int) 4294967295 != 4294967295) = x := ⟨_, rfl⟩
    rw [hx2] at hx
    rw [hy2] at hy
    have HR := hide (inner_of (by decide) hx hy hw0)
    clear hm hx hy hw0 hr
    cases x <;> cases y <;>
    · go_enter Try.func67, Try.ntmps67
      go_wp2_with fail
      go_ret
      exact ⟨by rw [HR.out]; rfl, rfl⟩
  · obtain ⟨k, rfl⟩ := Int.eq_ofNat_of_zero_le (show 0 ≤ nb by omega)
    by_cases h2 : k < 32
    · have hk : kb (k : Int) = k := by unfold kb; omega
      rw [hk] at hw0
      have hone := ones_int k (by omega)
      have hm := mask_u32 a (32 - k) ha (by omega)
      have hz : ((4294967295 : Int) / 2 ^ k == 0) = false := by
        rw [hone]
        have : 2 ^ 1 ≤ 2 ^ (32 - k) := Nat.pow_le_pow_right (by decide) (by omega)
        simp; omega
      have hx : (bits .and .u32 (a : Int) ((4294967295 : Int) / 2 ^ k) != 0) = !decide (a % 2 ^ (32 - k) = 0) := by
        rw [hone, hm, show (0 : Int) = ((0 : Nat) : Int) from rfl, int_beq]
      have hy : (bits .and .u32 (a : Int) ((4294967295 : Int) / 2 ^ k) != (4294967295 : Int) / 2 ^ k) = !decide (a % 2 ^ (32 - k) = 2 ^ (32 - k) - 1) := by
        rw [hone, hm, int_beq]
      obtain ⟨x, hx2⟩ : ∃ x, (bits .and .u32 (a : Int) ((4294967295 : Int) / 2 ^ k) != 0) = x := ⟨_, rfl⟩
      obtain ⟨y, hy2⟩ : ∃ x, (bits .and .u32 (a : Int) ((4294967295 : Int) / 2 ^ k) != (4294967295 : Int) / 2 ^ k) = x := ⟨_, rfl⟩
      rw [hx2] at hx
      rw [hy2] at hy
      have HR := hide (inner_of (by omega) hx hy hw0)
      clear hm hx hy hw0 hr hone hk
      cases x <;> cases y <;>
      · go_enter Try.func67, Try.ntmps67
        go_wp2_with fail
        go_ret
        exact ⟨by rw [HR.out]; rfl, rfl⟩
    · have hk : kb (k : Int) = 32 := by unfold kb; omega
      rw [hk] at hw0
      have HR := hide (show r = true by rw [hw0]; rfl)
      have hmn : min k 32 = 32 := by omega
      clear hw0 hr hk
      go_enter Try.func67, Try.ntmps67
      go_wp2_with fail
      go_ret
      exact ⟨by rw [HR.out]; rfl, rfl⟩
set_option maxHeartbeats 800000 in
theorem host_any (cs : Array Value) (lan : Nat) (nb : Int) (a : Nat) (w : World) (hc : CfH cs lan nb) (hl : lan ≤ 4294967295) (ha : a ≤ 4294967295) :
    Calls Try.prog 57 #[.agg cs, .int .u32 (a : Int)] w fun e w' => e = .returned (.bool (hostB lan nb a)) ∧ Below w.heap.size w w' := by
  have hw0 : hostB lan nb a = (winB a lan nb && !decide (a = lan) && innerB a nb) := rfl
  obtain ⟨r, hr⟩ : ∃ r, hostB lan nb a = r := ⟨_, rfl⟩
  rw [hr] at hw0
  rw [hr]
  obtain ⟨_, c18⟩ := Array.getElem?_eq_some_iff.1 hc.lan
  obtain ⟨_, c20⟩ := Array.getElem?_eq_some_iff.1 hc.bits
  have h2 := hc.size
  have HB := hide ((Below.refl w.heap.size w).alloc (Nat.le_refl _) (.cells cs 28))
  obtain ⟨p, hp⟩ : ∃ p, winB a lan nb = p := ⟨_, rfl⟩
  have hq : ((a : Int) != (lan : Int)) = !decide (a = lan) := int_beq a lan
  obtain ⟨q, hq2⟩ : ∃ q, ((a : Int) != (lan : Int)) = q := ⟨_, rfl⟩
  rw [hq2] at hq
  obtain ⟨t, ht⟩ : ∃ t, innerB a nb = t := ⟨_, rfl⟩
  rw [hp, ← hq, ht] at hw0
  have HW := hide (fun V : World => within_any a lan nb V ha hl)
  rw [hp] at HW
  have HA := hide (fun V : World => amid_any a nb V ha)
  rw [ht] at HA
  have HR := hide hw0
  clear hw0 hr hq hp ht hc
  cases p <;> cases q <;> cases t <;>
  · go_enter Try.func57, Try.ntmps57
    go_wp2_with fail
    refine (HW.out _).mono ?_
    rintro e w1 ⟨rfl, n1, rfl⟩
    have HD := hide (bdrewN HB.out n1)
    go_wp2_with (go_at_call 67; refine (HA.out _).mono ?_; rintro e w2 ⟨rfl, rfl⟩)
    go_ret
    exact ⟨by rw [HR.out]; rfl, HD.out⟩
end Go.Proofs.Ytbibobjkclgogaa
