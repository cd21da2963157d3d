/- Head: tokens, targets, versions. -/
import Derived.Test.YtonoaopioifedaaGreatDoorHAll
namespace Go.Proofs.YtonoaopioifedaaGreatDoor.H
open Go.RowKit
set_option linter.unusedVariables false
set_option linter.unusedSimpArgs false
set_option maxRecDepth 100000
theorem madeTok (s : ByteArray) (most : Nat) (w : World) (hs : s.size ≤ 1000000) : Calls Tryz.prog 64 #[.string s, .int .i64 (most : Int), .func (.func 81) #[] #[]] w fun e w' => e = .returned (.bool (madeL most tokB s.data.toList)) ∧ w' = w := by
  have hL := allTok s w hs
  obtain ⟨r, hr⟩ : ∃ r, s.data.toList.all tokB = r := ⟨_, rfl⟩
  rw [hr] at hL
  have HL := hide hL
  obtain ⟨n, hn⟩ : ∃ n, s.size = n := ⟨_, rfl⟩
  have HN := hide (show s.data.toList.length = n by rw [← hn]; simp)
  have HRR := hide hr
  clear hs hL hr
  by_cases ha : 0 < n
  · have da : decide (0 < n) = true := by simp; omega
    by_cases hb : n ≤ most
    · have db : decide (n ≤ most) = true := by simp; omega
      have HE := hide (show madeL most tokB s.data.toList = r by unfold madeL; rw [HN.out, HRR.out]; simp [ha, hb])
      clear ha hb
      go_enter Tryz.func64, Tryz.ntmps64
      go_wp2_with (go_at_call 67; refine HL.out.mono ?_; rintro e w1 ⟨rfl, rfl⟩)
      go_ret
      exact ⟨by rw [HE.out]; rfl, rfl⟩
    · have db : decide (n ≤ most) = false := by simp; omega
      have HE := hide (show madeL most tokB s.data.toList = false by unfold madeL; rw [HN.out]; simp [ha, hb])
      clear ha hb
      go_enter Tryz.func64, Tryz.ntmps64
      go_wp2_with fail
      go_ret
      exact ⟨by rw [HE.out]; rfl, rfl⟩
  · have da : decide (0 < n) = false := by simp; omega
    have HE := hide (show madeL most tokB s.data.toList = false by unfold madeL; rw [HN.out]; simp [ha])
    clear ha
    go_enter Tryz.func64, Tryz.ntmps64
    go_wp2_with fail
    go_ret
    exact ⟨by rw [HE.out]; rfl, rfl⟩
theorem madeTgt (s : ByteArray) (most : Nat) (w : World) (hs : s.size ≤ 1000000) : Calls Tryz.prog 64 #[.string s, .int .i64 (most : Int), .func (.func 65) #[] #[]] w fun e w' => e = .returned (.bool (madeL most tgtB s.data.toList)) ∧ w' = w := by
  have hL := allTgt s w hs
  obtain ⟨r, hr⟩ : ∃ r, s.data.toList.all tgtB = r := ⟨_, rfl⟩
  rw [hr] at hL
  have HL := hide hL
  obtain ⟨n, hn⟩ : ∃ n, s.size = n := ⟨_, rfl⟩
  have HN := hide (show s.data.toList.length = n by rw [← hn]; simp)
  have HRR := hide hr
  clear hs hL hr
  by_cases ha : 0 < n
  · have da : decide (0 < n) = true := by simp; omega
    by_cases hb : n ≤ most
    · have db : decide (n ≤ most) = true := by simp; omega
      have HE := hide (show madeL most tgtB s.data.toList = r by unfold madeL; rw [HN.out, HRR.out]; simp [ha, hb])
      clear ha hb
      go_enter Tryz.func64, Tryz.ntmps64
      go_wp2_with (go_at_call 67; refine HL.out.mono ?_; rintro e w1 ⟨rfl, rfl⟩)
      go_ret
      exact ⟨by rw [HE.out]; rfl, rfl⟩
    · have db : decide (n ≤ most) = false := by simp; omega
      have HE := hide (show madeL most tgtB s.data.toList = false by unfold madeL; rw [HN.out]; simp [ha, hb])
      clear ha hb
      go_enter Tryz.func64, Tryz.ntmps64
      go_wp2_with fail
      go_ret
      exact ⟨by rw [HE.out]; rfl, rfl⟩
  · have da : decide (0 < n) = false := by simp; omega
    have HE := hide (show madeL most tgtB s.data.toList = false by unfold madeL; rw [HN.out]; simp [ha])
    clear ha
    go_enter Tryz.func64, Tryz.ntmps64
    go_wp2_with fail
    go_ret
    exact ⟨by rw [HE.out]; rfl, rfl⟩
theorem token_any (s : ByteArray) (w : World) (hs : s.size ≤ 1000000) : Calls Tryz.prog 63 #[.string s] w fun e w' => e = .returned (.bool (tokenL s.data.toList)) ∧ w' = w := by
  have hL := madeTok s 64 w hs
  unfold tokenL
  obtain ⟨r, hr⟩ : ∃ r, madeL 64 tokB s.data.toList = r := ⟨_, rfl⟩
  rw [hr] at hL ⊢
  have HL := hide hL
  clear hs hL hr
  go_enter Tryz.func63, Tryz.ntmps63
  go_wp2_with (go_at_call 64; refine HL.out.mono ?_; rintro e w1 ⟨rfl, rfl⟩)
  go_ret
  exact ⟨rfl, rfl⟩
def minorV (o : Option Nat) : Value := .tuple #[.int .i64 ((o.getD 0 : Nat) : Int), .bool o.isSome]
theorem str_eq (s : ByteArray) (l : List UInt8) : (s.toList == (bs l).toList) = decide (s.data.toList = l) := by
  rw [Lib.toList_data, Lib.toList_data]
  by_cases h : s.data.toList = l <;> simp [h, bs]
theorem minor_any (s : ByteArray) (w : World) : Calls Tryz.prog 62 #[.string s] w fun e w' => e = .returned (minorV (minorL s.data.toList)) ∧ w' = w := by
  by_cases e0 : s.data.toList = [72, 84, 84, 80, 47, 49, 46, 48]
  · obtain rfl : s = bs [72, 84, 84, 80, 47, 49, 46, 48] := by rw [← bs_back s, e0]
    clear e0
    go_enter Tryz.func62, Tryz.ntmps62
    go_wp2_with fail
    go_ret2
    exact ⟨rfl, rfl⟩
  · by_cases e1 : s.data.toList = [72, 84, 84, 80, 47, 49, 46, 49]
    · obtain rfl : s = bs [72, 84, 84, 80, 47, 49, 46, 49] := by rw [← bs_back s, e1]
      clear e0 e1
      go_enter Tryz.func62, Tryz.ntmps62
      go_wp2_with fail
      go_ret2
      exact ⟨rfl, rfl⟩
    · have HE := hide (show minorL s.data.toList = none by unfold minorL; rw [if_neg e0, if_neg e1])
      have h0 : (s.toList == [72, 84, 84, 80, 47, 49, 46, 48]) = false := by rw [Lib.toList_data]; simp [e0]
      have h1 : (s.toList == [72, 84, 84, 80, 47, 49, 46, 49]) = false := by rw [Lib.toList_data]; simp [e1]
      clear e0 e1
      go_enter Tryz.func62, Tryz.ntmps62
      go_wp2_with fail
      go_ret2
      exact ⟨by rw [HE.out]; rfl, rfl⟩
end Go.Proofs.YtonoaopioifedaaGreatDoor.H
