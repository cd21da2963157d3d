/- value: ValueWrites. -/
import Derived.Test.YtdofdbajilkimaaDoorVAd
import Derived.Test.YtdofdbajilkimaaDoorVTx
namespace Go.Proofs.YtdofdbajilkimaaDoor
open Go.RowKit Go.Lib
set_option linter.unusedVariables false
set_option linter.unusedSimpArgs false
set_option maxRecDepth 100000
def wayQ (n : Nat) : Int × Bool := if n = 6 then (6, true) else if n = 17 then (17, true) else (0, false)
theorem proto_way (n : Nat) : protoV (wayV n) = .tuple #[.int .u8 (wayQ n).1, .bool (wayQ n).2] := by
  unfold wayV wayQ
  split
  · kernel_rfl
  · split <;> kernel_rfl
theorem flag_yes (b : Bool) : flagV (yesV b) = .tuple #[.bool b, .bool true] := by cases b <;> kernel_rfl
theorem way_cases (n : Nat) : (n = 6 ∧ wayQ n = (6, true)) ∨ (n = 17 ∧ wayQ n = (17, true)) ∨ (n ≠ 6 ∧ n ≠ 17 ∧ wayQ n = (0, false)) := by
  by_cases h6 : n = 6
  · exact .inl ⟨h6, by unfold wayQ; rw [if_pos h6]⟩
  · by_cases h17 : n = 17
    · exact .inr (.inl ⟨h17, by unfold wayQ; rw [if_neg h6, if_pos h17]⟩)
    · exact .inr (.inr ⟨h6, h17, by unfold wayQ; rw [if_neg h6, if_neg h17]⟩)
set_option maxHeartbeats 4000000 in
theorem valueWrites_any (n : Nat) (b : Bool) (p : Nat) (w : World) (hn : n < 18446744073709551616) (hp : p ≤ 255) (hE : ET w) :
    Calls Tryd.prog 4 #[.int .u64 (n : Int), .bool b, .int .u8 (p : Int)] w fun e w' => e = .returned (.bool true) ∧ Below w.heap.size w w' := by
  have HS := hide (speaks_any w hE)
  obtain ⟨X, hX⟩ : ∃ X, (⟨(Lib.decDigits n).toArray⟩ : ByteArray) = X := ⟨_, rfl⟩
  have t1 := fun W (h : PT W) => vtext_any n W hn h
  have t2 := fun W => rvtext_any n W hn
  have c1 := fun W (h : ET W) => vnum_any (⟨(Lib.decDigits n).toArray⟩ : ByteArray) 18446744073709551615 W h
  rw [show (⟨(Lib.decDigits n).toArray⟩ : ByteArray).data.toList = Lib.decDigits n from by simp] at c1
  have hq : numMost (Lib.decDigits n) 18446744073709551615 = if n < 10000000000 then some n else none := by
    unfold numMost
    rw [num_dd]
    by_cases h : n < 10000000000
    · rw [if_pos h, Option.bind_some, if_neg (by omega)]
    · rw [if_neg h]; rfl
  rw [hq] at c1
  have hcast : ((18446744073709551615 : Nat) : Int) = 18446744073709551615 := rfl
  simp only [hcast] at c1
  clear hcast
  rw [hX] at t1 t2 c1
  have y1 := fun W => yes_any b W
  have y2 := fun W => ryes_any b W
  have f1 := fun W => flag_any (yesV b) W
  rw [flag_yes] at f1
  have v1 := fun W => way_any p W
  have v2 := fun W => rway_any p W
  have q1 := fun W => proto_any (wayV p) W
  rw [proto_way] at q1
  obtain ⟨Y, hY⟩ : ∃ Y, yesV b = Y := ⟨_, rfl⟩
  obtain ⟨V, hV⟩ : ∃ V, wayV p = V := ⟨_, rfl⟩
  rw [hY] at y1 y2 f1
  rw [hV] at v1 v2 q1
  have eX : (X.toList != X.toList) = false := by simp
  have eY : (Y.toList != Y.toList) = false := by simp
  have eV : (V.toList != V.toList) = false := by simp
  have hwc := way_cases p
  obtain ⟨⟨r, g⟩, hr⟩ : ∃ r, wayQ p = r := ⟨_, rfl⟩
  rw [hr] at q1 hwc
  have HT1 := hide t1
  have HT2 := hide t2
  have HC1 := hide c1
  have HY1 := hide y1
  have HY2 := hide y2
  have HF1 := hide f1
  have HV1 := hide v1
  have HV2 := hide v2
  have HQ1 := hide q1
  have HE := hide hE
  have hn4 : (0 : Int) ≤ (n : Int) := by omega
  clear t1 t2 c1 y1 y2 f1 v1 v2 q1 hE hq hX hY hV hr hp
  by_cases hlt : n < 10000000000
  all_goals
    first
      | (rw [if_pos hlt] at HC1; have dl : decide ((n : Int) < 10000000000) = true := by simp; omega)
      | (rw [if_neg hlt] at HC1; have dl : decide ((n : Int) < 10000000000) = false := by simp; omega)
    unfold numVV at HC1
    clear hlt hn
    rcases hwc with ⟨h6, h⟩ | ⟨h17, h⟩ | ⟨h6, h17, h⟩
    all_goals
      obtain ⟨rfl, rfl⟩ : r = _ ∧ g = _ := by simpa using h
      clear h
      first
        | (have e6 : ((p : Int) == 6) = true := by simp; omega
           have er : ((6 : Int) == (p : Int)) = true := by simp; omega)
        | (have e6 : ((p : Int) == 6) = false := by simp; omega
           have e17 : ((p : Int) == 17) = true := by simp; omega
           have er : ((17 : Int) == (p : Int)) = true := by simp; omega)
        | (have e6 : ((p : Int) == 6) = false := by simp; omega
           have e17 : ((p : Int) == 17) = false := by simp; omega)
      try clear h6
      try clear h17
      go_enter Tryd.func4, Tryd.ntmps4
      go_wp2_with fail
      refine HS.out.mono ?_
      rintro e w1 ⟨rfl, b1⟩
      have HB1 := hide b1
      have HE1 := hide (HE.out.below b1 (Nat.le_refl _))
      clear b1 HS
      go_wp2_with fail
      (with_reducible refine (HT1.out _ HE1.out.pt).mono ?_)
      rintro e w2 ⟨rfl, b2⟩
      have HB2 := hide (HB1.out.trans (b2.mono HB1.out.size))
      have HE2 := hide (HE1.out.below b2 (Nat.le_refl _))
      clear b2 HB1 HE1
      go_wp2_with fail
      (with_reducible refine (HC1.out _ HE2.out).mono ?_)
      rintro e w3 ⟨rfl, b3⟩
      have HB3 := hide (HB2.out.trans (b3.mono HB2.out.size))
      have HE3 := hide (HE2.out.below b3 (Nat.le_refl _))
      clear b3 HC1 HB2 HE2
      go_wp2_with fail
      (with_reducible refine (HY1.out _).mono ?_)
      rintro e w4 ⟨rfl, rfl⟩
      go_wp2_with fail
      (with_reducible refine (HF1.out _).mono ?_)
      rintro e w5 ⟨rfl, rfl⟩
      go_wp2_with fail
      (with_reducible refine (HV1.out _).mono ?_)
      rintro e w6 ⟨rfl, rfl⟩
      go_wp2_with fail
      (with_reducible refine (HQ1.out _).mono ?_)
      rintro e w7 ⟨rfl, rfl⟩
      go_wp2_with fail
      (with_reducible refine (HT1.out _ HE3.out.pt).mono ?_)
      rintro e w8 ⟨rfl, b8⟩
      have HB8 := hide (HB3.out.trans (b8.mono HB3.out.size))
      clear b8 HB3 HE3
      go_wp2_with fail
      (with_reducible refine (HT2.out _).mono ?_)
      rintro e w9 ⟨rfl, b9⟩
      have HB9 := hide (HB8.out.trans (b9.mono HB8.out.size))
      clear b9 HB8
      go_wp2_with first
        | (go_at_call 18; refine (HY1.out _).mono ?_; rintro e w10 ⟨rfl, rfl⟩)
        | (go_at_call 21; refine (HY2.out _).mono ?_; rintro e w10 ⟨rfl, rfl⟩)
        | (go_at_call 19; refine (HV1.out _).mono ?_; rintro e w10 ⟨rfl, rfl⟩)
        | (go_at_call 22; refine (HV2.out _).mono ?_; rintro e w10 ⟨rfl, rfl⟩)
      go_ret
      exact ⟨rfl, HB9.out⟩
end Go.Proofs.YtdofdbajilkimaaDoor
