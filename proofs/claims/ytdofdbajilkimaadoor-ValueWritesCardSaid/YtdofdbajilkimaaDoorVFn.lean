/- value: truths, protocols, descriptions: both sides. -/
import Derived.Test.YtdofdbajilkimaaDoorIPaG
import Derived.Test.YtdofdbajilkimaaDoorVPl
namespace Go.Proofs.YtdofdbajilkimaaDoor
open Go.RowKit Go.Lib
set_option linter.unusedVariables false
set_option linter.unusedSimpArgs false
set_option maxRecDepth 100000
def yesB (s : ByteArray) : Bool := (s.toList == [49]) || ((s.toList == [116, 114, 117, 101]) || (s.toList == [121, 101, 115]))
def noB (s : ByteArray) : Bool := (s.toList == [48]) || ((s.toList == [102, 97, 108, 115, 101]) || (s.toList == [110, 111]))
def flagV (s : ByteArray) : Value := .tuple #[.bool (yesB s), .bool (yesB s || noB s)]
def protoV (s : ByteArray) : Value := if (s.toList == [84, 67, 80]) = true then .tuple #[.int .u8 6, .bool true] else if (s.toList == [85, 68, 80]) = true then .tuple #[.int .u8 17, .bool true] else .tuple #[.int .u8 0, .bool false]
set_option maxHeartbeats 1000000 in
theorem flag_any (s : ByteArray) (w : World) : Calls Tryd.prog 8 #[.string s] w fun e w' => e = .returned (flagV s) ∧ w' = w := by
  have hE : ∀ b1 b2 b3 b4 b5 b6 : Bool, (s.toList == [49]) = b1 → (s.toList == [116, 114, 117, 101]) = b2 → (s.toList == [121, 101, 115]) = b3 → (s.toList == [48]) = b4 → (s.toList == [102, 97, 108, 115, 101]) = b5 → (s.toList == [110, 111]) = b6 → flagV s = .tuple #[.bool (b1 || (b2 || b3)), .bool ((b1 || (b2 || b3)) || (b4 || (b5 || b6)))] := fun b1 b2 b3 b4 b5 b6 h1 h2 h3 h4 h5 h6 => by unfold flagV yesB noB; rw [h1, h2, h3, h4, h5, h6]
  obtain ⟨b1, h1⟩ : ∃ x, (s.toList == [49]) = x := ⟨_, rfl⟩
  obtain ⟨b2, h2⟩ : ∃ x, (s.toList == [116, 114, 117, 101]) = x := ⟨_, rfl⟩
  obtain ⟨b3, h3⟩ : ∃ x, (s.toList == [121, 101, 115]) = x := ⟨_, rfl⟩
  obtain ⟨b4, h4⟩ : ∃ x, (s.toList == [48]) = x := ⟨_, rfl⟩
  obtain ⟨b5, h5⟩ : ∃ x, (s.toList == [102, 97, 108, 115, 101]) = x := ⟨_, rfl⟩
  obtain ⟨b6, h6⟩ : ∃ x, (s.toList == [110, 111]) = x := ⟨_, rfl⟩
  rw [hE b1 b2 b3 b4 b5 b6 h1 h2 h3 h4 h5 h6]
  clear hE
  cases b1 <;> cases b2 <;> cases b3 <;> cases b4 <;> cases b5 <;> cases b6
  all_goals
    go_enter Tryd.func8, Tryd.ntmps8
    go_wp2_with fail
    go_ret2
    exact ⟨rfl, by first | rfl | trivial⟩
set_option maxHeartbeats 1000000 in
theorem rflag_any (s : ByteArray) (w : World) : Calls Tryd.prog 12 #[.string s] w fun e w' => e = .returned (flagV s) ∧ w' = w := by
  have hE : ∀ b1 b2 b3 b4 b5 b6 : Bool, (s.toList == [49]) = b1 → (s.toList == [116, 114, 117, 101]) = b2 → (s.toList == [121, 101, 115]) = b3 → (s.toList == [48]) = b4 → (s.toList == [102, 97, 108, 115, 101]) = b5 → (s.toList == [110, 111]) = b6 → flagV s = .tuple #[.bool (b1 || (b2 || b3)), .bool ((b1 || (b2 || b3)) || (b4 || (b5 || b6)))] := fun b1 b2 b3 b4 b5 b6 h1 h2 h3 h4 h5 h6 => by unfold flagV yesB noB; rw [h1, h2, h3, h4, h5, h6]
  obtain ⟨b1, h1⟩ : ∃ x, (s.toList == [49]) = x := ⟨_, rfl⟩
  obtain ⟨b2, h2⟩ : ∃ x, (s.toList == [116, 114, 117, 101]) = x := ⟨_, rfl⟩
  obtain ⟨b3, h3⟩ : ∃ x, (s.toList == [121, 101, 115]) = x := ⟨_, rfl⟩
  obtain ⟨b4, h4⟩ : ∃ x, (s.toList == [48]) = x := ⟨_, rfl⟩
  obtain ⟨b5, h5⟩ : ∃ x, (s.toList == [102, 97, 108, 115, 101]) = x := ⟨_, rfl⟩
  obtain ⟨b6, h6⟩ : ∃ x, (s.toList == [110, 111]) = x := ⟨_, rfl⟩
  rw [hE b1 b2 b3 b4 b5 b6 h1 h2 h3 h4 h5 h6]
  clear hE
  cases b1 <;> cases b2 <;> cases b3 <;> cases b4 <;> cases b5 <;> cases b6
  all_goals
    go_enter Tryd.func12, Tryd.ntmps12
    go_wp2_with fail
    go_ret2
    exact ⟨rfl, by first | rfl | trivial⟩
set_option maxHeartbeats 1000000 in
theorem proto_any (s : ByteArray) (w : World) : Calls Tryd.prog 10 #[.string s] w fun e w' => e = .returned (protoV s) ∧ w' = w := by
  unfold protoV
  obtain ⟨b1, h1⟩ : ∃ x, (s.toList == [84, 67, 80]) = x := ⟨_, rfl⟩
  obtain ⟨b2, h2⟩ : ∃ x, (s.toList == [85, 68, 80]) = x := ⟨_, rfl⟩
  rw [h1, h2]
  cases b1 <;> cases b2
  all_goals
    go_enter Tryd.func10, Tryd.ntmps10
    go_wp2_with fail
    go_ret2
    exact ⟨rfl, by first | rfl | trivial⟩
set_option maxHeartbeats 1000000 in
theorem rproto_any (s : ByteArray) (w : World) : Calls Tryd.prog 14 #[.string s] w fun e w' => e = .returned (protoV s) ∧ w' = w := by
  unfold protoV
  obtain ⟨b1, h1⟩ : ∃ x, (s.toList == [84, 67, 80]) = x := ⟨_, rfl⟩
  obtain ⟨b2, h2⟩ : ∃ x, (s.toList == [85, 68, 80]) = x := ⟨_, rfl⟩
  rw [h1, h2]
  cases b1 <;> cases b2
  all_goals
    go_enter Tryd.func14, Tryd.ntmps14
    go_wp2_with fail
    go_ret2
    exact ⟨rfl, by first | rfl | trivial⟩
def yesV (b : Bool) : ByteArray := if b then ⟨#[49]⟩ else ⟨#[48]⟩
def wayV (n : Nat) : ByteArray := if n = 6 then ⟨#[84, 67, 80]⟩ else if n = 17 then ⟨#[85, 68, 80]⟩ else ⟨#[]⟩
set_option maxHeartbeats 1000000 in
theorem yes_any (b : Bool) (w : World) : Calls Tryd.prog 18 #[.bool b] w fun e w' => e = .returned (.string (yesV b)) ∧ w' = w := by
  cases b
  all_goals
    go_enter Tryd.func18, Tryd.ntmps18
    go_wp2_with fail
    go_ret
    exact ⟨rfl, by first | rfl | trivial⟩
set_option maxHeartbeats 1000000 in
theorem ryes_any (b : Bool) (w : World) : Calls Tryd.prog 21 #[.bool b] w fun e w' => e = .returned (.string (yesV b)) ∧ w' = w := by
  cases b
  all_goals
    go_enter Tryd.func21, Tryd.ntmps21
    go_wp2_with fail
    go_ret
    exact ⟨rfl, by first | rfl | trivial⟩
set_option maxHeartbeats 1000000 in
theorem way_any (n : Nat) (w : World) : Calls Tryd.prog 19 #[.int .u8 (n : Int)] w fun e w' => e = .returned (.string (wayV n)) ∧ w' = w := by
  by_cases h6 : n = 6
  · subst h6
    go_enter Tryd.func19, Tryd.ntmps19
    go_wp2_with fail
    go_ret
    exact ⟨rfl, by first | rfl | trivial⟩
  have e6 : ((n : Int) == 6) = false := by simp; omega
  by_cases h17 : n = 17
  · subst h17
    go_enter Tryd.func19, Tryd.ntmps19
    go_wp2_with fail
    go_ret
    exact ⟨rfl, by first | rfl | trivial⟩
  have e17 : ((n : Int) == 17) = false := by simp; omega
  have HE := hide (show wayV n = ⟨#[]⟩ by unfold wayV; rw [if_neg h6, if_neg h17])
  clear h6 h17
  go_enter Tryd.func19, Tryd.ntmps19
  go_wp2_with fail
  go_ret
  exact ⟨by rw [HE.out]; rfl, by first | rfl | trivial⟩
set_option maxHeartbeats 1000000 in
theorem rway_any (n : Nat) (w : World) : Calls Tryd.prog 22 #[.int .u8 (n : Int)] w fun e w' => e = .returned (.string (wayV n)) ∧ w' = w := by
  by_cases h6 : n = 6
  · subst h6
    go_enter Tryd.func22, Tryd.ntmps22
    go_wp2_with fail
    go_ret
    exact ⟨rfl, by first | rfl | trivial⟩
  have e6 : ((n : Int) == 6) = false := by simp; omega
  by_cases h17 : n = 17
  · subst h17
    go_enter Tryd.func22, Tryd.ntmps22
    go_wp2_with fail
    go_ret
    exact ⟨rfl, by first | rfl | trivial⟩
  have e17 : ((n : Int) == 17) = false := by simp; omega
  have HE := hide (show wayV n = ⟨#[]⟩ by unfold wayV; rw [if_neg h6, if_neg h17])
  clear h6 h17
  go_enter Tryd.func22, Tryd.ntmps22
  go_wp2_with fail
  go_ret
  exact ⟨by rw [HE.out]; rfl, by first | rfl | trivial⟩
end Go.Proofs.YtdofdbajilkimaaDoor
