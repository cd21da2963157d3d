/- Whether a text is a UUID: the program's and the document's. -/
import Derived.Test.YtbibobjkclgogaaCSpeaks
import Derived.Test.YtbibobjkclgogaaProg
import Derived.IntWalk
import Derived.Below
import Derived.Laws.RangeAny
import Derived.Deep.RegionHeld3
namespace Go.Proofs.Ytbibobjkclgogaa
open Go.RowKit
set_option linter.unusedVariables false
set_option linter.unusedSimpArgs false
set_option maxRecDepth 100000
def dashB (i : Nat) : Bool := i == 8 || i == 13 || i == 18 || i == 23
def hexB (c : Int) : Bool := (decide (48 ≤ c) && decide (c ≤ 57)) || (decide (97 ≤ c) && decide (c ≤ 102))
def fitB (c p : Int) : Bool := if p == 45 then c == 45 else hexB c
def okAt (i c : Nat) : Bool := if dashB i then c == 45 else hexB c
/-- Is a text one? -/
def uuidB (s : ByteArray) : Bool := s.size == 36 && (List.range 36).all fun i => okAt i (s.get! i).toNat
abbrev shape : ByteArray := ⟨#[120, 120, 120, 120, 120, 120, 120, 120, 45, 120, 120, 120, 120, 45, 120, 120, 120, 120, 45, 120, 120, 120, 120, 45, 120, 120, 120, 120, 120, 120, 120, 120, 120, 120, 120, 120]⟩
theorem fit_ok (i : Nat) (h : i < 36) (c : Nat) : fitB (c : Int) (((shape.get! i).toNat : Nat) : Int) = okAt i c := by
  have key : ∀ i, i < 36 → (if dashB i then (shape.get! i).toNat = 45 else (shape.get! i).toNat = 120) := by decide
  have := key i h
  unfold fitB okAt
  cases hd : dashB i with
  | true =>
    rw [hd, if_pos rfl] at this
    rw [this]; simp
    rw [Bool.eq_iff_iff]; simp; omega
  | false =>
    rw [hd] at this
    simp at this
    rw [this]; simp
theorem fit_high (c p : Int) (h : 128 ≤ c) : fitB c p = false := by
  unfold fitB hexB
  split
  · simp; omega
  · simp; omega
theorem ok_high (i c : Nat) (h : 128 ≤ c) : okAt i c = false := by
  unfold okAt hexB
  split
  · simp; omega
  · simp; omega
theorem uuid_no {s : ByteArray} (h : s.size ≠ 36) : uuidB s = false := by unfold uuidB; simp [h]
theorem uuid_bad {s : ByteArray} {i : Nat} (hi : i < 36) (h : okAt i (s.get! i).toNat = false) : uuidB s = false := by
  unfold uuidB
  have : (List.range 36).all (fun i => okAt i (s.get! i).toNat) = false := by
    rw [List.all_eq_false]
    exact ⟨i, List.mem_range.2 hi, by rw [h]; decide⟩
  rw [this, Bool.and_false]
theorem uuid_yes {s : ByteArray} (hs : s.size = 36) (h : ∀ i, i < 36 → okAt i (s.get! i).toNat = true) : uuidB s = true := by
  unfold uuidB
  rw [hs]
  simp only [beq_self_eq_true, Bool.true_and]
  rw [List.all_eq_true]
  exact fun i hi => h i (List.mem_range.1 hi)
theorem get_bang (s : ByteArray) (i : Nat) (h : i < s.size) : s.get! i = s[i]'h := by
  have := get_at s i h
  simpa using this
end Go.Proofs.Ytbibobjkclgogaa

/- Whether a text is a UUID: the document's. -/
namespace Go.Proofs.Ytbibobjkclgogaa
open Go.RowKit
set_option linter.unusedVariables false
set_option linter.unusedSimpArgs false
set_option maxRecDepth 100000
theorem cls (c : Nat) : (c < 48 ∧ c ≠ 45) ∨ c = 45 ∨ (48 ≤ c ∧ c ≤ 57) ∨ (57 < c ∧ c < 97) ∨ (97 ≤ c ∧ c ≤ 102) ∨ 102 < c := by omega
theorem plc (j : Nat) : j = 8 ∨ j = 13 ∨ j = 18 ∨ j = 23 ∨ (j ≠ 8 ∧ j ≠ 13 ∧ j ≠ 18 ∧ j ≠ 23) := by omega
theorem ok_dash {j c : Nat} (h : j = 8 ∨ j = 13 ∨ j = 18 ∨ j = 23) : okAt j c = (c == 45) := by
  have : dashB j = true := by rcases h with rfl | rfl | rfl | rfl <;> rfl
  unfold okAt; rw [if_pos this]
theorem ok_else {j c : Nat} (h : j ≠ 8 ∧ j ≠ 13 ∧ j ≠ 18 ∧ j ≠ 23) : okAt j c = hexB c := by
  have : dashB j = false := by unfold dashB; simp; omega
  unfold okAt; rw [this]; rfl
set_option maxHeartbeats 8000000 in
theorem uuidR_any (s : ByteArray) (w : World) (hs : s.size ≤ 9223372036854775807) : Calls Try.prog 41 #[.string s] w fun e w' => e = .returned (.bool (uuidB s)) ∧ w' = w := by
  by_cases h36 : s.size = 36
  · obtain ⟨r, hr⟩ : ∃ r, uuidB s = r := ⟨_, rfl⟩
    rw [hr]
    have HR := hide hr
    have H36 := hide h36
    have h1 : ((s.size : Int) != 36) = false := by simp; omega
    clear hr h36
    go_enter Try.func41, Try.ntmps41
    go_wp2_with fail
    go_loop [3] (fun i => ∃ j : Nat, j ≤ 36 ∧ i = .int .i64 j ∧ Hid (∀ q, q < j → okAt q (s.get! q).toNat = true)) (fun i => 36 - (intOf i).toNat)
    case atStart => exact ⟨0, by omega, rfl, hide (fun j h => by omega)⟩
    case round =>
      obtain ⟨j, hp, rfl, HI⟩ := hrel
      by_cases hlt : j < 36
      · have h2 : decide ((j : Int) < 36) = true := by simp; omega
        have hps : j < s.size := by have := H36.out; omega
        have hgb := get_bang s j hps
        have HN := hide (show okAt j (s[j]'hps).toNat = true → ∀ q, q < j + 1 → okAt q (s.get! q).toNat = true from fun hok q hq => by
          by_cases hje : q = j
          · rw [hje, hgb]; exact hok
          · exact HI.out q (by omega))
        have HF := hide (show okAt j (s[j]'hps).toNat = false → r = false from fun hok => by rw [← HR.out]; exact uuid_bad hlt (by rw [hgb]; exact hok))
        clear hgb HI
        obtain ⟨c, hc⟩ : ∃ c, (s[j]'hps).toNat = c := ⟨_, rfl⟩
        rw [hc] at HN HF
        rcases plc j with e | e | e | e | e
        · have hok := @ok_dash j c (by omega)
          rcases cls c with k | k | k | k | k | k
          · have hv : okAt j c = false := by rw [hok]; simp; omega
            have j8 : ((j : Int) == 8) = true := by simp; omega
            have hx : decide (48 ≤ (c : Int)) = false := by simp; omega
            have hz : decide (97 ≤ (c : Int)) = false := by simp; omega
            have hd : ((c : Int) == 45) = false := by simp; omega
            have HV := hide hv
            clear hv hok k e
            go_wp2_with fail
            go_ret
            exact ⟨by rw [HF.out HV.out]; rfl, rfl⟩
          · have hv : okAt j c = true := by rw [hok]; simp; omega
            have j8 : ((j : Int) == 8) = true := by simp; omega
            have hx : decide (48 ≤ (c : Int)) = false := by simp; omega
            have hz : decide (97 ≤ (c : Int)) = false := by simp; omega
            have hd : ((c : Int) == 45) = true := by simp; omega
            have HV := hide hv
            clear hv hok k e
            go_wp2_with fail
            go_round
            case rel => exact ⟨j + 1, by omega, by go_num, HN.out HV.out⟩
            case measure => simp [intOf]; omega
          · have hv : okAt j c = false := by rw [hok]; simp; omega
            have j8 : ((j : Int) == 8) = true := by simp; omega
            have hx : decide (48 ≤ (c : Int)) = true := by simp; omega
            have hy : decide ((c : Int) ≤ 57) = true := by simp; omega
            have hd : ((c : Int) == 45) = false := by simp; omega
            have HV := hide hv
            clear hv hok k e
            go_wp2_with fail
            go_ret
            exact ⟨by rw [HF.out HV.out]; rfl, rfl⟩
          · have hv : okAt j c = false := by rw [hok]; simp; omega
            have j8 : ((j : Int) == 8) = true := by simp; omega
            have hx : decide (48 ≤ (c : Int)) = true := by simp; omega
            have hy : decide ((c : Int) ≤ 57) = false := by simp; omega
            have hz : decide (97 ≤ (c : Int)) = false := by simp; omega
            have hd : ((c : Int) == 45) = false := by simp; omega
            have HV := hide hv
            clear hv hok k e
            go_wp2_with fail
            go_ret
            exact ⟨by rw [HF.out HV.out]; rfl, rfl⟩
          · have hv : okAt j c = false := by rw [hok]; simp; omega
            have j8 : ((j : Int) == 8) = true := by simp; omega
            have hx : decide (48 ≤ (c : Int)) = true := by simp; omega
            have hy : decide ((c : Int) ≤ 57) = false := by simp; omega
            have hz : decide (97 ≤ (c : Int)) = true := by simp; omega
            have hu : decide ((c : Int) ≤ 102) = true := by simp; omega
            have hd : ((c : Int) == 45) = false := by simp; omega
            have HV := hide hv
            clear hv hok k e
            go_wp2_with fail
            go_ret
            exact ⟨by rw [HF.out HV.out]; rfl, rfl⟩
          · have hv : okAt j c = false := by rw [hok]; simp; omega
            have j8 : ((j : Int) == 8) = true := by simp; omega
            have hx : decide (48 ≤ (c : Int)) = true := by simp; omega
            have hy : decide ((c : Int) ≤ 57) = false := by simp; omega
            have hz : decide (97 ≤ (c : Int)) = true := by simp; omega
            have hu : decide ((c : Int) ≤ 102) = false := by simp; omega
            have hd : ((c : Int) == 45) = false := by simp; omega
            have HV := hide hv
            clear hv hok k e
            go_wp2_with fail
            go_ret
            exact ⟨by rw [HF.out HV.out]; rfl, rfl⟩
        · have hok := @ok_dash j c (by omega)
          rcases cls c with k | k | k | k | k | k
          · have hv : okAt j c = false := by rw [hok]; simp; omega
            have j8 : ((j : Int) == 8) = false := by simp; omega
            have j13 : ((j : Int) == 13) = true := by simp; omega
            have hx : decide (48 ≤ (c : Int)) = false := by simp; omega
            have hz : decide (97 ≤ (c : Int)) = false := by simp; omega
            have hd : ((c : Int) == 45) = false := by simp; omega
            have HV := hide hv
            clear hv hok k e
            go_wp2_with fail
            go_ret
            exact ⟨by rw [HF.out HV.out]; rfl, rfl⟩
          · have hv : okAt j c = true := by rw [hok]; simp; omega
            have j8 : ((j : Int) == 8) = false := by simp; omega
            have j13 : ((j : Int) == 13) = true := by simp; omega
            have hx : decide (48 ≤ (c : Int)) = false := by simp; omega
            have hz : decide (97 ≤ (c : Int)) = false := by simp; omega
            have hd : ((c : Int) == 45) = true := by simp; omega
            have HV := hide hv
            clear hv hok k e
            go_wp2_with fail
            go_round
            case rel => exact ⟨j + 1, by omega, by go_num, HN.out HV.out⟩
            case measure => simp [intOf]; omega
          · have hv : okAt j c = false := by rw [hok]; simp; omega
            have j8 : ((j : Int) == 8) = false := by simp; omega
            have j13 : ((j : Int) == 13) = true := by simp; omega
            have hx : decide (48 ≤ (c : Int)) = true := by simp; omega
            have hy : decide ((c : Int) ≤ 57) = true := by simp; omega
            have hd : ((c : Int) == 45) = false := by simp; omega
            have HV := hide hv
            clear hv hok k e
            go_wp2_with fail
            go_ret
            exact ⟨by rw [HF.out HV.out]; rfl, rfl⟩
          · have hv : okAt j c = false := by rw [hok]; simp; omega
            have j8 : ((j : Int) == 8) = false := by simp; omega
            have j13 : ((j : Int) == 13) = true := by simp; omega
            have hx : decide (48 ≤ (c : Int)) = true := by simp; omega
            have hy : decide ((c : Int) ≤ 57) = false := by simp; omega
            have hz : decide (97 ≤ (c : Int)) = false := by simp; omega
            have hd : ((c : Int) == 45) = false := by simp; omega
            have HV := hide hv
            clear hv hok k e
            go_wp2_with fail
            go_ret
            exact ⟨by rw [HF.out HV.out]; rfl, rfl⟩
          · have hv : okAt j c = false := by rw [hok]; simp; omega
            have j8 : ((j : Int) == 8) = false := by simp; omega
            have j13 : ((j : Int) == 13) = true := by simp; omega
            have hx : decide (48 ≤ (c : Int)) = true := by simp; omega
            have hy : decide ((c : Int) ≤ 57) = false := by simp; omega
            have hz : decide (97 ≤ (c : Int)) = true := by simp; omega
            have hu : decide ((c : Int) ≤ 102) = true := by simp; omega
            have hd : ((c : Int) == 45) = false := by simp; omega
            have HV := hide hv
            clear hv hok k e
            go_wp2_with fail
            go_ret
            exact ⟨by rw [HF.out HV.out]; rfl, rfl⟩
          · have hv : okAt j c = false := by rw [hok]; simp; omega
            have j8 : ((j : Int) == 8) = false := by simp; omega
            have j13 : ((j : Int) == 13) = true := by simp; omega
            have hx : decide (48 ≤ (c : Int)) = true := by simp; omega
            have hy : decide ((c : Int) ≤ 57) = false := by simp; omega
            have hz : decide (97 ≤ (c : Int)) = true := by simp; omega
            have hu : decide ((c : Int) ≤ 102) = false := by simp; omega
            have hd : ((c : Int) == 45) = false := by simp; omega
            have HV := hide hv
            clear hv hok k e
            go_wp2_with fail
            go_ret
            exact ⟨by rw [HF.out HV.out]; rfl, rfl⟩
        · have hok := @ok_dash j c (by omega)
          rcases cls c with k | k | k | k | k | k
          · have hv : okAt j c = false := by rw [hok]; simp; omega
            have j8 : ((j : Int) == 8) = false := by simp; omega
            have j13 : ((j : Int) == 13) = false := by simp; omega
            have j18 : ((j : Int) == 18) = true := by simp; omega
            have hx : decide (48 ≤ (c : Int)) = false := by simp; omega
            have hz : decide (97 ≤ (c : Int)) = false := by simp; omega
            have hd : ((c : Int) == 45) = false := by simp; omega
            have HV := hide hv
            clear hv hok k e
            go_wp2_with fail
            go_ret
            exact ⟨by rw [HF.out HV.out]; rfl, rfl⟩
          · have hv : okAt j c = true := by rw [hok]; simp; omega
            have j8 : ((j : Int) == 8) = false := by simp; omega
            have j13 : ((j : Int) == 13) = false := by simp; omega
            have j18 : ((j : Int) == 18) = true := by simp; omega
            have hx : decide (48 ≤ (c : Int)) = false := by simp; omega
            have hz : decide (97 ≤ (c : Int)) = false := by simp; omega
            have hd : ((c : Int) == 45) = true := by simp; omega
            have HV := hide hv
            clear hv hok k e
            go_wp2_with fail
            go_round
            case rel => exact ⟨j + 1, by omega, by go_num, HN.out HV.out⟩
            case measure => simp [intOf]; omega
          · have hv : okAt j c = false := by rw [hok]; simp; omega
            have j8 : ((j : Int) == 8) = false := by simp; omega
            have j13 : ((j : Int) == 13) = false := by simp; omega
            have j18 : ((j : Int) == 18) = true := by simp; omega
            have hx : decide (48 ≤ (c : Int)) = true := by simp; omega
            have hy : decide ((c : Int) ≤ 57) = true := by simp; omega
            have hd : ((c : Int) == 45) = false := by simp; omega
            have HV := hide hv
            clear hv hok k e
            go_wp2_with fail
            go_ret
            exact ⟨by rw [HF.out HV.out]; rfl, rfl⟩
          · have hv : okAt j c = false := by rw [hok]; simp; omega
            have j8 : ((j : Int) == 8) = false := by simp; omega
            have j13 : ((j : Int) == 13) = false := by simp; omega
            have j18 : ((j : Int) == 18) = true := by simp; omega
            have hx : decide (48 ≤ (c : Int)) = true := by simp; omega
            have hy : decide ((c : Int) ≤ 57) = false := by simp; omega
            have hz : decide (97 ≤ (c : Int)) = false := by simp; omega
            have hd : ((c : Int) == 45) = false := by simp; omega
            have HV := hide hv
            clear hv hok k e
            go_wp2_with fail
            go_ret
            exact ⟨by rw [HF.out HV.out]; rfl, rfl⟩
          · have hv : okAt j c = false := by rw [hok]; simp; omega
            have j8 : ((j : Int) == 8) = false := by simp; omega
            have j13 : ((j : Int) == 13) = false := by simp; omega
            have j18 : ((j : Int) == 18) = true := by simp; omega
            have hx : decide (48 ≤ (c : Int)) = true := by simp; omega
            have hy : decide ((c : Int) ≤ 57) = false := by simp; omega
            have hz : decide (97 ≤ (c : Int)) = true := by simp; omega
            have hu : decide ((c : Int) ≤ 102) = true := by simp; omega
            have hd : ((c : Int) == 45) = false := by simp; omega
            have HV := hide hv
            clear hv hok k e
            go_wp2_with fail
            go_ret
            exact ⟨by rw [HF.out HV.out]; rfl, rfl⟩
          · have hv : okAt j c = false := by rw [hok]; simp; omega
            have j8 : ((j : Int) == 8) = false := by simp; omega
            have j13 : ((j : Int) == 13) = false := by simp; omega
            have j18 : ((j : Int) == 18) = true := by simp; omega
            have hx : decide (48 ≤ (c : Int)) = true := by simp; omega
            have hy : decide ((c : Int) ≤ 57) = false := by simp; omega
            have hz : decide (97 ≤ (c : Int)) = true := by simp; omega
            have hu : decide ((c : Int) ≤ 102) = false := by simp; omega
            have hd : ((c : Int) == 45) = false := by simp; omega
            have HV := hide hv
            clear hv hok k e
            go_wp2_with fail
            go_ret
            exact ⟨by rw [HF.out HV.out]; rfl, rfl⟩
        · have hok := @ok_dash j c (by omega)
          rcases cls c with k | k | k | k | k | k
          · have hv : okAt j c = false := by rw [hok]; simp; omega
            have j8 : ((j : Int) == 8) = false := by simp; omega
            have j13 : ((j : Int) == 13) = false := by simp; omega
            have j18 : ((j : Int) == 18) = false := by simp; omega
            have j23 : ((j : Int) == 23) = true := by simp; omega
            have hx : decide (48 ≤ (c : Int)) = false := by simp; omega
            have hz : decide (97 ≤ (c : Int)) = false := by simp; omega
            have hd : ((c : Int) == 45) = false := by simp; omega
            have HV := hide hv
            clear hv hok k e
            go_wp2_with fail
            go_ret
            exact ⟨by rw [HF.out HV.out]; rfl, rfl⟩
          · have hv : okAt j c = true := by rw [hok]; simp; omega
            have j8 : ((j : Int) == 8) = false := by simp; omega
            have j13 : ((j : Int) == 13) = false := by simp; omega
            have j18 : ((j : Int) == 18) = false := by simp; omega
            have j23 : ((j : Int) == 23) = true := by simp; omega
            have hx : decide (48 ≤ (c : Int)) = false := by simp; omega
            have hz : decide (97 ≤ (c : Int)) = false := by simp; omega
            have hd : ((c : Int) == 45) = true := by simp; omega
            have HV := hide hv
            clear hv hok k e
            go_wp2_with fail
            go_round
            case rel => exact ⟨j + 1, by omega, by go_num, HN.out HV.out⟩
            case measure => simp [intOf]; omega
          · have hv : okAt j c = false := by rw [hok]; simp; omega
            have j8 : ((j : Int) == 8) = false := by simp; omega
            have j13 : ((j : Int) == 13) = false := by simp; omega
            have j18 : ((j : Int) == 18) = false := by simp; omega
            have j23 : ((j : Int) == 23) = true := by simp; omega
            have hx : decide (48 ≤ (c : Int)) = true := by simp; omega
            have hy : decide ((c : Int) ≤ 57) = true := by simp; omega
            have hd : ((c : Int) == 45) = false := by simp; omega
            have HV := hide hv
            clear hv hok k e
            go_wp2_with fail
            go_ret
            exact ⟨by rw [HF.out HV.out]; rfl, rfl⟩
          · have hv : okAt j c = false := by rw [hok]; simp; omega
            have j8 : ((j : Int) == 8) = false := by simp; omega
            have j13 : ((j : Int) == 13) = false := by simp; omega
            have j18 : ((j : Int) == 18) = false := by simp; omega
            have j23 : ((j : Int) == 23) = true := by simp; omega
            have hx : decide (48 ≤ (c : Int)) = true := by simp; omega
            have hy : decide ((c : Int) ≤ 57) = false := by simp; omega
            have hz : decide (97 ≤ (c : Int)) = false := by simp; omega
            have hd : ((c : Int) == 45) = false := by simp; omega
            have HV := hide hv
            clear hv hok k e
            go_wp2_with fail
            go_ret
            exact ⟨by rw [HF.out HV.out]; rfl, rfl⟩
          · have hv : okAt j c = false := by rw [hok]; simp; omega
            have j8 : ((j : Int) == 8) = false := by simp; omega
            have j13 : ((j : Int) == 13) = false := by simp; omega
            have j18 : ((j : Int) == 18) = false := by simp; omega
            have j23 : ((j : Int) == 23) = true := by simp; omega
            have hx : decide (48 ≤ (c : Int)) = true := by simp; omega
            have hy : decide ((c : Int) ≤ 57) = false := by simp; omega
            have hz : decide (97 ≤ (c : Int)) = true := by simp; omega
            have hu : decide ((c : Int) ≤ 102) = true := by simp; omega
            have hd : ((c : Int) == 45) = false := by simp; omega
            have HV := hide hv
            clear hv hok k e
            go_wp2_with fail
            go_ret
            exact ⟨by rw [HF.out HV.out]; rfl, rfl⟩
          · have hv : okAt j c = false := by rw [hok]; simp; omega
            have j8 : ((j : Int) == 8) = false := by simp; omega
            have j13 : ((j : Int) == 13) = false := by simp; omega
            have j18 : ((j : Int) == 18) = false := by simp; omega
            have j23 : ((j : Int) == 23) = true := by simp; omega
            have hx : decide (48 ≤ (c : Int)) = true := by simp; omega
            have hy : decide ((c : Int) ≤ 57) = false := by simp; omega
            have hz : decide (97 ≤ (c : Int)) = true := by simp; omega
            have hu : decide ((c : Int) ≤ 102) = false := by simp; omega
            have hd : ((c : Int) == 45) = false := by simp; omega
            have HV := hide hv
            clear hv hok k e
            go_wp2_with fail
            go_ret
            exact ⟨by rw [HF.out HV.out]; rfl, rfl⟩
        · have hok := @ok_else j c e
          rcases cls c with k | k | k | k | k | k
          · have hv : okAt j c = false := by rw [hok]; unfold hexB; simp; omega
            have j8 : ((j : Int) == 8) = false := by simp; omega
            have j13 : ((j : Int) == 13) = false := by simp; omega
            have j18 : ((j : Int) == 18) = false := by simp; omega
            have j23 : ((j : Int) == 23) = false := by simp; omega
            have hx : decide (48 ≤ (c : Int)) = false := by simp; omega
            have hz : decide (97 ≤ (c : Int)) = false := by simp; omega
            have hd : ((c : Int) == 45) = false := by simp; omega
            have HV := hide hv
            clear hv hok k e
            go_wp2_with fail
            go_ret
            exact ⟨by rw [HF.out HV.out]; rfl, rfl⟩
          · have hv : okAt j c = false := by rw [hok]; unfold hexB; simp; omega
            have j8 : ((j : Int) == 8) = false := by simp; omega
            have j13 : ((j : Int) == 13) = false := by simp; omega
            have j18 : ((j : Int) == 18) = false := by simp; omega
            have j23 : ((j : Int) == 23) = false := by simp; omega
            have hx : decide (48 ≤ (c : Int)) = false := by simp; omega
            have hz : decide (97 ≤ (c : Int)) = false := by simp; omega
            have hd : ((c : Int) == 45) = true := by simp; omega
            have HV := hide hv
            clear hv hok k e
            go_wp2_with fail
            go_ret
            exact ⟨by rw [HF.out HV.out]; rfl, rfl⟩
          · have hv : okAt j c = true := by rw [hok]; unfold hexB; simp; omega
            have j8 : ((j : Int) == 8) = false := by simp; omega
            have j13 : ((j : Int) == 13) = false := by simp; omega
            have j18 : ((j : Int) == 18) = false := by simp; omega
            have j23 : ((j : Int) == 23) = false := by simp; omega
            have hx : decide (48 ≤ (c : Int)) = true := by simp; omega
            have hy : decide ((c : Int) ≤ 57) = true := by simp; omega
            have hd : ((c : Int) == 45) = false := by simp; omega
            have HV := hide hv
            clear hv hok k e
            go_wp2_with fail
            go_round
            case rel => exact ⟨j + 1, by omega, by go_num, HN.out HV.out⟩
            case measure => simp [intOf]; omega
          · have hv : okAt j c = false := by rw [hok]; unfold hexB; simp; omega
            have j8 : ((j : Int) == 8) = false := by simp; omega
            have j13 : ((j : Int) == 13) = false := by simp; omega
            have j18 : ((j : Int) == 18) = false := by simp; omega
            have j23 : ((j : Int) == 23) = false := by simp; omega
            have hx : decide (48 ≤ (c : Int)) = true := by simp; omega
            have hy : decide ((c : Int) ≤ 57) = false := by simp; omega
            have hz : decide (97 ≤ (c : Int)) = false := by simp; omega
            have hd : ((c : Int) == 45) = false := by simp; omega
            have HV := hide hv
            clear hv hok k e
            go_wp2_with fail
            go_ret
            exact ⟨by rw [HF.out HV.out]; rfl, rfl⟩
          · have hv : okAt j c = true := by rw [hok]; unfold hexB; simp; omega
            have j8 : ((j : Int) == 8) = false := by simp; omega
            have j13 : ((j : Int) == 13) = false := by simp; omega
            have j18 : ((j : Int) == 18) = false := by simp; omega
            have j23 : ((j : Int) == 23) = false := by simp; omega
            have hx : decide (48 ≤ (c : Int)) = true := by simp; omega
            have hy : decide ((c : Int) ≤ 57) = false := by simp; omega
            have hz : decide (97 ≤ (c : Int)) = true := by simp; omega
            have hu : decide ((c : Int) ≤ 102) = true := by simp; omega
            have hd : ((c : Int) == 45) = false := by simp; omega
            have HV := hide hv
            clear hv hok k e
            go_wp2_with fail
            go_round
            case rel => exact ⟨j + 1, by omega, by go_num, HN.out HV.out⟩
            case measure => simp [intOf]; omega
          · have hv : okAt j c = false := by rw [hok]; unfold hexB; simp; omega
            have j8 : ((j : Int) == 8) = false := by simp; omega
            have j13 : ((j : Int) == 13) = false := by simp; omega
            have j18 : ((j : Int) == 18) = false := by simp; omega
            have j23 : ((j : Int) == 23) = false := by simp; omega
            have hx : decide (48 ≤ (c : Int)) = true := by simp; omega
            have hy : decide ((c : Int) ≤ 57) = false := by simp; omega
            have hz : decide (97 ≤ (c : Int)) = true := by simp; omega
            have hu : decide ((c : Int) ≤ 102) = false := by simp; omega
            have hd : ((c : Int) == 45) = false := by simp; omega
            have HV := hide hv
            clear hv hok k e
            go_wp2_with fail
            go_ret
            exact ⟨by rw [HF.out HV.out]; rfl, rfl⟩
      · have h2 : decide ((j : Int) < 36) = false := by simp; omega
        have HE := hide (show r = true by rw [← HR.out]; exact uuid_yes H36.out (fun i hi => HI.out i (by omega)))
        go_wp2_with fail
        go_ret
        exact ⟨by rw [HE.out]; rfl, rfl⟩
  · have h1 : ((s.size : Int) != 36) = true := by simp; omega
    rw [uuid_no h36]
    clear h36
    go_enter Try.func41, Try.ntmps41
    go_wp2_with fail
    go_ret
    exact ⟨rfl, rfl⟩
end Go.Proofs.Ytbibobjkclgogaa
