/- value: descriptions: both sides. -/
import Derived.Test.YtdofdbajilkimaaDoorVFn
namespace Go.Proofs.YtdofdbajilkimaaDoor
open Go.RowKit Go.Lib
set_option linter.unusedVariables false
set_option linter.unusedSimpArgs false
set_option maxRecDepth 100000
def prB (c : UInt8) : Bool := decide (32 ≤ c.toNat) && decide (c.toNat ≤ 126)
def wordsL (l : List UInt8) : Bool := decide (l.length ≤ 64) && l.all prB
theorem all_take (l : List UInt8) (j : Nat) (c : UInt8) (h : l[j]? = some c) : (l.take (j + 1)).all prB = ((l.take j).all prB && prB c) := by
  rw [List.take_add_one, h, Option.toList_some, List.all_append]; simp
theorem all_bad (l : List UInt8) (j : Nat) (c : UInt8) (h : l[j]? = some c) (hp : prB c = false) : wordsL l = false := by
  unfold wordsL
  rw [Bool.and_eq_false_iff]
  right
  rw [← Bool.not_eq_true, List.all_eq_true]
  intro ha
  rw [ha c (List.mem_of_getElem? h)] at hp
  cases hp
set_option maxHeartbeats 1000000 in
theorem words_any (s : ByteArray) (w : World) : Calls Tryd.prog 15 #[.string s] w fun e w' => e = .returned (.bool (wordsL s.data.toList)) ∧ w' = w := by
  obtain ⟨l, hl⟩ : ∃ l, s.data.toList = l := ⟨_, rfl⟩
  obtain ⟨n, hn⟩ : ∃ n, s.size = n := ⟨_, rfl⟩
  have hln : l.length = n := by rw [← hl, ← hn]; simp
  rw [hl]
  by_cases h64 : 64 < n
  · have d1 : decide ((64 : Int) < (n : Int)) = true := by simp; omega
    have HE := hide (show wordsL l = false by unfold wordsL; rw [Bool.and_eq_false_iff]; left; simp; omega)
    clear hl hln h64
    go_enter Tryd.func15, Tryd.ntmps15
    go_wp2_with fail
    go_ret
    exact ⟨by rw [HE.out]; rfl, by first | rfl | trivial⟩
  have d1 : decide ((64 : Int) < (n : Int)) = false := by simp; omega
  have HN := hide (And.intro hln (And.intro (show n ≤ 64 by omega) hl))
  clear hl hln h64
  go_enter Tryd.func15, Tryd.ntmps15
  go_wp2_with fail
  clear d1
  go_loopw [3, 9] (fun _ i wz => ∃ j : Nat, j ≤ n ∧ i = .int .i64 j ∧ Hid ((l.take j).all prB = true) ∧ wz = w) (fun _ i _ => n - (Lib.intOf i).toNat)
  case atStart => exact ⟨0, Nat.zero_le _, rfl, hide rfl, rfl⟩
  case round =>
    obtain ⟨j, hj, rfl, HF, rfl⟩ := hrel
    have hj4 : (0 : Int) ≤ (j : Int) := by omega
    have hj5 : (j : Int) ≤ 64 := by have := HN.out; omega
    by_cases hlt : j < n
    · have d1 : decide (j < n) = true := by simp; omega
      have hjs : j < s.size := by omega
      obtain ⟨c, hc⟩ : ∃ c, s[j]'hjs = c := ⟨_, rfl⟩
      have hlc : l[j]? = some c := by rw [← HN.out.2.2, Lib.data_getElem? s j hjs, hc]
      have hsucc := all_take l j c hlc
      rw [HF.out] at hsucc
      have hbad := all_bad l j c hlc
      have hpr : prB c = (decide (32 ≤ c.toNat) && decide (c.toNat ≤ 126)) := rfl
      have hcx := c.toNat_lt
      obtain ⟨x, hx⟩ : ∃ x, c.toNat = x := ⟨_, rfl⟩
      rw [hx] at hpr hcx
      by_cases h1 : 32 ≤ x
      · by_cases h2 : x ≤ 126
        · have e1 : decide ((x : Int) < 32) = false := by simp; omega
          have e2 : decide ((126 : Int) < (x : Int)) = false := by simp; omega
          rw [decide_eq_true h1, decide_eq_true h2] at hpr
          rw [hpr] at hsucc
          have HG := hide (show (l.take (j + 1)).all prB = true from hsucc)
          clear hsucc hbad hpr h1 h2 hlc HF hcx
          go_wp2_with fail
          exact ⟨⟨j + 1, by omega, by go_num, HG, by first | rfl | trivial⟩, by simp [Lib.intOf]; omega⟩
        · have e1 : decide ((x : Int) < 32) = false := by simp; omega
          have e2 : decide ((126 : Int) < (x : Int)) = true := by simp; omega
          rw [decide_eq_true h1, decide_eq_false h2] at hpr
          have HE := hide (hbad hpr)
          clear hsucc hbad hpr h1 h2 hlc HF hcx
          go_wp2_with fail
          go_ret
          exact ⟨by rw [HE.out]; rfl, by first | rfl | trivial⟩
      · have e1 : decide ((x : Int) < 32) = true := by simp; omega
        rw [decide_eq_false h1] at hpr
        have HE := hide (hbad hpr)
        clear hsucc hbad hpr h1 hlc HF hcx
        go_wp2_with fail
        go_ret
        exact ⟨by rw [HE.out]; rfl, by first | rfl | trivial⟩
    · have d1 : decide (j < n) = false := by simp; omega
      have HE := hide (show wordsL l = true by
        have h := HF.out
        rw [List.take_of_length_le (by have := HN.out; omega)] at h
        unfold wordsL
        rw [h, decide_eq_true (by have := HN.out; omega)]; rfl)
      clear hj hlt HF
      go_wp2_with fail
      go_ret
      exact ⟨by rw [HE.out]; rfl, by first | rfl | trivial⟩
set_option maxHeartbeats 1000000 in
theorem rwords_any (s : ByteArray) (w : World) (hs : s.size ≤ 1000) : Calls Tryd.prog 16 #[.string s] w fun e w' => e = .returned (.bool (wordsL s.data.toList)) ∧ w' = w := by
  obtain ⟨l, hl⟩ : ∃ l, s.data.toList = l := ⟨_, rfl⟩
  obtain ⟨n, hn⟩ : ∃ n, s.size = n := ⟨_, rfl⟩
  have hln : l.length = n := by rw [← hl, ← hn]; simp
  rw [hl]
  have HN := hide (And.intro hln (And.intro (show n ≤ 1000 by omega) hl))
  obtain ⟨q, hq⟩ : ∃ q, decide ((n : Int) < 65) = q := ⟨_, rfl⟩
  have HQ := hide (show q = decide (n ≤ 64) by rw [← hq]; congr 1; exact propext (by omega))
  clear hl hln hs
  go_enter Tryd.func16, Tryd.ntmps16
  go_wp2_with fail
  clear hq
  go_loopw [3, 4] (fun q i wz => ∃ (j : Nat) (o : Bool), j ≤ n ∧ i = .int .i64 j ∧ q = .bool o ∧ Hid (o = (decide (n ≤ 64) && (l.take j).all prB)) ∧ wz = w) (fun _ i _ => n - (Lib.intOf i).toNat)
  case atStart => exact ⟨0, q, Nat.zero_le _, rfl, rfl, hide (by rw [HQ.out]; simp), rfl⟩
  case round =>
    obtain ⟨j, o, hj, rfl, rfl, HF, rfl⟩ := hrel
    have hj4 : (0 : Int) ≤ (j : Int) := by omega
    have hj5 : (j : Int) ≤ 1000 := by have := HN.out; omega
    by_cases hlt : j < n
    · have d1 : decide (j < n) = true := by simp; omega
      have hjs : j < s.size := by omega
      obtain ⟨c, hc⟩ : ∃ c, s[j]'hjs = c := ⟨_, rfl⟩
      have hlc : l[j]? = some c := by rw [← HN.out.2.2, Lib.data_getElem? s j hjs, hc]
      have hsucc := all_take l j c hlc
      have hpr : prB c = (decide (32 ≤ c.toNat) && decide (c.toNat ≤ 126)) := rfl
      have hcx := c.toNat_lt
      obtain ⟨x, hx⟩ : ∃ x, c.toNat = x := ⟨_, rfl⟩
      rw [hx] at hpr hcx
      obtain ⟨t1, e1⟩ : ∃ t, decide ((31 : Int) < (x : Int)) = t := ⟨_, rfl⟩
      obtain ⟨t2, e2⟩ : ∃ t, decide ((x : Int) < 127) = t := ⟨_, rfl⟩
      have HG := hide (show (o && (t1 && t2)) = (decide (n ≤ 64) && (l.take (j + 1)).all prB) by
        have a1 : decide (32 ≤ x) = t1 := by rw [← e1]; congr 1; exact propext (by omega)
        have a2 : decide (x ≤ 126) = t2 := by rw [← e2]; congr 1; exact propext (by omega)
        rw [hsucc, hpr, a1, a2, HF.out, Bool.and_assoc])
      clear hsucc hpr hlc HF hcx
      cases o
      · go_wp2_with fail
        exact ⟨⟨j + 1, false, by omega, by go_num, rfl, HG, by first | rfl | trivial⟩, by simp [Lib.intOf]; omega⟩
      cases t1
      · go_wp2_with fail
        exact ⟨⟨j + 1, false, by omega, by go_num, rfl, HG, by first | rfl | trivial⟩, by simp [Lib.intOf]; omega⟩
      cases t2
      · go_wp2_with fail
        exact ⟨⟨j + 1, false, by omega, by go_num, rfl, HG, by first | rfl | trivial⟩, by simp [Lib.intOf]; omega⟩
      · go_wp2_with fail
        exact ⟨⟨j + 1, true, by omega, by go_num, rfl, HG, by first | rfl | trivial⟩, by simp [Lib.intOf]; omega⟩
    · have d1 : decide (j < n) = false := by simp; omega
      have HE := hide (show wordsL l = o by
        have h := HF.out
        rw [List.take_of_length_le (by have := HN.out; omega)] at h
        unfold wordsL
        rw [HN.out.1, h])
      clear hj hlt HF
      go_wp2_with fail
      go_ret
      exact ⟨by rw [HE.out]; rfl, by first | rfl | trivial⟩
end Go.Proofs.YtdofdbajilkimaaDoor
