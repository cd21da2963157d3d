/- Head: texts of one kind of bytes. -/
import Derived.Test.YtonoaopioifedaaGreatDoorHFns
namespace Go.Proofs.YtonoaopioifedaaGreatDoor.H
open Go.RowKit
set_option linter.unusedVariables false
set_option linter.unusedSimpArgs false
set_option maxRecDepth 100000
set_option maxHeartbeats 800000 in
theorem allTok (s : ByteArray) (w : World) (hs : s.size ≤ 1000000) : Calls Tryz.prog 67 #[.string s, .func (.func 81) #[] #[]] w fun e w' => e = .returned (.bool (s.data.toList.all tokB)) ∧ w' = w := by
  have HS := hide hs
  clear hs
  obtain ⟨n, hn⟩ : ∃ n, s.size = n := ⟨_, rfl⟩
  have HN := hide hn
  go_enter Tryz.func67, Tryz.ntmps67
  go_wp2_with fail
  go_loopw [8] (fun i wz => ∃ j : Nat, j ≤ n ∧ i = .int .i64 j ∧ Hid (∀ q b, q < j → s.data.toList[q]? = some b → tokB b = true) ∧ wz = w) (fun i _ => n - (Lib.intOf i).toNat)
  case atStart => exact ⟨0, Nat.zero_le _, rfl, hide (fun q b h => by omega), rfl⟩
  case round =>
    obtain ⟨j, hj, rfl, HI, rfl⟩ := hrel
    have hj4 : (0 : Int) ≤ (j : Int) := by omega
    have hj5 : (j : Int) ≤ 1000000 := by have := HS.out; omega
    by_cases hlt : j < n
    · have d1 : decide ((j : Int) < (n : Int)) = true := by simp; omega
      have hjs : j < s.size := by omega
      have hb := Lib.data_getElem? s j hjs
      obtain ⟨c, hc⟩ : ∃ c, s[j]'hjs = c := ⟨_, rfl⟩
      have HL := hide (inToken_any c wr)
      rw [hc] at hb
      cases hk : tokB c with
      | true =>
        rw [hk] at HL
        have HI2 := hide (show ∀ q b, q < j + 1 → s.data.toList[q]? = some b → tokB b = true from fun q b h1 h2 => by
          rcases Nat.lt_or_ge q j with h | h
          · exact HI.out q b h h2
          · rw [show q = j by omega, hb] at h2; cases h2; exact hk)
        clear hk hb HI
        go_wp2_with fail
        (with_reducible refine HL.out.mono ?_)
        rintro e w1 ⟨rfl, rfl⟩
        clear HL hc hjs d1
        go_wp2_with fail
        exact ⟨⟨j + 1, by omega, by go_num, HI2, by first | rfl | trivial⟩, by simp [Lib.intOf]; omega⟩
      | false =>
        rw [hk] at HL
        have HE := hide (show s.data.toList.all tokB = false by
          rw [List.all_eq_false]
          exact ⟨c, List.mem_of_getElem? hb, by rw [hk]; decide⟩)
        clear hk hb HI
        go_wp2_with fail
        (with_reducible refine HL.out.mono ?_)
        rintro e w1 ⟨rfl, rfl⟩
        clear HL hc hjs d1
        go_wp2_with fail
        go_ret
        exact ⟨by rw [HE.out]; rfl, rfl⟩
    · have d1 : decide (j < n) = false := by simp; omega
      have HE := hide (show s.data.toList.all tokB = true by
        rw [List.all_eq_true]
        intro b hb
        obtain ⟨q, hq, e⟩ := List.getElem_of_mem hb
        refine HI.out q b ?_ (by rw [List.getElem?_eq_getElem hq, e])
        have : s.data.toList.length = s.size := by simp
        omega)
      clear hj hlt
      go_wp2_with fail
      go_ret
      exact ⟨by rw [HE.out]; rfl, rfl⟩
set_option maxHeartbeats 800000 in
theorem allVal (s : ByteArray) (w : World) (hs : s.size ≤ 1000000) : Calls Tryz.prog 67 #[.string s, .func (.func 68) #[] #[]] w fun e w' => e = .returned (.bool (s.data.toList.all valB)) ∧ w' = w := by
  have HS := hide hs
  clear hs
  obtain ⟨n, hn⟩ : ∃ n, s.size = n := ⟨_, rfl⟩
  have HN := hide hn
  go_enter Tryz.func67, Tryz.ntmps67
  go_wp2_with fail
  go_loopw [8] (fun i wz => ∃ j : Nat, j ≤ n ∧ i = .int .i64 j ∧ Hid (∀ q b, q < j → s.data.toList[q]? = some b → valB b = true) ∧ wz = w) (fun i _ => n - (Lib.intOf i).toNat)
  case atStart => exact ⟨0, Nat.zero_le _, rfl, hide (fun q b h => by omega), rfl⟩
  case round =>
    obtain ⟨j, hj, rfl, HI, rfl⟩ := hrel
    have hj4 : (0 : Int) ≤ (j : Int) := by omega
    have hj5 : (j : Int) ≤ 1000000 := by have := HS.out; omega
    by_cases hlt : j < n
    · have d1 : decide ((j : Int) < (n : Int)) = true := by simp; omega
      have hjs : j < s.size := by omega
      have hb := Lib.data_getElem? s j hjs
      obtain ⟨c, hc⟩ : ∃ c, s[j]'hjs = c := ⟨_, rfl⟩
      have HL := hide (inValue_any c wr)
      rw [hc] at hb
      cases hk : valB c with
      | true =>
        rw [hk] at HL
        have HI2 := hide (show ∀ q b, q < j + 1 → s.data.toList[q]? = some b → valB b = true from fun q b h1 h2 => by
          rcases Nat.lt_or_ge q j with h | h
          · exact HI.out q b h h2
          · rw [show q = j by omega, hb] at h2; cases h2; exact hk)
        clear hk hb HI
        go_wp2_with fail
        (with_reducible refine HL.out.mono ?_)
        rintro e w1 ⟨rfl, rfl⟩
        clear HL hc hjs d1
        go_wp2_with fail
        exact ⟨⟨j + 1, by omega, by go_num, HI2, by first | rfl | trivial⟩, by simp [Lib.intOf]; omega⟩
      | false =>
        rw [hk] at HL
        have HE := hide (show s.data.toList.all valB = false by
          rw [List.all_eq_false]
          exact ⟨c, List.mem_of_getElem? hb, by rw [hk]; decide⟩)
        clear hk hb HI
        go_wp2_with fail
        (with_reducible refine HL.out.mono ?_)
        rintro e w1 ⟨rfl, rfl⟩
        clear HL hc hjs d1
        go_wp2_with fail
        go_ret
        exact ⟨by rw [HE.out]; rfl, rfl⟩
    · have d1 : decide (j < n) = false := by simp; omega
      have HE := hide (show s.data.toList.all valB = true by
        rw [List.all_eq_true]
        intro b hb
        obtain ⟨q, hq, e⟩ := List.getElem_of_mem hb
        refine HI.out q b ?_ (by rw [List.getElem?_eq_getElem hq, e])
        have : s.data.toList.length = s.size := by simp
        omega)
      clear hj hlt
      go_wp2_with fail
      go_ret
      exact ⟨by rw [HE.out]; rfl, rfl⟩
set_option maxHeartbeats 800000 in
theorem allTgt (s : ByteArray) (w : World) (hs : s.size ≤ 1000000) : Calls Tryz.prog 67 #[.string s, .func (.func 65) #[] #[]] w fun e w' => e = .returned (.bool (s.data.toList.all tgtB)) ∧ w' = w := by
  have HS := hide hs
  clear hs
  obtain ⟨n, hn⟩ : ∃ n, s.size = n := ⟨_, rfl⟩
  have HN := hide hn
  go_enter Tryz.func67, Tryz.ntmps67
  go_wp2_with fail
  go_loopw [8] (fun i wz => ∃ j : Nat, j ≤ n ∧ i = .int .i64 j ∧ Hid (∀ q b, q < j → s.data.toList[q]? = some b → tgtB b = true) ∧ wz = w) (fun i _ => n - (Lib.intOf i).toNat)
  case atStart => exact ⟨0, Nat.zero_le _, rfl, hide (fun q b h => by omega), rfl⟩
  case round =>
    obtain ⟨j, hj, rfl, HI, rfl⟩ := hrel
    have hj4 : (0 : Int) ≤ (j : Int) := by omega
    have hj5 : (j : Int) ≤ 1000000 := by have := HS.out; omega
    by_cases hlt : j < n
    · have d1 : decide ((j : Int) < (n : Int)) = true := by simp; omega
      have hjs : j < s.size := by omega
      have hb := Lib.data_getElem? s j hjs
      obtain ⟨c, hc⟩ : ∃ c, s[j]'hjs = c := ⟨_, rfl⟩
      have HL := hide (inTarget_any c wr)
      rw [hc] at hb
      cases hk : tgtB c with
      | true =>
        rw [hk] at HL
        have HI2 := hide (show ∀ q b, q < j + 1 → s.data.toList[q]? = some b → tgtB b = true from fun q b h1 h2 => by
          rcases Nat.lt_or_ge q j with h | h
          · exact HI.out q b h h2
          · rw [show q = j by omega, hb] at h2; cases h2; exact hk)
        clear hk hb HI
        go_wp2_with fail
        (with_reducible refine HL.out.mono ?_)
        rintro e w1 ⟨rfl, rfl⟩
        clear HL hc hjs d1
        go_wp2_with fail
        exact ⟨⟨j + 1, by omega, by go_num, HI2, by first | rfl | trivial⟩, by simp [Lib.intOf]; omega⟩
      | false =>
        rw [hk] at HL
        have HE := hide (show s.data.toList.all tgtB = false by
          rw [List.all_eq_false]
          exact ⟨c, List.mem_of_getElem? hb, by rw [hk]; decide⟩)
        clear hk hb HI
        go_wp2_with fail
        (with_reducible refine HL.out.mono ?_)
        rintro e w1 ⟨rfl, rfl⟩
        clear HL hc hjs d1
        go_wp2_with fail
        go_ret
        exact ⟨by rw [HE.out]; rfl, rfl⟩
    · have d1 : decide (j < n) = false := by simp; omega
      have HE := hide (show s.data.toList.all tgtB = true by
        rw [List.all_eq_true]
        intro b hb
        obtain ⟨q, hq, e⟩ := List.getElem_of_mem hb
        refine HI.out q b ?_ (by rw [List.getElem?_eq_getElem hq, e])
        have : s.data.toList.length = s.size := by simp
        omega)
      clear hj hlt
      go_wp2_with fail
      go_ret
      exact ⟨by rw [HE.out]; rfl, rfl⟩
end Go.Proofs.YtonoaopioifedaaGreatDoor.H
