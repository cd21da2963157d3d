/- Head: the document's Number. -/
import Derived.Test.YtonoaopioifedaaGreatDoorHPub
namespace Go.Proofs.YtonoaopioifedaaGreatDoor.H
open Go.RowKit Go.Deep
set_option linter.unusedVariables false
set_option linter.unusedSimpArgs false
set_option maxRecDepth 100000
set_option maxHeartbeats 2000000 in
theorem rnum10 (s : ByteArray) (most : Int) (w : World) (hs : s.size ≤ 7) (h0 : 1 ≤ s.size) : Calls Tryz.prog 29 #[.string s, .int .i64 10, .int .i64 most] w fun e w' => e = .returned (numberV (numberL s.data.toList 10 most)) ∧ w' = w := by
  obtain ⟨l, hl⟩ : ∃ l, s.data.toList = l := ⟨_, rfl⟩
  obtain ⟨n, hn⟩ : ∃ n, s.size = n := ⟨_, rfl⟩
  have hln : l.length = n := by rw [← hl, ← hn]; simp
  rw [hl]
  have HN := hide (And.intro hln (And.intro (show n ≤ 7 by omega) (And.intro hl (show 1 ≤ n by omega))))
  have d1 : decide ((n : Int) < 1) = false := by simp; omega
  have d2 : decide ((7 : Int) < (n : Int)) = false := by simp; omega
  clear hl hln hs h0
  go_enter Tryz.func29, Tryz.ntmps29
  go_wp2_with fail
  clear d1 d2
  go_loopw [8, 9] (fun nv i wz => ∃ j a : Nat, j ≤ n ∧ i = .int .i64 j ∧ nv = .int .i64 a ∧ Hid (foldN 10 (l.take j) = some a) ∧ wz = w) (fun _ i _ => n - (Lib.intOf i).toNat)
  case atStart => exact ⟨0, 0, Nat.zero_le _, rfl, rfl, hide rfl, rfl⟩
  case round =>
    obtain ⟨j, a, hj, rfl, rfl, HF, rfl⟩ := hrel
    have hj4 : (0 : Int) ≤ (j : Int) := by omega
    have hj5 : (j : Int) ≤ 7 := by have := HN.out; omega
    by_cases hlt : j < n
    · have d1 : decide (j < n) = true := by simp; omega
      have hjs : j < s.size := by omega
      obtain ⟨c, hc⟩ : ∃ c, s[j]'hjs = c := ⟨_, rfl⟩
      have hlc : l[j]? = some c := by rw [← HN.out.2.2.1, Lib.data_getElem? s j hjs, hc]
      have hS := Small_any c wr
      have hy8 := (smallU c).toNat_lt
      obtain ⟨y, hy⟩ : ∃ y, (smallU c).toNat = y := ⟨_, rfl⟩
      rw [hy] at hS hy8
      have HS := hide hS
      have HY := hide hy
      have HLC := hide hlc
      have hy4 : (0 : Int) ≤ (y : Int) := by omega
      have hy5 : (y : Int) ≤ 255 := by omega
      clear hS hy hlc hy8
      go_wp2_with fail
      (with_reducible refine HS.out.mono ?_)
      rintro e w1 ⟨rfl, rfl⟩
      clear hc hjs HS
      by_cases h1 : 48 ≤ y
      · have da : decide ((48 : Int) ≤ (y : Int)) = true := by simp; omega
        by_cases h2 : y ≤ 57
        · have db : decide ((y : Int) ≤ 57) = true := by simp; omega
          have dc : decide ((97 : Int) ≤ (y : Int)) = false := by simp; omega
          have hy6 : (48 : Int) ≤ (y : Int) := by omega
          have hv : digD 10 c = y - 48 := by unfold digD; rw [HY.out]; rw [if_neg (by omega), if_pos (by omega)]
          have hd := show digU 10 c = some (y - 48) by rw [digD_eq 10 (by omega) c, hv, if_neg (by omega)]
          have hdl := dig_lt 10 (by omega) c _ hd
          have hst := num_step 10 l j a _ c HF.out HLC.out hd
          have hal := fold_lt 10 (by omega) l j a (by have := HN.out; omega) HF.out
          have hp7 := pow7 j (by have := HN.out; omega)
          obtain ⟨dd, hdd⟩ : ∃ z, y - 48 = z := ⟨_, rfl⟩
          obtain ⟨M, hM⟩ : ∃ M, a * 10 + dd = M := ⟨_, rfl⟩
          rw [hdd, hM] at hst
          have hal2 : (a : Int) ≤ 268435456 := by omega
          have ha4 : (0 : Int) ≤ (a : Int) := by omega
          have e3 : (y : Int) - 48 = (dd : Int) := by omega
          have d9 : ((dd : Int) == 99) = false := by simp; omega
          have hdd4 : (0 : Int) ≤ (dd : Int) := by omega
          have hdd5 : (dd : Int) ≤ 40 := by omega
          have HG := hide (show foldN 10 (l.take (j + 1)) = some M from hst)
          have HM := hide (show (10 : Int) * (a : Int) + (dd : Int) = (M : Int) by omega)
          clear h1 h2 HF HLC HY hv hd hst hdl hal hp7 hM hdd
          go_wp2_with fail
          exact ⟨⟨j + 1, M, by omega, by go_num, by rw [← HM.out], HG, by first | rfl | trivial⟩, by simp [Lib.intOf]; omega⟩
        · have db : decide ((y : Int) ≤ 57) = false := by simp; omega
          have HE := hide (show numberL l 10 most = none by
            have h := num_bad 10 l j a c HF.out HLC.out (by rw [digD_eq 10 (by omega) c, show digD 10 c = 99 by unfold digD; rw [HY.out]; rw [if_neg (by omega), if_neg (by omega)]]; rfl)
            unfold numberL
            rw [show ((10 : Int)).toNat = 10 from rfl, h]
            split <;> rfl)
          clear h1 h2 HF HLC HY
          go_wp2_with fail
          go_ret2
          exact ⟨by rw [HE.out]; rfl, by first | rfl | trivial⟩
      · have da : decide ((48 : Int) ≤ (y : Int)) = false := by simp; omega
        have HE := hide (show numberL l 10 most = none by
          have h := num_bad 10 l j a c HF.out HLC.out (by rw [digD_eq 10 (by omega) c, show digD 10 c = 99 by unfold digD; rw [HY.out]; rw [if_neg (by omega), if_neg (by omega)]]; rfl)
          unfold numberL
          rw [show ((10 : Int)).toNat = 10 from rfl, h]
          split <;> rfl)
        clear h1 HF HLC HY
        go_wp2_with fail
        go_ret2
        exact ⟨by rw [HE.out]; rfl, by first | rfl | trivial⟩
    · have d1 : decide (j < n) = false := by simp; omega
      have hnum : numL 10 l = some a := by
        have h := HF.out
        rw [List.take_of_length_le (by have := HN.out; omega)] at h
        unfold numL
        rw [if_neg (by intro e; have := HN.out; rw [e] at this; simp at this; omega), h]
      have hl7 : l.length ≤ 7 := by have := HN.out; omega
      by_cases hm : (a : Int) ≤ most
      · have d4 : decide (most < (a : Int)) = false := by simp; omega
        have HE := hide (show numberL l 10 most = some a by unfold numberL; rw [if_pos ⟨by omega, hl7⟩, show ((10 : Int)).toNat = 10 from rfl, hnum, Option.bind_some, if_pos hm])
        clear hm hnum hl7 HF hj hlt
        go_wp2_with fail
        go_ret2
        exact ⟨by rw [HE.out]; rfl, by first | rfl | trivial⟩
      · have d4 : decide (most < (a : Int)) = true := by simp; omega
        have HE := hide (show numberL l 10 most = none by unfold numberL; rw [if_pos ⟨by omega, hl7⟩, show ((10 : Int)).toNat = 10 from rfl, hnum, Option.bind_some, if_neg hm])
        clear hm hnum hl7 HF hj hlt
        go_wp2_with fail
        go_ret2
        exact ⟨by rw [HE.out]; rfl, by first | rfl | trivial⟩
set_option maxHeartbeats 2000000 in
theorem rnum16 (s : ByteArray) (most : Int) (w : World) (hs : s.size ≤ 7) (h0 : 1 ≤ s.size) : Calls Tryz.prog 29 #[.string s, .int .i64 16, .int .i64 most] w fun e w' => e = .returned (numberV (numberL s.data.toList 16 most)) ∧ w' = w := by
  obtain ⟨l, hl⟩ : ∃ l, s.data.toList = l := ⟨_, rfl⟩
  obtain ⟨n, hn⟩ : ∃ n, s.size = n := ⟨_, rfl⟩
  have hln : l.length = n := by rw [← hl, ← hn]; simp
  rw [hl]
  have HN := hide (And.intro hln (And.intro (show n ≤ 7 by omega) (And.intro hl (show 1 ≤ n by omega))))
  have d1 : decide ((n : Int) < 1) = false := by simp; omega
  have d2 : decide ((7 : Int) < (n : Int)) = false := by simp; omega
  clear hl hln hs h0
  go_enter Tryz.func29, Tryz.ntmps29
  go_wp2_with fail
  clear d1 d2
  go_loopw [8, 9] (fun nv i wz => ∃ j a : Nat, j ≤ n ∧ i = .int .i64 j ∧ nv = .int .i64 a ∧ Hid (foldN 16 (l.take j) = some a) ∧ wz = w) (fun _ i _ => n - (Lib.intOf i).toNat)
  case atStart => exact ⟨0, 0, Nat.zero_le _, rfl, rfl, hide rfl, rfl⟩
  case round =>
    obtain ⟨j, a, hj, rfl, rfl, HF, rfl⟩ := hrel
    have hj4 : (0 : Int) ≤ (j : Int) := by omega
    have hj5 : (j : Int) ≤ 7 := by have := HN.out; omega
    by_cases hlt : j < n
    · have d1 : decide (j < n) = true := by simp; omega
      have hjs : j < s.size := by omega
      obtain ⟨c, hc⟩ : ∃ c, s[j]'hjs = c := ⟨_, rfl⟩
      have hlc : l[j]? = some c := by rw [← HN.out.2.2.1, Lib.data_getElem? s j hjs, hc]
      have hS := Small_any c wr
      have hy8 := (smallU c).toNat_lt
      obtain ⟨y, hy⟩ : ∃ y, (smallU c).toNat = y := ⟨_, rfl⟩
      rw [hy] at hS hy8
      have HS := hide hS
      have HY := hide hy
      have HLC := hide hlc
      have hy4 : (0 : Int) ≤ (y : Int) := by omega
      have hy5 : (y : Int) ≤ 255 := by omega
      clear hS hy hlc hy8
      go_wp2_with fail
      (with_reducible refine HS.out.mono ?_)
      rintro e w1 ⟨rfl, rfl⟩
      clear hc hjs HS
      by_cases h1 : 48 ≤ y
      · have da : decide ((48 : Int) ≤ (y : Int)) = true := by simp; omega
        by_cases h2 : y ≤ 57
        · have db : decide ((y : Int) ≤ 57) = true := by simp; omega
          have dc : decide ((97 : Int) ≤ (y : Int)) = false := by simp; omega
          have hy6 : (48 : Int) ≤ (y : Int) := by omega
          have hv : digD 16 c = y - 48 := by unfold digD; rw [HY.out]; rw [if_neg (by omega), if_pos (by omega)]
          have hd := show digU 16 c = some (y - 48) by rw [digD_eq 16 (by omega) c, hv, if_neg (by omega)]
          have hdl := dig_lt 16 (by omega) c _ hd
          have hst := num_step 16 l j a _ c HF.out HLC.out hd
          have hal := fold_lt 16 (by omega) l j a (by have := HN.out; omega) HF.out
          have hp7 := pow7 j (by have := HN.out; omega)
          obtain ⟨dd, hdd⟩ : ∃ z, y - 48 = z := ⟨_, rfl⟩
          obtain ⟨M, hM⟩ : ∃ M, a * 16 + dd = M := ⟨_, rfl⟩
          rw [hdd, hM] at hst
          have hal2 : (a : Int) ≤ 268435456 := by omega
          have ha4 : (0 : Int) ≤ (a : Int) := by omega
          have e3 : (y : Int) - 48 = (dd : Int) := by omega
          have d9 : ((dd : Int) == 99) = false := by simp; omega
          have hdd4 : (0 : Int) ≤ (dd : Int) := by omega
          have hdd5 : (dd : Int) ≤ 40 := by omega
          have HG := hide (show foldN 16 (l.take (j + 1)) = some M from hst)
          have HM := hide (show (16 : Int) * (a : Int) + (dd : Int) = (M : Int) by omega)
          clear h1 h2 HF HLC HY hv hd hst hdl hal hp7 hM hdd
          go_wp2_with fail
          exact ⟨⟨j + 1, M, by omega, by go_num, by rw [← HM.out], HG, by first | rfl | trivial⟩, by simp [Lib.intOf]; omega⟩
        · have db : decide ((y : Int) ≤ 57) = false := by simp; omega
          by_cases h3 : 97 ≤ y
          · have dc : decide ((97 : Int) ≤ (y : Int)) = true := by simp; omega
            by_cases h4 : y ≤ 102
            · have de : decide ((y : Int) ≤ 102) = true := by simp; omega
              have hv : digD 16 c = 10 + (y - 97) := by unfold digD; rw [HY.out]; rw [if_pos (by omega)]
              have hd := show digU 16 c = some (10 + (y - 97)) by rw [digD_eq 16 (by omega) c, hv, if_neg (by omega)]
              have hdl := dig_lt 16 (by omega) c _ hd
              have hst := num_step 16 l j a _ c HF.out HLC.out hd
              have hal := fold_lt 16 (by omega) l j a (by have := HN.out; omega) HF.out
              have hp7 := pow7 j (by have := HN.out; omega)
              obtain ⟨dd, hdd⟩ : ∃ z, 10 + (y - 97) = z := ⟨_, rfl⟩
              obtain ⟨M, hM⟩ : ∃ M, a * 16 + dd = M := ⟨_, rfl⟩
              rw [hdd, hM] at hst
              have hal2 : (a : Int) ≤ 268435456 := by omega
              have ha4 : (0 : Int) ≤ (a : Int) := by omega
              have e3 : IntKind.u8.wrap ((y : Int) - 97) = (y : Int) - 97 := by rw [IntKind.wrap_u8]; omega
              have e5 : (10 : Int) + ((y : Int) - 97) = (dd : Int) := by omega
              have hy6 : (97 : Int) ≤ (y : Int) := by omega
              have d9 : ((dd : Int) == 99) = false := by simp; omega
              have hdd4 : (0 : Int) ≤ (dd : Int) := by omega
              have hdd5 : (dd : Int) ≤ 40 := by omega
              have HG := hide (show foldN 16 (l.take (j + 1)) = some M from hst)
              have HM := hide (show (16 : Int) * (a : Int) + (dd : Int) = (M : Int) by omega)
              clear h1 h2 h3 h4 HF HLC HY hv hd hst hdl hal hp7 hM hdd
              go_wp2_with fail
              exact ⟨⟨j + 1, M, by omega, by go_num, by rw [← HM.out], HG, by first | rfl | trivial⟩, by simp [Lib.intOf]; omega⟩
            · have de : decide ((y : Int) ≤ 102) = false := by simp; omega
              have HE := hide (show numberL l 16 most = none by
                have h := num_bad 16 l j a c HF.out HLC.out (by rw [digD_eq 16 (by omega) c, show digD 16 c = 99 by unfold digD; rw [HY.out]; rw [if_neg (by omega), if_neg (by omega)]]; rfl)
                unfold numberL
                rw [show ((16 : Int)).toNat = 16 from rfl, h]
                split <;> rfl)
              clear h1 h2 h3 h4 HF HLC HY
              go_wp2_with fail
              go_ret2
              exact ⟨by rw [HE.out]; rfl, by first | rfl | trivial⟩
          · have dc : decide ((97 : Int) ≤ (y : Int)) = false := by simp; omega
            have HE := hide (show numberL l 16 most = none by
              have h := num_bad 16 l j a c HF.out HLC.out (by rw [digD_eq 16 (by omega) c, show digD 16 c = 99 by unfold digD; rw [HY.out]; rw [if_neg (by omega), if_neg (by omega)]]; rfl)
              unfold numberL
              rw [show ((16 : Int)).toNat = 16 from rfl, h]
              split <;> rfl)
            clear h1 h2 h3 HF HLC HY
            go_wp2_with fail
            go_ret2
            exact ⟨by rw [HE.out]; rfl, by first | rfl | trivial⟩
      · have da : decide ((48 : Int) ≤ (y : Int)) = false := by simp; omega
        by_cases h3 : 97 ≤ y
        · have dc : decide ((97 : Int) ≤ (y : Int)) = true := by simp; omega
          by_cases h4 : y ≤ 102
          · have de : decide ((y : Int) ≤ 102) = true := by simp; omega
            have hv : digD 16 c = 10 + (y - 97) := by unfold digD; rw [HY.out]; rw [if_pos (by omega)]
            have hd := show digU 16 c = some (10 + (y - 97)) by rw [digD_eq 16 (by omega) c, hv, if_neg (by omega)]
            have hdl := dig_lt 16 (by omega) c _ hd
            have hst := num_step 16 l j a _ c HF.out HLC.out hd
            have hal := fold_lt 16 (by omega) l j a (by have := HN.out; omega) HF.out
            have hp7 := pow7 j (by have := HN.out; omega)
            obtain ⟨dd, hdd⟩ : ∃ z, 10 + (y - 97) = z := ⟨_, rfl⟩
            obtain ⟨M, hM⟩ : ∃ M, a * 16 + dd = M := ⟨_, rfl⟩
            rw [hdd, hM] at hst
            have hal2 : (a : Int) ≤ 268435456 := by omega
            have ha4 : (0 : Int) ≤ (a : Int) := by omega
            have e3 : IntKind.u8.wrap ((y : Int) - 97) = (y : Int) - 97 := by rw [IntKind.wrap_u8]; omega
            have e5 : (10 : Int) + ((y : Int) - 97) = (dd : Int) := by omega
            have hy6 : (97 : Int) ≤ (y : Int) := by omega
            have d9 : ((dd : Int) == 99) = false := by simp; omega
            have hdd4 : (0 : Int) ≤ (dd : Int) := by omega
            have hdd5 : (dd : Int) ≤ 40 := by omega
            have HG := hide (show foldN 16 (l.take (j + 1)) = some M from hst)
            have HM := hide (show (16 : Int) * (a : Int) + (dd : Int) = (M : Int) by omega)
            clear h1 h3 h4 HF HLC HY hv hd hst hdl hal hp7 hM hdd
            go_wp2_with fail
            exact ⟨⟨j + 1, M, by omega, by go_num, by rw [← HM.out], HG, by first | rfl | trivial⟩, by simp [Lib.intOf]; omega⟩
          · have de : decide ((y : Int) ≤ 102) = false := by simp; omega
            have HE := hide (show numberL l 16 most = none by
              have h := num_bad 16 l j a c HF.out HLC.out (by rw [digD_eq 16 (by omega) c, show digD 16 c = 99 by unfold digD; rw [HY.out]; rw [if_neg (by omega), if_neg (by omega)]]; rfl)
              unfold numberL
              rw [show ((16 : Int)).toNat = 16 from rfl, h]
              split <;> rfl)
            clear h1 h3 h4 HF HLC HY
            go_wp2_with fail
            go_ret2
            exact ⟨by rw [HE.out]; rfl, by first | rfl | trivial⟩
        · have dc : decide ((97 : Int) ≤ (y : Int)) = false := by simp; omega
          have HE := hide (show numberL l 16 most = none by
            have h := num_bad 16 l j a c HF.out HLC.out (by rw [digD_eq 16 (by omega) c, show digD 16 c = 99 by unfold digD; rw [HY.out]; rw [if_neg (by omega), if_neg (by omega)]]; rfl)
            unfold numberL
            rw [show ((16 : Int)).toNat = 16 from rfl, h]
            split <;> rfl)
          clear h1 h3 HF HLC HY
          go_wp2_with fail
          go_ret2
          exact ⟨by rw [HE.out]; rfl, by first | rfl | trivial⟩
    · have d1 : decide (j < n) = false := by simp; omega
      have hnum : numL 16 l = some a := by
        have h := HF.out
        rw [List.take_of_length_le (by have := HN.out; omega)] at h
        unfold numL
        rw [if_neg (by intro e; have := HN.out; rw [e] at this; simp at this; omega), h]
      have hl7 : l.length ≤ 7 := by have := HN.out; omega
      by_cases hm : (a : Int) ≤ most
      · have d4 : decide (most < (a : Int)) = false := by simp; omega
        have HE := hide (show numberL l 16 most = some a by unfold numberL; rw [if_pos ⟨by omega, hl7⟩, show ((16 : Int)).toNat = 16 from rfl, hnum, Option.bind_some, if_pos hm])
        clear hm hnum hl7 HF hj hlt
        go_wp2_with fail
        go_ret2
        exact ⟨by rw [HE.out]; rfl, by first | rfl | trivial⟩
      · have d4 : decide (most < (a : Int)) = true := by simp; omega
        have HE := hide (show numberL l 16 most = none by unfold numberL; rw [if_pos ⟨by omega, hl7⟩, show ((16 : Int)).toNat = 16 from rfl, hnum, Option.bind_some, if_neg hm])
        clear hm hnum hl7 HF hj hlt
        go_wp2_with fail
        go_ret2
        exact ⟨by rw [HE.out]; rfl, by first | rfl | trivial⟩
theorem num_nil (b : Nat) : numL b [] = none := rfl
set_option maxHeartbeats 1000000 in
theorem rnumber_any (s : ByteArray) (base most : Int) (w : World) : Calls Tryz.prog 29 #[.string s, .int .i64 base, .int .i64 most] w fun e w' => e = .returned (numberV (numberL s.data.toList base most)) ∧ w' = w := by
  obtain ⟨n, hn⟩ : ∃ n, s.size = n := ⟨_, rfl⟩
  have hll : s.data.toList.length = n := by rw [← hn]; simp
  by_cases h1 : n < 1
  · have d1 : decide ((n : Int) < 1) = true := by simp; omega
    have he : s.data.toList = [] := List.length_eq_zero_iff.1 (by omega)
    have HE := hide (show numberL s.data.toList base most = none by unfold numberL; rw [he]; split <;> rfl)
    clear hll h1 he
    go_enter Tryz.func29, Tryz.ntmps29
    go_wp2_with fail
    go_ret2
    exact ⟨by rw [HE.out]; rfl, rfl⟩
  · have d1 : decide ((n : Int) < 1) = false := by simp; omega
    by_cases h7 : 7 < n
    · have d2 : decide ((7 : Int) < (n : Int)) = true := by simp; omega
      have HE := hide (show numberL s.data.toList base most = none by unfold numberL; rw [if_neg (by rintro ⟨_, h⟩; omega)])
      clear hll h1 h7
      go_enter Tryz.func29, Tryz.ntmps29
      go_wp2_with fail
      go_ret2
      exact ⟨by rw [HE.out]; rfl, rfl⟩
    · have d2 : decide ((7 : Int) < (n : Int)) = false := by simp; omega
      by_cases h10 : base = 10
      · subst h10
        exact rnum10 s most w (by omega) (by omega)
      · by_cases h16 : base = 16
        · subst h16
          exact rnum16 s most w (by omega) (by omega)
        · have d3 : (base != 10) = true := by simpa using h10
          have d4 : (base != 16) = true := by simpa using h16
          have HE := hide (show numberL s.data.toList base most = none by unfold numberL; rw [if_neg (by rintro ⟨h, _⟩; omega)])
          clear hll h1 h7 h10 h16
          go_enter Tryz.func29, Tryz.ntmps29
          go_wp2_with fail
          go_ret2
          exact ⟨by rw [HE.out]; rfl, rfl⟩
end Go.Proofs.YtonoaopioifedaaGreatDoor.H
