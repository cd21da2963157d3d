/- Head: the document's tokens. -/
import Derived.Test.YtonoaopioifedaaGreatDoorHLow
namespace Go.Proofs.YtonoaopioifedaaGreatDoor.H
open Go.RowKit Go.Deep
set_option linter.unusedVariables false
set_option linter.unusedSimpArgs false
set_option maxRecDepth 100000
set_option maxHeartbeats 1000000 in
theorem in_any (x : Nat) (s : ByteArray) (w : World) (hs : s.size ≤ 1000) : Calls Tryz.prog 58 #[.int .u8 (x : Int), .string s] w fun e w' => e = .returned (.bool ((s.data.toList.map (·.toNat)).contains x)) ∧ w' = w := by
  obtain ⟨n, hn⟩ : ∃ n, s.size = n := ⟨_, rfl⟩
  have HN := hide (And.intro hn (show n ≤ 1000 by omega))
  obtain ⟨r, hr⟩ : ∃ r, (s.data.toList.map (·.toNat)).contains x = r := ⟨_, rfl⟩
  rw [hr]
  have HR := hide hr
  clear hs hr
  go_enter Tryz.func58, Tryz.ntmps58
  go_wp2_with fail
  go_loopw [5] (fun i wz => ∃ j : Nat, j ≤ n ∧ i = .int .i64 j ∧ Hid (∀ q b, q < j → s.data.toList[q]? = some b → b.toNat ≠ x) ∧ wz = w) (fun i _ => n - (Lib.intOf i).toNat)
  case atStart => exact ⟨0, Nat.zero_le _, rfl, hide (fun q b h => by omega), rfl⟩
  case round =>
    obtain ⟨j, hj, rfl, HI, rfl⟩ := hrel
    have hj4 : (0 : Int) ≤ (j : Int) := by omega
    have hj5 : (j : Int) ≤ 1000 := by have := HN.out; omega
    by_cases hlt : j < n
    · have d1 : decide (j < n) = true := by simp; omega
      have hjs : j < s.size := by omega
      have hb := Lib.data_getElem? s j hjs
      obtain ⟨c, hc⟩ : ∃ c, s[j]'hjs = c := ⟨_, rfl⟩
      rw [hc] at hb
      obtain ⟨y, hy⟩ : ∃ y, c.toNat = y := ⟨_, rfl⟩
      have hcy : (((s[j]'hjs).toNat : Nat) : Int) = (y : Int) := by rw [hc, hy]
      by_cases he : y = x
      · have d2 : ((y : Int) == (x : Int)) = true := by simp; omega
        have HE := hide (show r = true by
          rw [← HR.out, List.contains_iff_mem]
          exact List.mem_map.2 ⟨c, List.mem_of_getElem? hb, by rw [hy, he]⟩)
        have hyx : (y : Int) = (x : Int) := by omega
        clear hb hc hy he HI
        go_wp2_with fail
        go_ret
        exact ⟨by rw [HE.out]; rfl, by first | rfl | trivial⟩
      · have d2 : ((y : Int) == (x : Int)) = false := by simp; omega
        have HI2 := hide (show ∀ q b, q < j + 1 → s.data.toList[q]? = some b → b.toNat ≠ x from fun q b h1 h2 => by
          rcases Nat.lt_or_ge q j with h | h
          · exact HI.out q b h h2
          · rw [show q = j by omega, hb] at h2; cases h2; rw [hy]; exact he)
        clear hb hc hy he HI
        go_wp2_with fail
        exact ⟨⟨j + 1, by omega, by go_num, HI2, by first | rfl | trivial⟩, by simp [Lib.intOf]; omega⟩
    · have d1 : decide (j < n) = false := by simp; omega
      have HE := hide (show r = false by
        rw [← HR.out]
        cases hcn : (s.data.toList.map (·.toNat)).contains x with
        | false => rfl
        | true =>
          obtain ⟨b, hb, e⟩ := List.mem_map.1 (List.contains_iff_mem.1 hcn)
          obtain ⟨q, hq, e2⟩ := List.getElem_of_mem hb
          refine absurd e (HI.out q b ?_ (by rw [List.getElem?_eq_getElem hq, e2]))
          have : s.data.toList.length = s.size := by simp
          omega)
      clear hj hlt HI
      go_wp2_with fail
      go_ret
      exact ⟨by rw [HE.out]; rfl, by first | rfl | trivial⟩
set_option maxHeartbeats 4000000 in
theorem rtoken_any (s : ByteArray) (w : World) (hs : s.size ≤ 100000) : Calls Tryz.prog 43 #[.string s] w fun e w' => e = .returned (.bool (tokenL s.data.toList)) ∧ w' = w := by
  obtain ⟨l, hl⟩ : ∃ l, s.data.toList = l := ⟨_, rfl⟩
  obtain ⟨n, hn⟩ : ∃ n, s.size = n := ⟨_, rfl⟩
  have hln : l.length = n := by rw [← hl, ← hn]; simp
  rw [hl]
  by_cases h1 : n < 1
  · have d1 : decide ((n : Int) < 1) = true := by simp; omega
    have HE := hide (show tokenL l = false by unfold tokenL madeL; rw [show decide (0 < l.length) = false by simp; exact List.length_eq_zero_iff.1 (by omega)]; rfl)
    clear h1 hl hln hs
    go_enter Tryz.func43, Tryz.ntmps43
    go_wp2_with fail
    go_ret
    exact ⟨by rw [HE.out]; rfl, rfl⟩
  have d1 : decide ((n : Int) < 1) = false := by simp; omega
  by_cases h2 : 64 < n
  · have d2 : decide ((64 : Int) < (n : Int)) = true := by simp; omega
    have HE := hide (show tokenL l = false by unfold tokenL madeL; rw [show decide (l.length ≤ 64) = false by simp; omega]; simp)
    clear h1 h2 hl hln hs
    go_enter Tryz.func43, Tryz.ntmps43
    go_wp2_with fail
    go_ret
    exact ⟨by rw [HE.out]; rfl, rfl⟩
  have d2 : decide ((64 : Int) < (n : Int)) = false := by simp; omega
  have HN := hide (And.intro hln (And.intro (show 1 ≤ n ∧ n ≤ 64 by omega) hl))
  clear h1 h2 hl hln hs
  go_enter Tryz.func43, Tryz.ntmps43
  go_wp2_with fail
  clear d1 d2
  go_loopw [3] (fun i wz => ∃ j : Nat, j ≤ n ∧ i = .int .i64 j ∧ Hid (∀ q b, q < j → l[q]? = some b → tokB b = true) ∧ wz = w) (fun i _ => n - (Lib.intOf i).toNat)
  case atStart => exact ⟨0, Nat.zero_le _, rfl, hide (fun q b h => by omega), rfl⟩
  case round =>
    obtain ⟨j, hj, rfl, HI, rfl⟩ := hrel
    have hj4 : (0 : Int) ≤ (j : Int) := by omega
    have hj5 : (j : Int) ≤ 64 := by have := HN.out; omega
    by_cases hlt : j < n
    · have d1 : decide (j < n) = true := by simp; omega
      have hjs : j < s.size := by omega
      obtain ⟨c, hc⟩ : ∃ c, s[j]'hjs = c := ⟨_, rfl⟩
      have hlc : l[j]? = some c := by rw [← HN.out.2.2, Lib.data_getElem? s j hjs, hc]
      have hS := Small_any c wr
      have hy8 := (smallU c).toNat_lt
      obtain ⟨y, hy⟩ : ∃ y, (smallU c).toNat = y := ⟨_, rfl⟩
      rw [hy] at hS hy8
      have hin := in_any y (bs [33, 35, 36, 37, 38, 39, 42, 43, 45, 46, 94, 95]) wr (by decide)
      have hin2 : Calls Tryz.prog 58 #[.int .u8 (y : Int), .string ⟨#[33, 35, 36, 37, 38, 39, 42, 43, 45, 46, 94, 95]⟩] wr (fun e w' => e = .returned (.bool ([33, 35, 36, 37, 38, 39, 42, 43, 45, 46, 94, 95].contains y)) ∧ w' = wr) := hin
      obtain ⟨iv, hiv⟩ : ∃ v, [33, 35, 36, 37, 38, 39, 42, 43, 45, 46, 94, 95].contains y = v := ⟨_, rfl⟩
      rw [hiv] at hin2
      have HIN := hide hin2
      have HIV := hide hiv
      have HS := hide hS
      have HY := hide hy
      have HLC := hide hlc
      have hy4 : (0 : Int) ≤ (y : Int) := by omega
      have hy5 : (y : Int) ≤ 255 := by omega
      clear hS hy hlc hy8 hin hin2 hiv
      go_wp2_with fail
      (with_reducible refine HS.out.mono ?_)
      rintro e w1 ⟨rfl, rfl⟩
      clear hc hjs HS
      by_cases ha : y < 97
      · have da : decide ((y : Int) < 97) = true := by simp; omega
        by_cases hc : y < 48
        · have dc : decide ((y : Int) < 48) = true := by simp; omega
          cases iv with
          | true =>
            have hk : tokB c = true := by rw [← tokD_small]; unfold tokD; rw [HY.out, HIV.out]; simp [ha, hc] <;> omega
            have HI2 := hide (show ∀ q b, q < j + 1 → l[q]? = some b → tokB b = true from fun q b h1 h2 => by
              rcases Nat.lt_or_ge q j with h | h
              · exact HI.out q b h h2
              · rw [show q = j by omega, HLC.out] at h2; cases h2; exact hk)
            clear ha hc hk HI HLC HY HIV
            go_wp2_with (go_at_call 58; refine HIN.out.mono ?_; rintro e w2 ⟨rfl, rfl⟩)
            exact ⟨⟨j + 1, by omega, by go_num, HI2, by first | rfl | trivial⟩, by simp [Lib.intOf]; omega⟩
          | false =>
            by_cases he : y ≠ 96
            · have de : ((y : Int) != 96) = true := by simp; omega
              by_cases hf : y ≠ 124
              · have df : ((y : Int) != 124) = true := by simp; omega
                by_cases hg : y ≠ 126
                · have dg : ((y : Int) != 126) = true := by simp; omega
                  have hk : tokB c = false := by rw [← tokD_small]; unfold tokD; rw [HY.out, HIV.out]; simp [ha, hc, he, hf, hg] <;> omega
                  have HE := hide (show tokenL l = false by
                    unfold tokenL madeL
                    rw [show l.all tokB = false by rw [List.all_eq_false]; exact ⟨c, List.mem_of_getElem? HLC.out, by rw [hk]; decide⟩, Bool.and_false])
                  clear ha hc he hf hg hk HI HLC HY HIV
                  go_wp2_with (go_at_call 58; refine HIN.out.mono ?_; rintro e w2 ⟨rfl, rfl⟩)
                  go_ret
                  exact ⟨by rw [HE.out]; rfl, by first | rfl | trivial⟩
                · have dg : ((y : Int) != 126) = false := by simp; omega
                  have hk : tokB c = true := by rw [← tokD_small]; unfold tokD; rw [HY.out, HIV.out]; simp [ha, hc, he, hf, hg] <;> omega
                  have HI2 := hide (show ∀ q b, q < j + 1 → l[q]? = some b → tokB b = true from fun q b h1 h2 => by
                    rcases Nat.lt_or_ge q j with h | h
                    · exact HI.out q b h h2
                    · rw [show q = j by omega, HLC.out] at h2; cases h2; exact hk)
                  clear ha hc he hf hg hk HI HLC HY HIV
                  go_wp2_with (go_at_call 58; refine HIN.out.mono ?_; rintro e w2 ⟨rfl, rfl⟩)
                  exact ⟨⟨j + 1, by omega, by go_num, HI2, by first | rfl | trivial⟩, by simp [Lib.intOf]; omega⟩
              · have df : ((y : Int) != 124) = false := by simp; omega
                have hk : tokB c = true := by rw [← tokD_small]; unfold tokD; rw [HY.out, HIV.out]; simp [ha, hc, he, hf] <;> omega
                have HI2 := hide (show ∀ q b, q < j + 1 → l[q]? = some b → tokB b = true from fun q b h1 h2 => by
                  rcases Nat.lt_or_ge q j with h | h
                  · exact HI.out q b h h2
                  · rw [show q = j by omega, HLC.out] at h2; cases h2; exact hk)
                clear ha hc he hf hk HI HLC HY HIV
                go_wp2_with (go_at_call 58; refine HIN.out.mono ?_; rintro e w2 ⟨rfl, rfl⟩)
                exact ⟨⟨j + 1, by omega, by go_num, HI2, by first | rfl | trivial⟩, by simp [Lib.intOf]; omega⟩
            · have de : ((y : Int) != 96) = false := by simp; omega
              have hk : tokB c = true := by rw [← tokD_small]; unfold tokD; rw [HY.out, HIV.out]; simp [ha, hc, he] <;> omega
              have HI2 := hide (show ∀ q b, q < j + 1 → l[q]? = some b → tokB b = true from fun q b h1 h2 => by
                rcases Nat.lt_or_ge q j with h | h
                · exact HI.out q b h h2
                · rw [show q = j by omega, HLC.out] at h2; cases h2; exact hk)
              clear ha hc he hk HI HLC HY HIV
              go_wp2_with (go_at_call 58; refine HIN.out.mono ?_; rintro e w2 ⟨rfl, rfl⟩)
              exact ⟨⟨j + 1, by omega, by go_num, HI2, by first | rfl | trivial⟩, by simp [Lib.intOf]; omega⟩
        · have dc : decide ((y : Int) < 48) = false := by simp; omega
          by_cases hd : 57 < y
          · have dd : decide ((57 : Int) < (y : Int)) = true := by simp; omega
            cases iv with
            | true =>
              have hk : tokB c = true := by rw [← tokD_small]; unfold tokD; rw [HY.out, HIV.out]; simp [ha, hc, hd] <;> omega
              have HI2 := hide (show ∀ q b, q < j + 1 → l[q]? = some b → tokB b = true from fun q b h1 h2 => by
                rcases Nat.lt_or_ge q j with h | h
                · exact HI.out q b h h2
                · rw [show q = j by omega, HLC.out] at h2; cases h2; exact hk)
              clear ha hc hd hk HI HLC HY HIV
              go_wp2_with (go_at_call 58; refine HIN.out.mono ?_; rintro e w2 ⟨rfl, rfl⟩)
              exact ⟨⟨j + 1, by omega, by go_num, HI2, by first | rfl | trivial⟩, by simp [Lib.intOf]; omega⟩
            | false =>
              by_cases he : y ≠ 96
              · have de : ((y : Int) != 96) = true := by simp; omega
                by_cases hf : y ≠ 124
                · have df : ((y : Int) != 124) = true := by simp; omega
                  by_cases hg : y ≠ 126
                  · have dg : ((y : Int) != 126) = true := by simp; omega
                    have hk : tokB c = false := by rw [← tokD_small]; unfold tokD; rw [HY.out, HIV.out]; simp [ha, hc, hd, he, hf, hg] <;> omega
                    have HE := hide (show tokenL l = false by
                      unfold tokenL madeL
                      rw [show l.all tokB = false by rw [List.all_eq_false]; exact ⟨c, List.mem_of_getElem? HLC.out, by rw [hk]; decide⟩, Bool.and_false])
                    clear ha hc hd he hf hg hk HI HLC HY HIV
                    go_wp2_with (go_at_call 58; refine HIN.out.mono ?_; rintro e w2 ⟨rfl, rfl⟩)
                    go_ret
                    exact ⟨by rw [HE.out]; rfl, by first | rfl | trivial⟩
                  · have dg : ((y : Int) != 126) = false := by simp; omega
                    have hk : tokB c = true := by rw [← tokD_small]; unfold tokD; rw [HY.out, HIV.out]; simp [ha, hc, hd, he, hf, hg] <;> omega
                    have HI2 := hide (show ∀ q b, q < j + 1 → l[q]? = some b → tokB b = true from fun q b h1 h2 => by
                      rcases Nat.lt_or_ge q j with h | h
                      · exact HI.out q b h h2
                      · rw [show q = j by omega, HLC.out] at h2; cases h2; exact hk)
                    clear ha hc hd he hf hg hk HI HLC HY HIV
                    go_wp2_with (go_at_call 58; refine HIN.out.mono ?_; rintro e w2 ⟨rfl, rfl⟩)
                    exact ⟨⟨j + 1, by omega, by go_num, HI2, by first | rfl | trivial⟩, by simp [Lib.intOf]; omega⟩
                · have df : ((y : Int) != 124) = false := by simp; omega
                  have hk : tokB c = true := by rw [← tokD_small]; unfold tokD; rw [HY.out, HIV.out]; simp [ha, hc, hd, he, hf] <;> omega
                  have HI2 := hide (show ∀ q b, q < j + 1 → l[q]? = some b → tokB b = true from fun q b h1 h2 => by
                    rcases Nat.lt_or_ge q j with h | h
                    · exact HI.out q b h h2
                    · rw [show q = j by omega, HLC.out] at h2; cases h2; exact hk)
                  clear ha hc hd he hf hk HI HLC HY HIV
                  go_wp2_with (go_at_call 58; refine HIN.out.mono ?_; rintro e w2 ⟨rfl, rfl⟩)
                  exact ⟨⟨j + 1, by omega, by go_num, HI2, by first | rfl | trivial⟩, by simp [Lib.intOf]; omega⟩
              · have de : ((y : Int) != 96) = false := by simp; omega
                have hk : tokB c = true := by rw [← tokD_small]; unfold tokD; rw [HY.out, HIV.out]; simp [ha, hc, hd, he] <;> omega
                have HI2 := hide (show ∀ q b, q < j + 1 → l[q]? = some b → tokB b = true from fun q b h1 h2 => by
                  rcases Nat.lt_or_ge q j with h | h
                  · exact HI.out q b h h2
                  · rw [show q = j by omega, HLC.out] at h2; cases h2; exact hk)
                clear ha hc hd he hk HI HLC HY HIV
                go_wp2_with (go_at_call 58; refine HIN.out.mono ?_; rintro e w2 ⟨rfl, rfl⟩)
                exact ⟨⟨j + 1, by omega, by go_num, HI2, by first | rfl | trivial⟩, by simp [Lib.intOf]; omega⟩
          · have dd : decide ((57 : Int) < (y : Int)) = false := by simp; omega
            have hk : tokB c = true := by rw [← tokD_small]; unfold tokD; rw [HY.out, HIV.out]; simp [ha, hc, hd] <;> omega
            have HI2 := hide (show ∀ q b, q < j + 1 → l[q]? = some b → tokB b = true from fun q b h1 h2 => by
              rcases Nat.lt_or_ge q j with h | h
              · exact HI.out q b h h2
              · rw [show q = j by omega, HLC.out] at h2; cases h2; exact hk)
            clear ha hc hd hk HI HLC HY HIV
            go_wp2_with (go_at_call 58; refine HIN.out.mono ?_; rintro e w2 ⟨rfl, rfl⟩)
            exact ⟨⟨j + 1, by omega, by go_num, HI2, by first | rfl | trivial⟩, by simp [Lib.intOf]; omega⟩
      · have da : decide ((y : Int) < 97) = false := by simp; omega
        by_cases hb : 122 < y
        · have db : decide ((122 : Int) < (y : Int)) = true := by simp; omega
          by_cases hc : y < 48
          · have dc : decide ((y : Int) < 48) = true := by simp; omega
            cases iv with
            | true =>
              have hk : tokB c = true := by rw [← tokD_small]; unfold tokD; rw [HY.out, HIV.out]; simp [ha, hb, hc] <;> omega
              have HI2 := hide (show ∀ q b, q < j + 1 → l[q]? = some b → tokB b = true from fun q b h1 h2 => by
                rcases Nat.lt_or_ge q j with h | h
                · exact HI.out q b h h2
                · rw [show q = j by omega, HLC.out] at h2; cases h2; exact hk)
              clear ha hb hc hk HI HLC HY HIV
              go_wp2_with (go_at_call 58; refine HIN.out.mono ?_; rintro e w2 ⟨rfl, rfl⟩)
              exact ⟨⟨j + 1, by omega, by go_num, HI2, by first | rfl | trivial⟩, by simp [Lib.intOf]; omega⟩
            | false =>
              by_cases he : y ≠ 96
              · have de : ((y : Int) != 96) = true := by simp; omega
                by_cases hf : y ≠ 124
                · have df : ((y : Int) != 124) = true := by simp; omega
                  by_cases hg : y ≠ 126
                  · have dg : ((y : Int) != 126) = true := by simp; omega
                    have hk : tokB c = false := by rw [← tokD_small]; unfold tokD; rw [HY.out, HIV.out]; simp [ha, hb, hc, he, hf, hg] <;> omega
                    have HE := hide (show tokenL l = false by
                      unfold tokenL madeL
                      rw [show l.all tokB = false by rw [List.all_eq_false]; exact ⟨c, List.mem_of_getElem? HLC.out, by rw [hk]; decide⟩, Bool.and_false])
                    clear ha hb hc he hf hg hk HI HLC HY HIV
                    go_wp2_with (go_at_call 58; refine HIN.out.mono ?_; rintro e w2 ⟨rfl, rfl⟩)
                    go_ret
                    exact ⟨by rw [HE.out]; rfl, by first | rfl | trivial⟩
                  · have dg : ((y : Int) != 126) = false := by simp; omega
                    have hk : tokB c = true := by rw [← tokD_small]; unfold tokD; rw [HY.out, HIV.out]; simp [ha, hb, hc, he, hf, hg] <;> omega
                    have HI2 := hide (show ∀ q b, q < j + 1 → l[q]? = some b → tokB b = true from fun q b h1 h2 => by
                      rcases Nat.lt_or_ge q j with h | h
                      · exact HI.out q b h h2
                      · rw [show q = j by omega, HLC.out] at h2; cases h2; exact hk)
                    clear ha hb hc he hf hg hk HI HLC HY HIV
                    go_wp2_with (go_at_call 58; refine HIN.out.mono ?_; rintro e w2 ⟨rfl, rfl⟩)
                    exact ⟨⟨j + 1, by omega, by go_num, HI2, by first | rfl | trivial⟩, by simp [Lib.intOf]; omega⟩
                · have df : ((y : Int) != 124) = false := by simp; omega
                  have hk : tokB c = true := by rw [← tokD_small]; unfold tokD; rw [HY.out, HIV.out]; simp [ha, hb, hc, he, hf] <;> omega
                  have HI2 := hide (show ∀ q b, q < j + 1 → l[q]? = some b → tokB b = true from fun q b h1 h2 => by
                    rcases Nat.lt_or_ge q j with h | h
                    · exact HI.out q b h h2
                    · rw [show q = j by omega, HLC.out] at h2; cases h2; exact hk)
                  clear ha hb hc he hf hk HI HLC HY HIV
                  go_wp2_with (go_at_call 58; refine HIN.out.mono ?_; rintro e w2 ⟨rfl, rfl⟩)
                  exact ⟨⟨j + 1, by omega, by go_num, HI2, by first | rfl | trivial⟩, by simp [Lib.intOf]; omega⟩
              · have de : ((y : Int) != 96) = false := by simp; omega
                have hk : tokB c = true := by rw [← tokD_small]; unfold tokD; rw [HY.out, HIV.out]; simp [ha, hb, hc, he] <;> omega
                have HI2 := hide (show ∀ q b, q < j + 1 → l[q]? = some b → tokB b = true from fun q b h1 h2 => by
                  rcases Nat.lt_or_ge q j with h | h
                  · exact HI.out q b h h2
                  · rw [show q = j by omega, HLC.out] at h2; cases h2; exact hk)
                clear ha hb hc he hk HI HLC HY HIV
                go_wp2_with (go_at_call 58; refine HIN.out.mono ?_; rintro e w2 ⟨rfl, rfl⟩)
                exact ⟨⟨j + 1, by omega, by go_num, HI2, by first | rfl | trivial⟩, by simp [Lib.intOf]; omega⟩
          · have dc : decide ((y : Int) < 48) = false := by simp; omega
            by_cases hd : 57 < y
            · have dd : decide ((57 : Int) < (y : Int)) = true := by simp; omega
              cases iv with
              | true =>
                have hk : tokB c = true := by rw [← tokD_small]; unfold tokD; rw [HY.out, HIV.out]; simp [ha, hb, hc, hd] <;> omega
                have HI2 := hide (show ∀ q b, q < j + 1 → l[q]? = some b → tokB b = true from fun q b h1 h2 => by
                  rcases Nat.lt_or_ge q j with h | h
                  · exact HI.out q b h h2
                  · rw [show q = j by omega, HLC.out] at h2; cases h2; exact hk)
                clear ha hb hc hd hk HI HLC HY HIV
                go_wp2_with (go_at_call 58; refine HIN.out.mono ?_; rintro e w2 ⟨rfl, rfl⟩)
                exact ⟨⟨j + 1, by omega, by go_num, HI2, by first | rfl | trivial⟩, by simp [Lib.intOf]; omega⟩
              | false =>
                by_cases he : y ≠ 96
                · have de : ((y : Int) != 96) = true := by simp; omega
                  by_cases hf : y ≠ 124
                  · have df : ((y : Int) != 124) = true := by simp; omega
                    by_cases hg : y ≠ 126
                    · have dg : ((y : Int) != 126) = true := by simp; omega
                      have hk : tokB c = false := by rw [← tokD_small]; unfold tokD; rw [HY.out, HIV.out]; simp [ha, hb, hc, hd, he, hf, hg] <;> omega
                      have HE := hide (show tokenL l = false by
                        unfold tokenL madeL
                        rw [show l.all tokB = false by rw [List.all_eq_false]; exact ⟨c, List.mem_of_getElem? HLC.out, by rw [hk]; decide⟩, Bool.and_false])
                      clear ha hb hc hd he hf hg hk HI HLC HY HIV
                      go_wp2_with (go_at_call 58; refine HIN.out.mono ?_; rintro e w2 ⟨rfl, rfl⟩)
                      go_ret
                      exact ⟨by rw [HE.out]; rfl, by first | rfl | trivial⟩
                    · have dg : ((y : Int) != 126) = false := by simp; omega
                      have hk : tokB c = true := by rw [← tokD_small]; unfold tokD; rw [HY.out, HIV.out]; simp [ha, hb, hc, hd, he, hf, hg] <;> omega
                      have HI2 := hide (show ∀ q b, q < j + 1 → l[q]? = some b → tokB b = true from fun q b h1 h2 => by
                        rcases Nat.lt_or_ge q j with h | h
                        · exact HI.out q b h h2
                        · rw [show q = j by omega, HLC.out] at h2; cases h2; exact hk)
                      clear ha hb hc hd he hf hg hk HI HLC HY HIV
                      go_wp2_with (go_at_call 58; refine HIN.out.mono ?_; rintro e w2 ⟨rfl, rfl⟩)
                      exact ⟨⟨j + 1, by omega, by go_num, HI2, by first | rfl | trivial⟩, by simp [Lib.intOf]; omega⟩
                  · have df : ((y : Int) != 124) = false := by simp; omega
                    have hk : tokB c = true := by rw [← tokD_small]; unfold tokD; rw [HY.out, HIV.out]; simp [ha, hb, hc, hd, he, hf] <;> omega
                    have HI2 := hide (show ∀ q b, q < j + 1 → l[q]? = some b → tokB b = true from fun q b h1 h2 => by
                      rcases Nat.lt_or_ge q j with h | h
                      · exact HI.out q b h h2
                      · rw [show q = j by omega, HLC.out] at h2; cases h2; exact hk)
                    clear ha hb hc hd he hf hk HI HLC HY HIV
                    go_wp2_with (go_at_call 58; refine HIN.out.mono ?_; rintro e w2 ⟨rfl, rfl⟩)
                    exact ⟨⟨j + 1, by omega, by go_num, HI2, by first | rfl | trivial⟩, by simp [Lib.intOf]; omega⟩
                · have de : ((y : Int) != 96) = false := by simp; omega
                  have hk : tokB c = true := by rw [← tokD_small]; unfold tokD; rw [HY.out, HIV.out]; simp [ha, hb, hc, hd, he] <;> omega
                  have HI2 := hide (show ∀ q b, q < j + 1 → l[q]? = some b → tokB b = true from fun q b h1 h2 => by
                    rcases Nat.lt_or_ge q j with h | h
                    · exact HI.out q b h h2
                    · rw [show q = j by omega, HLC.out] at h2; cases h2; exact hk)
                  clear ha hb hc hd he hk HI HLC HY HIV
                  go_wp2_with (go_at_call 58; refine HIN.out.mono ?_; rintro e w2 ⟨rfl, rfl⟩)
                  exact ⟨⟨j + 1, by omega, by go_num, HI2, by first | rfl | trivial⟩, by simp [Lib.intOf]; omega⟩
            · have dd : decide ((57 : Int) < (y : Int)) = false := by simp; omega
              have hk : tokB c = true := by rw [← tokD_small]; unfold tokD; rw [HY.out, HIV.out]; simp [ha, hb, hc, hd] <;> omega
              have HI2 := hide (show ∀ q b, q < j + 1 → l[q]? = some b → tokB b = true from fun q b h1 h2 => by
                rcases Nat.lt_or_ge q j with h | h
                · exact HI.out q b h h2
                · rw [show q = j by omega, HLC.out] at h2; cases h2; exact hk)
              clear ha hb hc hd hk HI HLC HY HIV
              go_wp2_with (go_at_call 58; refine HIN.out.mono ?_; rintro e w2 ⟨rfl, rfl⟩)
              exact ⟨⟨j + 1, by omega, by go_num, HI2, by first | rfl | trivial⟩, by simp [Lib.intOf]; omega⟩
        · have db : decide ((122 : Int) < (y : Int)) = false := by simp; omega
          have hk : tokB c = true := by rw [← tokD_small]; unfold tokD; rw [HY.out, HIV.out]; simp [ha, hb] <;> omega
          have HI2 := hide (show ∀ q b, q < j + 1 → l[q]? = some b → tokB b = true from fun q b h1 h2 => by
            rcases Nat.lt_or_ge q j with h | h
            · exact HI.out q b h h2
            · rw [show q = j by omega, HLC.out] at h2; cases h2; exact hk)
          clear ha hb hk HI HLC HY HIV
          go_wp2_with (go_at_call 58; refine HIN.out.mono ?_; rintro e w2 ⟨rfl, rfl⟩)
          exact ⟨⟨j + 1, by omega, by go_num, HI2, by first | rfl | trivial⟩, by simp [Lib.intOf]; omega⟩
    · have d1 : decide (j < n) = false := by simp; omega
      have HE := hide (show tokenL l = true by
        unfold tokenL madeL
        rw [show l.all tokB = true by
          rw [List.all_eq_true]
          intro b hb
          obtain ⟨q, hq, e⟩ := List.getElem_of_mem hb
          exact HI.out q b (by have := HN.out; omega) (by rw [List.getElem?_eq_getElem hq, e])]
        have := HN.out
        simp
        omega)
      clear hj hlt HI
      go_wp2_with fail
      go_ret
      exact ⟨by rw [HE.out]; rfl, by first | rfl | trivial⟩
end Go.Proofs.YtonoaopioifedaaGreatDoor.H
