/- value: a text's number: both sides. -/
import Derived.Test.YtdofdbajilkimaaDoorVFn
namespace Go.Proofs.YtdofdbajilkimaaDoor
open Go.RowKit Go.Lib
set_option linter.unusedVariables false
set_option linter.unusedSimpArgs false
set_option maxRecDepth 100000
def numMost (l : List UInt8) (most : Nat) : Option Nat := (numD l).bind fun n => if most < n then none else some n
def numVV (o : Option Nat) : Value := match o with
  | some n => .tuple #[.int .u64 (n : Int), .bool true]
  | none => .tuple #[.int .u64 0, .bool false]
set_option maxHeartbeats 2000000 in
theorem vnum_any (s : ByteArray) (most : Nat) (w : World) (hE : ET w) : Calls Tryd.prog 7 #[.string s, .int .u64 (most : Int)] w fun e w' => e = .returned (numVV (numMost s.data.toList most)) ∧ Below w.heap.size w w' := by
  obtain ⟨k, hk⟩ : ∃ k, s.size = k := ⟨_, rfl⟩
  have hlen : s.data.toList.length = k := by rw [← hk]; simp
  by_cases h10 : 10 < k
  · have d1 : decide ((10 : Int) < (k : Int)) = true := by simp; omega
    have HX := hide (show numMost s.data.toList most = none by unfold numMost numD; rw [if_pos (.inr (by omega))]; rfl)
    clear hlen h10 hE
    go_enter Tryd.func7, Tryd.ntmps7
    go_wp2_with fail
    go_ret2
    exact ⟨by rw [HX.out]; rfl, Below.refl _ _⟩
  have d1 : decide ((10 : Int) < (k : Int)) = false := by simp; omega
  have hp := pu_num s.data.toList (by omega)
  cases hn : numD s.data.toList with
  | none =>
    rw [hn] at hp
    obtain ⟨ev, he, hv⟩ := hE.e1
    have HC := hide (Tryd.strconv_ParseUint_10_at64_syntax s (by omega) hp ev w he hv)
    have HX := hide (show numMost s.data.toList most = none by unfold numMost; rw [hn]; rfl)
    clear hp hn hlen h10 hE he hv
    go_enter Tryd.func7, Tryd.ntmps7
    go_wp2_with fail
    refine HC.out.mono ?_
    rintro e w1 ⟨N, rfl, _, _, b1⟩
    have HB := hide b1
    clear b1 HC
    go_wp2_with fail
    go_ret2
    exact ⟨by rw [HX.out]; rfl, HB.out⟩
  | some n =>
    rw [hn] at hp
    have HC := hide (Tryd.strconv_ParseUint_10_at64_ok s (by omega) n hp w)
    have hlt := num_lt _ n hn
    have hn4 : (0 : Int) ≤ (n : Int) := by omega
    by_cases hm : most < n
    · have d2 : decide (most < n) = true := by simp; omega
      have HX := hide (show numMost s.data.toList most = none by unfold numMost; rw [hn, Option.bind_some, if_pos hm])
      clear hp hn hlen h10 hE hm hlt
      go_enter Tryd.func7, Tryd.ntmps7
      go_wp2_with fail
      refine HC.out.mono ?_
      rintro e w1 ⟨rfl, hw1⟩
      have HB := hide (show Below w.heap.size w w1 from by
        rcases hw1 with rfl | rfl
        · exact Below.refl _ _
        · exact Lib.bytesWorld_below w _ s)
      clear hw1 HC
      go_wp2_with fail
      go_ret2
      exact ⟨by rw [HX.out]; rfl, HB.out⟩
    · have d2 : decide (most < n) = false := by simp; omega
      have HX := hide (show numMost s.data.toList most = some n by unfold numMost; rw [hn, Option.bind_some, if_neg hm])
      clear hp hn hlen h10 hE hm hlt
      go_enter Tryd.func7, Tryd.ntmps7
      go_wp2_with fail
      refine HC.out.mono ?_
      rintro e w1 ⟨rfl, hw1⟩
      have HB := hide (show Below w.heap.size w w1 from by
        rcases hw1 with rfl | rfl
        · exact Below.refl _ _
        · exact Lib.bytesWorld_below w _ s)
      clear hw1 HC
      go_wp2_with fail
      go_ret2
      exact ⟨by rw [HX.out]; rfl, HB.out⟩
set_option maxHeartbeats 2000000 in
theorem rnum_any (s : ByteArray) (most : Nat) (w : World) (hs : s.size ≤ 1000) : Calls Tryd.prog 11 #[.string s, .int .u64 (most : Int)] w fun e w' => e = .returned (numVV (numMost s.data.toList most)) ∧ w' = w := by
  obtain ⟨l, hl⟩ : ∃ l, s.data.toList = l := ⟨_, rfl⟩
  obtain ⟨n, hn⟩ : ∃ n, s.size = n := ⟨_, rfl⟩
  have hln : l.length = n := by rw [← hl, ← hn]; simp
  rw [hl]
  have hnone : ∀ h : numD l = none, numMost l most = none := fun h => by unfold numMost; rw [h]; rfl
  by_cases h0 : n < 1
  · have d1 : decide ((n : Int) < 1) = true := by simp; omega
    have HX := hide (hnone (by unfold numD; rw [if_pos (.inl (List.eq_nil_of_length_eq_zero (by omega)))]))
    clear hnone hl hln h0 hs
    go_enter Tryd.func11, Tryd.ntmps11
    go_wp2_with fail
    go_ret2
    exact ⟨by rw [HX.out]; rfl, by first | rfl | trivial⟩
  have d1 : decide ((n : Int) < 1) = false := by simp; omega
  by_cases h10 : 10 < n
  · have d2 : decide ((10 : Int) < (n : Int)) = true := by simp; omega
    have HX := hide (hnone (by unfold numD; rw [if_pos (.inr (by omega))]))
    clear hnone hl hln h0 h10 hs
    go_enter Tryd.func11, Tryd.ntmps11
    go_wp2_with fail
    go_ret2
    exact ⟨by rw [HX.out]; rfl, by first | rfl | trivial⟩
  have d2 : decide ((10 : Int) < (n : Int)) = false := by simp; omega
  have HN := hide (And.intro hln (And.intro (show 1 ≤ n ∧ n ≤ 10 by omega) hl))
  have HX0 := hide hnone
  have HD := hide (show numD l = bwD l by unfold numD; rw [if_neg (by rintro (h | h); (rw [h] at hln; simp at hln; omega); omega)])
  have hn4 : (1 : Int) ≤ (n : Int) := by omega
  have hn5 : (n : Int) ≤ 10 := by omega
  clear hnone hl hln h0 h10 hs
  go_enter Tryd.func11, Tryd.ntmps11
  go_wp2_with fail
  clear d1 d2
  go_loopw [6, 7, 8] (fun nv uv i wz => ∃ j a u : Nat, j ≤ n ∧ i = .int .i64 ((j : Int) - 1) ∧ nv = .int .u64 a ∧ uv = .int .u64 u ∧ Hid (bwD (l.drop j) = some a ∧ u = 10 ^ (n - j)) ∧ wz = w) (fun _ _ i _ => (Lib.intOf i + 1).toNat)
  case atStart => exact ⟨n, 0, 1, Nat.le_refl _, rfl, rfl, rfl, hide ⟨by rw [List.drop_eq_nil_of_le (by have := HN.out; omega)]; rfl, by simp⟩, rfl⟩
  case round =>
    obtain ⟨j, a, u, hj, rfl, rfl, rfl, HF, rfl⟩ := hrel
    have hal := bw_lt _ a HF.out.1
    have hpw := pow10_le (n - j) (by have := HN.out; omega)
    have hup := HF.out.2
    rw [List.length_drop, HN.out.1, ← hup] at hal
    rw [← hup] at hpw
    have ha4 : (0 : Int) ≤ (a : Int) := by omega
    have ha5 : (a : Int) ≤ 10000000000 := by omega
    have hu4 : (0 : Int) ≤ (u : Int) := by omega
    have hu5 : (u : Int) ≤ 10000000000 := by omega
    cases j with
    | succ j =>
      have ej : (((j + 1 : Nat) : Int) - 1) = (j : Int) := by omega
      rw [ej]
      have d1 : decide ((0 : Int) ≤ (j : Int)) = true := by simp
      have hj4 : (0 : Int) ≤ (j : Int) := by omega
      have hj5 : (j : Int) ≤ 9 := by omega
      have hjs : j < s.size := by omega
      obtain ⟨c, hc⟩ : ∃ c, s[j]'hjs = c := ⟨_, rfl⟩
      have hlc : l[j]? = some c := by rw [← HN.out.2.2, Lib.data_getElem? s j hjs, hc]
      have hbad := bw_bad l j c hlc
      have hst := bw_step l j a c HF.out.1 hlc
      rw [HN.out.1, ← hup] at hst
      have hcx := c.toNat_lt
      obtain ⟨x, hx⟩ : ∃ x, c.toNat = x := ⟨_, rfl⟩
      rw [hx] at hbad hst hcx
      by_cases h1 : 48 ≤ x
      · have e1 : decide ((x : Int) < 48) = false := by simp; omega
        by_cases h2 : x ≤ 57
        · have e2 : decide ((57 : Int) < (x : Int)) = false := by simp; omega
          obtain ⟨d, hd⟩ : ∃ d, x - 48 = d := ⟨_, rfl⟩
          have hs2 := hst h1 h2
          rw [hd] at hs2
          have hmul : u * d ≤ u * 9 := Nat.mul_le_mul_left _ (by omega)
          obtain ⟨P, hP⟩ : ∃ P, u * d = P := ⟨_, rfl⟩
          rw [hP] at hs2 hmul
          have e3 : IntKind.u8.wrap ((x : Int) - 48) = (d : Int) := by rw [IntKind.wrap_u8]; omega
          have e3b : ((x : Int) - 48) = (d : Int) := by omega
          have e4 : (u : Int) * (d : Int) = (P : Int) := by rw [← hP]; push_cast; rfl
          have e5 : IntKind.u64.wrap (P : Int) = (P : Int) := by rw [IntKind.wrap_u64]; omega
          have e6 : IntKind.u64.wrap ((a : Int) + (P : Int)) = (((a + P : Nat)) : Int) := by rw [IntKind.wrap_u64]; omega
          have e7 : IntKind.u64.wrap ((u : Int) * 10) = ((u * 10 : Nat) : Int) := by rw [IntKind.wrap_u64]; omega
          have e8 : IntKind.u8.wrap (d : Int) = (d : Int) := by rw [IntKind.wrap_u8]; omega
          have e9 : IntKind.u64.wrap (d : Int) = (d : Int) := by rw [IntKind.wrap_u64]; omega
          have hd4 : (0 : Int) ≤ (d : Int) := by omega
          have hd5 : (d : Int) ≤ 9 := by omega
          obtain ⟨M, hM⟩ : ∃ M, a + P = M := ⟨_, rfl⟩
          obtain ⟨U, hU⟩ : ∃ U, u * 10 = U := ⟨_, rfl⟩
          rw [hM] at hs2 e6
          rw [hU] at e7
          have HG := hide (show bwD (l.drop j) = some M ∧ U = 10 ^ (n - j) from ⟨hs2, by
            rw [← hU, hup, ← Nat.pow_succ]; congr 1; omega⟩)
          clear h1 h2 hst hs2 hbad hlc HF hcx hd hmul hP hal hpw hup hM hU e3b
          go_wp2_with fail
          exact ⟨⟨j, M, U, by omega, by go_num, by first | rfl | go_num, by first | rfl | go_num, HG, by first | rfl | trivial⟩, by simp [Lib.intOf]⟩
        · have e2 : decide ((57 : Int) < (x : Int)) = true := by simp; omega
          have HE := hide (HX0.out (by rw [HD.out]; exact hbad (by omega)))
          clear h1 h2 hst hbad hlc HF hcx hal hpw hup
          go_wp2_with fail
          go_ret2
          exact ⟨by rw [HE.out]; rfl, by first | rfl | trivial⟩
      · have e1 : decide ((x : Int) < 48) = true := by simp; omega
        have HE := hide (HX0.out (by rw [HD.out]; exact hbad (by omega)))
        clear h1 hst hbad hlc HF hcx hal hpw hup
        go_wp2_with fail
        go_ret2
        exact ⟨by rw [HE.out]; rfl, by first | rfl | trivial⟩
    | zero =>
      have ej : (((0 : Nat) : Int) - 1) = -1 := by omega
      rw [ej]
      have hnum : numD l = some a := by rw [HD.out]; simpa using HF.out.1
      by_cases hm : most < a
      · have d4 : decide (most < a) = true := by simp; omega
        have HE := hide (show numMost l most = none by unfold numMost; rw [hnum, Option.bind_some, if_pos hm])
        clear hm hnum HF hal hpw hup hj
        go_wp2_with fail
        go_ret2
        exact ⟨by rw [HE.out]; rfl, by first | rfl | trivial⟩
      · have d4 : decide (most < a) = false := by simp; omega
        have HE := hide (show numMost l most = some a by unfold numMost; rw [hnum, Option.bind_some, if_neg hm])
        clear hm hnum HF hal hpw hup hj
        go_wp2_with fail
        go_ret2
        exact ⟨by rw [HE.out]; rfl, by first | rfl | trivial⟩
end Go.Proofs.YtdofdbajilkimaaDoor
