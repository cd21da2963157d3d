/- soap: the document's Header. -/
import Derived.Test.YtdofdbajilkimaaVRh
import Derived.Test.YtdofdbajilkimaaSHd
namespace Go.Proofs.Ytdofdbajilkimaa
open Go.RowKit Go.Lib
set_option linter.unusedVariables false
set_option linter.unusedSimpArgs false
set_option maxRecDepth 100000
theorem ba_of (x : ByteArray) (l : List UInt8) (h : x.data.toList = l) : (⟨l.toArray⟩ : ByteArray) = x := by subst h; cases x; simp
set_option maxHeartbeats 1000000 in
theorem rheader_any (s : ByteArray) (w : World) (hs : s.size ≤ 1000) :
    Calls Try.prog 6 #[.string s] w fun e w' => e = .returned (hdV (hdL s.data.toList)) ∧ ∃ n, w' = w.drewN n := by
  obtain ⟨l, hl⟩ : ∃ l, s.data.toList = l := ⟨_, rfl⟩
  obtain ⟨n, hn⟩ : ∃ n, s.size = n := ⟨_, rfl⟩
  have hln : l.length = n := by rw [← hl, ← hn]; simp
  rw [hl]
  have HN := hide (And.intro hln (And.intro (show n ≤ 1000 by omega) hl))
  have hn4 : (0 : Int) ≤ (n : Int) := by omega
  have hn5 : (n : Int) ≤ 1000 := by omega
  have hsl : ∀ a b : Nat, ((⟨((l.take b).drop a).toArray⟩ : ByteArray)) = s.extract a b := fun a b => by
    refine ba_of _ _ ?_
    rw [Lib.extract_data, hl, List.drop_take]
  have HSL := hide hsl
  clear hln hs hsl hl
  go_enter Try.func6, Try.ntmps6
  go_wp2_with fail
  go_loopw [5, 6, 7, 8] (fun av mv qv i wz => ∃ j a m q : Nat, j ≤ n ∧ i = .int .i64 j ∧ av = .int .i64 a ∧ mv = .int .i64 m ∧ qv = .int .i64 q ∧ a ≤ j ∧ m ≤ j ∧ q ≤ j ∧ Hid (atL l j = a ∧ (l.take j).count 35 = m ∧ (l.take j).count 34 = q) ∧ wz = w) (fun _ _ _ i _ => n - (Lib.intOf i).toNat)
  case atStart => exact ⟨0, 0, 0, 0, Nat.zero_le _, rfl, rfl, rfl, rfl, Nat.le_refl _, Nat.le_refl _, Nat.le_refl _, hide ⟨rfl, rfl, rfl⟩, rfl⟩
  case round =>
    obtain ⟨j, a, m, q, hj, rfl, rfl, rfl, rfl, ba, bm, bq, HF, rfl⟩ := hrel
    have hj4 : (0 : Int) ≤ (j : Int) := by omega
    have hj5 : (j : Int) ≤ 1000 := by omega
    have ha4 : (0 : Int) ≤ (a : Int) := by omega
    have ha5 : (a : Int) ≤ 1000 := by omega
    have hm4 : (0 : Int) ≤ (m : Int) := by omega
    have hm5 : (m : Int) ≤ 1000 := by omega
    have hq4 : (0 : Int) ≤ (q : Int) := by omega
    have hq5 : (q : Int) ≤ 1000 := by omega
    by_cases hlt : j < n
    · have d1 : decide (j < n) = true := by simp; omega
      have hjs : j < s.size := by omega
      obtain ⟨c, hc⟩ : ∃ c, s[j]'hjs = c := ⟨_, rfl⟩
      have hlc : l[j]? = some c := by rw [← HN.out.2.2, Lib.data_getElem? s j hjs, hc]
      have hcx := c.toNat_lt
      have c1 := count_succ l j c 35 hlc
      have c2 := count_succ l j c 34 hlc
      have c3 : atL l (j + 1) = if c = 35 then j else a := by rw [atL, hlc, HF.out.1]; simp
      rw [HF.out.2.1] at c1
      rw [HF.out.2.2] at c2
      have x1 : c.toNat = 35 ↔ c = 35 := by constructor <;> intro h; exact UInt8.toNat_inj.1 h; rw [h]; rfl
      have x2 : c.toNat = 34 ↔ c = 34 := by constructor <;> intro h; exact UInt8.toNat_inj.1 h; rw [h]; rfl
      obtain ⟨x, hx⟩ : ∃ x, c.toNat = x := ⟨_, rfl⟩
      rw [hx] at hcx x1 x2
      by_cases h35 : x = 35
      · have e1 : ((x : Int) == 35) = true := by simp; omega
        have e2 : ((x : Int) == 34) = false := by simp; omega
        have i1 := x1.1 h35
        have i2 : ¬ c = 34 := fun h => by have := x2.2 h; omega
        rw [if_pos i1] at c1 c3
        rw [if_neg i2] at c2
        have HG := hide (And.intro c3 (And.intro c1 c2))
        clear c1 c2 c3 x1 x2 i1 i2 h35 hlc HF hcx
        go_wp2_with fail
        exact ⟨⟨j + 1, j, m + 1, q, by omega, by go_num, rfl, by go_num, rfl, by omega, by omega, by omega, HG, by first | rfl | trivial⟩, by simp [Lib.intOf]; omega⟩
      · have e1 : ((x : Int) == 35) = false := by simp; omega
        have i1 : ¬ c = 35 := fun h => h35 (x1.2 h)
        rw [if_neg i1] at c1 c3
        by_cases h34 : x = 34
        · have e2 : ((x : Int) == 34) = true := by simp; omega
          rw [if_pos (x2.1 h34)] at c2
          have HG := hide (And.intro c3 (And.intro c1 c2))
          clear c1 c2 c3 x1 x2 i1 h35 h34 hlc HF hcx
          go_wp2_with fail
          exact ⟨⟨j + 1, a, m, q + 1, by omega, by go_num, rfl, rfl, by go_num, by omega, by omega, by omega, HG, by first | rfl | trivial⟩, by simp [Lib.intOf]; omega⟩
        · have e2 : ((x : Int) == 34) = false := by simp; omega
          rw [if_neg (fun h => h34 (x2.2 h))] at c2
          have HG := hide (And.intro c3 (And.intro c1 c2))
          clear c1 c2 c3 x1 x2 i1 h35 h34 hlc HF hcx
          go_wp2_with fail
          exact ⟨⟨j + 1, a, m, q, by omega, by go_num, rfl, rfl, rfl, by omega, by omega, by omega, HG, by first | rfl | trivial⟩, by simp [Lib.intOf]; omega⟩
    · have d1 : decide (j < n) = false := by simp; omega
      obtain rfl : j = n := by omega
      have hf := HF.out
      rw [List.take_of_length_le (by have := HN.out; omega)] at hf
      have hlen := HN.out.1
      have hV : ∀ p : Prop, p → (p ↔ (l.length < 2 ∨ l[0]? ≠ some 34 ∨ l[l.length - 1]? ≠ some 34 ∨ l.count 35 ≠ 1 ∨ l.count 34 ≠ 2 ∨ atL l l.length = 1 ∨ atL l l.length = l.length - 2)) → hdV (hdL l) = .tuple #[.string ⟨#[]⟩, .string ⟨#[]⟩, .bool false] := fun p hp h => by unfold hdL; rw [if_pos (h.1 hp)]; rfl
      rw [hlen] at hV
      by_cases h2 : j < 2
      · have d2 : decide ((j : Int) < 2) = true := by simp; omega
        have HE := hide (hV _ (.inl h2) Iff.rfl)
        clear hf hlen hV h2 HF
        go_wp2_with fail
        go_ret3
        exact ⟨by rw [HE.out]; rfl, 0, by simp [World.drewN_zero]⟩
      have d2 : decide ((j : Int) < 2) = false := by simp; omega
      have g0 : 0 < s.size := by omega
      have g1 : j - 1 < s.size := by omega
      obtain ⟨c, hc⟩ : ∃ c, s[0]'g0 = c := ⟨_, rfl⟩
      obtain ⟨d, hd⟩ : ∃ c, s[j - 1]'g1 = c := ⟨_, rfl⟩
      have hlc : l[0]? = some c := by rw [← HN.out.2.2, Lib.data_getElem? s 0 g0, hc]
      have hld : l[j - 1]? = some d := by rw [← HN.out.2.2, Lib.data_getElem? s (j - 1) g1, hd]
      have x1 : c.toNat = 34 ↔ c = 34 := by constructor <;> intro h; exact UInt8.toNat_inj.1 h; rw [h]; rfl
      have x2 : d.toNat = 34 ↔ d = 34 := by constructor <;> intro h; exact UInt8.toNat_inj.1 h; rw [h]; rfl
      have hx8 := c.toNat_lt
      have hy8 := d.toNat_lt
      obtain ⟨x, hx⟩ : ∃ x, c.toNat = x := ⟨_, rfl⟩
      obtain ⟨y, hy⟩ : ∃ y, d.toNat = y := ⟨_, rfl⟩
      rw [hx] at x1 hx8
      rw [hy] at x2 hy8
      have hx4 : (0 : Int) ≤ (x : Int) := by omega
      have hx5 : (x : Int) ≤ 255 := by omega
      have hy4 : (0 : Int) ≤ (y : Int) := by omega
      have hy5 : (y : Int) ≤ 255 := by omega
      have hle : ((j : Int) - 1) = ((j - 1 : Nat) : Int) := by omega
      obtain ⟨k, hk⟩ : ∃ k, j - 1 = k := ⟨_, rfl⟩
      simp only [hk] at hd g1 hld hle
      have hV2 : (x ≠ 34 ∨ y ≠ 34 ∨ m ≠ 1 ∨ q ≠ 2 ∨ a = 1 ∨ a = j - 2) → hdV (hdL l) = .tuple #[.string ⟨#[]⟩, .string ⟨#[]⟩, .bool false] := fun h => hV _ (show l.length < 2 ∨ l[0]? ≠ some 34 ∨ l[l.length - 1]? ≠ some 34 ∨ l.count 35 ≠ 1 ∨ l.count 34 ≠ 2 ∨ atL l l.length = 1 ∨ atL l l.length = l.length - 2 by
        rw [hlen, hk, hlc, hld, hf.1, hf.2.1, hf.2.2]
        rcases h with h | h | h | h | h | h
        · exact .inr (.inl fun e => h (x1.2 (Option.some.inj e)))
        · exact .inr (.inr (.inl fun e => h (x2.2 (Option.some.inj e))))
        · exact .inr (.inr (.inr (.inl h)))
        · exact .inr (.inr (.inr (.inr (.inl h))))
        · exact .inr (.inr (.inr (.inr (.inr (.inl h)))))
        · exact .inr (.inr (.inr (.inr (.inr (.inr h)))))) (by rw [hlen])
      have hU : ¬ (x ≠ 34 ∨ y ≠ 34 ∨ m ≠ 1 ∨ q ≠ 2 ∨ a = 1 ∨ a = j - 2) → (2 ≤ a ∧ a + 2 < j) ∧ hdV (hdL l) = .tuple #[.string (s.extract 1 a), .string (s.extract (a + 1) k), .bool true] := fun h => by
        have hx0 : x = 34 := by omega
        have hy0 : y = 34 := by omega
        have hb := hd_between l (by rw [hf.2.1]; omega) (by rw [hlc, x1.1 hx0]) (by rw [hlen, hk, hld, x2.1 hy0]) (by rw [hlen, hf.1]; omega) (by rw [hlen, hf.1]; omega)
        rw [hlen, hf.1] at hb
        refine ⟨hb, ?_⟩
        unfold hdL
        rw [hlen, hk, hlc, hld, hf.1, hf.2.1, hf.2.2, if_neg (by
          rintro (h' | h' | h' | h' | h' | h' | h')
          · omega
          · exact h' (by rw [x1.1 hx0])
          · exact h' (by rw [x2.1 hy0])
          · omega
          · omega
          · omega
          · omega)]
        show Value.tuple #[.string ⟨((l.take a).drop 1).toArray⟩, .string ⟨((l.take k).drop (a + 1)).toArray⟩, .bool true] = _
        rw [HSL.out, HSL.out]
      have HV := hide hV2
      have HU := hide hU
      clear hf hlen hV hV2 hU h2 HF hlc hld x1 x2 hx8 hy8
      by_cases t1 : x = 34
      rotate_left
      · have e1 : ((x : Int) != 34) = true := by simp; omega
        go_wp2_with fail
        go_ret3
        exact ⟨by rw [HV.out (.inl t1)]; rfl, 0, by simp [World.drewN_zero]⟩
      have e1 : ((x : Int) != 34) = false := by simp; omega
      by_cases t2 : y = 34
      rotate_left
      · have e2 : ((y : Int) != 34) = true := by simp; omega
        go_wp2_with fail
        go_ret3
        exact ⟨by rw [HV.out (.inr (.inl t2))]; rfl, 0, by simp [World.drewN_zero]⟩
      have e2 : ((y : Int) != 34) = false := by simp; omega
      by_cases t3 : m = 1
      rotate_left
      · have e3 : ((m : Int) != 1) = true := by simp; omega
        go_wp2_with fail
        go_ret3
        exact ⟨by rw [HV.out (.inr (.inr (.inl t3)))]; rfl, 0, by simp [World.drewN_zero]⟩
      have e3 : ((m : Int) != 1) = false := by simp; omega
      by_cases t4 : q = 2
      rotate_left
      · have e4 : ((q : Int) != 2) = true := by simp; omega
        go_wp2_with fail
        go_ret3
        exact ⟨by rw [HV.out (.inr (.inr (.inr (.inl t4))))]; rfl, 0, by simp [World.drewN_zero]⟩
      have e4 : ((q : Int) != 2) = false := by simp; omega
      by_cases t5 : a = 1
      · have e5 : ((a : Int) == 1) = true := by simp; omega
        go_wp2_with fail
        go_ret3
        exact ⟨by rw [HV.out (.inr (.inr (.inr (.inr (.inl t5)))))]; rfl, 0, by simp [World.drewN_zero]⟩
      have e5 : ((a : Int) == 1) = false := by simp; omega
      by_cases t6 : a = j - 2
      · have e6 : ((a : Int) == (j : Int) - 2) = true := by simp; omega
        have T6 := hide t6
        clear t6
        go_wp2_with fail
        go_ret3
        exact ⟨by rw [HV.out (.inr (.inr (.inr (.inr (.inr T6.out)))))]; rfl, 0, by simp [World.drewN_zero]⟩
      have e6 : ((a : Int) == (j : Int) - 2) = false := by simp; omega
      obtain ⟨hb, hv⟩ := HU.out (by rintro (h | h | h | h | h | h) <;> omega)
      have HE := hide hv
      have sl1 : ∀ W, (Instr.slice 9 (.string s) (some (.int .i64 1)) (some (.int .i64 (a : Int))) none).run Try.prog W = .ok (.string (s.extract 1 a)) W := fun W => by
        rw [run_slice_string W 9 s .i64 .i64 1 (a : Int) Try.underlying9 (by omega) (by omega) (by omega)]
        simp
      have sl2 : ∀ W, (Instr.slice 9 (.string s) (some (.int .i64 ((a : Int) + 1))) (some (.int .i64 (k : Int))) none).run Try.prog W = .ok (.string (s.extract (a + 1) k)) W := fun W => by
        rw [run_slice_string W 9 s .i64 .i64 ((a : Int) + 1) (k : Int) Try.underlying9 (by omega) (by omega) (by omega)]
        simp
      have wk1 : IntKind.i64.wrap ((a : Int) + 1) = (a : Int) + 1 := by rw [IntKind.wrap_i64]; omega
      have wk2 : IntKind.i64.wrap (k : Int) = (k : Int) := by rw [IntKind.wrap_i64]; omega
      clear HV HU hv t6 e6
      go_wp2_with fail
      go_region_with fail
      go_wp2_with fail
      go_ret3
      refine ⟨?_, 1, ?_⟩
      · rw [HE.out]
        first | (kernel_rfl; done) | (go_simp; trace_state; sorry)
      · rfl
end Go.Proofs.Ytdofdbajilkimaa
