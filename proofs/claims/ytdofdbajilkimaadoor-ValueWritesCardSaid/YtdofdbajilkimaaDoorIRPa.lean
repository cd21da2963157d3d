/- inet: the document's reading of any text as an address. -/
import Derived.Test.YtdofdbajilkimaaDoorIPaG
namespace Go.Proofs.YtdofdbajilkimaaDoor
open Go.RowKit Go.Lib
set_option linter.unusedVariables false
set_option linter.unusedSimpArgs false
set_option maxRecDepth 100000
structure Bd (s : Sd) : Prop where
  d : s.d ≤ 3
  z : s.z ≤ 3
  n0 : s.z = 0 → s.n = 0
  n1 : s.z ≤ 1 → s.n ≤ 9
  n2 : s.z ≤ 2 → s.n ≤ 99
  n3 : s.n ≤ 999
  a0 : s.d = 0 → s.a = 0
  a1 : s.d ≤ 1 → s.a ≤ 255
  a2 : s.d ≤ 2 → s.a ≤ 65535
  a3 : s.a ≤ 16777215
theorem bd_step (s t : Sd) (c : UInt8) (h : Bd s) (hs : stepD s c = some t) : Bd t := by
  obtain ⟨a, n, d, z⟩ := s
  obtain ⟨b1, b2, b3, b4, b5, b6, b7, b8, b9, b10⟩ := h
  simp only at b1 b2 b3 b4 b5 b6 b7 b8 b9 b10
  unfold stepD at hs
  split at hs
  · split at hs
    · cases hs
    · rename_i hn
      cases hs
      simp only at hn
      have q : d = 0 ∨ d = 1 ∨ d = 2 := by omega
      rcases q with rfl | rfl | rfl <;> constructor <;> simp only <;> intros <;> omega
  · split at hs
    · cases hs
    · rename_i hn
      cases hs
      simp only at hn
      have q : z = 0 ∨ z = 1 ∨ z = 2 := by omega
      rcases q with rfl | rfl | rfl <;> constructor <;> simp only <;> intros <;> omega
theorem run_succ (l : List UInt8) (i : Nat) (c : UInt8) (s : Sd) (h : l[i]? = some c) (hr : runD ⟨0, 0, 0, 0⟩ (l.take i) = some s) : runD ⟨0, 0, 0, 0⟩ (l.take (i + 1)) = stepD s c := by
  rw [List.take_add_one, h, Option.toList_some, runD_app, hr, Option.bind_some, runD]
  cases stepD s c <;> rfl
theorem run_none (l : List UInt8) (i : Nat) (h : runD ⟨0, 0, 0, 0⟩ (l.take i) = none) : addrD l = none := by
  unfold addrD
  have e : l = l.take i ++ l.drop i := (List.take_append_drop i l).symm
  rw [e, runD_app, h]; rfl
theorem run_end (l : List UInt8) (s : Sd) (h : runD ⟨0, 0, 0, 0⟩ (l.take l.length) = some s) : addrD l = finD s := by
  unfold addrD
  rw [List.take_of_length_le (Nat.le_refl _)] at h
  rw [h]; rfl
def InvR (l : List UInt8) (i a n d z : Nat) : Prop := (i ≤ l.length ∧ runD ⟨0, 0, 0, 0⟩ (l.take i) = some ⟨a, n, d, z⟩ ∧ Bd ⟨a, n, d, z⟩) ∨ (i = l.length + 1 ∧ n = 0 ∧ z = 0 ∧ d ≤ 3 ∧ a ≤ 4294967295 ∧ addrD l = if d = 3 then some a else none)
set_option maxHeartbeats 2000000 in
theorem rparse_any (s : ByteArray) (w : World) (hs : s.size ≤ 1000) :
    Calls Tryd.prog 25 #[.string s] w fun e w' => e = .returned (addrV (addrD s.data.toList)) ∧ w' = w := by
  obtain ⟨l, hl⟩ : ∃ l, s.data.toList = l := ⟨_, rfl⟩
  obtain ⟨N, hn⟩ : ∃ n, s.size = n := ⟨_, rfl⟩
  have hln : l.length = N := by rw [← hl, ← hn]; simp
  rw [hl]
  obtain ⟨r, hr⟩ : ∃ r, addrD l = r := ⟨_, rfl⟩
  rw [hr]
  have HN := hide (And.intro hln (And.intro (show N ≤ 1000 by omega) (And.intro hl hr)))
  clear hl hln hs hr
  go_enter Tryd.func25, Tryd.ntmps25
  go_wp2_with fail
  go_loopw [4, 5, 6, 7, 8] (fun av nv dv zv iv wz => ∃ i a n d z : Nat, iv = .int .i64 i ∧ av = .int .u64 a ∧ nv = .int .i64 n ∧ dv = .int .i64 d ∧ zv = .int .i64 z ∧ Hid (InvR l i a n d z) ∧ wz = w) (fun _ _ _ _ i _ => N + 1 - (Lib.intOf i).toNat)
  case atStart => exact ⟨0, 0, 0, 0, 0, rfl, rfl, rfl, rfl, rfl, hide (.inl ⟨Nat.zero_le _, rfl, by constructor <;> simp⟩), rfl⟩
  case round =>
    obtain ⟨i, a, n, d, z, rfl, rfl, rfl, rfl, rfl, HI, rfl⟩ := hrel
    have hN4 : (N : Int) ≤ 1000 := by have := HN.out.2.1; omega
    have hi4 : (0 : Int) ≤ (i : Int) := by omega
    have ha4 : (0 : Int) ≤ (a : Int) := by omega
    have hn4 : (0 : Int) ≤ (n : Int) := by omega
    have hd4 : (0 : Int) ≤ (d : Int) := by omega
    have hz4 : (0 : Int) ≤ (z : Int) := by omega
    by_cases hlt : i ≤ N
    · have HJ := hide (show i ≤ l.length ∧ runD ⟨0, 0, 0, 0⟩ (l.take i) = some ⟨a, n, d, z⟩ ∧ Bd ⟨a, n, d, z⟩ from by
        rcases HI.out with h | h
        · exact h
        · have := HN.out.1; omega)
      clear HI
      have hi5 : (i : Int) ≤ 1000 := by omega
      have hn5 : (n : Int) ≤ 999 := by have := HJ.out.2.2.n3; simp only at this; omega
      have hd5 : (d : Int) ≤ 3 := by have := HJ.out.2.2.d; simp only at this; omega
      have hz5 : (z : Int) ≤ 3 := by have := HJ.out.2.2.z; simp only at this; omega
      have ha5 : (a : Int) ≤ 16777215 := by have := HJ.out.2.2.a3; simp only at this; omega
      have d1 : decide (i ≤ N) = true := by simp; omega
      by_cases hend : i = N
      · have d2 : ((i : Int) == (N : Int)) = true := by simp; omega
        have d3 : decide (i < N) = false := by simp; omega
        by_cases hz : z = 0
        · subst hz
          have HR := hide (show r = none from by
            have h := run_end l _ (by have := HJ.out.2.1; rwa [hend, ← HN.out.1] at this)
            rw [HN.out.2.2.2] at h
            rw [h]; simp [finD])
          go_wp2_with fail
          go_ret2
          exact ⟨by rw [HR.out]; rfl, by first | rfl | trivial⟩
        · have d4 : ((z : Int) == 0) = false := by simp; omega
          by_cases hb : 255 < n
          · have d5 : decide ((255 : Int) < (n : Int)) = true := by simp; omega
            have HR := hide (show r = none from by
              have h := run_end l _ (by have := HJ.out.2.1; rwa [hend, ← HN.out.1] at this)
              rw [HN.out.2.2.2] at h
              rw [h]; simp [finD, hb])
            clear hend hb hz
            go_wp2_with fail
            go_ret2
            exact ⟨by rw [HR.out]; rfl, by first | rfl | trivial⟩
          · have d5 : decide ((255 : Int) < (n : Int)) = false := by simp; omega
            have d6 : decide ((3 : Int) < (d : Int)) = false := by simp; omega
            have hn6 : (n : Int) ≤ 255 := by omega
            have HJ2 := hide (show InvR l (N + 1) (256 * a + n) 0 d 0 from .inr (by
              have h := run_end l _ (by have := HJ.out.2.1; rwa [hend, ← HN.out.1] at this)
              refine ⟨by rw [HN.out.1], rfl, rfl, by omega, by omega, ?_⟩
              rw [h]; unfold finD; simp only
              by_cases hd3 : d = 3
              · rw [if_neg (by omega), if_pos hd3]
              · rw [if_pos (by omega), if_neg hd3]))
            have HE := hide hend
            clear hend hb hz
            go_wp2_with fail
            exact ⟨⟨N + 1, 256 * a + n, 0, d, 0, by rw [← HE.out]; go_num, by go_num, rfl, rfl, rfl, HJ2, by first | rfl | trivial⟩, by simp only [Lib.intOf]; omega⟩
      · have d2 : ((i : Int) == (N : Int)) = false := by simp; omega
        have d3 : decide (i < N) = true := by simp; omega
        have hjs : i < s.size := by omega
        obtain ⟨c, hc⟩ : ∃ c, s[i]'hjs = c := ⟨_, rfl⟩
        have hlc : l[i]? = some c := by rw [← HN.out.2.2.1, Lib.data_getElem? s i hjs, hc]
        obtain ⟨y, hy⟩ : ∃ y, c.toNat = y := ⟨_, rfl⟩
        have hy8 : y < 256 := by rw [← hy]; exact c.toNat_lt
        have hst := run_succ l i c _ hlc HJ.out.2.1
        have hno : stepD ⟨a, n, d, z⟩ c = none → r = none := fun h => by
          have := run_none l (i + 1) (hst.trans h)
          rwa [HN.out.2.2.2] at this
        have hyes : ∀ t : Sd, stepD ⟨a, n, d, z⟩ c = some t → InvR l (i + 1) t.a t.n t.d t.z := fun t h => .inl ⟨by have := HN.out.1; omega, hst.trans h, bd_step _ _ c HJ.out.2.2 h⟩
        unfold stepD at hno hyes
        rw [hy] at hno hyes
        simp only at hno hyes
        have HNO := hide hno
        have HYES := hide hyes
        clear hno hyes hst hlc
        have hy4 : (0 : Int) ≤ (y : Int) := by omega
        have hy5 : (y : Int) ≤ 255 := by omega
        by_cases hdot : y = 46
        · have e1 : ((y : Int) == 46) = true := by simp; omega
          by_cases hz : z = 0
          · have d4 : ((z : Int) == 0) = true := by simp; omega
            have HR := hide (HNO.out (by rw [if_pos hdot, if_pos (by omega)]))
            clear hdot hz
            go_wp2_with fail
            go_ret2
            exact ⟨by rw [HR.out]; rfl, by first | rfl | trivial⟩
          · have d4 : ((z : Int) == 0) = false := by simp; omega
            by_cases hb : 255 < n
            · have d5 : decide ((255 : Int) < (n : Int)) = true := by simp; omega
              have HR := hide (HNO.out (by rw [if_pos hdot, if_pos (by omega)]))
              clear hdot hz hb
              go_wp2_with fail
              go_ret2
              exact ⟨by rw [HR.out]; rfl, by first | rfl | trivial⟩
            · have d5 : decide ((255 : Int) < (n : Int)) = false := by simp; omega
              have hn6 : (n : Int) ≤ 255 := by omega
              by_cases hd3 : d = 3
              · have d6 : decide ((3 : Int) < (d : Int) + 1) = true := by simp; omega
                have HR := hide (HNO.out (by rw [if_pos hdot, if_pos (by omega)]))
                clear hdot hz hb hd3
                go_wp2_with fail
                go_ret2
                exact ⟨by rw [HR.out]; rfl, by first | rfl | trivial⟩
              · have d6 : decide ((3 : Int) < (d : Int) + 1) = false := by simp; omega
                have HJ2 := hide (HYES.out ⟨256 * a + n, 0, d + 1, 0⟩ (by rw [if_pos hdot, if_neg (by omega)]))
                clear hdot hz hb hd3
                go_wp2_with fail
                exact ⟨⟨i + 1, 256 * a + n, 0, d + 1, 0, by go_num, by go_num, rfl, by go_num, rfl, HJ2, by first | rfl | trivial⟩, by simp only [Lib.intOf]; omega⟩
        · have e1 : ((y : Int) == 46) = false := by simp; omega
          by_cases h1 : y < 48
          · have da : decide ((y : Int) < 48) = true := by simp; omega
            have HR := hide (HNO.out (by rw [if_neg hdot, if_pos (by omega)]))
            clear hdot h1
            go_wp2_with fail
            go_ret2
            exact ⟨by rw [HR.out]; rfl, by first | rfl | trivial⟩
          · have da : decide ((y : Int) < 48) = false := by simp; omega
            by_cases h2 : 57 < y
            · have db : decide ((57 : Int) < (y : Int)) = true := by simp; omega
              have HR := hide (HNO.out (by rw [if_neg hdot, if_pos (by omega)]))
              clear hdot h1 h2
              go_wp2_with fail
              go_ret2
              exact ⟨by rw [HR.out]; rfl, by first | rfl | trivial⟩
            · have db : decide ((57 : Int) < (y : Int)) = false := by simp; omega
              by_cases h3 : z = 3
              · have dc : ((z : Int) == 3) = true := by simp; omega
                have HR := hide (HNO.out (by rw [if_neg hdot, if_pos (by omega)]))
                clear hdot h1 h2 h3
                go_wp2_with fail
                go_ret2
                exact ⟨by rw [HR.out]; rfl, by first | rfl | trivial⟩
              · have dc : ((z : Int) == 3) = false := by simp; omega
                by_cases h4 : z = 0
                · have dd : decide (0 < z) = false := by simp; omega
                  have HJ2 := hide (HYES.out ⟨a, 10 * n + (y - 48), d, z + 1⟩ (by rw [if_neg hdot, if_neg (by omega)]))
                  have hy6 : (48 : Int) ≤ (y : Int) := by omega
                  have hy7 : (y : Int) ≤ 57 := by omega
                  have HM := hide (show (10 : Int) * (n : Int) + ((y : Int) - 48) = ((10 * n + (y - 48) : Nat) : Int) by omega)
                  clear hdot h1 h2 h3 h4
                  go_wp2_with fail
                  exact ⟨⟨i + 1, a, 10 * n + (y - 48), d, z + 1, by go_num, rfl, by rw [HM.out], rfl, by go_num, HJ2, by first | rfl | trivial⟩, by simp only [Lib.intOf]; omega⟩
                · have dd : decide (0 < z) = true := by simp; omega
                  by_cases h5 : n = 0
                  · have de : ((n : Int) == 0) = true := by simp; omega
                    have HR := hide (HNO.out (by rw [if_neg hdot, if_pos (by omega)]))
                    clear hdot h1 h2 h3 h4 h5
                    go_wp2_with fail
                    go_ret2
                    exact ⟨by rw [HR.out]; rfl, by first | rfl | trivial⟩
                  · have de : ((n : Int) == 0) = false := by simp; omega
                    have HJ2 := hide (HYES.out ⟨a, 10 * n + (y - 48), d, z + 1⟩ (by rw [if_neg hdot, if_neg (by omega)]))
                    have hy6 : (48 : Int) ≤ (y : Int) := by omega
                    have hy7 : (y : Int) ≤ 57 := by omega
                    have HM := hide (show (10 : Int) * (n : Int) + ((y : Int) - 48) = ((10 * n + (y - 48) : Nat) : Int) by omega)
                    clear hdot h1 h2 h3 h4 h5
                    go_wp2_with fail
                    exact ⟨⟨i + 1, a, 10 * n + (y - 48), d, z + 1, by go_num, rfl, by rw [HM.out], rfl, by go_num, HJ2, by first | rfl | trivial⟩, by simp only [Lib.intOf]; omega⟩
    · have d1 : decide (i ≤ N) = false := by simp; omega
      have HE := hide (show d ≤ 3 ∧ a ≤ 4294967295 ∧ r = if d = 3 then some a else none from by
        rcases HI.out with h | h
        · have := HN.out.1; omega
        · exact ⟨h.2.2.2.1, h.2.2.2.2.1, HN.out.2.2.2 ▸ h.2.2.2.2.2⟩)
      clear HI
      have hd5 : (d : Int) ≤ 3 := by have := HE.out.1; omega
      have ha5 : (a : Int) ≤ 4294967295 := by have := HE.out.2.1; omega
      by_cases hd3 : d = 3
      · have d4 : ((d : Int) != 3) = false := by simp; omega
        have HR := hide (show r = some a by rw [HE.out.2.2, if_pos hd3])
        clear hd3
        go_wp2_with fail
        go_ret2
        exact ⟨by rw [HR.out]; rfl, by first | rfl | trivial⟩
      · have d4 : ((d : Int) != 3) = true := by simp; omega
        have HR := hide (show r = none by rw [HE.out.2.2, if_neg hd3])
        clear hd3
        go_wp2_with fail
        go_ret2
        exact ⟨by rw [HR.out]; rfl, by first | rfl | trivial⟩
end Go.Proofs.YtdofdbajilkimaaDoor
