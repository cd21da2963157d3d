/- Head: the library's reading of a number. -/
import Derived.Test.YtonoaopioifedaaGreatDoorHLow
import Derived.Test.YtonoaopioifedaaGreatDoorHNumP
import Derived.Laws.BitsAllLaws
namespace Go.Proofs.YtonoaopioifedaaGreatDoor.H
open Go.RowKit Go.Deep
set_option linter.unusedVariables false
set_option linter.unusedSimpArgs false
set_option maxRecDepth 100000
theorem or32 (c : UInt8) : bits BinOp.or IntKind.u8 (c.toNat : Int) 32 = (((c ||| 32).toNat : Nat) : Int) := all256 (p := fun c => bits BinOp.or IntKind.u8 (c.toNat : Int) 32 = (((c ||| 32).toNat : Nat) : Int)) (by decide) c
theorem lowc_any (c : UInt8) (w : World) : Calls Tryz.prog 90 #[.int .u8 (c.toNat : Int)] w fun e w' => e = .returned (.int .u8 (((c ||| 32).toNat : Nat) : Int)) ∧ w' = w := by
  have h := or32 c
  obtain ⟨y, hy⟩ : ∃ y, (c ||| 32).toNat = y := ⟨_, rfl⟩
  obtain ⟨x, hx⟩ : ∃ x, c.toNat = x := ⟨_, rfl⟩
  rw [hy, hx] at h
  rw [hy, hx]
  clear hy hx
  go_enter Tryz.func90, Tryz.ntmps90
  go_wp2_with fail
  go_ret
  exact ⟨rfl, rfl⟩
def numV (o : Option Nat) : Value := match o with
  | some n => .tuple #[.int .u64 (n : Int), .nilIface]
  | none => .tuple #[.int .u64 0, .iface 120 (.int .i64 2)]
theorem num_bad (b : Nat) (l : List UInt8) (j a : Nat) (c : UInt8) (hf : foldN b (l.take j) = some a) (hc : l[j]? = some c) (hd : digU b c = none) : numL b l = none := by
  have h : foldN b (l.take (j + 1)) = none := by rw [fold_succ b l j c hc, hf]; unfold stepN; rw [Option.bind_some, hd]; rfl
  have h2 := fold_stop b l (j + 1) h
  unfold numL
  split <;> first | rfl | exact h2
theorem num_step (b : Nat) (l : List UInt8) (j a d : Nat) (c : UInt8) (hf : foldN b (l.take j) = some a) (hc : l[j]? = some c) (hd : digU b c = some d) : foldN b (l.take (j + 1)) = some (a * b + d) := by
  rw [fold_succ b l j c hc, hf]; unfold stepN; rw [Option.bind_some, hd]; rfl
theorem pow7 (j : Nat) (h : j ≤ 7) : 16 ^ j ≤ 268435456 := Nat.le_trans (Nat.pow_le_pow_right (by omega) h) (by decide)
set_option maxHeartbeats 2000000 in
theorem parse16 (s : ByteArray) (w : World) (hs : s.size ≤ 7) : Calls Tryz.prog 70 #[.string s, .int .i64 16, .int .i64 64] w fun e w' => e = .returned (numV (numL 16 s.data.toList)) ∧ Below w.heap.size w w' := by
  by_cases h0 : s.data.toList = []
  · obtain rfl : s = bs [] := by rw [← bs_back s, h0]
    clear h0 hs
    go_enter Tryz.func70, Tryz.ntmps70
    go_wp2_with fail
    go_ret2
    exact ⟨rfl, Below.refl _ _⟩
  obtain ⟨cap, W, hconv, hlw, hb⟩ := bytes8 w s
  obtain ⟨S, hS⟩ : ∃ S, w.heap.size = S := ⟨_, rfl⟩
  obtain ⟨n, hn⟩ : ∃ n, s.size = n := ⟨_, rfl⟩
  rw [hS, hn] at hconv
  rw [hS] at hlw
  obtain ⟨l, hl⟩ : ∃ l, s.data.toList = l := ⟨_, rfl⟩
  have hln : l.length = n := by rw [← hl, ← hn]; simp
  have hse : (s.toList == []) = false := by rw [Lib.toList_data, hl]; rw [hl] at h0; cases l with | nil => exact absurd rfl h0 | cons a r => rfl
  rw [hl] at hlw ⊢
  rw [hl] at h0
  have HLW0 := hide hlw
  have HW := hide hb
  have HN := hide (show l.length = n ∧ n ≤ 7 by omega)
  have HNE := hide h0
  obtain ⟨mx, hmx⟩ : ∃ mx, IntKind.u64.wrap (IntKind.u64.wrap 18446744073709551616 - 1) = mx := ⟨_, rfl⟩
  have HMX := hide (show mx = 18446744073709551615 by rw [← hmx]; decide)
  clear hlw hb hS hn hl hln hs h0
  go_enter Tryz.func70, Tryz.ntmps70
  go_wp2_with fail
  go_loopw [12, 13, 101] (fun uv nv i wz => ∃ j a : Nat, j ≤ n ∧ i = .int .i64 j ∧ nv = .int .u64 a ∧ uv = .bool false ∧ Hid (foldN 16 (l.take j) = some a) ∧ wz = W) (fun _ _ i _ => n - (Lib.intOf i).toNat)
  case atStart => exact ⟨0, 0, Nat.zero_le _, rfl, rfl, rfl, hide rfl, rfl⟩
  case round =>
    clear hconv
    obtain ⟨j, a, hj, rfl, rfl, rfl, HF0, rfl⟩ := hrel
    have hj4 : (0 : Int) ≤ (j : Int) := by omega
    have hj5 : (j : Int) ≤ 7 := by have := HN.out; omega
    by_cases hlt : j < n
    · have d1 : decide (j < n) = true := by simp; omega
      obtain ⟨c, hc⟩ : ∃ c, l[j]? = some c := ⟨_, List.getElem?_eq_getElem (by have := HN.out; omega)⟩
      have hat := HLW0.out.at j c hc
      rw [if_neg (by omega)] at hat
      have q1 : wr.cell? ⟨S, j, none⟩ = some (.int .u8 (c.toNat : Int)) := hat.1
      have hLL := lowc_any c wr
      have hbx := c.toNat_lt
      have hby := (c ||| 32).toNat_lt
      have hus : c.toNat = 95 → (c ||| 32).toNat = 127 := all256 (p := fun c => c.toNat = 95 → (c ||| 32).toNat = 127) (by decide) c
      obtain ⟨x, hx⟩ : ∃ x, c.toNat = x := ⟨_, rfl⟩
      obtain ⟨y, hy⟩ : ∃ y, (c ||| 32).toNat = y := ⟨_, rfl⟩
      rw [hx] at q1 hLL hus hbx
      rw [hy] at hLL hus hby
      have HXY := hide (And.intro hx hy)
      have HLW := hide hLL
      have HLC := hide hc
      have HF := hide (And.intro HF0.out (Nat.le_refl 0))
      have hx4 : (0 : Int) ≤ (x : Int) := by omega
      have hx5 : (x : Int) ≤ 255 := by omega
      have hy4 : (0 : Int) ≤ (y : Int) := by omega
      have hy5 : (y : Int) ≤ 255 := by omega
      clear hat hc hx hy hLL hbx hby HF0
      by_cases hu : x = 95
      · have y127 := hus hu
        have du : ((x : Int) == 95) = true := by simp; omega
        have da : decide ((48 : Int) ≤ (x : Int)) = true := by simp; omega
        have db : decide ((x : Int) ≤ 57) = false := by simp; omega
        have dc : decide ((97 : Int) ≤ (y : Int)) = true := by simp; omega
        have dd : decide ((y : Int) ≤ 122) = false := by simp; omega
        clear hus
        have HE := hide (num_bad 16 l j a c HF.out.1 HLC.out (by unfold digU; rw [HXY.out.1, HXY.out.2]; rw [if_neg (by omega), if_neg (by omega)]))
        clear HF HLC HXY hu y127
        go_wp2_with (go_at_call 90; refine HLW.out.mono ?_; rintro e w1 ⟨rfl, rfl⟩)
        go_ret2
        exact ⟨by rw [HE.out]; rfl, HW.out⟩
      have du : ((x : Int) == 95) = false := by simp; omega
      clear hu hus
      by_cases ha : 48 ≤ x
      · have da : decide ((48 : Int) ≤ (x : Int)) = true := by simp; omega
        by_cases hb : x ≤ 57
        · have db : decide ((x : Int) ≤ 57) = true := by simp; omega
          have hd := show digU 16 c = some (x - 48) by unfold digU; rw [HXY.out.1, HXY.out.2]; rw [if_pos (by omega)]
          have hdl := dig_lt 16 (by omega) c _ hd
          have hst := num_step 16 l j a _ c HF.out.1 HLC.out hd
          obtain ⟨dd, hdd⟩ : ∃ z, x - 48 = z := ⟨_, rfl⟩
          have hal := fold_lt 16 (by omega) l j a (by have := HN.out; omega) HF.out.1
          have hp7 := pow7 j (by have := HN.out; omega)
          obtain ⟨P, hP⟩ : ∃ P, a * 16 = P := ⟨_, rfl⟩
          obtain ⟨M, hM⟩ : ∃ M, P + dd = M := ⟨_, rfl⟩
          rw [hdd, hP, hM] at hst
          have hal2 : (a : Int) ≤ 268435456 := by omega
          have e1 : IntKind.u64.wrap ((a : Int) * 16) = (P : Int) := by rw [IntKind.wrap_u64]; omega
          have e2 : IntKind.u64.wrap ((P : Int) + (dd : Int)) = (M : Int) := by rw [IntKind.wrap_u64]; omega
          have t1 : decide ((1152921504606846976 : Int) ≤ (a : Int)) = false := by simp; omega
          have t2 : decide (M < P) = false := by simp; omega
          have t3 : decide (mx < (M : Int)) = false := by have := HMX.out; simp; omega
          have t4 : decide ((16 : Int) ≤ (dd : Int)) = false := by simp; omega
          have hdd4 : (0 : Int) ≤ (dd : Int) := by omega
          have hdd5 : (dd : Int) ≤ 40 := by omega
          have e3 : IntKind.u8.wrap ((x : Int) - 48) = (dd : Int) := by rw [IntKind.wrap_u8]; omega
          have HG := hide (show foldN 16 (l.take (j + 1)) = some M from hst)
          clear ha hb HF HLC HXY hd hst hdl hal hp7 hP hM hdd
          go_wp2_with (go_at_call 90; refine HLW.out.mono ?_; rintro e w1 ⟨rfl, rfl⟩)
          exact ⟨⟨j + 1, M, by omega, by go_num, rfl, rfl, HG, by first | rfl | trivial⟩, by simp [Lib.intOf]; omega⟩
        · have db : decide ((x : Int) ≤ 57) = false := by simp; omega
          by_cases hc : 97 ≤ y
          · have dc : decide ((97 : Int) ≤ (y : Int)) = true := by simp; omega
            by_cases hd : y ≤ 122
            · have dd : decide ((y : Int) ≤ 122) = true := by simp; omega
              by_cases he : y - 87 < 16
              · have hd7 := show digU 16 c = some (y - 87) by unfold digU; rw [HXY.out.1, HXY.out.2]; rw [if_neg (by omega), if_pos (by omega), if_pos (by omega)]
                have hdl := dig_lt 16 (by omega) c _ hd7
                have hst := num_step 16 l j a _ c HF.out.1 HLC.out hd7
                obtain ⟨dd, hdd⟩ : ∃ z, y - 87 = z := ⟨_, rfl⟩
                have hal := fold_lt 16 (by omega) l j a (by have := HN.out; omega) HF.out.1
                have hp7 := pow7 j (by have := HN.out; omega)
                obtain ⟨P, hP⟩ : ∃ P, a * 16 = P := ⟨_, rfl⟩
                obtain ⟨M, hM⟩ : ∃ M, P + dd = M := ⟨_, rfl⟩
                rw [hdd, hP, hM] at hst
                have hal2 : (a : Int) ≤ 268435456 := by omega
                have e1 : IntKind.u64.wrap ((a : Int) * 16) = (P : Int) := by rw [IntKind.wrap_u64]; omega
                have e2 : IntKind.u64.wrap ((P : Int) + (dd : Int)) = (M : Int) := by rw [IntKind.wrap_u64]; omega
                have t1 : decide ((1152921504606846976 : Int) ≤ (a : Int)) = false := by simp; omega
                have t2 : decide (M < P) = false := by simp; omega
                have t3 : decide (mx < (M : Int)) = false := by have := HMX.out; simp; omega
                have t4 : decide ((16 : Int) ≤ (dd : Int)) = false := by simp; omega
                have hdd4 : (0 : Int) ≤ (dd : Int) := by omega
                have hdd5 : (dd : Int) ≤ 40 := by omega
                have e3 : ((y : Int) - 97 + 10) % 256 = (dd : Int) := by omega
                have HG := hide (show foldN 16 (l.take (j + 1)) = some M from hst)
                clear ha hb hc he HF HLC HXY hd hd7 hst hdl hal hp7 hP hM hdd
                go_wp2_with (go_at_call 90; refine HLW.out.mono ?_; rintro e w1 ⟨rfl, rfl⟩)
                exact ⟨⟨j + 1, M, by omega, by go_num, rfl, rfl, HG, by first | rfl | trivial⟩, by simp [Lib.intOf]; omega⟩
              · obtain ⟨dd7, hdd7⟩ : ∃ z, y - 87 = z := ⟨_, rfl⟩
                have e3 : ((y : Int) - 97 + 10) % 256 = (dd7 : Int) := by omega
                have t4 : decide ((16 : Int) ≤ (dd7 : Int)) = true := by simp; omega
                have HE := hide (num_bad 16 l j a c HF.out.1 HLC.out (by unfold digU; rw [HXY.out.1, HXY.out.2]; rw [if_neg (by omega), if_pos (by omega), if_neg (by omega)]))
                clear ha hb hc hd he hdd7 HF HLC HXY
                go_wp2_with (go_at_call 90; refine HLW.out.mono ?_; rintro e w1 ⟨rfl, rfl⟩)
                go_ret2
                exact ⟨by rw [HE.out]; rfl, HW.out⟩
            · have dd : decide ((y : Int) ≤ 122) = false := by simp; omega
              have HE := hide (num_bad 16 l j a c HF.out.1 HLC.out (by unfold digU; rw [HXY.out.1, HXY.out.2]; rw [if_neg (by omega), if_neg (by omega)]))
              clear ha hb hc hd HF HLC HXY
              go_wp2_with (go_at_call 90; refine HLW.out.mono ?_; rintro e w1 ⟨rfl, rfl⟩)
              go_ret2
              exact ⟨by rw [HE.out]; rfl, HW.out⟩
          · have dc : decide ((97 : Int) ≤ (y : Int)) = false := by simp; omega
            have HE := hide (num_bad 16 l j a c HF.out.1 HLC.out (by unfold digU; rw [HXY.out.1, HXY.out.2]; rw [if_neg (by omega), if_neg (by omega)]))
            clear ha hb hc HF HLC HXY
            go_wp2_with (go_at_call 90; refine HLW.out.mono ?_; rintro e w1 ⟨rfl, rfl⟩)
            go_ret2
            exact ⟨by rw [HE.out]; rfl, HW.out⟩
      · have da : decide ((48 : Int) ≤ (x : Int)) = false := by simp; omega
        by_cases hc : 97 ≤ y
        · have dc : decide ((97 : Int) ≤ (y : Int)) = true := by simp; omega
          by_cases hd : y ≤ 122
          · have dd : decide ((y : Int) ≤ 122) = true := by simp; omega
            by_cases he : y - 87 < 16
            · have hd7 := show digU 16 c = some (y - 87) by unfold digU; rw [HXY.out.1, HXY.out.2]; rw [if_neg (by omega), if_pos (by omega), if_pos (by omega)]
              have hdl := dig_lt 16 (by omega) c _ hd7
              have hst := num_step 16 l j a _ c HF.out.1 HLC.out hd7
              obtain ⟨dd, hdd⟩ : ∃ z, y - 87 = z := ⟨_, rfl⟩
              have hal := fold_lt 16 (by omega) l j a (by have := HN.out; omega) HF.out.1
              have hp7 := pow7 j (by have := HN.out; omega)
              obtain ⟨P, hP⟩ : ∃ P, a * 16 = P := ⟨_, rfl⟩
              obtain ⟨M, hM⟩ : ∃ M, P + dd = M := ⟨_, rfl⟩
              rw [hdd, hP, hM] at hst
              have hal2 : (a : Int) ≤ 268435456 := by omega
              have e1 : IntKind.u64.wrap ((a : Int) * 16) = (P : Int) := by rw [IntKind.wrap_u64]; omega
              have e2 : IntKind.u64.wrap ((P : Int) + (dd : Int)) = (M : Int) := by rw [IntKind.wrap_u64]; omega
              have t1 : decide ((1152921504606846976 : Int) ≤ (a : Int)) = false := by simp; omega
              have t2 : decide (M < P) = false := by simp; omega
              have t3 : decide (mx < (M : Int)) = false := by have := HMX.out; simp; omega
              have t4 : decide ((16 : Int) ≤ (dd : Int)) = false := by simp; omega
              have hdd4 : (0 : Int) ≤ (dd : Int) := by omega
              have hdd5 : (dd : Int) ≤ 40 := by omega
              have e3 : ((y : Int) - 97 + 10) % 256 = (dd : Int) := by omega
              have HG := hide (show foldN 16 (l.take (j + 1)) = some M from hst)
              clear ha hc he HF HLC HXY hd hd7 hst hdl hal hp7 hP hM hdd
              go_wp2_with (go_at_call 90; refine HLW.out.mono ?_; rintro e w1 ⟨rfl, rfl⟩)
              exact ⟨⟨j + 1, M, by omega, by go_num, rfl, rfl, HG, by first | rfl | trivial⟩, by simp [Lib.intOf]; omega⟩
            · obtain ⟨dd7, hdd7⟩ : ∃ z, y - 87 = z := ⟨_, rfl⟩
              have e3 : ((y : Int) - 97 + 10) % 256 = (dd7 : Int) := by omega
              have t4 : decide ((16 : Int) ≤ (dd7 : Int)) = true := by simp; omega
              have HE := hide (num_bad 16 l j a c HF.out.1 HLC.out (by unfold digU; rw [HXY.out.1, HXY.out.2]; rw [if_neg (by omega), if_pos (by omega), if_neg (by omega)]))
              clear ha hc hd he hdd7 HF HLC HXY
              go_wp2_with (go_at_call 90; refine HLW.out.mono ?_; rintro e w1 ⟨rfl, rfl⟩)
              go_ret2
              exact ⟨by rw [HE.out]; rfl, HW.out⟩
          · have dd : decide ((y : Int) ≤ 122) = false := by simp; omega
            have HE := hide (num_bad 16 l j a c HF.out.1 HLC.out (by unfold digU; rw [HXY.out.1, HXY.out.2]; rw [if_neg (by omega), if_neg (by omega)]))
            clear ha hc hd HF HLC HXY
            go_wp2_with (go_at_call 90; refine HLW.out.mono ?_; rintro e w1 ⟨rfl, rfl⟩)
            go_ret2
            exact ⟨by rw [HE.out]; rfl, HW.out⟩
        · have dc : decide ((97 : Int) ≤ (y : Int)) = false := by simp; omega
          have HE := hide (num_bad 16 l j a c HF.out.1 HLC.out (by unfold digU; rw [HXY.out.1, HXY.out.2]; rw [if_neg (by omega), if_neg (by omega)]))
          clear ha hc HF HLC HXY
          go_wp2_with (go_at_call 90; refine HLW.out.mono ?_; rintro e w1 ⟨rfl, rfl⟩)
          go_ret2
          exact ⟨by rw [HE.out]; rfl, HW.out⟩
    · have d1 : decide (j < n) = false := by simp; omega
      have HE := hide (show numL 16 l = some a by
        have h := HF0.out
        rw [List.take_of_length_le (by have := HN.out; omega)] at h
        unfold numL
        rw [if_neg HNE.out, h])
      clear hj hlt HF0
      go_wp2_with fail
      go_ret2
      exact ⟨by rw [HE.out]; rfl, HW.out⟩
set_option maxHeartbeats 2000000 in
theorem parse10 (s : ByteArray) (w : World) (hs : s.size ≤ 7) : Calls Tryz.prog 70 #[.string s, .int .i64 10, .int .i64 64] w fun e w' => e = .returned (numV (numL 10 s.data.toList)) ∧ Below w.heap.size w w' := by
  by_cases h0 : s.data.toList = []
  · obtain rfl : s = bs [] := by rw [← bs_back s, h0]
    clear h0 hs
    go_enter Tryz.func70, Tryz.ntmps70
    go_wp2_with fail
    go_ret2
    exact ⟨rfl, Below.refl _ _⟩
  obtain ⟨cap, W, hconv, hlw, hb⟩ := bytes8 w s
  obtain ⟨S, hS⟩ : ∃ S, w.heap.size = S := ⟨_, rfl⟩
  obtain ⟨n, hn⟩ : ∃ n, s.size = n := ⟨_, rfl⟩
  rw [hS, hn] at hconv
  rw [hS] at hlw
  obtain ⟨l, hl⟩ : ∃ l, s.data.toList = l := ⟨_, rfl⟩
  have hln : l.length = n := by rw [← hl, ← hn]; simp
  have hse : (s.toList == []) = false := by rw [Lib.toList_data, hl]; rw [hl] at h0; cases l with | nil => exact absurd rfl h0 | cons a r => rfl
  rw [hl] at hlw ⊢
  rw [hl] at h0
  have HLW0 := hide hlw
  have HW := hide hb
  have HN := hide (show l.length = n ∧ n ≤ 7 by omega)
  have HNE := hide h0
  obtain ⟨mx, hmx⟩ : ∃ mx, IntKind.u64.wrap (IntKind.u64.wrap 18446744073709551616 - 1) = mx := ⟨_, rfl⟩
  have HMX := hide (show mx = 18446744073709551615 by rw [← hmx]; decide)
  clear hlw hb hS hn hl hln hs h0
  go_enter Tryz.func70, Tryz.ntmps70
  go_wp2_with fail
  go_loopw [12, 13, 101] (fun uv nv i wz => ∃ j a : Nat, j ≤ n ∧ i = .int .i64 j ∧ nv = .int .u64 a ∧ uv = .bool false ∧ Hid (foldN 10 (l.take j) = some a) ∧ wz = W) (fun _ _ i _ => n - (Lib.intOf i).toNat)
  case atStart => exact ⟨0, 0, Nat.zero_le _, rfl, rfl, rfl, hide rfl, rfl⟩
  case round =>
    clear hconv
    obtain ⟨j, a, hj, rfl, rfl, rfl, HF0, rfl⟩ := hrel
    have hj4 : (0 : Int) ≤ (j : Int) := by omega
    have hj5 : (j : Int) ≤ 7 := by have := HN.out; omega
    by_cases hlt : j < n
    · have d1 : decide (j < n) = true := by simp; omega
      obtain ⟨c, hc⟩ : ∃ c, l[j]? = some c := ⟨_, List.getElem?_eq_getElem (by have := HN.out; omega)⟩
      have hat := HLW0.out.at j c hc
      rw [if_neg (by omega)] at hat
      have q1 : wr.cell? ⟨S, j, none⟩ = some (.int .u8 (c.toNat : Int)) := hat.1
      have hLL := lowc_any c wr
      have hbx := c.toNat_lt
      have hby := (c ||| 32).toNat_lt
      have hus : c.toNat = 95 → (c ||| 32).toNat = 127 := all256 (p := fun c => c.toNat = 95 → (c ||| 32).toNat = 127) (by decide) c
      obtain ⟨x, hx⟩ : ∃ x, c.toNat = x := ⟨_, rfl⟩
      obtain ⟨y, hy⟩ : ∃ y, (c ||| 32).toNat = y := ⟨_, rfl⟩
      rw [hx] at q1 hLL hus hbx
      rw [hy] at hLL hus hby
      have HXY := hide (And.intro hx hy)
      have HLW := hide hLL
      have HLC := hide hc
      have HF := hide (And.intro HF0.out (Nat.le_refl 0))
      have hx4 : (0 : Int) ≤ (x : Int) := by omega
      have hx5 : (x : Int) ≤ 255 := by omega
      have hy4 : (0 : Int) ≤ (y : Int) := by omega
      have hy5 : (y : Int) ≤ 255 := by omega
      clear hat hc hx hy hLL hbx hby HF0
      by_cases hu : x = 95
      · have y127 := hus hu
        have du : ((x : Int) == 95) = true := by simp; omega
        have da : decide ((48 : Int) ≤ (x : Int)) = true := by simp; omega
        have db : decide ((x : Int) ≤ 57) = false := by simp; omega
        have dc : decide ((97 : Int) ≤ (y : Int)) = true := by simp; omega
        have dd : decide ((y : Int) ≤ 122) = false := by simp; omega
        clear hus
        have HE := hide (num_bad 10 l j a c HF.out.1 HLC.out (by unfold digU; rw [HXY.out.1, HXY.out.2]; rw [if_neg (by omega), if_neg (by omega)]))
        clear HF HLC HXY hu y127
        go_wp2_with (go_at_call 90; refine HLW.out.mono ?_; rintro e w1 ⟨rfl, rfl⟩)
        go_ret2
        exact ⟨by rw [HE.out]; rfl, HW.out⟩
      have du : ((x : Int) == 95) = false := by simp; omega
      clear hu hus
      by_cases ha : 48 ≤ x
      · have da : decide ((48 : Int) ≤ (x : Int)) = true := by simp; omega
        by_cases hb : x ≤ 57
        · have db : decide ((x : Int) ≤ 57) = true := by simp; omega
          have hd := show digU 10 c = some (x - 48) by unfold digU; rw [HXY.out.1, HXY.out.2]; rw [if_pos (by omega)]
          have hdl := dig_lt 10 (by omega) c _ hd
          have hst := num_step 10 l j a _ c HF.out.1 HLC.out hd
          obtain ⟨dd, hdd⟩ : ∃ z, x - 48 = z := ⟨_, rfl⟩
          have hal := fold_lt 10 (by omega) l j a (by have := HN.out; omega) HF.out.1
          have hp7 := pow7 j (by have := HN.out; omega)
          obtain ⟨P, hP⟩ : ∃ P, a * 10 = P := ⟨_, rfl⟩
          obtain ⟨M, hM⟩ : ∃ M, P + dd = M := ⟨_, rfl⟩
          rw [hdd, hP, hM] at hst
          have hal2 : (a : Int) ≤ 268435456 := by omega
          have e1 : IntKind.u64.wrap ((a : Int) * 10) = (P : Int) := by rw [IntKind.wrap_u64]; omega
          have e2 : IntKind.u64.wrap ((P : Int) + (dd : Int)) = (M : Int) := by rw [IntKind.wrap_u64]; omega
          have t1 : decide ((1844674407370955162 : Int) ≤ (a : Int)) = false := by simp; omega
          have t2 : decide (M < P) = false := by simp; omega
          have t3 : decide (mx < (M : Int)) = false := by have := HMX.out; simp; omega
          have t4 : decide ((10 : Int) ≤ (dd : Int)) = false := by simp; omega
          have hdd4 : (0 : Int) ≤ (dd : Int) := by omega
          have hdd5 : (dd : Int) ≤ 40 := by omega
          have e3 : IntKind.u8.wrap ((x : Int) - 48) = (dd : Int) := by rw [IntKind.wrap_u8]; omega
          have HG := hide (show foldN 10 (l.take (j + 1)) = some M from hst)
          clear ha hb HF HLC HXY hd hst hdl hal hp7 hP hM hdd
          go_wp2_with (go_at_call 90; refine HLW.out.mono ?_; rintro e w1 ⟨rfl, rfl⟩)
          exact ⟨⟨j + 1, M, by omega, by go_num, rfl, rfl, HG, by first | rfl | trivial⟩, by simp [Lib.intOf]; omega⟩
        · have db : decide ((x : Int) ≤ 57) = false := by simp; omega
          by_cases hc : 97 ≤ y
          · have dc : decide ((97 : Int) ≤ (y : Int)) = true := by simp; omega
            by_cases hd : y ≤ 122
            · have dd : decide ((y : Int) ≤ 122) = true := by simp; omega
              by_cases he : y - 87 < 10
              · have hd7 := show digU 10 c = some (y - 87) by unfold digU; rw [HXY.out.1, HXY.out.2]; rw [if_neg (by omega), if_pos (by omega), if_pos (by omega)]
                have hdl := dig_lt 10 (by omega) c _ hd7
                have hst := num_step 10 l j a _ c HF.out.1 HLC.out hd7
                obtain ⟨dd, hdd⟩ : ∃ z, y - 87 = z := ⟨_, rfl⟩
                have hal := fold_lt 10 (by omega) l j a (by have := HN.out; omega) HF.out.1
                have hp7 := pow7 j (by have := HN.out; omega)
                obtain ⟨P, hP⟩ : ∃ P, a * 10 = P := ⟨_, rfl⟩
                obtain ⟨M, hM⟩ : ∃ M, P + dd = M := ⟨_, rfl⟩
                rw [hdd, hP, hM] at hst
                have hal2 : (a : Int) ≤ 268435456 := by omega
                have e1 : IntKind.u64.wrap ((a : Int) * 10) = (P : Int) := by rw [IntKind.wrap_u64]; omega
                have e2 : IntKind.u64.wrap ((P : Int) + (dd : Int)) = (M : Int) := by rw [IntKind.wrap_u64]; omega
                have t1 : decide ((1844674407370955162 : Int) ≤ (a : Int)) = false := by simp; omega
                have t2 : decide (M < P) = false := by simp; omega
                have t3 : decide (mx < (M : Int)) = false := by have := HMX.out; simp; omega
                have t4 : decide ((10 : Int) ≤ (dd : Int)) = false := by simp; omega
                have hdd4 : (0 : Int) ≤ (dd : Int) := by omega
                have hdd5 : (dd : Int) ≤ 40 := by omega
                have e3 : ((y : Int) - 97 + 10) % 256 = (dd : Int) := by omega
                have HG := hide (show foldN 10 (l.take (j + 1)) = some M from hst)
                clear ha hb hc he HF HLC HXY hd hd7 hst hdl hal hp7 hP hM hdd
                go_wp2_with (go_at_call 90; refine HLW.out.mono ?_; rintro e w1 ⟨rfl, rfl⟩)
                exact ⟨⟨j + 1, M, by omega, by go_num, rfl, rfl, HG, by first | rfl | trivial⟩, by simp [Lib.intOf]; omega⟩
              · obtain ⟨dd7, hdd7⟩ : ∃ z, y - 87 = z := ⟨_, rfl⟩
                have e3 : ((y : Int) - 97 + 10) % 256 = (dd7 : Int) := by omega
                have t4 : decide ((10 : Int) ≤ (dd7 : Int)) = true := by simp; omega
                have HE := hide (num_bad 10 l j a c HF.out.1 HLC.out (by unfold digU; rw [HXY.out.1, HXY.out.2]; rw [if_neg (by omega), if_pos (by omega), if_neg (by omega)]))
                clear ha hb hc hd he hdd7 HF HLC HXY
                go_wp2_with (go_at_call 90; refine HLW.out.mono ?_; rintro e w1 ⟨rfl, rfl⟩)
                go_ret2
                exact ⟨by rw [HE.out]; rfl, HW.out⟩
            · have dd : decide ((y : Int) ≤ 122) = false := by simp; omega
              have HE := hide (num_bad 10 l j a c HF.out.1 HLC.out (by unfold digU; rw [HXY.out.1, HXY.out.2]; rw [if_neg (by omega), if_neg (by omega)]))
              clear ha hb hc hd HF HLC HXY
              go_wp2_with (go_at_call 90; refine HLW.out.mono ?_; rintro e w1 ⟨rfl, rfl⟩)
              go_ret2
              exact ⟨by rw [HE.out]; rfl, HW.out⟩
          · have dc : decide ((97 : Int) ≤ (y : Int)) = false := by simp; omega
            have HE := hide (num_bad 10 l j a c HF.out.1 HLC.out (by unfold digU; rw [HXY.out.1, HXY.out.2]; rw [if_neg (by omega), if_neg (by omega)]))
            clear ha hb hc HF HLC HXY
            go_wp2_with (go_at_call 90; refine HLW.out.mono ?_; rintro e w1 ⟨rfl, rfl⟩)
            go_ret2
            exact ⟨by rw [HE.out]; rfl, HW.out⟩
      · have da : decide ((48 : Int) ≤ (x : Int)) = false := by simp; omega
        by_cases hc : 97 ≤ y
        · have dc : decide ((97 : Int) ≤ (y : Int)) = true := by simp; omega
          by_cases hd : y ≤ 122
          · have dd : decide ((y : Int) ≤ 122) = true := by simp; omega
            by_cases he : y - 87 < 10
            · have hd7 := show digU 10 c = some (y - 87) by unfold digU; rw [HXY.out.1, HXY.out.2]; rw [if_neg (by omega), if_pos (by omega), if_pos (by omega)]
              have hdl := dig_lt 10 (by omega) c _ hd7
              have hst := num_step 10 l j a _ c HF.out.1 HLC.out hd7
              obtain ⟨dd, hdd⟩ : ∃ z, y - 87 = z := ⟨_, rfl⟩
              have hal := fold_lt 10 (by omega) l j a (by have := HN.out; omega) HF.out.1
              have hp7 := pow7 j (by have := HN.out; omega)
              obtain ⟨P, hP⟩ : ∃ P, a * 10 = P := ⟨_, rfl⟩
              obtain ⟨M, hM⟩ : ∃ M, P + dd = M := ⟨_, rfl⟩
              rw [hdd, hP, hM] at hst
              have hal2 : (a : Int) ≤ 268435456 := by omega
              have e1 : IntKind.u64.wrap ((a : Int) * 10) = (P : Int) := by rw [IntKind.wrap_u64]; omega
              have e2 : IntKind.u64.wrap ((P : Int) + (dd : Int)) = (M : Int) := by rw [IntKind.wrap_u64]; omega
              have t1 : decide ((1844674407370955162 : Int) ≤ (a : Int)) = false := by simp; omega
              have t2 : decide (M < P) = false := by simp; omega
              have t3 : decide (mx < (M : Int)) = false := by have := HMX.out; simp; omega
              have t4 : decide ((10 : Int) ≤ (dd : Int)) = false := by simp; omega
              have hdd4 : (0 : Int) ≤ (dd : Int) := by omega
              have hdd5 : (dd : Int) ≤ 40 := by omega
              have e3 : ((y : Int) - 97 + 10) % 256 = (dd : Int) := by omega
              have HG := hide (show foldN 10 (l.take (j + 1)) = some M from hst)
              clear ha hc he HF HLC HXY hd hd7 hst hdl hal hp7 hP hM hdd
              go_wp2_with (go_at_call 90; refine HLW.out.mono ?_; rintro e w1 ⟨rfl, rfl⟩)
              exact ⟨⟨j + 1, M, by omega, by go_num, rfl, rfl, HG, by first | rfl | trivial⟩, by simp [Lib.intOf]; omega⟩
            · obtain ⟨dd7, hdd7⟩ : ∃ z, y - 87 = z := ⟨_, rfl⟩
              have e3 : ((y : Int) - 97 + 10) % 256 = (dd7 : Int) := by omega
              have t4 : decide ((10 : Int) ≤ (dd7 : Int)) = true := by simp; omega
              have HE := hide (num_bad 10 l j a c HF.out.1 HLC.out (by unfold digU; rw [HXY.out.1, HXY.out.2]; rw [if_neg (by omega), if_pos (by omega), if_neg (by omega)]))
              clear ha hc hd he hdd7 HF HLC HXY
              go_wp2_with (go_at_call 90; refine HLW.out.mono ?_; rintro e w1 ⟨rfl, rfl⟩)
              go_ret2
              exact ⟨by rw [HE.out]; rfl, HW.out⟩
          · have dd : decide ((y : Int) ≤ 122) = false := by simp; omega
            have HE := hide (num_bad 10 l j a c HF.out.1 HLC.out (by unfold digU; rw [HXY.out.1, HXY.out.2]; rw [if_neg (by omega), if_neg (by omega)]))
            clear ha hc hd HF HLC HXY
            go_wp2_with (go_at_call 90; refine HLW.out.mono ?_; rintro e w1 ⟨rfl, rfl⟩)
            go_ret2
            exact ⟨by rw [HE.out]; rfl, HW.out⟩
        · have dc : decide ((97 : Int) ≤ (y : Int)) = false := by simp; omega
          have HE := hide (num_bad 10 l j a c HF.out.1 HLC.out (by unfold digU; rw [HXY.out.1, HXY.out.2]; rw [if_neg (by omega), if_neg (by omega)]))
          clear ha hc HF HLC HXY
          go_wp2_with (go_at_call 90; refine HLW.out.mono ?_; rintro e w1 ⟨rfl, rfl⟩)
          go_ret2
          exact ⟨by rw [HE.out]; rfl, HW.out⟩
    · have d1 : decide (j < n) = false := by simp; omega
      have HE := hide (show numL 10 l = some a by
        have h := HF0.out
        rw [List.take_of_length_le (by have := HN.out; omega)] at h
        unfold numL
        rw [if_neg HNE.out, h])
      clear hj hlt HF0
      go_wp2_with fail
      go_ret2
      exact ⟨by rw [HE.out]; rfl, HW.out⟩
end Go.Proofs.YtonoaopioifedaaGreatDoor.H
