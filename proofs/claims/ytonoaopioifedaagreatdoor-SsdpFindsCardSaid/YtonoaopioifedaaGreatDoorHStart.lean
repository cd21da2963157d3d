/- Head: the program's Start. -/
import Derived.Test.YtonoaopioifedaaGreatDoorHLine
namespace Go.Proofs.YtonoaopioifedaaGreatDoor.H
open Go.RowKit Go.Deep
set_option linter.unusedVariables false
set_option linter.unusedSimpArgs false
set_option maxRecDepth 100000
def startV (o : Option (List UInt8 × List UInt8 × Nat)) : Value := match o with
  | some (m, t, n) => .tuple #[.string (bs m), .string (bs t), .int .i64 (n : Int), .bool true]
  | none => .tuple #[.string ⟨#[]⟩, .string ⟨#[]⟩, .int .i64 0, .bool false]
theorem minor_le (v : List UInt8) (n : Nat) (h : minorL v = some n) : n ≤ 1 := (minor_count v n h).2
theorem results_tmp4 {P : Program} {fn : Func} {p q r u : Tmp} (h : fn.results = #[.tmp p, .tmp q, .tmp r, .tmp u]) (tmps : Array Value) (w : World) (a b c d : Value)
    (ha : tmps.getD p undef = a) (hb : tmps.getD q undef = b) (hc : tmps.getD r undef = c) (hd : tmps.getD u undef = d) : (results fn tmps).run P w = .ok (.tuple #[a, b, c, d]) w := by
  have ha' : tmps[p]?.getD undef = a := by simpa using ha
  have hb' : tmps[q]?.getD undef = b := by simpa using hb
  have hc' : tmps[r]?.getD undef = c := by simpa using hc
  have hd' : tmps[u]?.getD undef = d := by simpa using hd
  simp [results, h, ha', hb', hc', hd']
set_option maxHeartbeats 2000000 in
theorem start_any (s : ByteArray) (w : World) (hs : s.size ≤ 100000) (hE : Env w) : Calls Tryz.prog 49 #[.string s] w fun e w' => e = .returned (startV (startL s.data.toList)) ∧ Below w.heap.size w w' := by
  obtain ⟨l, hl⟩ : ∃ l, s.data.toList = l := ⟨_, rfl⟩
  have hlen : l.length ≤ 100000 := by rw [← hl]; simpa using hs
  obtain ⟨m, hm⟩ := hE.m
  have hC : Calls Tryz.prog 61 #[.string s, .string ⟨#[32]⟩] w (fun e w' => e = .returned (.tuple #[.string ⟨(Lib.cut s.data.toList [32]).1.toArray⟩, .string ⟨(Lib.cut s.data.toList [32]).2.1.toArray⟩, .bool (Lib.cut s.data.toList [32]).2.2]) ∧ ∃ n, w' = w.drewN n) := Tryz.strings_Cut s ⟨#[32]⟩ m w (by omega) hm
  have hcl := cut_len l 32
  have hcl2 := cut_len (Lib.cut l [32]).2.1 32
  have hC2 : ∀ w1, Env w1 → Calls Tryz.prog 61 #[.string (bs (Lib.cut l [32]).2.1), .string ⟨#[32]⟩] w1 (fun e w' => e = .returned (.tuple #[.string ⟨(Lib.cut (bs (Lib.cut l [32]).2.1).data.toList [32]).1.toArray⟩, .string ⟨(Lib.cut (bs (Lib.cut l [32]).2.1).data.toList [32]).2.1.toArray⟩, .bool (Lib.cut (bs (Lib.cut l [32]).2.1).data.toList [32]).2.2]) ∧ ∃ n, w' = w1.drewN n) := fun w1 h1 => by
    obtain ⟨m1, hm1⟩ := h1.m
    exact Tryz.strings_Cut (bs (Lib.cut l [32]).2.1) ⟨#[32]⟩ m1 w1 (by have := size_bs (Lib.cut l [32]).2.1; omega) hm1
  unfold startL
  rw [hl] at hC ⊢
  rw [data_bs] at hC2
  obtain ⟨nm, h1⟩ : ∃ x, (Lib.cut l [32]).1 = x := ⟨_, rfl⟩
  obtain ⟨rs, h2⟩ : ∃ x, (Lib.cut l [32]).2.1 = x := ⟨_, rfl⟩
  obtain ⟨fd, h3⟩ : ∃ x, (Lib.cut l [32]).2.2 = x := ⟨_, rfl⟩
  rw [h1, h2] at hcl
  rw [h2] at hcl2 hC2
  rw [h1, h2, h3] at hC
  rw [h1, h2]
  obtain ⟨tg, h4⟩ : ∃ x, (Lib.cut rs [32]).1 = x := ⟨_, rfl⟩
  obtain ⟨vs, h5⟩ : ∃ x, (Lib.cut rs [32]).2.1 = x := ⟨_, rfl⟩
  obtain ⟨fe, h6⟩ : ∃ x, (Lib.cut rs [32]).2.2 = x := ⟨_, rfl⟩
  rw [h4, h5] at hcl2
  rw [h4, h5, h6] at hC2
  rw [h4, h5]
  have hb1 := size_bs nm
  have hb2 := size_bs tg
  obtain ⟨tk, h7⟩ : ∃ x, tokenL nm = x := ⟨_, rfl⟩
  obtain ⟨mt, h8⟩ : ∃ x, madeL 512 tgtB tg = x := ⟨_, rfl⟩
  obtain ⟨mn, h9⟩ : ∃ x, minorL vs = x := ⟨_, rfl⟩
  rw [h7, h8, h9]
  have HC := hide hC
  have HC2 := hide hC2
  have HD := hide (And.intro h7 (And.intro h8 h9))
  have HZ := hide (show (bs nm).size ≤ 100000 ∧ (bs tg).size ≤ 100000 by omega)
  have HE := hide hE
  clear hE hm hC hC2 h1 h2 h3 h4 h5 h6 h7 h8 h9 hcl hcl2 hb1 hb2 hl hlen hs
  go_enter Tryz.func49, Tryz.ntmps49
  go_wp2_with fail
  (with_reducible refine HC.out.mono ?_)
  rintro e w1 ⟨rfl, nd, hw1⟩
  have HB1 := hide (show Below w.heap.size w w1 by rw [hw1]; exact below_drewN (Below.refl _ _) nd)
  clear hw1 HC
  go_wp2_with fail
  have HC3 := hide (HC2.out w1 (HE.out.below HB1.out (Nat.le_refl _)))
  (with_reducible refine HC3.out.mono ?_)
  rintro e w2 ⟨rfl, nd2, hw2⟩
  have HB2 := hide (show Below w.heap.size w w2 by rw [hw2]; exact below_drewN HB1.out nd2)
  clear hw2 HC2 HC3 HB1
  have hM := minor_any (bs vs) w2
  rw [data_bs, HD.out.2.2] at hM
  have HM := hide hM
  have hK := token_any (bs nm) w2 (by have := HZ.out; omega)
  rw [data_bs, HD.out.1] at hK
  have HK := hide hK
  have hV : Calls Tryz.prog 64 #[.string (bs tg), .int .i64 512, .func (.func 65) #[] #[]] w2 _ := madeTgt (bs tg) 512 w2 (by have := HZ.out; omega)
  rw [data_bs, HD.out.2.1] at hV
  have HV := hide hV
  clear hM hK hV
  go_wp2_with fail
  (with_reducible refine HM.out.mono ?_)
  rintro e w3 ⟨rfl, rfl⟩
  cases mn with
  | none =>
    clear HM HD
    unfold minorV
    go_wp2_with fail
    exact bodyPost_ret (v := startV none) (results_tmp4 Tryz.results49 _ _ _ _ _ _ rfl rfl rfl rfl) rfl ⟨rfl, HB2.out⟩
  | some k =>
    clear HM
    have hk := minor_le vs k HD.out.2.2
    have hk4 : (0 : Int) ≤ (k : Int) := by omega
    unfold minorV
    cases tk with
    | false =>
      go_wp2_with fail
      (with_reducible refine HK.out.mono ?_)
      rintro e w4 ⟨rfl, rfl⟩
      go_wp2_with fail
      exact bodyPost_ret (v := startV none) (results_tmp4 Tryz.results49 _ _ _ _ _ _ rfl rfl rfl rfl) rfl ⟨rfl, HB2.out⟩
    | true =>
      cases mt with
      | false =>
        go_wp2_with fail
        (with_reducible refine HK.out.mono ?_)
        rintro e w4 ⟨rfl, rfl⟩
        go_wp2_with fail
        (with_reducible refine HV.out.mono ?_)
        rintro e w5 ⟨rfl, rfl⟩
        go_wp2_with fail
        exact bodyPost_ret (v := startV none) (results_tmp4 Tryz.results49 _ _ _ _ _ _ rfl rfl rfl rfl) rfl ⟨rfl, HB2.out⟩
      | true =>
        go_wp2_with fail
        (with_reducible refine HK.out.mono ?_)
        rintro e w4 ⟨rfl, rfl⟩
        go_wp2_with fail
        (with_reducible refine HV.out.mono ?_)
        rintro e w5 ⟨rfl, rfl⟩
        go_wp2_with fail
        exact bodyPost_ret (v := startV (some (nm, tg, k))) (results_tmp4 Tryz.results49 _ _ _ _ _ _ rfl rfl rfl rfl) rfl ⟨rfl, HB2.out⟩
end Go.Proofs.YtonoaopioifedaaGreatDoor.H
