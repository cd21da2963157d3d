/- Head: the library's ParseUint, and the program's Number. -/
import Derived.Test.YtonoaopioifedaaGreatDoorHNum
import Derived.Test.YtonoaopioifedaaGreatDoorHLine
namespace Go.Proofs.YtonoaopioifedaaGreatDoor.H
open Go.RowKit Go.Deep
set_option linter.unusedVariables false
set_option linter.unusedSimpArgs false
set_option maxRecDepth 100000
theorem toErr_any (fn s : ByteArray) (base bits : Int) (ev : Value) (w : World) (hlim : s.size ≤ 281474976710656) (hv : w.cell? ⟨0, 0, none⟩ = some ev) (hev : ev = .nilIface ∨ ∃ te pe, ev = .iface te pe) :
    Calls Tryz.prog 71 #[.string fn, .string s, .int .i64 base, .int .i64 bits, .iface 120 (.int .i64 2)] w fun e w' => ∃ N, e = .returned (.iface 121 (.pointer (some ⟨N, 0, none⟩))) ∧ w.heap.size ≤ N ∧ w'.heap[N]? = some (.cells #[.string fn, .string s, ev] 139 (0, 0)) ∧ Below w.heap.size w w' :=
  Go.Proofs.AnyPu.strconv_toError_syntax (ρ := Tryz.laysPu14_ren) { Tryz.laysPu14 with } fn s base bits ev w hlim hv hev
/-- What ParseUint answers: the number, or an error. -/
def PubTo (o : Option Nat) (e : Ending) : Prop := match o with
  | some n => e = .returned (.tuple #[.int .u64 (n : Int), .nilIface])
  | none => ∃ N, e = .returned (.tuple #[.int .u64 0, .iface 121 (.pointer (some ⟨N, 0, none⟩))])
theorem num_lt (b : Nat) (hb : b = 10 ∨ b = 16) (l : List UInt8) (n : Nat) (hl : l.length ≤ 7) (h : numL b l = some n) : n < 268435456 := by
  unfold numL at h
  split at h
  · cases h
  · have h2 := fold_lt b hb l l.length n (Nat.le_refl _) (by rw [List.take_length]; exact h)
    have := pow7 l.length hl
    omega
set_option maxHeartbeats 1000000 in
theorem pub10 (s : ByteArray) (w : World) (hs : s.size ≤ 7) (hE : Env w) : Calls Tryz.prog 51 #[.string s, .int .i64 10, .int .i64 64] w fun e w' => PubTo (numL 10 s.data.toList) e ∧ Below w.heap.size w w' := by
  have hP := parse10 s w hs
  obtain ⟨r, hr⟩ : ∃ r, numL 10 s.data.toList = r := ⟨_, rfl⟩
  rw [hr] at hP ⊢
  have HP := hide hP
  have HE := hide hE
  have HS := hide hs
  clear hP hr hE hs
  go_enter Tryz.func51, Tryz.ntmps51
  go_wp2_with fail
  refine HP.out.mono ?_
  rintro e w1 ⟨rfl, b1⟩
  have HB := hide b1
  clear b1 HP
  cases r with
  | some n =>
    unfold numV
    go_wp2_with fail
    go_ret2
    exact ⟨rfl, HB.out⟩
  | none =>
    unfold numV
    obtain ⟨ev, hv, hev⟩ := (HE.out.below HB.out (Nat.le_refl _)).e
    have HT := hide (toErr_any ⟨#[80, 97, 114, 115, 101, 85, 105, 110, 116]⟩ s 10 64 ev w1 (by have := HS.out; omega) hv hev)
    clear hv hev
    go_wp2_with fail
    (with_reducible refine HT.out.mono ?_)
    rintro e w2 ⟨N, rfl, _, _, b2⟩
    have HB2 := hide (HB.out.trans (b2.mono HB.out.size))
    clear b2
    go_wp2_with fail
    go_ret2
    exact ⟨⟨N, rfl⟩, HB2.out⟩
set_option maxHeartbeats 1000000 in
theorem pub16 (s : ByteArray) (w : World) (hs : s.size ≤ 7) (hE : Env w) : Calls Tryz.prog 51 #[.string s, .int .i64 16, .int .i64 64] w fun e w' => PubTo (numL 16 s.data.toList) e ∧ Below w.heap.size w w' := by
  have hP := parse16 s w hs
  obtain ⟨r, hr⟩ : ∃ r, numL 16 s.data.toList = r := ⟨_, rfl⟩
  rw [hr] at hP ⊢
  have HP := hide hP
  have HE := hide hE
  have HS := hide hs
  clear hP hr hE hs
  go_enter Tryz.func51, Tryz.ntmps51
  go_wp2_with fail
  refine HP.out.mono ?_
  rintro e w1 ⟨rfl, b1⟩
  have HB := hide b1
  clear b1 HP
  cases r with
  | some n =>
    unfold numV
    go_wp2_with fail
    go_ret2
    exact ⟨rfl, HB.out⟩
  | none =>
    unfold numV
    obtain ⟨ev, hv, hev⟩ := (HE.out.below HB.out (Nat.le_refl _)).e
    have HT := hide (toErr_any ⟨#[80, 97, 114, 115, 101, 85, 105, 110, 116]⟩ s 16 64 ev w1 (by have := HS.out; omega) hv hev)
    clear hv hev
    go_wp2_with fail
    (with_reducible refine HT.out.mono ?_)
    rintro e w2 ⟨N, rfl, _, _, b2⟩
    have HB2 := hide (HB.out.trans (b2.mono HB.out.size))
    clear b2
    go_wp2_with fail
    go_ret2
    exact ⟨⟨N, rfl⟩, HB2.out⟩
/-- A text's number, of any base, at most any other one. -/
def numberL (l : List UInt8) (base most : Int) : Option Nat :=
  if (base = 10 ∨ base = 16) ∧ l.length ≤ 7 then (numL base.toNat l).bind fun n => if (n : Int) ≤ most then some n else none else none
def numberV (o : Option Nat) : Value := match o with
  | some n => .tuple #[.int .i64 (n : Int), .bool true]
  | none => .tuple #[.int .i64 0, .bool false]
set_option maxHeartbeats 2000000 in
theorem number_any (s : ByteArray) (base most : Int) (w : World) (hE : Env w) : Calls Tryz.prog 38 #[.string s, .int .i64 base, .int .i64 most] w fun e w' => e = .returned (numberV (numberL s.data.toList base most)) ∧ Below w.heap.size w w' := by
  obtain ⟨n, hn⟩ : ∃ n, s.size = n := ⟨_, rfl⟩
  by_cases h10 : base = 10
  · subst h10
    by_cases h7 : n ≤ 7
    · skip
      have hP := pub10 s w (by omega) hE
      have hbnd := num_lt 10 (by omega) s.data.toList
      obtain ⟨l, hl⟩ : ∃ l, s.data.toList = l := ⟨_, rfl⟩
      have hll : l.length = n := by rw [← hl, ← hn]; simp
      rw [hl] at hP hbnd ⊢
      obtain ⟨r, hr⟩ : ∃ r, numL 10 l = r := ⟨_, rfl⟩
      rw [hr] at hP
      have HP := hide hP
      have HR := hide (And.intro hr (And.intro hll (show n ≤ 7 by omega)))
      have HBN := hide hbnd
      have d3 : decide ((7 : Int) < (n : Int)) = false := by simp; omega
      clear hP hbnd hl hll hr h7 hE
      go_enter Tryz.func38, Tryz.ntmps38
      go_wp2_with fail
      refine HP.out.mono ?_
      rintro e w1 ⟨hto, b1⟩
      have HB := hide b1
      clear b1 HP
      cases r with
      | some k =>
        have e1 : e = .returned (.tuple #[.int .u64 (k : Int), .nilIface]) := hto
        subst e1
        have hk := HBN.out k (by have := HR.out; omega) HR.out.1
        have hk4 : (0 : Int) ≤ (k : Int) := by omega
        have hk5 : (k : Int) ≤ 268435456 := by omega
        have hkw : IntKind.i64.wrap (k : Int) = (k : Int) := by rw [IntKind.wrap_i64]; omega
        by_cases hm : (k : Int) ≤ most
        · have d4 : decide (most < (k : Int)) = false := by simp; omega
          have HE := hide (show numberL l 10 most = some k by unfold numberL; rw [if_pos ⟨by omega, by have := HR.out; omega⟩, show ((10 : Int)).toNat = 10 from rfl, HR.out.1, Option.bind_some, if_pos hm])
          clear hm hk
          go_wp2_with fail
          go_ret2
          exact ⟨by rw [HE.out]; rfl, HB.out⟩
        · have d4 : decide (most < (k : Int)) = true := by simp; omega
          have HE := hide (show numberL l 10 most = none by unfold numberL; rw [if_pos ⟨by omega, by have := HR.out; omega⟩, show ((10 : Int)).toNat = 10 from rfl, HR.out.1, Option.bind_some, if_neg hm])
          clear hm hk
          go_wp2_with fail
          go_ret2
          exact ⟨by rw [HE.out]; rfl, HB.out⟩
      | none =>
        obtain ⟨N, e1⟩ : ∃ N, e = .returned (.tuple #[.int .u64 0, .iface 121 (.pointer (some ⟨N, 0, none⟩))]) := hto
        subst e1
        have HE := hide (show numberL l 10 most = none by unfold numberL; rw [if_pos ⟨by omega, by have := HR.out; omega⟩, show ((10 : Int)).toNat = 10 from rfl, HR.out.1]; rfl)
        go_wp2_with fail
        go_ret2
        exact ⟨by rw [HE.out]; rfl, HB.out⟩
    · have d3 : decide ((7 : Int) < (n : Int)) = true := by simp; omega
      have HE := hide (show numberL s.data.toList 10 most = none by unfold numberL; rw [if_neg (by rintro ⟨_, h⟩; simp at h; omega)])
      clear h7 hE
      go_enter Tryz.func38, Tryz.ntmps38
      go_wp2_with fail
      go_ret2
      exact ⟨by rw [HE.out]; rfl, Below.refl _ _⟩
  · have d1 : (base != 10) = true := by simpa using h10
    by_cases h16 : base = 16
    · subst h16
      by_cases h7 : n ≤ 7
      · skip
        have hP := pub16 s w (by omega) hE
        have hbnd := num_lt 16 (by omega) s.data.toList
        obtain ⟨l, hl⟩ : ∃ l, s.data.toList = l := ⟨_, rfl⟩
        have hll : l.length = n := by rw [← hl, ← hn]; simp
        rw [hl] at hP hbnd ⊢
        obtain ⟨r, hr⟩ : ∃ r, numL 16 l = r := ⟨_, rfl⟩
        rw [hr] at hP
        have HP := hide hP
        have HR := hide (And.intro hr (And.intro hll (show n ≤ 7 by omega)))
        have HBN := hide hbnd
        have d3 : decide ((7 : Int) < (n : Int)) = false := by simp; omega
        clear hP hbnd hl hll hr h7 hE h10
        go_enter Tryz.func38, Tryz.ntmps38
        go_wp2_with fail
        refine HP.out.mono ?_
        rintro e w1 ⟨hto, b1⟩
        have HB := hide b1
        clear b1 HP
        cases r with
        | some k =>
          have e1 : e = .returned (.tuple #[.int .u64 (k : Int), .nilIface]) := hto
          subst e1
          have hk := HBN.out k (by have := HR.out; omega) HR.out.1
          have hk4 : (0 : Int) ≤ (k : Int) := by omega
          have hk5 : (k : Int) ≤ 268435456 := by omega
          have hkw : IntKind.i64.wrap (k : Int) = (k : Int) := by rw [IntKind.wrap_i64]; omega
          by_cases hm : (k : Int) ≤ most
          · have d4 : decide (most < (k : Int)) = false := by simp; omega
            have HE := hide (show numberL l 16 most = some k by unfold numberL; rw [if_pos ⟨by omega, by have := HR.out; omega⟩, show ((16 : Int)).toNat = 16 from rfl, HR.out.1, Option.bind_some, if_pos hm])
            clear hm hk
            go_wp2_with fail
            go_ret2
            exact ⟨by rw [HE.out]; rfl, HB.out⟩
          · have d4 : decide (most < (k : Int)) = true := by simp; omega
            have HE := hide (show numberL l 16 most = none by unfold numberL; rw [if_pos ⟨by omega, by have := HR.out; omega⟩, show ((16 : Int)).toNat = 16 from rfl, HR.out.1, Option.bind_some, if_neg hm])
            clear hm hk
            go_wp2_with fail
            go_ret2
            exact ⟨by rw [HE.out]; rfl, HB.out⟩
        | none =>
          obtain ⟨N, e1⟩ : ∃ N, e = .returned (.tuple #[.int .u64 0, .iface 121 (.pointer (some ⟨N, 0, none⟩))]) := hto
          subst e1
          have HE := hide (show numberL l 16 most = none by unfold numberL; rw [if_pos ⟨by omega, by have := HR.out; omega⟩, show ((16 : Int)).toNat = 16 from rfl, HR.out.1]; rfl)
          go_wp2_with fail
          go_ret2
          exact ⟨by rw [HE.out]; rfl, HB.out⟩
      · have d3 : decide ((7 : Int) < (n : Int)) = true := by simp; omega
        have HE := hide (show numberL s.data.toList 16 most = none by unfold numberL; rw [if_neg (by rintro ⟨_, h⟩; simp at h; omega)])
        clear h7 hE h10
        go_enter Tryz.func38, Tryz.ntmps38
        go_wp2_with fail
        go_ret2
        exact ⟨by rw [HE.out]; rfl, Below.refl _ _⟩
    · have d2 : (base != 16) = true := by simpa using h16
      have HE := hide (show numberL s.data.toList base most = none by unfold numberL; rw [if_neg (by rintro ⟨h, _⟩; omega)])
      clear h10 h16 hE
      go_enter Tryz.func38, Tryz.ntmps38
      go_wp2_with fail
      go_ret2
      exact ⟨by rw [HE.out]; rfl, Below.refl _ _⟩
end Go.Proofs.YtonoaopioifedaaGreatDoor.H
