/- http: a byte of a piece's number, of the lines behind the last piece. -/
import Derived.Test.YtbiblaeocbcfhaaGreatDoorZTk
namespace Go.Proofs.YtbiblaeocbcfhaaGreatDoor
open Go.RowKit Go.Deep
set_option linter.unusedVariables false
set_option linter.unusedSimpArgs false
set_option maxRecDepth 100000
theorem add_body (p : PM) (c : UInt8) : (addM p c).1.now = p.now := by unfold addM; split <;> rfl
theorem piece_lt (l : List UInt8) (n : Nat) (h : pieceL l = some n) : n ≤ 268435456 := by
  unfold pieceL numberL at h
  split at h
  · split at h
    · rename_i hc
      cases hn : numL 16 (Lib.cut (Lib.trimSuffix l [13, 10]) [59]).1 with
      | none => rw [show ((16 : Int)).toNat = 16 from rfl, hn] at h; cases h
      | some k =>
        rw [show ((16 : Int)).toNat = 16 from rfl, hn, Option.bind_some] at h
        split at h
        · cases h
          have h2 := num_lt 16 (by omega) _ _ hc.2 hn
          omega
        · cases h
    · cases h
  · cases h
set_option maxHeartbeats 4000000 in
theorem number_take (B : Nat) (p : PM) (tv fv bv : Value) (c : UInt8) (w : World) (hA : At w B p tv fv bv) (hE : Env w) (hL : Lo B tv bv) (hB : Bd p) :
    Calls Tryz.prog 15 #[.pointer (some ⟨B, 0, none⟩), .int .u8 (c.toNat : Int)] w fun e w' => e = .returned (resV (numberM p c).2) ∧ Left B tv fv bv w (numberM p c).1 w' := by
  have hadd := add_any B p tv fv bv c w hA hB.line (by have := hB.text; omega)
  have hM : numberM p c = if c ≠ 10 then (if 256 ≤ (addM p c).1.text.length then ((addM p c).1, some 400) else ((addM p c).1, none))
      else match pieceL (addM p c).1.text with
        | none => (clearM (addM p c).1, some 400)
        | some n => if 8192 < (addM p c).1.now.body.length + n then (clearM (addM p c).1, some 413) else if n = 0 then ({ clearM (addM p c).1 with waits := 6 }, none) else ({ clearM (addM p c).1 with waits := 3, left := n }, none) := rfl
  have hlen : (addM p c).1.text.length ≤ 4096 := by rw [add_text, List.length_append]; have := hB.text; simp; omega
  have hbl : (addM p c).1.now.body.length ≤ 8192 := by rw [add_body]; exact hB.body
  obtain ⟨q, hq⟩ : ∃ q, (addM p c).1 = q := ⟨_, rfl⟩
  obtain ⟨e1, he1⟩ : ∃ q, (addM p c).2 = q := ⟨_, rfl⟩
  rw [hq, he1] at hadd
  rw [hq] at hM hlen hbl
  obtain ⟨Q, hQ⟩ : ∃ Q, numberM p c = Q := ⟨_, rfl⟩
  rw [hQ] at hM ⊢
  have hci : c.toNat = 10 ↔ c = 10 := ⟨fun h => UInt8.toNat_inj.1 h, fun h => by rw [h]; rfl⟩
  obtain ⟨x, hx⟩ : ∃ x, c.toNat = x := ⟨_, rfl⟩
  have HADD : Hid (Calls Tryz.prog 18 #[.pointer (some ⟨B, 0, none⟩), .int .u8 (x : Int)] w fun e w' => e = .returned (.bool e1) ∧ ∃ tv', At w' B q tv' fv bv ∧ OnlyS (Own B tv bv) w w' ∧ Fresh w tv tv') := by rw [← hx]; exact hadd
  rw [hx] at hci ⊢
  have HX := hide (And.intro hE (And.intro hL (And.intro hbl hlen)))
  by_cases hc : c = 10
  rotate_left
  · have d1 : ((x : Int) != 10) = true := by have : x ≠ 10 := fun h => hc (hci.1 h); simp; omega
    rw [if_pos hc] at hM
    have HM := hide hM
    clear hadd hM hlen hbl hq he1 hQ hA hE hL hB hc hci hx
    go_enter Tryz.func15, Tryz.ntmps15
    go_wp2_with fail
    refine HADD.out.mono ?_
    rintro e w1 ⟨rfl, tv1, hA1, ho1, ft1⟩
    have HA1 := hide hA1
    have HO1 := hide (And.intro ho1 ft1)
    obtain ⟨ta, tc, rfl⟩ := hA1.tx.form
    obtain ⟨n, hn⟩ : ∃ n, q.text.length = n := ⟨_, rfl⟩
    rw [hn] at HM
    have z1 : w1.cell? ⟨B, 1, none⟩ = some (.slice ta n tc) := by rw [← hn]; exact cell_at hA1.blk 1 rfl
    clear hn hA1 ho1 ft1 HADD
    by_cases h4 : 256 ≤ n
    · have d4 : decide ((256 : Int) ≤ (n : Int)) = true := by simp; omega
      have HV := hide (show Q = (q, some 400) by rw [HM.out, if_pos h4])
      clear h4
      go_wp2_with fail
      go_ret2
      exact ⟨by rw [HV.out]; rfl, by rw [HV.out]; exact ⟨_, fv, bv, HA1.out, HO1.out.1, HO1.out.2, Fresh.refl _ _, Fresh.refl _ _⟩⟩
    · have d4 : decide ((256 : Int) ≤ (n : Int)) = false := by simp; omega
      have HV := hide (show Q = (q, none) by rw [HM.out, if_neg h4])
      clear h4
      go_wp2_with fail
      go_ret2
      exact ⟨by rw [HV.out]; rfl, by rw [HV.out]; exact ⟨_, fv, bv, HA1.out, HO1.out.1, HO1.out.2, Fresh.refl _ _, Fresh.refl _ _⟩⟩
  · have d1 : ((x : Int) != 10) = false := by have : x = 10 := hci.2 hc; subst this; rfl
    rw [if_neg (by simpa using hc)] at hM
    have HM := hide hM
    have HPL := hide (piece_lt q.text)
    clear hadd hM hlen hbl hq he1 hQ hA hE hL hB hc hci hx
    go_enter Tryz.func15, Tryz.ntmps15
    go_wp2_with fail
    refine HADD.out.mono ?_
    rintro e w1 ⟨rfl, tv1, hA1, ho1, ft1⟩
    have HO1 := hide (And.intro ho1 ft1)
    have HCL := hide (clear_any B q tv1 fv bv w1 hA1)
    have HE1 := hide (HX.out.1.only ho1 HX.out.2.1.own)
    clear hA1 ho1 ft1 HADD
    go_wp2_with fail
    refine HCL.out.mono ?_
    rintro e w2 ⟨rfl, hA2, ho2⟩
    have HO2 := hide (HO1.out.1.trans ho2 (fun i hi hy => by
      rcases hy with e | e | e
      · exact .inl e
      · rcases HO1.out.2 i e with h1 | h1
        · exact .inr (.inl h1)
        · omega
      · exact .inr (.inr e)))
    have hp := piece_any q.text w2 (HE1.out.only ho2 (HX.out.2.1.fresh HO1.out.2 (Fresh.refl _ _) HX.out.1.two).own) (by have := HX.out.2.2.2; omega)
    have HA2 := hide hA2
    clear ho2 HCL
    cases hpl : pieceL q.text with
    | none =>
      rw [hpl] at hp
      have hM2 := HM.out
      rw [hpl] at hM2
      have HV := hide (show Q = (clearM q, some 400) from hM2)
      unfold numberV at hp
      have HP := hide hp
      clear hp hM2 hpl hA2
      go_wp2_with fail
      refine HP.out.mono ?_
      rintro e w3 ⟨rfl, b3⟩
      have HB3 := hide b3
      clear b3 HP
      go_wp2_with fail
      go_ret2
      exact ⟨by rw [HV.out]; rfl, by rw [HV.out]; exact ⟨_, fv, bv, HA2.out.below HB3.out, HO2.out.then HB3.out, Fresh.nil _ _, Fresh.refl _ _, Fresh.refl _ _⟩⟩
    | some n =>
      rw [hpl] at hp
      have hM2 := HM.out
      rw [hpl] at hM2
      unfold numberV at hp
      have HP := hide hp
      have hn1 := HPL.out n hpl
      obtain ⟨ba, bc, rfl⟩ := hA2.bd.form
      obtain ⟨m, hm⟩ : ∃ m, q.now.body.length = m := ⟨_, rfl⟩
      have hm1 : m ≤ 8192 := by rw [← hm]; exact HX.out.2.2.1
      have hM3 : Q = if 8192 < m + n then (clearM q, some 413) else if n = 0 then ({ clearM q with waits := 6 }, none) else ({ clearM q with waits := 3, left := n }, none) := by rw [← hm]; exact hM2
      have HM3 := hide hM3
      have HMM := hide hm
      have hn4 : (0 : Int) ≤ (n : Int) := by omega
      have hn5 : (n : Int) ≤ 268435456 := by omega
      have hm5 : (m : Int) ≤ 8192 := by omega
      clear hp hM2 hM3 hpl hA2 hn1 hm1 hm
      go_wp2_with fail
      refine HP.out.mono ?_
      rintro e w3 ⟨rfl, b3⟩
      have HB3 := hide b3
      have hA3 := HA2.out.below b3
      have z9 : w3.cell? ⟨B, 9, none⟩ = some (.slice ba m bc) := by rw [← HMM.out]; exact cell_at hA3.blk 9 rfl
      have z0 := cell_at hA3.blk 0 rfl
      have z4 := cell_at hA3.blk 4 rfl
      have zf := free_at hA3.blk
      have HA3 := hide hA3
      have HO3 := hide (HO2.out.then b3)
      clear b3 HP hA3
      by_cases h1 : 8192 < m + n
      · have e1' : decide ((8192 : Int) < (m : Int) + (n : Int)) = true := by simp; omega
        have HV := hide (show Q = (clearM q, some 413) by rw [HM3.out, if_pos h1])
        clear h1
        go_wp2_with fail
        go_ret2
        exact ⟨by rw [HV.out]; rfl, by rw [HV.out]; exact ⟨_, fv, _, HA3.out, HO3.out, Fresh.nil _ _, Fresh.refl _ _, Fresh.refl _ _⟩⟩
      · have e1' : decide ((8192 : Int) < (m : Int) + (n : Int)) = false := by simp; omega
        by_cases h2 : n = 0
        · have e2' : ((n : Int) == 0) = true := by simp; omega
          have HV := hide (show Q = ({ clearM q with waits := 6 }, none) by rw [HM3.out, if_neg h1, if_pos h2])
          have HT := hide h2
          have HF := hide (HA3.out.set (p' := { clearM q with waits := 6 }) 0 (.int .i64 6) rfl rfl rfl rfl)
          clear h1 h2
          go_wp2_with fail
          go_ret2
          exact ⟨by rw [HV.out]; rfl, by rw [HV.out]; exact ⟨_, fv, _, HF.out, HO3.out.setCell B 0 _ (.inl (.inl rfl)), Fresh.nil _ _, Fresh.refl _ _, Fresh.refl _ _⟩⟩
        · have e2' : ((n : Int) == 0) = false := by simp; omega
          have HV := hide (show Q = ({ clearM q with waits := 3, left := n }, none) by rw [HM3.out, if_neg h1, if_neg h2])
          have hz := HA3.out.set (p' := { clearM q with waits := 3 }) 0 (.int .i64 3) rfl rfl rfl rfl
          have y4 := cell_at hz.blk 4 rfl
          have yf := free_at hz.blk
          have HF := hide (hz.set (p' := { clearM q with waits := 3, left := n }) 4 (.int .i64 (n : Int)) rfl rfl rfl rfl)
          clear h1 h2 hz
          go_wp2_with fail
          go_ret2
          exact ⟨by rw [HV.out]; rfl, by rw [HV.out]; exact ⟨_, fv, _, HF.out, (HO3.out.setCell B 0 _ (.inl (.inl rfl))).setCell B 4 _ (.inl (.inl rfl)), Fresh.nil _ _, Fresh.refl _ _, Fresh.refl _ _⟩⟩
set_option maxHeartbeats 4000000 in
theorem tail_take (B : Nat) (p : PM) (tv fv bv : Value) (c : UInt8) (w : World) (hA : At w B p tv fv bv) (hE : Env w) (hL : Lo B tv bv) (hB : Bd p) :
    Calls Tryz.prog 17 #[.pointer (some ⟨B, 0, none⟩), .int .u8 (c.toNat : Int)] w fun e w' => e = .returned (resV (tailM p c).2) ∧ Left B tv fv bv w (tailM p c).1 w' := by
  have hadd := add_any B p tv fv bv c w hA hB.line (by have := hB.text; omega)
  have hM : tailM p c = if (addM p c).2 = true then (clearM (addM p c).1, some (tailS (addM p c).1.text)) else if 1024 ≤ (addM p c).1.text.length then ((addM p c).1, some 431) else ((addM p c).1, none) := by
    unfold tailM
    rcases addM p c with ⟨a, b⟩
    rfl
  have hlen : (addM p c).1.text.length ≤ 4096 := by rw [add_text, List.length_append]; have := hB.text; simp; omega
  obtain ⟨q, hq⟩ : ∃ q, (addM p c).1 = q := ⟨_, rfl⟩
  obtain ⟨e1, he1⟩ : ∃ q, (addM p c).2 = q := ⟨_, rfl⟩
  rw [hq, he1] at hadd hM
  rw [hq] at hlen
  obtain ⟨Q, hQ⟩ : ∃ Q, tailM p c = Q := ⟨_, rfl⟩
  rw [hQ] at hM ⊢
  have HADD := hide hadd
  have HM := hide hM
  have HX := hide (And.intro hE (And.intro hL hlen))
  clear hadd hM hlen hq he1 hQ hA hE hL hB
  go_enter Tryz.func17, Tryz.ntmps17
  go_wp2_with fail
  refine HADD.out.mono ?_
  rintro e w1 ⟨rfl, tv1, hA1, ho1, ft1⟩
  have HA1 := hide hA1
  have HO1 := hide (And.intro ho1 ft1)
  have HE1 := hide (HX.out.1.only ho1 HX.out.2.1.own)
  have hcl := clear_any B q tv1 fv bv w1 hA1
  have HCL := hide hcl
  obtain ⟨ta, tc, rfl⟩ := hA1.tx.form
  obtain ⟨n, hn⟩ : ∃ n, q.text.length = n := ⟨_, rfl⟩
  have z1 : w1.cell? ⟨B, 1, none⟩ = some (.slice ta n tc) := by rw [← hn]; exact cell_at hA1.blk 1 rfl
  have hM2 := HM.out
  rw [hn] at hM2
  have HM2 := hide hM2
  clear hn hA1 ho1 ft1 HADD hcl hM2
  cases e1 with
  | true =>
    have HV := hide (show Q = (clearM q, some (tailS q.text)) by rw [HM.out, if_pos rfl])
    clear HM HM2
    go_wp2_with fail
    refine HCL.out.mono ?_
    rintro e w2 ⟨rfl, hA2, ho2⟩
    have HT := hide (tail_any q.text w2 (HE1.out.only ho2 (HX.out.2.1.fresh HO1.out.2 (Fresh.refl _ _) HX.out.1.two).own) (by have := HX.out.2.2; omega))
    have HA2 := hide hA2
    have HO2 := hide ho2
    obtain ⟨s, hs⟩ : ∃ s, tailS q.text = s := ⟨_, rfl⟩
    rw [hs] at HT HV
    clear hA2 ho2 HCL hs
    go_wp2_with fail
    refine HT.out.mono ?_
    rintro e w3 ⟨rfl, b3⟩
    have HB3 := hide b3
    clear b3 HT
    go_wp2_with fail
    go_ret2
    exact ⟨by rw [HV.out]; rfl, by rw [HV.out]; exact Left.after HO1.out.1 HO1.out.2 (Fresh.refl _ _) (Fresh.refl _ _) ⟨_, fv, bv, HA2.out.below HB3.out, HO2.out.then HB3.out, Fresh.nil _ _, Fresh.refl _ _, Fresh.refl _ _⟩⟩
  | false =>
    by_cases h4 : 1024 ≤ n
    · have d4 : decide ((1024 : Int) ≤ (n : Int)) = true := by simp; omega
      have HV := hide (show Q = (q, some 431) by rw [HM2.out, if_neg (by simp), if_pos h4])
      clear h4 HM HM2
      go_wp2_with fail
      go_ret2
      exact ⟨by rw [HV.out]; rfl, by rw [HV.out]; exact ⟨_, fv, bv, HA1.out, HO1.out.1, HO1.out.2, Fresh.refl _ _, Fresh.refl _ _⟩⟩
    · have d4 : decide ((1024 : Int) ≤ (n : Int)) = false := by simp; omega
      have HV := hide (show Q = (q, none) by rw [HM2.out, if_neg (by simp), if_neg h4])
      clear h4 HM HM2
      go_wp2_with fail
      go_ret2
      exact ⟨by rw [HV.out]; rfl, by rw [HV.out]; exact ⟨_, fv, bv, HA1.out, HO1.out.1, HO1.out.2, Fresh.refl _ _, Fresh.refl _ _⟩⟩
end Go.Proofs.YtbiblaeocbcfhaaGreatDoor
