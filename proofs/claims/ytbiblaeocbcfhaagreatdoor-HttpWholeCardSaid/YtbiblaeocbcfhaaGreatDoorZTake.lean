/- http: a byte. -/
import Derived.Test.YtbiblaeocbcfhaaGreatDoorZNum
namespace Go.Proofs.YtbiblaeocbcfhaaGreatDoor
open Go.RowKit Go.Deep
set_option linter.unusedVariables false
set_option linter.unusedSimpArgs false
set_option maxRecDepth 100000
theorem byte_res (q : PM) : resV (if q.left = 0 then some 0 else none) = .tuple #[.int .i64 0, .bool (decide (q.left = 0))] := by
  by_cases h : q.left = 0
  · rw [if_pos h, decide_eq_true h]; rfl
  · rw [if_neg h, decide_eq_false h]; rfl
set_option maxHeartbeats 4000000 in
theorem take_any (B : Nat) (p : PM) (tv fv bv : Value) (c : UInt8) (w : World) (hA : At w B p tv fv bv) (hE : Env w) (hL : Lo B tv bv) (hB : Bd p) (h6 : p.waits ≤ 6) :
    Calls Tryz.prog 11 #[.pointer (some ⟨B, 0, none⟩), .int .u8 (c.toNat : Int)] w fun e w' => e = .returned (resV (takeM p c).2) ∧ Left B tv fv bv w (takeM p c).1 w' := by
  have zf := free_at hA.blk
  have hwk : w.cell? ⟨B, 0, none⟩ = some (.int .i64 (p.waits : Int)) := cell_at hA.blk 0 rfl
  have hcase : p.waits = 0 ∨ p.waits = 1 ∨ p.waits = 2 ∨ p.waits = 3 ∨ p.waits = 4 ∨ p.waits = 5 ∨ p.waits = 6 := by omega
  obtain ⟨Q, hQ⟩ : ∃ Q, takeM p c = Q := ⟨_, rfl⟩
  rw [hQ]
  rcases hcase with h | h | h | h | h | h | h
  · have z0 : w.cell? ⟨B, 0, none⟩ = some (.int .i64 0) := by rw [hwk, h]; rfl
    have hM : headM p c = Q := by rw [← hQ]; unfold takeM; simp only [h]
    have hC := head_any B p tv fv bv c w hA hE hL hB
    rw [hM] at hC
    have HC := hide hC
    obtain ⟨x, hx⟩ : ∃ x, c.toNat = x := ⟨_, rfl⟩
    rw [hx] at HC ⊢
    obtain ⟨o, ho⟩ : ∃ o, Q.2 = o := ⟨_, rfl⟩
    rw [ho] at HC ⊢
    clear hwk hM hC hA hE hL hB h6 h hQ hx ho
    go_enter Tryz.func11, Tryz.ntmps11
    go_wp2_with fail
    refine HC.out.mono ?_
    rintro e w1 ⟨rfl, hl⟩
    have HL := hide hl
    clear hl HC
    cases o
    all_goals
      unfold resV
      go_wp2_with fail
      go_ret2
      exact ⟨rfl, HL.out⟩
  · have z0 : w.cell? ⟨B, 0, none⟩ = some (.int .i64 1) := by rw [hwk, h]; rfl
    have hM : Q = (byteM p c, if (byteM p c).left = 0 then some 0 else none) := by rw [← hQ]; unfold takeM; simp only [h]
    have hl := hB.left (.inl h)
    have HC := hide (byte_any B p tv fv bv c w hA (by have := hB.body; omega) (by omega))
    have HM := hide hM
    obtain ⟨x, hx⟩ : ∃ x, c.toNat = x := ⟨_, rfl⟩
    rw [hx] at HC ⊢
    obtain ⟨b, hb⟩ : ∃ b, decide ((byteM p c).left = 0) = b := ⟨_, rfl⟩
    rw [hb] at HC
    have HV := hide (show resV Q.2 = .tuple #[.int .i64 0, .bool b] by rw [hM, ← hb]; exact byte_res _)
    clear hwk hM hA hE hL hB h6 h hQ hx hb hl
    go_enter Tryz.func11, Tryz.ntmps11
    go_wp2_with fail
    refine HC.out.mono ?_
    rintro e w1 ⟨rfl, bv1, hA1, ho1, fb1⟩
    have HL := hide (show Left B tv fv bv w Q.1 w1 from by rw [HM.out]; exact ⟨tv, fv, bv1, hA1, ho1, Fresh.refl _ _, Fresh.refl _ _, fb1⟩)
    clear hA1 ho1 fb1 HC
    go_wp2_with fail
    go_ret2
    exact ⟨by rw [HV.out]; rfl, HL.out⟩
  · have z0 : w.cell? ⟨B, 0, none⟩ = some (.int .i64 2) := by rw [hwk, h]; rfl
    have hM : numberM p c = Q := by rw [← hQ]; unfold takeM; simp only [h]
    have hC := number_take B p tv fv bv c w hA hE hL hB
    rw [hM] at hC
    have HC := hide hC
    obtain ⟨x, hx⟩ : ∃ x, c.toNat = x := ⟨_, rfl⟩
    rw [hx] at HC ⊢
    obtain ⟨o, ho⟩ : ∃ o, Q.2 = o := ⟨_, rfl⟩
    rw [ho] at HC ⊢
    clear hwk hM hC hA hE hL hB h6 h hQ hx ho
    go_enter Tryz.func11, Tryz.ntmps11
    go_wp2_with fail
    refine HC.out.mono ?_
    rintro e w1 ⟨rfl, hl⟩
    have HL := hide hl
    clear hl HC
    cases o
    all_goals
      unfold resV
      go_wp2_with fail
      go_ret2
      exact ⟨rfl, HL.out⟩
  · have z0 : w.cell? ⟨B, 0, none⟩ = some (.int .i64 3) := by rw [hwk, h]; rfl
    have hM : Q = (if (byteM p c).left = 0 then { byteM p c with waits := 4 } else byteM p c, none) := by rw [← hQ]; unfold takeM; simp only [h]
    have hl := hB.left (.inr h)
    have HC := hide (byte_any B p tv fv bv c w hA (by have := hB.body; omega) (by omega))
    have HM := hide hM
    obtain ⟨x, hx⟩ : ∃ x, c.toNat = x := ⟨_, rfl⟩
    rw [hx] at HC ⊢
    obtain ⟨b, hb⟩ : ∃ b, decide ((byteM p c).left = 0) = b := ⟨_, rfl⟩
    rw [hb] at HC
    have HBB := hide hb
    clear hwk hM hA hE hL hB h6 h hQ hx hb hl
    go_enter Tryz.func11, Tryz.ntmps11
    go_wp2_with fail
    refine HC.out.mono ?_
    rintro e w1 ⟨rfl, bv1, hA1, ho1, fb1⟩
    have HA1 := hide hA1
    have HO1 := hide (And.intro ho1 fb1)
    have y0 := cell_at hA1.blk 0 rfl
    have yf := free_at hA1.blk
    have HF := hide (hA1.set (p' := { byteM p c with waits := 4 }) 0 (.int .i64 4) rfl rfl rfl rfl)
    clear hA1 ho1 fb1 HC
    cases b with
    | true =>
      have HV := hide (show Q = ({ byteM p c with waits := 4 }, none) by rw [HM.out, if_pos (of_decide_eq_true HBB.out)])
      go_wp2_with fail
      go_ret2
      exact ⟨by rw [HV.out]; rfl, by rw [HV.out]; exact ⟨tv, fv, bv1, HF.out, HO1.out.1.setCell B 0 _ (.inl (.inl rfl)), Fresh.refl _ _, Fresh.refl _ _, HO1.out.2⟩⟩
    | false =>
      have HV := hide (show Q = (byteM p c, none) by rw [HM.out, if_neg (of_decide_eq_false HBB.out)])
      go_wp2_with fail
      go_ret2
      exact ⟨by rw [HV.out]; rfl, by rw [HV.out]; exact ⟨tv, fv, bv1, HA1.out, HO1.out.1, Fresh.refl _ _, Fresh.refl _ _, HO1.out.2⟩⟩
  · have z0 : w.cell? ⟨B, 0, none⟩ = some (.int .i64 4) := by rw [hwk, h]; rfl
    have hM : Q = if c ≠ 13 then (p, some 400) else ({ p with waits := 5 }, none) := by rw [← hQ]; unfold takeM; simp only [h]
    by_cases hc : c = 13
    · subst hc
      have HC := hide (just_hit B p tv fv bv 13 5 w hA)
      have HV := hide (show Q = ({ p with waits := 5 }, none) by rw [hM, if_neg (by decide)])
      clear hwk hM hA hE hL hB h6 h hQ
      go_enter Tryz.func11, Tryz.ntmps11
      go_wp2_with fail
      refine HC.out.mono ?_
      rintro e w1 ⟨rfl, hA1, ho1⟩
      have HA1 := hide hA1
      have HO1 := hide ho1
      clear hA1 ho1 HC
      go_wp2_with fail
      go_ret2
      exact ⟨by rw [HV.out]; rfl, by rw [HV.out]; exact ⟨tv, fv, bv, HA1.out, HO1.out, Fresh.refl _ _, Fresh.refl _ _, Fresh.refl _ _⟩⟩
    · have HC := hide (just_miss B c 13 5 w hc)
      have HV := hide (show Q = (p, some 400) by rw [hM, if_pos hc])
      have HA := hide hA
      obtain ⟨x, hx⟩ : ∃ x, c.toNat = x := ⟨_, rfl⟩
      rw [hx] at HC ⊢
      clear hwk hM hA hE hL hB h6 h hQ hc hx
      go_enter Tryz.func11, Tryz.ntmps11
      go_wp2_with fail
      refine HC.out.mono ?_
      rintro e w1 ⟨rfl, rfl⟩
      clear HC
      go_wp2_with fail
      go_ret2
      exact ⟨by rw [HV.out]; rfl, by rw [HV.out]; exact ⟨tv, fv, bv, HA.out, OnlyS.refl _ _, Fresh.refl _ _, Fresh.refl _ _, Fresh.refl _ _⟩⟩
  · have z0 : w.cell? ⟨B, 0, none⟩ = some (.int .i64 5) := by rw [hwk, h]; rfl
    have hM : Q = if c ≠ 10 then (p, some 400) else ({ p with waits := 2 }, none) := by rw [← hQ]; unfold takeM; simp only [h]
    by_cases hc : c = 10
    · subst hc
      have HC := hide (just_hit B p tv fv bv 10 2 w hA)
      have HV := hide (show Q = ({ p with waits := 2 }, none) by rw [hM, if_neg (by decide)])
      clear hwk hM hA hE hL hB h6 h hQ
      go_enter Tryz.func11, Tryz.ntmps11
      go_wp2_with fail
      refine HC.out.mono ?_
      rintro e w1 ⟨rfl, hA1, ho1⟩
      have HA1 := hide hA1
      have HO1 := hide ho1
      clear hA1 ho1 HC
      go_wp2_with fail
      go_ret2
      exact ⟨by rw [HV.out]; rfl, by rw [HV.out]; exact ⟨tv, fv, bv, HA1.out, HO1.out, Fresh.refl _ _, Fresh.refl _ _, Fresh.refl _ _⟩⟩
    · have HC := hide (just_miss B c 10 2 w hc)
      have HV := hide (show Q = (p, some 400) by rw [hM, if_pos hc])
      have HA := hide hA
      obtain ⟨x, hx⟩ : ∃ x, c.toNat = x := ⟨_, rfl⟩
      rw [hx] at HC ⊢
      clear hwk hM hA hE hL hB h6 h hQ hc hx
      go_enter Tryz.func11, Tryz.ntmps11
      go_wp2_with fail
      refine HC.out.mono ?_
      rintro e w1 ⟨rfl, rfl⟩
      clear HC
      go_wp2_with fail
      go_ret2
      exact ⟨by rw [HV.out]; rfl, by rw [HV.out]; exact ⟨tv, fv, bv, HA.out, OnlyS.refl _ _, Fresh.refl _ _, Fresh.refl _ _, Fresh.refl _ _⟩⟩
  · have z0 : w.cell? ⟨B, 0, none⟩ = some (.int .i64 6) := by rw [hwk, h]; rfl
    have hM : tailM p c = Q := by rw [← hQ]; unfold takeM; simp only [h]
    have hC := tail_take B p tv fv bv c w hA hE hL hB
    rw [hM] at hC
    have HC := hide hC
    obtain ⟨x, hx⟩ : ∃ x, c.toNat = x := ⟨_, rfl⟩
    rw [hx] at HC ⊢
    obtain ⟨o, ho⟩ : ∃ o, Q.2 = o := ⟨_, rfl⟩
    rw [ho] at HC ⊢
    clear hwk hM hC hA hE hL hB h6 h hQ hx ho
    go_enter Tryz.func11, Tryz.ntmps11
    go_wp2_with fail
    refine HC.out.mono ?_
    rintro e w1 ⟨rfl, hl⟩
    have HL := hide hl
    clear hl HC
    cases o
    all_goals
      unfold resV
      go_wp2_with fail
      go_ret2
      exact ⟨rfl, HL.out⟩
end Go.Proofs.YtbiblaeocbcfhaaGreatDoor
