/- http: a head's first line. -/
import Derived.Test.YtbiblaeocbcfhaaGreatDoorZPart
import Derived.Test.YtbiblaeocbcfhaaGreatDoorZTxt
import Derived.Test.YtbiblaeocbcfhaaGreatDoorHStart
namespace Go.Proofs.YtbiblaeocbcfhaaGreatDoor
open Go.RowKit Go.Deep
set_option linter.unusedVariables false
set_option linter.unusedSimpArgs false
set_option maxRecDepth 100000
theorem eqb (m X : List UInt8) : ((bs m).toList == X) = decide (m = X) := by
  rw [Lib.toList_data, bs_data]
  by_cases h : m = X
  · subst h; simp
  · rw [decide_eq_false h, beq_eq_false_iff_ne]; exact h
set_option maxHeartbeats 2000000 in
theorem readStart_any (x : List UInt8) (w : World) (hE : Env w) (hx : x.length ≤ 5000) :
    Calls Tryz.prog 30 #[.string (bs x)] w fun e w' => e = .returned (.tuple #[.agg (rqc (startR x).1 (.slice none 0 0) (.slice none 0 0)), .int .i64 ((startR x).2 : Int)]) ∧ Below w.heap.size w w' := by
  have hal := (Below.refl w.heap.size w).alloc (Nat.le_refl _) (.cells #[.string ⟨#[]⟩, .string ⟨#[]⟩, .int .i64 0, .slice none 0 0, .slice none 0 0, .bool false] 31)
  have hnew := heap_alloc_new w (.cells #[.string ⟨#[]⟩, .string ⟨#[]⟩, .int .i64 0, .slice none 0 0, .slice none 0 0, .bool false] 31)
  obtain ⟨W, hW⟩ : ∃ W, w.alloc (.cells #[.string ⟨#[]⟩, .string ⟨#[]⟩, .int .i64 0, .slice none 0 0, .slice none 0 0, .bool false] 31) = W := ⟨_, rfl⟩
  obtain ⟨S, hS⟩ : ∃ S, w.heap.size = S := ⟨_, rfl⟩
  rw [hW] at hal hnew
  rw [hS] at hnew
  have hC := start_any (bs x) W (by rw [bs_len]; omega) (hE.below hal (Nat.le_refl _))
  rw [bs_data] at hC
  have HC := hide hC
  have HW := hide (And.intro hW hS)
  have HA := hide (And.intro hal hnew)
  obtain ⟨X, hX⟩ : ∃ X, bs x = X := ⟨_, rfl⟩
  rw [hX] at HC ⊢
  clear hC hX hW hS hal hnew hE hx
  cases hst : startL x with
  | none =>
    have HR := hide (show startR x = (rq0, 400) by unfold startR; rw [hst])
    rw [hst] at HC
    unfold startV at HC
    clear hst
    go_enter Tryz.func30, Tryz.ntmps30
    go_wp2_with fail
    rw [HW.out.1]
    rw [HW.out.2]
    (with_reducible refine HC.out.mono ?_)
    rintro e w1 ⟨rfl, b1⟩
    have hs2 := below_block b1 HA.out.2 (Nat.le_refl _)
    have k0 := cell_at hs2 0 rfl
    have k1 := cell_at hs2 1 rfl
    have k2 := cell_at hs2 2 rfl
    have k3 := cell_at hs2 3 rfl
    have k4 := cell_at hs2 4 rfl
    have k5 := cell_at hs2 5 rfl
    have kf := free_at hs2
    have HFIN := hide (six_set hs2 (.string ⟨#[]⟩) (.string ⟨#[]⟩) (.int .i64 0) (.slice none 0 0) (.slice none 0 0) (.bool false) (HA.out.1.trans (b1.mono HA.out.1.size)) (by have := HW.out.2; omega))
    clear hs2 b1 HC
    go_wp2_with fail
    exact bodyPost_ret (v := .tuple #[.agg (rqc (startR x).1 (.slice none 0 0) (.slice none 0 0)), .int .i64 ((startR x).2 : Int)]) (by rw [HR.out]; exact results_cell_tmp Tryz.results30 _ _ S 31 _ (0, 0) _ rfl HFIN.out.1 Tryz.underlying31 rfl (by kernel_rfl) _ rfl) rfl ⟨rfl, HFIN.out.2⟩
  | some r =>
    obtain ⟨m, t, n⟩ := r
    rw [hst] at HC
    unfold startV at HC
    have hR : startR x = if m = GET ∨ m = HEAD ∨ m = POST ∨ m = SUBS ∨ m = UNSUBS then (⟨m, t, n, [], [], false⟩, 0) else (rq0, 501) := by unfold startR; rw [hst]
    have e1 := eqb m [71, 69, 84]
    have e2 := eqb m [72, 69, 65, 68]
    have e3 := eqb m [80, 79, 83, 84]
    have e4 := eqb m [83, 85, 66, 83, 67, 82, 73, 66, 69]
    have e5 := eqb m [85, 78, 83, 85, 66, 83, 67, 82, 73, 66, 69]
    by_cases hg : m = GET ∨ m = HEAD ∨ m = POST ∨ m = SUBS ∨ m = UNSUBS
    · rw [if_pos hg] at hR
      have HR := hide hR
      obtain ⟨M, hM⟩ : ∃ M, bs m = M := ⟨_, rfl⟩
      obtain ⟨T, hT⟩ : ∃ M, bs t = M := ⟨_, rfl⟩
      have HC : Hid (Calls Tryz.prog 41 #[.string X] W fun e w' => e = .returned (.tuple #[.string M, .string T, .int .i64 (n : Int), .bool true]) ∧ Below W.heap.size W w') := by rw [← hM, ← hT]; exact HC
      rw [hM] at e1 e2 e3 e4 e5
      have HMT := hide (And.intro hM hT)
      obtain ⟨b1, hb1⟩ : ∃ b, decide (m = [71, 69, 84]) = b := ⟨_, rfl⟩
      obtain ⟨b2, hb2⟩ : ∃ b, decide (m = [72, 69, 65, 68]) = b := ⟨_, rfl⟩
      obtain ⟨b3, hb3⟩ : ∃ b, decide (m = [80, 79, 83, 84]) = b := ⟨_, rfl⟩
      obtain ⟨b4, hb4⟩ : ∃ b, decide (m = [83, 85, 66, 83, 67, 82, 73, 66, 69]) = b := ⟨_, rfl⟩
      obtain ⟨b5, hb5⟩ : ∃ b, decide (m = [85, 78, 83, 85, 66, 83, 67, 82, 73, 66, 69]) = b := ⟨_, rfl⟩
      have hor : (b1 || b2 || b3 || b4 || b5) = true := by
        rw [← hb1, ← hb2, ← hb3, ← hb4, ← hb5]
        rcases hg with h | h | h | h | h <;> simp [show m = _ from h, GET, HEAD, POST, SUBS, UNSUBS]
      rw [hb1] at e1
      rw [hb2] at e2
      rw [hb3] at e3
      rw [hb4] at e4
      rw [hb5] at e5
      clear hst hR hg hM hT hb1 hb2 hb3 hb4 hb5
      go_enter Tryz.func30, Tryz.ntmps30
      go_wp2_with fail
      rw [HW.out.1]
      rw [HW.out.2]
      (with_reducible refine HC.out.mono ?_)
      rintro e w1 ⟨rfl, b1'⟩
      have hs2 := below_block b1' HA.out.2 (Nat.le_refl _)
      have k0 := cell_at hs2 0 rfl
      have k1 := cell_at hs2 1 rfl
      have k2 := cell_at hs2 2 rfl
      have k3 := cell_at hs2 3 rfl
      have k4 := cell_at hs2 4 rfl
      have k5 := cell_at hs2 5 rfl
      have kf := free_at hs2
      have HFIN := hide (six_set hs2 (.string M) (.string T) (.int .i64 (n : Int)) (.slice none 0 0) (.slice none 0 0) (.bool false) (HA.out.1.trans (b1'.mono HA.out.1.size)) (by have := HW.out.2; omega))
      clear hs2 b1' HC
      cases b1 <;> cases b2 <;> cases b3 <;> cases b4 <;> cases b5 <;> first | (exfalso; revert hor; decide) | skip
      all_goals
        clear hor
        go_wp2_with fail
        exact bodyPost_ret (v := .tuple #[.agg (rqc (startR x).1 (.slice none 0 0) (.slice none 0 0)), .int .i64 ((startR x).2 : Int)]) (by rw [HR.out]; unfold rqc; rw [HMT.out.1, HMT.out.2]; exact results_cell_tmp Tryz.results30 _ _ S 31 _ (0, 0) _ rfl HFIN.out.1 Tryz.underlying31 rfl (by kernel_rfl) _ rfl) rfl ⟨rfl, HFIN.out.2⟩
    · rw [if_neg hg] at hR
      have HR := hide hR
      rw [decide_eq_false (show ¬ m = [71, 69, 84] from fun h => hg (.inl h))] at e1
      rw [decide_eq_false (show ¬ m = [72, 69, 65, 68] from fun h => hg (.inr (.inl h)))] at e2
      rw [decide_eq_false (show ¬ m = [80, 79, 83, 84] from fun h => hg (.inr (.inr (.inl h))))] at e3
      rw [decide_eq_false (show ¬ m = [83, 85, 66, 83, 67, 82, 73, 66, 69] from fun h => hg (.inr (.inr (.inr (.inl h)))))] at e4
      rw [decide_eq_false (show ¬ m = [85, 78, 83, 85, 66, 83, 67, 82, 73, 66, 69] from fun h => hg (.inr (.inr (.inr (.inr h)))))] at e5
      obtain ⟨M, hM⟩ : ∃ M, bs m = M := ⟨_, rfl⟩
      obtain ⟨T, hT⟩ : ∃ M, bs t = M := ⟨_, rfl⟩
      have HC : Hid (Calls Tryz.prog 41 #[.string X] W fun e w' => e = .returned (.tuple #[.string M, .string T, .int .i64 (n : Int), .bool true]) ∧ Below W.heap.size W w') := by rw [← hM, ← hT]; exact HC
      rw [hM] at e1 e2 e3 e4 e5
      obtain ⟨nn, hnn⟩ : ∃ z : Int, (n : Int) = z := ⟨_, rfl⟩
      rw [hnn] at HC
      clear hst hR hg hM hT hnn
      go_enter Tryz.func30, Tryz.ntmps30
      go_wp2_with fail
      rw [HW.out.1]
      rw [HW.out.2]
      (with_reducible refine HC.out.mono ?_)
      rintro e w1 ⟨rfl, b1⟩
      have hs2 := below_block b1 HA.out.2 (Nat.le_refl _)
      have k0 := cell_at hs2 0 rfl
      have k1 := cell_at hs2 1 rfl
      have k2 := cell_at hs2 2 rfl
      have k3 := cell_at hs2 3 rfl
      have k4 := cell_at hs2 4 rfl
      have k5 := cell_at hs2 5 rfl
      have kf := free_at hs2
      have HFIN := hide (six_set hs2 (.string ⟨#[]⟩) (.string ⟨#[]⟩) (.int .i64 0) (.slice none 0 0) (.slice none 0 0) (.bool false) (HA.out.1.trans (b1.mono HA.out.1.size)) (by have := HW.out.2; omega))
      clear hs2 b1 HC
      go_wp2_with fail
      exact bodyPost_ret (v := .tuple #[.agg (rqc (startR x).1 (.slice none 0 0) (.slice none 0 0)), .int .i64 ((startR x).2 : Int)]) (by rw [HR.out]; exact results_cell_tmp Tryz.results30 _ _ S 31 _ (0, 0) _ rfl HFIN.out.1 Tryz.underlying31 rfl (by kernel_rfl) _ rfl) rfl ⟨rfl, HFIN.out.2⟩
end Go.Proofs.YtbiblaeocbcfhaaGreatDoor
