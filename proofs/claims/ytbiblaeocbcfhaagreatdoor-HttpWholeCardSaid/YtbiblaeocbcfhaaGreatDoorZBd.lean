/- http: what a reader keeps to, plain. -/
import Derived.Test.YtbiblaeocbcfhaaGreatDoorZNum
namespace Go.Proofs.YtbiblaeocbcfhaaGreatDoor
set_option linter.unusedVariables false
set_option linter.unusedSimpArgs false
set_option maxRecDepth 100000
theorem add_bd (p : PM) (c : UInt8) (h : Bd p) : (addM p c).1.line ≤ (addM p c).1.text.length ∧ (addM p c).1.text.length = p.text.length + 1 ∧ ((addM p c).1.line ≠ 0 → (addM p c).1.text[(addM p c).1.line - 1]? = some 10) ∧ (addM p c).1.now = p.now ∧ (addM p c).1.left = p.left ∧ (addM p c).1.waits = p.waits := by
  unfold addM
  split
  · refine ⟨?_, ?_, ?_, rfl, rfl, rfl⟩
    · show p.line ≤ (p.text ++ [c]).length
      have := h.line
      simp; omega
    · show (p.text ++ [c]).length = _
      simp
    · intro hl
      show (p.text ++ [c])[p.line - 1]? = some 10
      have := h.line
      have hl2 : p.line ≠ 0 := hl
      rw [List.getElem?_append_left (by omega)]
      exact h.lf hl
  · rename_i hc
    have hc2 : c = 10 := Decidable.not_not.1 hc
    subst hc2
    refine ⟨Nat.le_refl _, ?_, ?_, rfl, rfl, rfl⟩
    · show (p.text ++ [10]).length = _
      simp
    · intro _
      show (p.text ++ [10])[(p.text ++ [10]).length - 1]? = some 10
      simp
theorem lengthS_le (l : List (List UInt8)) : (lengthS l).1 ≤ 8192 := by
  unfold lengthS
  split
  · exact Nat.zero_le _
  · split
    · exact Nat.zero_le _
    · split
      · exact Nat.zero_le _
      · show _ ≤ 8192; omega
theorem frame_le (r : Rq) : (frameR r).2.1 ≤ 8192 := by
  unfold frameR
  split
  · exact Nat.zero_le _
  · split
    · exact lengthS_le _
    · split <;> exact Nat.zero_le _
theorem clear_bd (q : PM) (hw : q.waits ≤ 7) (hb : q.now.body.length ≤ 8192) (hl : q.waits = 1 ∨ q.waits = 3 → 1 ≤ q.left ∧ q.left + q.now.body.length ≤ 8192) : Bd (clearM q) :=
  ⟨Nat.zero_le _, by show 0 ≤ 4095; omega, fun h => absurd rfl h, hb, hl, hw⟩
theorem request_bd (p : PM) (l : List UInt8) (ht : p.text = []) (hln : p.line = 0) (h : (requestM p l).2 = none) : Bd (requestM p l).1 ∧ (requestM p l).1.waits ≤ 6 := by
  have hbody := headR_body l
  have hle := frame_le (headR l).1
  unfold requestM at h ⊢
  rcases hh : headR l with ⟨r, s⟩
  rw [hh] at hbody hle
  simp only [hh] at h ⊢
  by_cases hs : s ≠ 0
  · rw [if_pos hs] at h; cases h
  · rw [if_neg hs] at h ⊢
    rcases hf : frameR r with ⟨a, b, c⟩
    simp only [hf] at h hle ⊢
    by_cases h1 : c ≠ 0 ∨ (a = false ∧ b = 0)
    · rw [if_pos h1] at h; cases h
    · rw [if_neg h1]
      have hb0 : r.body = [] := hbody
      cases a with
      | true =>
        refine ⟨⟨by show p.line ≤ p.text.length; rw [hln]; exact Nat.zero_le _, by show p.text.length ≤ 4095; rw [ht]; exact Nat.zero_le _, fun e => absurd hln e, by show r.body.length ≤ 8192; rw [hb0]; exact Nat.zero_le _, fun e => (by rcases e with e | e <;> cases e), by show 2 ≤ 7; omega⟩, by show 2 ≤ 6; omega⟩
      | false =>
        have hb1 : b ≠ 0 := fun e => h1 (.inr ⟨rfl, e⟩)
        have hb2 : b ≤ 8192 := hle
        refine ⟨⟨by show p.line ≤ p.text.length; rw [hln]; exact Nat.zero_le _, by show p.text.length ≤ 4095; rw [ht]; exact Nat.zero_le _, fun e => absurd hln e, by show r.body.length ≤ 8192; rw [hb0]; exact Nat.zero_le _, fun _ => ?_, by show 1 ≤ 7; omega⟩, by show 1 ≤ 6; omega⟩
        show 1 ≤ (b : Int) ∧ (b : Int) + (r.body.length : Int) ≤ 8192
        rw [hb0]
        simp
        omega
theorem take_bd (p : PM) (c : UInt8) (h : Bd p) (hw : p.waits ≤ 6) (hn : (takeM p c).2 = none) : Bd (takeM p c).1 ∧ (takeM p c).1.waits ≤ 6 := by
  have ha := add_bd p c h
  obtain ⟨a1, a2, a3, a4, a5, a6⟩ := ha
  have hcase : p.waits = 0 ∨ p.waits = 1 ∨ p.waits = 2 ∨ p.waits = 3 ∨ p.waits = 4 ∨ p.waits = 5 ∨ p.waits = 6 := by omega
  have hbq : (addM p c).1.now.body.length ≤ 8192 := by rw [a4]; exact h.body
  unfold takeM at hn ⊢
  rcases hcase with e | e | e | e | e | e | e
  all_goals
    rw [e] at hn ⊢
    simp only [] at hn ⊢
  · unfold headM at hn ⊢
    rcases hq : addM p c with ⟨q, e1⟩
    rw [hq] at a1 a2 a3 a4 a5 a6 hbq
    simp only [hq] at hn ⊢
    have a6' : q.waits = 0 := a6.trans e
    by_cases h1 : e1 = true ∧ p.line ≠ 0
    · rw [if_pos h1] at hn ⊢
      exact request_bd _ _ rfl rfl hn
    · rw [if_neg h1] at hn ⊢
      by_cases h2 : e1 = true ∧ q.passed = false ∧ q.text.length = 2
      · rw [if_pos h2]
        have hc := clear_bd q (by omega) hbq (fun x => by rcases x with x | x <;> omega)
        exact ⟨⟨hc.line, hc.text, hc.lf, hc.body, hc.left, hc.waits⟩, by show q.waits ≤ 6; omega⟩
      · rw [if_neg h2] at hn ⊢
        by_cases h3 : 4096 ≤ q.text.length
        · rw [if_pos h3] at hn; cases hn
        · rw [if_neg h3]
          exact ⟨⟨a1, by show q.text.length ≤ 4095; omega, a3, hbq, fun x => by rcases x with x | x <;> (have : q.waits = _ := x; omega), by show q.waits ≤ 7; omega⟩, by show q.waits ≤ 6; omega⟩
  · by_cases h0 : (byteM p c).left = 0
    · rw [if_pos h0] at hn; cases hn
    · have hl := h.left (.inl e)
      have h1 : (byteM p c).left = p.left - 1 := rfl
      have h2 : (byteM p c).now.body.length = p.now.body.length + 1 := by show (p.now.body ++ [c]).length = _; simp
      refine ⟨⟨h.line, h.text, h.lf, by omega, fun _ => ⟨by omega, by rw [h1, h2]; omega⟩, h.waits⟩, by show p.waits ≤ 6; omega⟩
  · unfold numberM at hn ⊢
    simp only [] at hn ⊢
    generalize hq : (addM p c).1 = q at a1 a2 a3 a4 a5 a6 hbq hn ⊢
    have a6' : q.waits = 2 := a6.trans e
    by_cases hc : c ≠ 10
    · rw [if_pos hc] at hn ⊢
      by_cases h3 : 256 ≤ q.text.length
      · rw [if_pos h3] at hn; cases hn
      · rw [if_neg h3]
        exact ⟨⟨a1, by show q.text.length ≤ 4095; omega, a3, hbq, fun x => by rcases x with x | x <;> (have : q.waits = _ := x; omega), by show q.waits ≤ 7; omega⟩, by show q.waits ≤ 6; omega⟩
    · rw [if_neg hc] at hn ⊢
      cases hp : pieceL q.text with
      | none => rw [hp] at hn; cases hn
      | some n =>
        simp only [hp] at hn ⊢
        by_cases h4 : 8192 < q.now.body.length + n
        · rw [if_pos h4] at hn; cases hn
        · rw [if_neg h4] at hn ⊢
          by_cases h5 : n = 0
          · rw [if_pos h5]
            exact ⟨⟨Nat.zero_le _, by show 0 ≤ 4095; omega, fun x => absurd rfl x, hbq, fun x => (by rcases x with x | x <;> cases x), by show 6 ≤ 7; omega⟩, by show 6 ≤ 6; omega⟩
          · rw [if_neg h5]
            refine ⟨⟨Nat.zero_le _, by show 0 ≤ 4095; omega, fun x => absurd rfl x, hbq, fun _ => ?_, by show 3 ≤ 7; omega⟩, by show 3 ≤ 6; omega⟩
            show 1 ≤ (n : Int) ∧ (n : Int) + (q.now.body.length : Int) ≤ 8192
            omega
  · have hl := h.left (.inr e)
    have h1 : (byteM p c).left = p.left - 1 := rfl
    have h2 : (byteM p c).now.body.length = p.now.body.length + 1 := by show (p.now.body ++ [c]).length = _; simp
    by_cases h0 : (byteM p c).left = 0
    · rw [if_pos h0]
      exact ⟨⟨h.line, h.text, h.lf, by show (byteM p c).now.body.length ≤ 8192; omega, fun x => (by rcases x with x | x <;> cases x), by show 4 ≤ 7; omega⟩, by show 4 ≤ 6; omega⟩
    · rw [if_neg h0]
      exact ⟨⟨h.line, h.text, h.lf, by omega, fun _ => ⟨by omega, by rw [h1, h2]; omega⟩, h.waits⟩, by show p.waits ≤ 6; omega⟩
  · by_cases hc : c ≠ 13
    · rw [if_pos hc] at hn; cases hn
    · rw [if_neg hc]
      exact ⟨⟨h.line, h.text, h.lf, h.body, fun x => (by rcases x with x | x <;> cases x), by show 5 ≤ 7; omega⟩, by show 5 ≤ 6; omega⟩
  · by_cases hc : c ≠ 10
    · rw [if_pos hc] at hn; cases hn
    · rw [if_neg hc]
      exact ⟨⟨h.line, h.text, h.lf, h.body, fun x => (by rcases x with x | x <;> cases x), by show 2 ≤ 7; omega⟩, by show 2 ≤ 6; omega⟩
  · unfold tailM at hn ⊢
    rcases hq : addM p c with ⟨q, e1⟩
    rw [hq] at a1 a2 a3 a4 a5 a6 hbq
    simp only [hq] at hn ⊢
    have a6' : q.waits = 6 := a6.trans e
    by_cases h1 : e1 = true
    · rw [if_pos h1] at hn; cases hn
    · rw [if_neg h1] at hn ⊢
      by_cases h3 : 1024 ≤ q.text.length
      · rw [if_pos h3] at hn; cases hn
      · rw [if_neg h3]
        exact ⟨⟨a1, by show q.text.length ≤ 4095; omega, a3, hbq, fun x => by rcases x with x | x <;> (have : q.waits = _ := x; omega), by show q.waits ≤ 7; omega⟩, by show q.waits ≤ 6; omega⟩
theorem pm_bd (k : Nat) (hk : k = 0 ∨ k = 7) : Bd { pm0 with waits := k } := ⟨Nat.le_refl _, by show 0 ≤ 4095; omega, fun x => absurd rfl x, by show 0 ≤ 8192; omega, fun x => by rcases x with x | x <;> (have : k = _ := x; omega), by show k ≤ 7; omega⟩
theorem tell_bd (p : PM) (s : Nat) : Bd (tellM p s).1 := by
  unfold tellM
  refine pm_bd _ ?_
  generalize (if s = 0 then p.now else rq0).keep = b
  cases b
  · exact .inr rfl
  · exact .inl rfl
theorem step_bd (p : PM) (c : UInt8) (h : Bd p) : Bd (stepM p c).1 := by
  unfold stepM
  by_cases h7 : p.waits = 7
  · rw [if_pos h7]; exact h
  · rw [if_neg h7]
    rcases ht : takeM p c with ⟨q, o⟩
    cases o with
    | none =>
      have := take_bd p c h (by have := h.waits; omega) (by rw [ht])
      rw [ht] at this
      exact this.1
    | some s => exact tell_bd q s
end Go.Proofs.YtbiblaeocbcfhaaGreatDoor
