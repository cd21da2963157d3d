/- http: what is told has forty fields at most; plain. -/
import Derived.Test.YtbiblaeocbcfhaaGreatDoorZApp
namespace Go.Proofs.YtbiblaeocbcfhaaGreatDoor
set_option linter.unusedVariables false
set_option linter.unusedSimpArgs false
set_option maxRecDepth 100000
theorem headR_forty (l : List UInt8) : (headR l).1.fs.length ≤ 40 := by
  have hs : ∀ x, (startR x).1.fs.length ≤ 40 := fun x => by
    unfold startR
    split
    · exact Nat.zero_le _
    · split <;> exact Nat.zero_le _
  unfold headR
  split
  · exact Nat.zero_le _
  · rename_i h
    have h0 := hs ((textsL l).headD [])
    split
    split
    · exact Nat.zero_le _
    · split
      · exact Nat.zero_le _
      · split
        · exact Nat.zero_le _
        · split
          · exact Nat.zero_le _
          · dsimp only
            omega
theorem add_now (p : PM) (c : UInt8) : (addM p c).1.now = p.now := by unfold addM; split <;> rfl
theorem request_fs (p : PM) (l : List UInt8) (h : p.now.fs.length ≤ 40) : (requestM p l).1.now.fs.length ≤ 40 := by
  have hh := headR_forty l
  unfold requestM
  rcases hq : headR l with ⟨r, s⟩
  rw [hq] at hh
  simp only []
  split
  · exact h
  · rcases frameR r with ⟨a, b, c⟩
    simp only []
    split
    · exact hh
    · split <;> exact hh
theorem take_fs (p : PM) (c : UInt8) (h : p.now.fs.length ≤ 40) : (takeM p c).1.now.fs.length ≤ 40 := by
  have ha : (addM p c).1.now.fs.length ≤ 40 := by rw [add_now]; exact h
  unfold takeM
  split
  · unfold headM
    rcases hq : addM p c with ⟨q, e⟩
    rw [hq] at ha
    simp only []
    split
    · exact request_fs _ _ ha
    · split
      · exact ha
      · split <;> exact ha
  · exact h
  · unfold numberM
    simp only []
    split
    · split <;> exact ha
    · split
      · exact ha
      · split
        · exact ha
        · split <;> exact ha
  · show (if _ then _ else _ : PM).now.fs.length ≤ 40
    split <;> exact h
  · split <;> exact h
  · split <;> exact h
  · unfold tailM
    rcases hq : addM p c with ⟨q, e⟩
    rw [hq] at ha
    simp only []
    split
    · exact ha
    · split <;> exact ha
theorem tell_fs (p : PM) (s : Nat) (h : p.now.fs.length ≤ 40) : (tellM p s).2.rq.fs.length ≤ 40 := by
  unfold tellM
  show (if s = 0 then p.now else rq0).fs.length ≤ 40
  split
  · exact h
  · exact Nat.zero_le _
theorem feed_fs : ∀ (l : List UInt8) (p : PM), p.now.fs.length ≤ 40 → ∀ t ∈ (feedM p l).2, t.rq.fs.length ≤ 40
  | [], p, h => fun t ht => by simp [feedM] at ht
  | c :: r, p, h => by
    intro t ht
    rw [feedM] at ht
    have hT := take_fs p c h
    by_cases h7 : p.waits = 7
    · have hs : stepM p c = (p, []) := by unfold stepM; rw [if_pos h7]
      rw [hs] at ht
      exact feed_fs r p h t (by simpa using ht)
    · obtain ⟨q, o, ho⟩ : ∃ q o, takeM p c = (q, o) := ⟨_, _, rfl⟩
      rw [ho] at hT
      cases o with
      | none =>
        rw [step_none h7 ho] at ht
        exact feed_fs r q hT t (by simpa using ht)
      | some s =>
        rw [step_some h7 ho] at ht
        have ht2 : t = (tellM q s).2 ∨ t ∈ (feedM (tellM q s).1 r).2 := by simpa using ht
        rcases ht2 with e | e
        · rw [e]; exact tell_fs q s hT
        · exact feed_fs r _ (by show rq0.fs.length ≤ 40; exact Nat.zero_le _) t e
end Go.Proofs.YtbiblaeocbcfhaaGreatDoor
