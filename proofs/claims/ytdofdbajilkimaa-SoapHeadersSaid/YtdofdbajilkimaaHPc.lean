/- Cuts at one byte, plain. -/
import Derived.Lib.IndexMore
import Derived.Lib.IndexBytes
import Derived.Lib.Strings
namespace Go.Proofs.Ytdofdbajilkimaa
set_option linter.unusedVariables false
theorem cut_none (l : List UInt8) (c : UInt8) (h : ∀ x ∈ l, x ≠ c) : Lib.cut l [c] = (l, [], false) := by
  unfold Lib.cut
  rw [Lib.index_one]
  have e : Lib.indexByte l c = -1 := by
    rcases Int.lt_or_le (Lib.indexByte l c) 0 with h1 | h1
    · have := Lib.index_ge l [c]
      rw [Lib.index_one] at this
      omega
    · obtain ⟨o, ho⟩ := Int.eq_ofNat_of_zero_le h1
      exact absurd rfl (h c (List.mem_of_getElem? (Lib.indexByte_some ho).1))
  rw [e]; rfl
theorem cut_some (a b : List UInt8) (c : UInt8) (h : ∀ x ∈ a, x ≠ c) : Lib.cut (a ++ c :: b) [c] = (a, b, true) := by
  unfold Lib.cut
  rw [Lib.index_one]
  have e : Lib.indexByte (a ++ c :: b) c = (a.length : Int) := by
    rcases Int.lt_or_le (Lib.indexByte (a ++ c :: b) c) 0 with h1 | h1
    · have h2 := Lib.index_ge (a ++ c :: b) [c]
      rw [Lib.index_one] at h2
      have h3 : Lib.indexByte (a ++ c :: b) c = -1 := by omega
      exact absurd (by simp) (Lib.indexByte_none h3 a.length)
    · obtain ⟨o, ho⟩ := Int.eq_ofNat_of_zero_le h1
      obtain ⟨h2, h3⟩ := Lib.indexByte_some ho
      rcases Nat.lt_trichotomy o a.length with h4 | h4 | h4
      · rw [List.getElem?_append_left h4] at h2
        exact absurd rfl (h c (List.mem_of_getElem? h2))
      · rw [ho, h4]
      · exact absurd (by simp) (h3 a.length h4)
  rw [e, if_pos (by omega)]
  simp
theorem first_of : ∀ (l : List UInt8) (c : UInt8), c ∈ l → ∃ a b, l = a ++ c :: b ∧ ∀ x ∈ a, x ≠ c
  | [], c, h => by simp at h
  | y :: r, c, h => by
    by_cases e : y = c
    · exact ⟨[], r, by rw [e]; rfl, by simp⟩
    · obtain ⟨a, b, e2, hn⟩ := first_of r c (by rcases List.mem_cons.1 h with h | h; exact absurd h.symm e; exact h)
      exact ⟨y :: a, b, by rw [e2]; rfl, fun x hx => by rcases List.mem_cons.1 hx with h | h; exact h ▸ e; exact hn x h⟩
theorem cut_two (l : List UInt8) (c : UInt8) : ((∀ x ∈ l, x ≠ c) ∧ Lib.cut l [c] = (l, [], false)) ∨ ∃ a b, l = a ++ c :: b ∧ (∀ x ∈ a, x ≠ c) ∧ Lib.cut l [c] = (a, b, true) := by
  by_cases h : c ∈ l
  · obtain ⟨a, b, e, hn⟩ := first_of l c h
    exact .inr ⟨a, b, e, hn, e ▸ cut_some a b c hn⟩
  · exact .inl ⟨fun x hx e => h (e ▸ hx), cut_none l c fun x hx e => h (e ▸ hx)⟩
end Go.Proofs.Ytdofdbajilkimaa
