/- soap: the document's parts: what the loop has seen, plain. -/
import Derived.Test.YtdofdbajilkimaaVHd
namespace Go.Proofs.Ytdofdbajilkimaa
set_option linter.unusedVariables false
theorem at_hit (l : List UInt8) : ∀ i, (∃ j, j < i ∧ l[j]? = some 35) → l[atL l i]? = some 35 ∧ atL l i < i
  | 0, h => by obtain ⟨j, h, _⟩ := h; omega
  | i + 1, h => by
    rw [atL]
    by_cases e : l[i]? = some 35
    · rw [if_pos e]; exact ⟨e, by omega⟩
    · rw [if_neg e]
      obtain ⟨j, h1, h2⟩ := h
      have hj : j ≠ i := fun x => e (x ▸ h2)
      obtain ⟨g1, g2⟩ := at_hit l i ⟨j, by omega, h2⟩
      exact ⟨g1, by omega⟩
theorem count_succ (l : List UInt8) (j : Nat) (c d : UInt8) (h : l[j]? = some c) : (l.take (j + 1)).count d = (l.take j).count d + if c = d then 1 else 0 := by
  rw [List.take_add_one, h, Option.toList_some, List.count_append]
  by_cases e : c = d
  · rw [if_pos e]; simp [e]
  · rw [if_neg e]; simp [e]
/-- Where the parts are: the place of the # lies between. -/
theorem hd_between (l : List UInt8) (h1 : l.count 35 = 1) (h2 : l[0]? = some 34) (h3 : l[l.length - 1]? = some 34) (h4 : atL l l.length ≠ 1) (h5 : atL l l.length ≠ l.length - 2) : 2 ≤ atL l l.length ∧ atL l l.length + 2 < l.length := by
  have hm : (35 : UInt8) ∈ l := List.count_pos_iff.1 (by omega)
  obtain ⟨i, hi⟩ := List.mem_iff_getElem?.1 hm
  have hi2 : i < l.length := (List.getElem?_eq_some_iff.1 hi).1
  obtain ⟨g1, g2⟩ := at_hit l l.length ⟨i, hi2, hi⟩
  generalize atL l l.length = t at *
  have n0 : t ≠ 0 := by rintro rfl; rw [h2] at g1; cases g1
  have n1 : t ≠ l.length - 1 := by rintro rfl; rw [h3] at g1; cases g1
  omega
end Go.Proofs.Ytdofdbajilkimaa
