/- soap: the parts of a SOAPACTION, plain. -/
import Derived.Test.YtdofdbajilkimaaHPc
namespace Go.Proofs.Ytdofdbajilkimaa
set_option linter.unusedVariables false
set_option linter.unusedSimpArgs false
/-- The last place below i where a # stands. -/
def atL (l : List UInt8) : Nat → Nat
  | 0 => 0
  | i + 1 => if l[i]? = some 35 then i else atL l i
/-- The document's parts. -/
def hdL (l : List UInt8) : Option (List UInt8 × List UInt8) :=
  if l.length < 2 ∨ l[0]? ≠ some 34 ∨ l[l.length - 1]? ≠ some 34 ∨ l.count 35 ≠ 1 ∨ l.count 34 ≠ 2 ∨ atL l l.length = 1 ∨ atL l l.length = l.length - 2 then none
  else some ((l.take (atL l l.length)).drop 1, (l.take (l.length - 1)).drop (atL l l.length + 1))
/-- The program's parts. -/
def hdP (l : List UInt8) : Option (List UInt8 × List UInt8) :=
  let s1 := Lib.trimPrefix l [34]
  let s2 := Lib.trimSuffix s1 [34]
  let c := Lib.cut s2 [35]
  if Lib.hasPrefix l [34] = false ∨ Lib.hasSuffix s1 [34] = false ∨ c.1 = [] ∨ c.2.1 = [] ∨ 0 ≤ Lib.indexByte s2 34 ∨ 0 ≤ Lib.indexByte c.2.1 35 then none
  else some (c.1, c.2.1)
theorem ib_mem (l : List UInt8) (c : UInt8) : 0 ≤ Lib.indexByte l c ↔ c ∈ l := by
  constructor
  · intro h
    obtain ⟨o, ho⟩ := Int.eq_ofNat_of_zero_le h
    exact List.mem_of_getElem? (Lib.indexByte_some ho).1
  · intro h
    rcases Int.lt_or_le (Lib.indexByte l c) 0 with h1 | h1
    · have h2 := Lib.index_ge l [c]
      rw [Lib.index_one] at h2
      have h3 : Lib.indexByte l c = -1 := by omega
      obtain ⟨i, hi⟩ := List.mem_iff_getElem?.1 h
      exact absurd hi (Lib.indexByte_none h3 i)
    · exact h1
theorem at_none (l : List UInt8) : ∀ i, (∀ j, j < i → l[j]? ≠ some 35) → atL l i = 0
  | 0, _ => rfl
  | i + 1, h => by rw [atL, if_neg (h i (by omega))]; exact at_none l i fun j hj => h j (by omega)
theorem at_one (l : List UInt8) (k : Nat) (hk : l[k]? = some 35) : ∀ i, k < i → (∀ j, k < j → j < i → l[j]? ≠ some 35) → atL l i = k
  | 0, h, _ => by omega
  | i + 1, h, hn => by
    rw [atL]
    by_cases e : i = k
    · subst e; rw [if_pos hk]
    · rw [if_neg (hn i (by omega) (by omega))]; exact at_one l k hk i (by omega) fun j h1 h2 => hn j h1 (by omega)
theorem at_le (l : List UInt8) : ∀ i, atL l i ≤ i
  | 0 => Nat.le_refl 0
  | i + 1 => by rw [atL]; split; omega; have := at_le l i; omega
theorem hd_same (l : List UInt8) : hdP l = hdL l := by
  match l with
  | [] => rfl
  | c :: r =>
    by_cases hc : c = 34
    · subst hc
      rcases List.eq_nil_or_concat r with rfl | ⟨m, d, rfl⟩
      · rfl
      · rw [List.concat_eq_append]
        by_cases hd : d = 34
        · subst hd
          have p1 : Lib.hasPrefix (34 :: (m ++ [34])) [34] = true := by simp [Lib.hasPrefix]
          have p2 : Lib.trimPrefix (34 :: (m ++ [34])) [34] = m ++ [34] := by unfold Lib.trimPrefix; rw [p1]; rfl
          have p3 : Lib.hasSuffix (m ++ [34]) [34] = true := by simp [Lib.hasSuffix]
          have p4 : Lib.trimSuffix (m ++ [34]) [34] = m := by unfold Lib.trimSuffix; rw [p3]; simp
          have q1 : (34 :: (m ++ [34])).length = m.length + 2 := by simp
          have q2 : (34 :: (m ++ [34] : List UInt8))[m.length + 2 - 1]? = some 34 := by
            rw [show m.length + 2 - 1 = m.length + 1 by omega, List.getElem?_cons_succ]; simp
          have q3 : (34 :: (m ++ [34] : List UInt8)).count 35 = m.count 35 := by simp
          have q4 : (34 :: (m ++ [34] : List UInt8)).count 34 = m.count 34 + 2 := by simp
          unfold hdP hdL
          simp only [p2, p4]
          rw [p1, p3, q1, q2, q3, q4]
          rcases cut_two m 35 with ⟨hn, e⟩ | ⟨a, b, rfl, hn, e⟩
          · rw [e, if_pos (by simp), if_pos]
            have : m.count 35 = 0 := List.count_eq_zero.2 fun h => hn 35 h rfl
            rw [this]; simp
          · rw [e]
            have hlen : (a ++ 35 :: b).length = a.length + (b.length + 1) := by simp
            have ga : List.count 35 (a ++ 35 :: b) = 1 + List.count 35 b := by
              rw [List.count_append, List.count_eq_zero.2 fun h => hn 35 h rfl]; simp; omega
            by_cases hb : (35 : UInt8) ∈ b
            · rw [if_pos (by rw [ib_mem, ib_mem]; simp [hb]), if_pos]
              have : 0 < List.count 35 b := List.count_pos_iff.2 hb
              rw [ga]; simp; omega
            · have h0 : List.count 35 b = 0 := List.count_eq_zero.2 hb
              by_cases hq : (34 : UInt8) ∈ a ++ 35 :: b
              · rw [if_pos (by rw [ib_mem, ib_mem]; exact .inr (.inr (.inr (.inr (.inl hq))))), if_pos]
                have : 0 < List.count 34 (a ++ 35 :: b) := List.count_pos_iff.2 hq
                omega
              · have h4 : List.count 34 (a ++ 35 :: b) = 0 := List.count_eq_zero.2 hq
                have hat : atL (34 :: (a ++ 35 :: b ++ [34])) ((a ++ 35 :: b).length + 2) = a.length + 1 := by
                  refine at_one _ _ (by simp) _ (by omega) fun j h1 h2 => ?_
                  obtain ⟨k, rfl⟩ : ∃ k, j = a.length + 1 + 1 + k := ⟨j - (a.length + 2), by omega⟩
                  rw [show a.length + 1 + 1 + k = (a.length + (k + 1)) + 1 by omega, List.getElem?_cons_succ, List.append_assoc, List.getElem?_append_right (by omega), Nat.add_sub_cancel_left, List.cons_append, List.getElem?_cons_succ]
                  intro h
                  have hm := List.mem_of_getElem? h
                  rw [List.mem_append] at hm
                  rcases hm with hm | hm
                  · exact hb hm
                  · simp at hm
                rw [hat]
                by_cases ha : a = []
                · subst ha; rw [if_pos (by simp), if_pos (by simp)]
                · by_cases hbe : b = []
                  · subst hbe; rw [if_pos (by simp), if_pos (by simp)]
                  · have ha' : a.length ≠ 0 := fun h => ha (List.eq_nil_of_length_eq_zero h)
                    have hb' : b.length ≠ 0 := fun h => hbe (List.eq_nil_of_length_eq_zero h)
                    rw [if_neg (by rw [ib_mem, ib_mem]; rintro (h | h | h | h | h | h) <;> first | exact absurd h (by decide) | exact ha h | exact hbe h | exact hq h | exact hb h), if_neg (by
                      rw [ga, h0, h4]; rintro (h | h | h | h | h | h | h) <;> first | omega | exact h rfl)]
                    have t1 : ((34 :: (a ++ 35 :: b ++ [34])).take (a.length + 1)).drop 1 = a := by simp
                    have t2 : ((34 :: (a ++ 35 :: b ++ [34])).take ((a ++ 35 :: b).length + 2 - 1)).drop (a.length + 1 + 1) = b := by
                      rw [show (a ++ 35 :: b).length + 2 - 1 = (34 :: (a ++ 35 :: b)).length by simp, show (34 :: (a ++ 35 :: b ++ [34]) : List UInt8) = (34 :: (a ++ 35 :: b)) ++ [34] by simp, List.take_left' rfl]
                      simp
                    rw [t1, t2]
        · unfold hdP hdL
          have p1 : Lib.hasPrefix (34 :: (m ++ [d])) [34] = true := by simp [Lib.hasPrefix]
          have p2 : Lib.trimPrefix (34 :: (m ++ [d])) [34] = m ++ [d] := by unfold Lib.trimPrefix; rw [p1]; rfl
          have p3 : Lib.hasSuffix (m ++ [d]) [34] = false := by
            have : ¬ ([34] <:+ m ++ [d]) := by
              rintro ⟨t, ht⟩
              have := List.append_inj_right' ht rfl
              exact hd (by simpa using this.symm)
            unfold Lib.hasSuffix
            rw [← Bool.not_eq_true]
            simpa using this
          simp only [p2]
          rw [p3, if_pos (by simp), if_pos]
          refine .inr (.inr (.inl ?_))
          rw [show (34 :: (m ++ [d])).length - 1 = m.length + 1 by simp, List.getElem?_cons_succ]
          simpa using hd
    · unfold hdP hdL
      have p1 : Lib.hasPrefix (c :: r) [34] = false := by simp only [Lib.hasPrefix, List.isPrefixOf, Bool.and_true]; exact beq_eq_false_iff_ne.2 fun h => hc h.symm
      simp only [p1]
      rw [if_pos (by simp), if_pos]
      refine .inr (.inl ?_)
      simpa using hc
end Go.Proofs.Ytdofdbajilkimaa
