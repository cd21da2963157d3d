/- Lists of keys with values of any kinds, in order; trees of them. -/
import Derived.Test.YtdjkoomgapflcaaPlain
import Derived.Deep.Trees
namespace Go.Proofs.Ytdjkoomgapflcaa
open Go.Deep
set_option linter.unusedVariables false
section
variable {κ ν : Type}
/-- Keys rising by a measure of theirs. -/
def Asc (τ : κ → Int) (L : List (κ × ν)) : Prop := L.Pairwise fun a b => τ a.1 < τ b.1
theorem asc_mid {τ : κ → Int} {l r : List (κ × ν)} {a : κ × ν} : Asc τ (l ++ a :: r) ↔ Asc τ l ∧ Asc τ r ∧ (∀ x ∈ l, τ x.1 < τ a.1) ∧ (∀ x ∈ r, τ a.1 < τ x.1) := by
  unfold Asc
  rw [List.pairwise_append, List.pairwise_cons]
  constructor
  · rintro ⟨h1, ⟨h2, h3⟩, h4⟩
    exact ⟨h1, h3, fun x hx => h4 x hx a (by simp), h2⟩
  · rintro ⟨h1, h2, h3, h4⟩
    refine ⟨h1, ⟨h4, h2⟩, fun x hx y hy => ?_⟩
    rcases List.mem_cons.1 hy with rfl | hy
    · exact h3 x hx
    · have := h3 x hx
      have := h4 y hy
      omega
def insL (τ : κ → Int) (k : κ) (v : ν) : List (κ × ν) → List (κ × ν)
  | [] => [(k, v)]
  | x :: xs => if τ k < τ x.1 then (k, v) :: x :: xs else if τ k = τ x.1 then (x.1, v) :: xs else x :: insL τ k v xs
theorem ins_left {τ : κ → Int} {k : κ} {v : ν} {a : κ × ν} {r : List (κ × ν)} (h : τ k < τ a.1) : ∀ l : List (κ × ν), insL τ k v (l ++ a :: r) = insL τ k v l ++ a :: r
  | [] => by simp [insL, h]
  | x :: l => by
    rw [List.cons_append, insL, insL, ins_left h l]
    split
    · rfl
    · split <;> rfl
theorem ins_right {τ : κ → Int} {k : κ} {v : ν} {a : κ × ν} {r : List (κ × ν)} (h : τ a.1 < τ k) : ∀ l : List (κ × ν), (∀ x ∈ l, τ x.1 < τ a.1) → insL τ k v (l ++ a :: r) = l ++ a :: insL τ k v r
  | [], _ => by
    rw [List.nil_append, insL, if_neg (by omega), if_neg (by omega)]; rfl
  | x :: l, hl => by
    have hx := hl x (by simp)
    rw [List.cons_append, insL, if_neg (by omega), if_neg (by omega), ins_right h l (fun y hy => hl y (by simp [hy]))]
    rfl
theorem ins_here {τ : κ → Int} {k : κ} {v : ν} {a : κ × ν} {r : List (κ × ν)} (h : τ k = τ a.1) : ∀ l : List (κ × ν), (∀ x ∈ l, τ x.1 < τ a.1) → insL τ k v (l ++ a :: r) = l ++ (a.1, v) :: r
  | [], _ => by
    rw [List.nil_append, insL, if_neg (by omega), if_pos h]; rfl
  | x :: l, hl => by
    have hx := hl x (by simp)
    rw [List.cons_append, insL, if_neg (by omega), if_neg (by omega), ins_here h l (fun y hy => hl y (by simp [hy]))]
    rfl
theorem ins_mem {τ : κ → Int} {k : κ} {v : ν} : ∀ {L : List (κ × ν)} {x : κ × ν}, x ∈ insL τ k v L → τ x.1 = τ k ∨ x ∈ L
  | [], x, h => by
    rw [insL, List.mem_singleton] at h
    subst h; exact .inl rfl
  | y :: L, x, h => by
    rw [insL] at h
    split at h
    · rcases List.mem_cons.1 h with rfl | h
      · exact .inl rfl
      · exact .inr h
    · split at h
      · rcases List.mem_cons.1 h with rfl | h
        · rename_i h1 h2; exact .inl h2.symm
        · exact .inr (List.mem_cons_of_mem _ h)
      · rcases List.mem_cons.1 h with rfl | h
        · exact .inr (by simp)
        · rcases ins_mem h with h | h
          · exact .inl h
          · exact .inr (List.mem_cons_of_mem _ h)
theorem ins_asc {τ : κ → Int} {k : κ} {v : ν} : ∀ {L : List (κ × ν)}, Asc τ L → Asc τ (insL τ k v L)
  | [], _ => by simp [insL, Asc]
  | y :: L, h => by
    have h' := List.pairwise_cons.1 h
    rw [insL]
    split
    · rename_i hk
      refine List.pairwise_cons.2 ⟨fun x hx => ?_, h⟩
      rcases List.mem_cons.1 hx with rfl | hx
      · exact hk
      · have := h'.1 x hx
        show τ k < τ x.1
        omega
    · split
      · exact List.pairwise_cons.2 ⟨h'.1, h'.2⟩
      · refine List.pairwise_cons.2 ⟨fun x hx => ?_, ins_asc h'.2⟩
        rcases ins_mem hx with hx | hx
        · omega
        · exact h'.1 x hx
/-- Does a key stand in a list? -/
def hasL (τ : κ → Int) (k : κ) (L : List (κ × ν)) : Bool := L.any fun x => decide (τ k = τ x.1)
def getL (τ : κ → Int) (k : κ) (L : List (κ × ν)) : Option ν := (L.find? fun x => decide (τ k = τ x.1)).map (·.2)
def delL (τ : κ → Int) (k : κ) (L : List (κ × ν)) : List (κ × ν) := L.filter fun x => decide (τ k ≠ τ x.1)
theorem ins_len {τ : κ → Int} {k : κ} {v : ν} : ∀ {L : List (κ × ν)}, Asc τ L → (insL τ k v L).length = if hasL τ k L then L.length else L.length + 1
  | [], _ => by simp [insL, hasL]
  | y :: L, h => by
    have h' := List.pairwise_cons.1 h
    rw [insL]
    split
    · rename_i hk
      have : hasL τ k (y :: L) = false := by
        simp only [hasL, List.any_eq_false, decide_eq_true_eq]
        intro x hx
        rcases List.mem_cons.1 hx with rfl | hx
        · omega
        · have := h'.1 x hx; omega
      rw [this]; simp
    · split
      · rename_i h1 h2
        have : hasL τ k (y :: L) = true := by simp [hasL, h2]
        rw [this]; simp
      · rename_i h1 h2
        have : hasL τ k (y :: L) = hasL τ k L := by simp [hasL, h2]
        rw [this, List.length_cons, ins_len h'.2]
        split <;> simp
theorem has_left {τ : κ → Int} {k : κ} {a : κ × ν} {l r : List (κ × ν)} (h : τ k < τ a.1) (hr : ∀ x ∈ r, τ a.1 < τ x.1) : hasL τ k (l ++ a :: r) = hasL τ k l := by
  have : hasL τ k (a :: r) = false := by
    simp only [hasL, List.any_eq_false, decide_eq_true_eq]
    intro x hx
    rcases List.mem_cons.1 hx with rfl | hx
    · omega
    · have := hr x hx; omega
  unfold hasL at *
  rw [List.any_append, this, Bool.or_false]
theorem has_right {τ : κ → Int} {k : κ} {a : κ × ν} {l r : List (κ × ν)} (h : τ a.1 < τ k) (hl : ∀ x ∈ l, τ x.1 < τ a.1) : hasL τ k (l ++ a :: r) = hasL τ k r := by
  have h1 : hasL τ k l = false := by
    simp only [hasL, List.any_eq_false, decide_eq_true_eq]
    intro x hx
    have := hl x hx; omega
  have h2 : decide (τ k = τ a.1) = false := by simp; omega
  unfold hasL at *
  rw [List.any_append, List.any_cons, h1, h2, Bool.false_or, Bool.false_or]
theorem has_here {τ : κ → Int} {k : κ} {a : κ × ν} {l r : List (κ × ν)} (h : τ k = τ a.1) : hasL τ k (l ++ a :: r) = true := by
  unfold hasL
  rw [List.any_append, List.any_cons]
  simp [h]
theorem del_left {τ : κ → Int} {k : κ} {a : κ × ν} {l r : List (κ × ν)} (h : τ k < τ a.1) (hr : ∀ x ∈ r, τ a.1 < τ x.1) : delL τ k (l ++ a :: r) = delL τ k l ++ a :: r := by
  unfold delL
  rw [List.filter_append]
  congr 1
  rw [List.filter_eq_self]
  intro x hx
  rw [decide_eq_true_eq]
  rcases List.mem_cons.1 hx with rfl | hx
  · omega
  · have := hr x hx; omega
theorem del_right {τ : κ → Int} {k : κ} {a : κ × ν} {l r : List (κ × ν)} (h : τ a.1 < τ k) (hl : ∀ x ∈ l, τ x.1 < τ a.1) : delL τ k (l ++ a :: r) = l ++ a :: delL τ k r := by
  unfold delL
  rw [List.filter_append, List.filter_cons, if_pos (by rw [decide_eq_true_eq]; omega)]
  congr 1
  rw [List.filter_eq_self]
  intro x hx
  rw [decide_eq_true_eq]
  have := hl x hx; omega
theorem del_here {τ : κ → Int} {k : κ} {a : κ × ν} {l r : List (κ × ν)} (h : τ k = τ a.1) (hl : ∀ x ∈ l, τ x.1 < τ a.1) (hr : ∀ x ∈ r, τ a.1 < τ x.1) : delL τ k (l ++ a :: r) = l ++ r := by
  unfold delL
  rw [List.filter_append, List.filter_cons, if_neg (by rw [decide_eq_true_eq]; omega)]
  congr 1
  · rw [List.filter_eq_self]
    intro x hx
    rw [decide_eq_true_eq]
    have := hl x hx; omega
  · rw [List.filter_eq_self]
    intro x hx
    rw [decide_eq_true_eq]
    have := hr x hx; omega
theorem get_left {τ : κ → Int} {k : κ} {a : κ × ν} {l r : List (κ × ν)} (h : τ k < τ a.1) (hr : ∀ x ∈ r, τ a.1 < τ x.1) : getL τ k (l ++ a :: r) = getL τ k l := by
  unfold getL
  rw [List.find?_append]
  cases hf : l.find? fun x => decide (τ k = τ x.1) with
  | some y => rfl
  | none =>
    have : (a :: r).find? (fun x => decide (τ k = τ x.1)) = none := by
      rw [List.find?_eq_none]
      intro x hx
      rw [decide_eq_true_eq]
      rcases List.mem_cons.1 hx with rfl | hx
      · omega
      · have := hr x hx; omega
    rw [this]; rfl
theorem get_right {τ : κ → Int} {k : κ} {a : κ × ν} {l r : List (κ × ν)} (h : τ a.1 < τ k) (hl : ∀ x ∈ l, τ x.1 < τ a.1) : getL τ k (l ++ a :: r) = getL τ k r := by
  unfold getL
  rw [List.find?_append]
  have : l.find? (fun x => decide (τ k = τ x.1)) = none := by
    rw [List.find?_eq_none]
    intro x hx
    rw [decide_eq_true_eq]
    have := hl x hx; omega
  rw [this, List.find?_cons]
  have h2 : decide (τ k = τ a.1) = false := by simp; omega
  rw [h2]; rfl
theorem get_here {τ : κ → Int} {k : κ} {a : κ × ν} {l r : List (κ × ν)} (h : τ k = τ a.1) (hl : ∀ x ∈ l, τ x.1 < τ a.1) : getL τ k (l ++ a :: r) = some a.2 := by
  unfold getL
  rw [List.find?_append]
  have : l.find? (fun x => decide (τ k = τ x.1)) = none := by
    rw [List.find?_eq_none]
    intro x hx
    rw [decide_eq_true_eq]
    have := hl x hx; omega
  rw [this, List.find?_cons]
  have h2 : decide (τ k = τ a.1) = true := by simp [h]
  rw [h2]; rfl
/-- A tree's keys with their values, from the left. -/
def toL : BT (κ × ν) → List (κ × ν)
  | .nil => []
  | .node _ _ a l r => toL l ++ a :: toL r
theorem hasL_iff {τ : κ → Int} {k : κ} {L : List (κ × ν)} : hasL τ k L = true ↔ ∃ x ∈ L, τ k = τ x.1 := by
  unfold hasL
  rw [List.any_eq_true]
  simp
theorem ins_mem2 {τ : κ → Int} {k : κ} {v : ν} : ∀ {L : List (κ × ν)} {x : κ × ν}, x ∈ L → τ x.1 ≠ τ k → x ∈ insL τ k v L
  | y :: L, x, h, hne => by
    rw [insL]
    split
    · exact List.mem_cons_of_mem _ h
    · split
      · rename_i h1 h2
        rcases List.mem_cons.1 h with rfl | h
        · exact absurd h2.symm hne
        · exact List.mem_cons_of_mem _ h
      · rcases List.mem_cons.1 h with rfl | h
        · simp
        · exact List.mem_cons_of_mem _ (ins_mem2 h hne)
theorem has_ins {τ : κ → Int} {k : κ} {v : ν} : ∀ (L : List (κ × ν)), hasL τ k (insL τ k v L) = true
  | [] => by simp [insL, hasL]
  | y :: L => by
    rw [insL]
    split
    · simp [hasL]
    · split
      · rename_i h1 h2; simp [hasL, h2]
      · rw [hasL_iff]
        obtain ⟨x, hx, e⟩ := hasL_iff.1 (has_ins L)
        exact ⟨x, List.mem_cons_of_mem _ hx, e⟩
theorem has_ins_ne {τ : κ → Int} {k j : κ} {v : ν} (h : τ k ≠ τ j) (L : List (κ × ν)) : hasL τ k (insL τ j v L) = hasL τ k L := by
  rw [Bool.eq_iff_iff, hasL_iff, hasL_iff]
  constructor
  · rintro ⟨x, hx, e⟩
    rcases ins_mem hx with h1 | h1
    · exact absurd (e.trans h1) h
    · exact ⟨x, h1, e⟩
  · rintro ⟨x, hx, e⟩
    exact ⟨x, ins_mem2 hx (fun e2 => h (e.trans e2)), e⟩
theorem get_ins {τ : κ → Int} {k : κ} {v : ν} : ∀ {L : List (κ × ν)}, Asc τ L → getL τ k (insL τ k v L) = some v
  | [], _ => by simp [insL, getL]
  | y :: L, ha => by
    have ha' := List.pairwise_cons.1 ha
    rw [insL]
    split
    · simp [getL]
    · split
      · rename_i h1 h2; simp [getL, h2]
      · rename_i h1 h2
        have := get_ins (k := k) (v := v) ha'.2
        unfold getL at *
        rw [List.find?_cons, decide_eq_false h2]
        exact this
theorem get_ins_ne {τ : κ → Int} {k j : κ} {v : ν} (h : τ k ≠ τ j) : ∀ (L : List (κ × ν)), getL τ k (insL τ j v L) = getL τ k L
  | [] => by simp [insL, getL, h]
  | y :: L => by
    rw [insL]
    split
    · unfold getL; rw [List.find?_cons, decide_eq_false h]
    · split
      · rename_i h1 h2
        have : τ k ≠ τ y.1 := fun e => h (e.trans h2.symm)
        unfold getL
        rw [List.find?_cons, List.find?_cons, decide_eq_false this]
      · have ih := get_ins_ne (v := v) h L
        unfold getL at *
        rw [List.find?_cons, List.find?_cons]
        split
        · rfl
        · exact ih
theorem del_has {τ : κ → Int} {k : κ} (L : List (κ × ν)) : hasL τ k (delL τ k L) = false := by
  unfold hasL delL
  rw [List.any_eq_false]
  intro x hx
  have := (List.mem_filter.1 hx).2
  simpa using this
theorem del_lt {τ : κ → Int} {k : κ} {L : List (κ × ν)} (h : hasL τ k L = true) : (delL τ k L).length < L.length := by
  obtain ⟨x, hx, e⟩ := hasL_iff.1 h
  unfold delL
  rw [List.length_filter_lt_length_iff_exists]
  exact ⟨x, hx, by simp [e]⟩
theorem del_asc {τ : κ → Int} {k : κ} {L : List (κ × ν)} (h : Asc τ L) : Asc τ (delL τ k L) := List.Pairwise.sublist (List.filter_sublist) h
theorem ins_le {τ : κ → Int} {k : κ} {v : ν} : ∀ L : List (κ × ν), (insL τ k v L).length ≤ L.length + 1
  | [] => by simp [insL]
  | x :: L => by
    rw [insL]
    split
    · simp
    · split
      · simp
      · have := ins_le (τ := τ) (k := k) (v := v) L
        simp; omega

theorem del_le {τ : κ → Int} {k : κ} (L : List (κ × ν)) : (delL τ k L).length ≤ L.length := List.length_filter_le _ _
theorem get_none {τ : κ → Int} {k : κ} {L : List (κ × ν)} (h : hasL τ k L = false) : getL τ k L = none := by
  unfold getL
  have : L.find? (fun x => decide (τ k = τ x.1)) = none := by
    rw [List.find?_eq_none]
    intro x hx
    have := List.any_eq_false.1 h x hx
    exact this
  rw [this]; rfl
end
end Go.Proofs.Ytdjkoomgapflcaa
