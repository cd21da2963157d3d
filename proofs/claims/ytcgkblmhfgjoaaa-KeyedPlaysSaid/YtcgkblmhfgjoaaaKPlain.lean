/- Lists of keys with values, in order; trees of them. -/
import Derived.Test.YtcgkblmhfgjoaaaPlain
import Derived.Deep.Trees
namespace Go.Proofs.Ytcgkblmhfgjoaaa
open Go.Deep
set_option linter.unusedVariables false
abbrev KV := Int × Int
/-- Keys rising by a measure of theirs. -/
def Asc (τ : Int → Int) (L : List KV) : Prop := L.Pairwise fun a b => τ a.1 < τ b.1
theorem asc_mid {τ : Int → Int} {l r : List KV} {a : KV} : Asc τ (l ++ a :: r) ↔ Asc τ l ∧ Asc τ r ∧ (∀ x ∈ l, τ x.1 < τ a.1) ∧ (∀ x ∈ r, τ a.1 < τ x.1) := by
  unfold Asc
  rw [List.pairwise_append, List.pairwise_cons]
  constructor
  · rintro ⟨h1, ⟨h2, h3⟩, h4⟩
    exact ⟨h1, h3, fun x hx => h4 x hx a (by simp), h2⟩
  · rintro ⟨h1, h2, h3, h4⟩
    refine ⟨h1, ⟨h4, h2⟩, fun x hx y hy => ?_⟩
    rcases List.mem_cons.1 hy with rfl | hy
    · exact h3 x hx
    · have := h3 x hx
      have := h4 y hy
      omega
def insL (τ : Int → Int) (k v : Int) : List KV → List KV
  | [] => [(k, v)]
  | x :: xs => if τ k < τ x.1 then (k, v) :: x :: xs else if τ k = τ x.1 then (x.1, v) :: xs else x :: insL τ k v xs
theorem ins_left {τ : Int → Int} {k v : Int} {a : KV} {r : List KV} (h : τ k < τ a.1) : ∀ l : List KV, insL τ k v (l ++ a :: r) = insL τ k v l ++ a :: r
  | [] => by simp [insL, h]
  | x :: l => by
    rw [List.cons_append, insL, insL, ins_left h l]
    split
    · rfl
    · split <;> rfl
theorem ins_right {τ : Int → Int} {k v : Int} {a : KV} {r : List KV} (h : τ a.1 < τ k) : ∀ l : List KV, (∀ x ∈ l, τ x.1 < τ a.1) → insL τ k v (l ++ a :: r) = l ++ a :: insL τ k v r
  | [], _ => by
    rw [List.nil_append, insL, if_neg (by omega), if_neg (by omega)]; rfl
  | x :: l, hl => by
    have hx := hl x (by simp)
    rw [List.cons_append, insL, if_neg (by omega), if_neg (by omega), ins_right h l (fun y hy => hl y (by simp [hy]))]
    rfl
theorem ins_here {τ : Int → Int} {k v : Int} {a : KV} {r : List KV} (h : τ k = τ a.1) : ∀ l : List KV, (∀ x ∈ l, τ x.1 < τ a.1) → insL τ k v (l ++ a :: r) = l ++ (a.1, v) :: r
  | [], _ => by
    rw [List.nil_append, insL, if_neg (by omega), if_pos h]; rfl
  | x :: l, hl => by
    have hx := hl x (by simp)
    rw [List.cons_append, insL, if_neg (by omega), if_neg (by omega), ins_here h l (fun y hy => hl y (by simp [hy]))]
    rfl
theorem ins_mem {τ : Int → Int} {k v : Int} : ∀ {L : List KV} {x : KV}, x ∈ insL τ k v L → τ x.1 = τ k ∨ x ∈ L
  | [], x, h => by
    rw [insL, List.mem_singleton] at h
    subst h; exact .inl rfl
  | y :: L, x, h => by
    rw [insL] at h
    split at h
    · rcases List.mem_cons.1 h with rfl | h
      · exact .inl rfl
      · exact .inr h
    · split at h
      · rcases List.mem_cons.1 h with rfl | h
        · rename_i h1 h2; exact .inl h2.symm
        · exact .inr (List.mem_cons_of_mem _ h)
      · rcases List.mem_cons.1 h with rfl | h
        · exact .inr (by simp)
        · rcases ins_mem h with h | h
          · exact .inl h
          · exact .inr (List.mem_cons_of_mem _ h)
theorem ins_asc {τ : Int → Int} {k v : Int} : ∀ {L : List KV}, Asc τ L → Asc τ (insL τ k v L)
  | [], _ => by simp [insL, Asc]
  | y :: L, h => by
    have h' := List.pairwise_cons.1 h
    rw [insL]
    split
    · rename_i hk
      refine List.pairwise_cons.2 ⟨fun x hx => ?_, h⟩
      rcases List.mem_cons.1 hx with rfl | hx
      · exact hk
      · have := h'.1 x hx
        show τ k < τ x.1
        omega
    · split
      · exact List.pairwise_cons.2 ⟨h'.1, h'.2⟩
      · refine List.pairwise_cons.2 ⟨fun x hx => ?_, ins_asc h'.2⟩
        rcases ins_mem hx with hx | hx
        · omega
        · exact h'.1 x hx
/-- Does a key stand in a list? -/
def hasL (τ : Int → Int) (k : Int) (L : List KV) : Bool := L.any fun x => decide (τ k = τ x.1)
def getL (τ : Int → Int) (k : Int) (L : List KV) : Int := ((L.find? fun x => decide (τ k = τ x.1)).map (·.2)).getD 0
def delL (τ : Int → Int) (k : Int) (L : List KV) : List KV := L.filter fun x => decide (τ k ≠ τ x.1)
theorem ins_len {τ : Int → Int} {k v : Int} : ∀ {L : List KV}, Asc τ L → (insL τ k v L).length = if hasL τ k L then L.length else L.length + 1
  | [], _ => by simp [insL, hasL]
  | y :: L, h => by
    have h' := List.pairwise_cons.1 h
    rw [insL]
    split
    · rename_i hk
      have : hasL τ k (y :: L) = false := by
        simp only [hasL, List.any_eq_false, decide_eq_true_eq]
        intro x hx
        rcases List.mem_cons.1 hx with rfl | hx
        · omega
        · have := h'.1 x hx; omega
      rw [this]; simp
    · split
      · rename_i h1 h2
        have : hasL τ k (y :: L) = true := by simp [hasL, h2]
        rw [this]; simp
      · rename_i h1 h2
        have : hasL τ k (y :: L) = hasL τ k L := by simp [hasL, h2]
        rw [this, List.length_cons, ins_len h'.2]
        split <;> simp
theorem has_left {τ : Int → Int} {k : Int} {a : KV} {l r : List KV} (h : τ k < τ a.1) (hr : ∀ x ∈ r, τ a.1 < τ x.1) : hasL τ k (l ++ a :: r) = hasL τ k l := by
  have : hasL τ k (a :: r) = false := by
    simp only [hasL, List.any_eq_false, decide_eq_true_eq]
    intro x hx
    rcases List.mem_cons.1 hx with rfl | hx
    · omega
    · have := hr x hx; omega
  unfold hasL at *
  rw [List.any_append, this, Bool.or_false]
theorem has_right {τ : Int → Int} {k : Int} {a : KV} {l r : List KV} (h : τ a.1 < τ k) (hl : ∀ x ∈ l, τ x.1 < τ a.1) : hasL τ k (l ++ a :: r) = hasL τ k r := by
  have h1 : hasL τ k l = false := by
    simp only [hasL, List.any_eq_false, decide_eq_true_eq]
    intro x hx
    have := hl x hx; omega
  have h2 : decide (τ k = τ a.1) = false := by simp; omega
  unfold hasL at *
  rw [List.any_append, List.any_cons, h1, h2, Bool.false_or, Bool.false_or]
theorem has_here {τ : Int → Int} {k : Int} {a : KV} {l r : List KV} (h : τ k = τ a.1) : hasL τ k (l ++ a :: r) = true := by
  unfold hasL
  rw [List.any_append, List.any_cons]
  simp [h]
theorem del_left {τ : Int → Int} {k : Int} {a : KV} {l r : List KV} (h : τ k < τ a.1) (hr : ∀ x ∈ r, τ a.1 < τ x.1) : delL τ k (l ++ a :: r) = delL τ k l ++ a :: r := by
  unfold delL
  rw [List.filter_append]
  congr 1
  rw [List.filter_eq_self]
  intro x hx
  rw [decide_eq_true_eq]
  rcases List.mem_cons.1 hx with rfl | hx
  · omega
  · have := hr x hx; omega
theorem del_right {τ : Int → Int} {k : Int} {a : KV} {l r : List KV} (h : τ a.1 < τ k) (hl : ∀ x ∈ l, τ x.1 < τ a.1) : delL τ k (l ++ a :: r) = l ++ a :: delL τ k r := by
  unfold delL
  rw [List.filter_append, List.filter_cons, if_pos (by rw [decide_eq_true_eq]; omega)]
  congr 1
  rw [List.filter_eq_self]
  intro x hx
  rw [decide_eq_true_eq]
  have := hl x hx; omega
theorem del_here {τ : Int → Int} {k : Int} {a : KV} {l r : List KV} (h : τ k = τ a.1) (hl : ∀ x ∈ l, τ x.1 < τ a.1) (hr : ∀ x ∈ r, τ a.1 < τ x.1) : delL τ k (l ++ a :: r) = l ++ r := by
  unfold delL
  rw [List.filter_append, List.filter_cons, if_neg (by rw [decide_eq_true_eq]; omega)]
  congr 1
  · rw [List.filter_eq_self]
    intro x hx
    rw [decide_eq_true_eq]
    have := hl x hx; omega
  · rw [List.filter_eq_self]
    intro x hx
    rw [decide_eq_true_eq]
    have := hr x hx; omega
theorem get_left {τ : Int → Int} {k : Int} {a : KV} {l r : List KV} (h : τ k < τ a.1) (hr : ∀ x ∈ r, τ a.1 < τ x.1) : getL τ k (l ++ a :: r) = getL τ k l := by
  unfold getL
  rw [List.find?_append]
  cases hf : l.find? fun x => decide (τ k = τ x.1) with
  | some y => rfl
  | none =>
    have : (a :: r).find? (fun x => decide (τ k = τ x.1)) = none := by
      rw [List.find?_eq_none]
      intro x hx
      rw [decide_eq_true_eq]
      rcases List.mem_cons.1 hx with rfl | hx
      · omega
      · have := hr x hx; omega
    rw [this]; rfl
theorem get_right {τ : Int → Int} {k : Int} {a : KV} {l r : List KV} (h : τ a.1 < τ k) (hl : ∀ x ∈ l, τ x.1 < τ a.1) : getL τ k (l ++ a :: r) = getL τ k r := by
  unfold getL
  rw [List.find?_append]
  have : l.find? (fun x => decide (τ k = τ x.1)) = none := by
    rw [List.find?_eq_none]
    intro x hx
    rw [decide_eq_true_eq]
    have := hl x hx; omega
  rw [this, List.find?_cons]
  have h2 : decide (τ k = τ a.1) = false := by simp; omega
  rw [h2]; rfl
theorem get_here {τ : Int → Int} {k : Int} {a : KV} {l r : List KV} (h : τ k = τ a.1) (hl : ∀ x ∈ l, τ x.1 < τ a.1) : getL τ k (l ++ a :: r) = a.2 := by
  unfold getL
  rw [List.find?_append]
  have : l.find? (fun x => decide (τ k = τ x.1)) = none := by
    rw [List.find?_eq_none]
    intro x hx
    rw [decide_eq_true_eq]
    have := hl x hx; omega
  rw [this, List.find?_cons]
  have h2 : decide (τ k = τ a.1) = true := by simp [h]
  rw [h2]; rfl
/-- A tree's keys with their values, from the left. -/
def toL : BT KV → List KV
  | .nil => []
  | .node _ _ a l r => toL l ++ a :: toL r
end Go.Proofs.Ytcgkblmhfgjoaaa
