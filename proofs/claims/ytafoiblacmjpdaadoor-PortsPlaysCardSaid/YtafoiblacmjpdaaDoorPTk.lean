/- Ports: the document's Take and the set's, as lists. No program is named. -/
import Derived.Test.YtafoiblacmjpdaaDoorPRTake
import Derived.Test.YtafoiblacmjpdaaDoorPList
import Derived.Test.YtafoiblacmjpdaaDoorPPick
namespace Go.Proofs.YtafoiblacmjpdaaDoor
set_option linter.unusedVariables false
set_option linter.unusedSimpArgs false
def insL (p : Int) : List Int → List Int
  | [] => [p]
  | x :: r => if p < x then p :: x :: r else x :: insL p r
theorem tk_true (p : Int) : ∀ (xs o : List Int), xs.foldl (tkF p) (o, true) = (o ++ xs, true)
  | [], o => by simp
  | x :: r, o => by
    rw [List.foldl_cons, show tkF p (o, true) x = (o ++ [x], true) by simp [tkF], tk_true p r]
    simp
theorem tk_ins (p : Int) : ∀ (xs o : List Int), (if (xs.foldl (tkF p) (o, false)).2 = true then (xs.foldl (tkF p) (o, false)).1 else (xs.foldl (tkF p) (o, false)).1 ++ [p]) = o ++ insL p xs
  | [], o => by simp [insL]
  | x :: r, o => by
    rw [List.foldl_cons]
    by_cases h : p < x
    · rw [show tkF p (o, false) x = (o ++ [p] ++ [x], true) by simp [tkF, h], tk_true]
      simp [insL, h]
    · rw [show tkF p (o, false) x = (o ++ [x], false) by simp [tkF, h], tk_ins p r]
      simp [insL, h]
theorem tkL_ins (p : Int) (xs : List Int) : tkL p xs = insL p xs := by
  have h := tk_ins p xs []
  rw [List.nil_append] at h
  unfold tkL tkS
  cases hb : (xs.foldl (tkF p) ([], false)).2 <;> rw [hb] at h <;> simpa using h
theorem insL_mem (p x : Int) : ∀ xs : List Int, x ∈ insL p xs ↔ x = p ∨ x ∈ xs
  | [] => by simp [insL]
  | y :: r => by
    unfold insL
    split
    · simp
    · simp only [List.mem_cons, insL_mem p x r]
      constructor
      · rintro (h | h | h)
        · exact .inr (.inl h)
        · exact .inl h
        · exact .inr (.inr h)
      · rintro (h | h | h)
        · exact .inr (.inl h)
        · exact .inl h
        · exact .inr (.inr h)
theorem insL_rise (p : Int) : ∀ xs : List Int, xs.Pairwise (· < ·) → p ∉ xs → (insL p xs).Pairwise (· < ·)
  | [], _, _ => by simp [insL]
  | y :: r, h, hp => by
    have h2 := List.pairwise_cons.1 h
    unfold insL
    split
    · rename_i hlt
      refine List.pairwise_cons.2 ⟨fun z hz => ?_, h⟩
      rcases List.mem_cons.1 hz with e | e
      · rw [e]; exact hlt
      · have := h2.1 z e; omega
    · rename_i hlt
      have hne : p ≠ y := fun e => hp (by rw [e]; simp)
      refine List.pairwise_cons.2 ⟨fun z hz => ?_, insL_rise p r h2.2 (fun hm => hp (List.mem_cons_of_mem _ hm))⟩
      rcases (insL_mem p z r).1 hz with e | e
      · omega
      · exact h2.1 z e
/-- Take of both sides leaves the same ports. -/
theorem told_take (t : Nat → Bool) (p k : Nat) (hp : p < 64 * k) (ht : t p = false) : tkL ((1024 + p : Nat) : Int) (told t k) = told (put t p true) k := by
  have hn : ((1024 + p : Nat) : Int) ∉ told t k := by
    intro h
    obtain ⟨q, h1, h2, h3⟩ := (told_mem t k _).1 h
    rw [show q = p by omega, ht] at h2
    cases h2
  rw [tkL_ins]
  refine rise_eq _ _ (insL_rise _ _ (told_rise t k) hn) (told_rise _ k) (fun x => ?_)
  rw [insL_mem, told_mem, told_mem]
  constructor
  · rintro (h | ⟨q, h1, h2, h3⟩)
    · exact ⟨p, hp, by simp [put], h⟩
    · exact ⟨q, h1, by unfold put; split <;> simp_all, h3⟩
  · rintro ⟨q, h1, h2, h3⟩
    by_cases e : q = p
    · exact .inl (by rw [h3, e])
    · exact .inr ⟨q, h1, by simpa [put, e] using h2, h3⟩
theorem erase_rise (xs : List Int) (i : Nat) (h : xs.Pairwise (· < ·)) : (xs.take i ++ xs.drop (i + 1)).Pairwise (· < ·) := by
  rw [← List.eraseIdx_eq_take_drop_succ]
  exact List.Pairwise.sublist (List.eraseIdx_sublist xs i) h
theorem erase_mem (xs : List Int) (i : Nat) (p x : Int) (h : xs.Pairwise (· < ·)) (hi : xs[i]? = some p) : x ∈ xs.take i ++ xs.drop (i + 1) ↔ x ∈ xs ∧ x ≠ p := by
  rw [← List.eraseIdx_eq_take_drop_succ, List.mem_eraseIdx_iff_getElem?]
  obtain ⟨hl, hp⟩ := List.getElem?_eq_some_iff.1 hi
  have hr := List.pairwise_iff_getElem.1 h
  constructor
  · rintro ⟨j, hj, he⟩
    obtain ⟨hl2, hx⟩ := List.getElem?_eq_some_iff.1 he
    refine ⟨List.mem_of_getElem? he, fun e => ?_⟩
    rcases Nat.lt_or_ge i j with h1 | h1
    · have := hr i j hl hl2 h1; omega
    · have := hr j i hl2 hl (by omega); omega
  · rintro ⟨hm, hne⟩
    obtain ⟨j, hl2, hx⟩ := List.getElem_of_mem hm
    refine ⟨j, fun e => hne ?_, by rw [List.getElem?_eq_getElem hl2, hx]⟩
    subst e
    rw [← hx, hp]
/-- Give of both sides leaves the same ports. -/
theorem told_give (t : Nat → Bool) (p k i : Nat) (hi : (told t k)[i]? = some ((1024 + p : Nat) : Int)) : (told t k).take i ++ (told t k).drop (i + 1) = told (put t p false) k := by
  refine rise_eq _ _ (erase_rise _ i (told_rise t k)) (told_rise _ k) (fun x => ?_)
  rw [erase_mem _ i _ x (told_rise t k) hi, told_mem, told_mem]
  constructor
  · rintro ⟨⟨q, h1, h2, h3⟩, hne⟩
    have e : q ≠ p := fun e => hne (by rw [h3, e])
    exact ⟨q, h1, by simpa [put, e] using h2, h3⟩
  · rintro ⟨q, h1, h2, h3⟩
    by_cases e : q = p
    · subst e; simp [put] at h2
    · exact ⟨⟨q, h1, by simpa [put, e] using h2, h3⟩, by omega⟩
/-- The document's search finds the port that the set's finds. -/
theorem pick_found (t : Nat → Bool) (C r k : Nat) (hC : C = 64512) (hr : r < C) (hk : k < C) (hb : ∀ j, j < k → t ((r + j) % C) = true) (hf : t ((r + k) % C) = false) : PickIs t r ((r + k) % C) := by
  rcases Nat.lt_or_ge (r + k) C with h | h
  · rw [Nat.mod_eq_of_lt h] at hf ⊢
    refine .inl ⟨by omega, by omega, hf, fun q h1 h2 => ?_⟩
    have := hb (q - r) (by omega)
    rwa [show r + (q - r) = q by omega, Nat.mod_eq_of_lt (by omega)] at this
  · have e : (r + k) % C = r + k - C := by rw [Nat.mod_eq_sub_mod h, Nat.mod_eq_of_lt (by omega)]
    rw [e] at hf ⊢
    refine .inr ⟨fun q h1 h2 => ?_, by omega, by omega, hf, fun q h1 h2 => ?_⟩
    · have := hb (q - r) (by omega)
      rwa [show r + (q - r) = q by omega, Nat.mod_eq_of_lt (by omega)] at this
    · have := hb (q + C - r) (by omega)
      rwa [show r + (q + C - r) = q + C by omega, Nat.add_mod_right, Nat.mod_eq_of_lt (by omega)] at this
theorem pick_none (t : Nat → Bool) (C r : Nat) (hC : C = 64512) (hr : r < C) (hb : ∀ j, j < C → t ((r + j) % C) = true) : NoneFrom t 0 := by
  intro q _ hq
  rcases Nat.lt_or_ge q r with h | h
  · have := hb (q + C - r) (by omega)
    rwa [show r + (q + C - r) = q + C by omega, Nat.add_mod_right, Nat.mod_eq_of_lt (by omega)] at this
  · have := hb (q - r) (by omega)
    rwa [show r + (q - r) = q by omega, Nat.mod_eq_of_lt (by omega)] at this
end Go.Proofs.YtafoiblacmjpdaaDoor
