/- Ssdp, plain: lines that end with CR and LF, split by the program and by the document. -/
import Derived.Lib.SplitLaws
import Derived.Lib.IndexMore
import Derived.Lib.Strings
namespace Go.Proofs.YtonoaopioifedaaGreatDoor
set_option linter.unusedVariables false
set_option linter.unusedSimpArgs false
/-- One byte more: the pieces that are whole, and the one under way. -/
def lnStep (st : List (List UInt8) × List UInt8) (b : UInt8) : List (List UInt8) × List UInt8 :=
  if b = 10 ∧ st.2.getLast? = some 13 then (st.1 ++ [st.2.dropLast], []) else (st.1, st.2 ++ [b])
def lnFold (l : List UInt8) : List (List UInt8) × List UInt8 := l.foldl lnStep ([], [])
/-- The pieces between CR and LF. -/
def crl (l : List UInt8) : List (List UInt8) := (lnFold l).1 ++ [(lnFold l).2]
theorem lnStep_hit (o : List (List UInt8)) (c : List UInt8) (b : UInt8) (h : b = 10 ∧ c.getLast? = some 13) : lnStep (o, c) b = (o ++ [c.dropLast], []) := by unfold lnStep; rw [if_pos h]
theorem lnStep_miss (o : List (List UInt8)) (c : List UInt8) (b : UInt8) (h : ¬ (b = 10 ∧ c.getLast? = some 13)) : lnStep (o, c) b = (o, c ++ [b]) := by unfold lnStep; rw [if_neg h]
theorem step13 (o : List (List UInt8)) (c : List UInt8) : lnStep (o, c) 13 = (o, c ++ [13]) := lnStep_miss _ _ _ (by intro h; exact absurd h.1 (by decide))
theorem step10 (o : List (List UInt8)) (c : List UInt8) : lnStep (o, c ++ [13]) 10 = (o ++ [c], []) := by rw [lnStep_hit _ _ _ ⟨rfl, by simp⟩, List.dropLast_concat]
theorem lnFold_pre (o : List (List UInt8)) : ∀ (l : List UInt8) (p : List (List UInt8)) (c : List UInt8), l.foldl lnStep (o ++ p, c) = (o ++ (l.foldl lnStep (p, c)).1, (l.foldl lnStep (p, c)).2)
  | [], p, c => rfl
  | b :: l, p, c => by
    rw [List.foldl_cons, List.foldl_cons]
    by_cases h : b = 10 ∧ c.getLast? = some 13
    · rw [lnStep_hit _ _ _ h, lnStep_hit _ _ _ h, List.append_assoc, lnFold_pre o l]
    · rw [lnStep_miss _ _ _ h, lnStep_miss _ _ _ h, lnFold_pre o l]
/-- What pieces are written as. -/
def flatP (ps : List (List UInt8)) : List UInt8 := (ps.map (· ++ [13, 10])).flatten
theorem flatP_snoc (ps : List (List UInt8)) (p : List UInt8) : flatP (ps ++ [p]) = flatP ps ++ (p ++ [13, 10]) := by unfold flatP; simp
theorem dropLast_13 (c : List UInt8) (h : c.getLast? = some 13) : c.dropLast ++ [13] = c := by
  have hne : c ≠ [] := by intro e; rw [e] at h; cases h
  have := List.dropLast_concat_getLast hne
  rw [List.getLast?_eq_some_getLast hne] at h
  injection h with h
  rw [h] at this
  exact this
theorem lnFold_flat : ∀ (l : List UInt8) (o : List (List UInt8)) (c : List UInt8), flatP (l.foldl lnStep (o, c)).1 ++ (l.foldl lnStep (o, c)).2 = flatP o ++ c ++ l
  | [], o, c => by simp
  | b :: l, o, c => by
    rw [List.foldl_cons]
    by_cases h : b = 10 ∧ c.getLast? = some 13
    · rw [lnStep_hit _ _ _ h, lnFold_flat l, flatP_snoc]
      have hd := dropLast_13 c h.2
      obtain ⟨rfl, _⟩ := h
      have e : flatP o ++ (c.dropLast ++ [13, 10]) ++ [] ++ l = flatP o ++ (c.dropLast ++ [13]) ++ 10 :: l := by simp
      rw [e, hd]
    · rw [lnStep_miss _ _ _ h, lnFold_flat l]; simp
theorem crl_flat (l : List UInt8) : flatP (lnFold l).1 ++ (lnFold l).2 = l := by
  have := lnFold_flat l [] []
  unfold lnFold
  simpa [flatP] using this
theorem occ_at (l : List UInt8) (j : Nat) (h0 : l[j]? = some 13) (h1 : l[j + 1]? = some 10) : Lib.occAt l [13, 10] j = true := by
  unfold Lib.occAt
  obtain ⟨hj, e0⟩ := List.getElem?_eq_some_iff.1 h0
  obtain ⟨hj1, e1⟩ := List.getElem?_eq_some_iff.1 h1
  rw [List.drop_eq_getElem_cons hj, List.drop_eq_getElem_cons hj1, e0, e1]
  simp [List.isPrefixOf]
theorem fold_noOcc (l : List UInt8) (i : Nat) (h : Lib.NoOcc l [13, 10] i) : ∀ j, j ≤ i → j ≤ l.length → (l.take (j + 0)).foldl lnStep ([], []) = ([], l.take j)
  | 0, _, _ => by simp
  | j + 1, hj, hl => by
    have ih := fold_noOcc l i h j (by omega) (by omega)
    have hg : l[j]? = some l[j] := List.getElem?_eq_getElem (by omega)
    rw [Nat.add_zero] at ih ⊢
    rw [List.take_succ_eq_append_getElem (by omega), List.foldl_append, ih, List.foldl_cons, List.foldl_nil]
    refine lnStep_miss _ _ _ fun hh => ?_
    have hj0 : 0 < j := by
      rcases Nat.eq_zero_or_pos j with e | e
      · subst e; have := hh.2; simp at this
      · exact e
    have h13 : l[j - 1]? = some 13 := by
      have h2 := hh.2
      rw [List.getLast?_eq_getElem?, List.length_take, Nat.min_eq_left (by omega), List.getElem?_take_of_lt (by omega)] at h2
      exact h2
    have h10 : l[j - 1 + 1]? = some 10 := by
      rw [show j - 1 + 1 = j by omega, hg, hh.1]
    have := occ_at l (j - 1) h13 h10
    rw [h (j - 1) (by omega)] at this
    cases this
theorem crl_miss (l : List UInt8) (h : Lib.index l [13, 10] = -1) : crl l = [l] := by
  rcases Lib.index_spec l [13, 10] with ⟨_, h2⟩ | ⟨i, h1, _⟩
  · have := fold_noOcc l l.length (fun j hj => h2 j (by omega)) l.length (Nat.le_refl _) (Nat.le_refl _)
    rw [Nat.add_zero, List.take_length] at this
    unfold crl lnFold
    rw [this]; rfl
  · omega
theorem take_mid (l : List UInt8) (i : Nat) (h : Lib.occAt l [13, 10] i = true) : l = l.take i ++ (13 :: 10 :: l.drop (i + 2)) := by
  unfold Lib.occAt at h
  obtain ⟨r, hr⟩ := List.isPrefixOf_iff_prefix.1 h
  have e : l.drop (i + 2) = r := by
    rw [← List.drop_drop, ← hr]; rfl
  rw [e]
  have : 13 :: 10 :: r = l.drop i := hr
  rw [this, List.take_append_drop]
theorem crl_hit (l : List UInt8) (i : Nat) (h : Lib.index l [13, 10] = i) : crl l = l.take i :: crl (l.drop (i + 2)) := by
  rcases Lib.index_spec l [13, 10] with ⟨h1, _⟩ | ⟨k, h1, h2, h3, h4⟩
  · omega
  · have hk : k = i := by omega
    subst hk
    have hf := fold_noOcc l k h4 k (Nat.le_refl _) h2
    rw [Nat.add_zero] at hf
    have hl := take_mid l k h3
    have e : lnFold l = (l.take k :: (lnFold (l.drop (k + 2))).1, (lnFold (l.drop (k + 2))).2) := by
      unfold lnFold
      conv => lhs; rw [hl]
      rw [List.foldl_append, hf, List.foldl_cons, List.foldl_cons, step13, step10]
      have := lnFold_pre [l.take k] (l.drop (k + 2)) [] []
      simpa using this
    unfold crl
    rw [e]; rfl
theorem split_crl : ∀ (n : Nat) (l : List UInt8), l.length ≤ n → Lib.split l [13, 10] = crl l
  | n, l, hn => by
    rcases Lib.index_spec l [13, 10] with ⟨h1, _⟩ | ⟨i, h1, h2, h3, _⟩
    · rw [crl_miss l h1]
      unfold Lib.split
      rw [Lib.count_miss h1]; rfl
    · have hlen : l.length = i + (2 + (l.drop (i + 2)).length) := by
        have := congrArg List.length (take_mid l i h3)
        rw [List.length_append, List.length_take, Nat.min_eq_left h2] at this
        simp only [List.length_cons] at this
        omega
      match n, hn with
      | 0, hn => omega
      | n + 1, hn =>
        have ih := split_crl n (l.drop (i + 2)) (by omega)
        rw [crl_hit l i h1, ← ih]
        unfold Lib.split
        rw [Lib.count_hit (by simp) h1, Nat.add_comm 1]
        show (if Lib.index l [13, 10] == -1 then [l] else l.take ((Lib.index l [13, 10]).toNat + 0) :: Lib.splitK [13, 10] 0 _ (l.drop ((Lib.index l [13, 10]).toNat + 2))) = _
        rw [if_neg (by rw [h1]; simp), h1]
        rfl
/-- The document's lines: up to the first empty one, whether nothing stands behind it. -/
def rlF : List UInt8 → List (List UInt8) → List UInt8 → List (List UInt8) × Bool
  | [], o, c => (o, false)
  | b :: r, o, c => if b = 10 ∧ c.getLast? = some 13 then (if c.dropLast = [] then (o ++ [[]], r.isEmpty) else rlF r (o ++ [c.dropLast]) []) else rlF r o (c ++ [b])
def firstE : List (List UInt8) → List (List UInt8) × Bool
  | [] => ([], false)
  | [p] => ([], false)
  | p :: q :: r => if p = [] then ([[]], (q :: r) == [[]]) else (p :: (firstE (q :: r)).1, (firstE (q :: r)).2)
theorem crl_cons (l : List UInt8) : ∃ q r, crl l = q :: r := by
  unfold crl
  cases (lnFold l).1 with
  | nil => exact ⟨_, _, rfl⟩
  | cons a b => exact ⟨_, _, rfl⟩
theorem crl_nil (l : List UInt8) : (crl l == [[]]) = l.isEmpty := by
  cases l with
  | nil => rfl
  | cons b r =>
    have hf := crl_flat (b :: r)
    rw [List.isEmpty_cons, beq_eq_false_iff_ne]
    intro e
    unfold crl at e
    have h1 : (lnFold (b :: r)).1 = [] := by
      have := congrArg List.length e
      simp only [List.length_append, List.length_cons, List.length_nil] at this
      exact List.length_eq_zero_iff.1 (by omega)
    rw [h1] at e hf
    injection e with e _
    rw [e] at hf
    cases hf
theorem firstE_cons (p : List UInt8) (l : List UInt8) : firstE (p :: crl l) = if p = [] then ([[]], l.isEmpty) else (p :: (firstE (crl l)).1, (firstE (crl l)).2) := by
  have hn := crl_nil l
  obtain ⟨q, r, e⟩ := crl_cons l
  rw [e] at hn ⊢
  rw [← hn]; rfl
theorem rlF_is : ∀ (r : List UInt8) (o : List (List UInt8)) (c : List UInt8), rlF r o c = (o ++ (firstE ((r.foldl lnStep ([], c)).1 ++ [(r.foldl lnStep ([], c)).2])).1, (firstE ((r.foldl lnStep ([], c)).1 ++ [(r.foldl lnStep ([], c)).2])).2)
  | [], o, c => by simp [rlF, firstE]
  | b :: r, o, c => by
    rw [List.foldl_cons]
    by_cases h : b = 10 ∧ c.getLast? = some 13
    · rw [lnStep_hit _ _ _ h]
      have hp := lnFold_pre [c.dropLast] r [] []
      rw [List.append_nil] at hp
      rw [List.nil_append, hp]
      have e : ([c.dropLast] ++ (r.foldl lnStep ([], [])).1, (r.foldl lnStep ([], [])).2).1 ++ [([c.dropLast] ++ (r.foldl lnStep ([], [])).1, (r.foldl lnStep ([], [])).2).2] = c.dropLast :: crl r := by
        unfold crl lnFold; rfl
      rw [e, firstE_cons]
      unfold rlF
      rw [if_pos h]
      by_cases hd : c.dropLast = []
      · rw [if_pos hd, if_pos hd]
      · rw [if_neg hd, if_neg hd, rlF_is r]
        unfold crl lnFold
        simp
    · rw [lnStep_miss _ _ _ h]
      unfold rlF
      rw [if_neg h, rlF_is r]
theorem rlF_crl (l : List UInt8) : rlF l [] [] = firstE (crl l) := by
  rw [rlF_is]; simp [crl, lnFold]
theorem firstE_ok : ∀ (ps : List (List UInt8)), (firstE ps).2 = true → ∃ a, ps = a ++ [[], []] ∧ (firstE ps).1 = a ++ [[]] ∧ ∀ p ∈ a, p ≠ []
  | [], h => by cases h
  | [p], h => by cases h
  | p :: q :: r, h => by
    unfold firstE at h ⊢
    by_cases hp : p = []
    · rw [if_pos hp] at h ⊢
      have := beq_iff_eq.1 h
      injection this with h1 h2
      subst h1 h2 hp
      exact ⟨[], rfl, rfl, fun p hp => by cases hp⟩
    · rw [if_neg hp] at h ⊢
      obtain ⟨a, h1, h2, h3⟩ := firstE_ok (q :: r) h
      exact ⟨p :: a, by rw [h1]; rfl, by rw [h2]; rfl, fun x hx => by
        rcases List.mem_cons.1 hx with e | e
        · rw [e]; exact hp
        · exact h3 x e⟩
theorem firstE_all : ∀ (a : List (List UInt8)), (∀ p ∈ a, p ≠ []) → firstE (a ++ [[], []]) = (a ++ [[]], true)
  | [], _ => rfl
  | [p], h => by
    have hp := h p (by simp)
    show (if p = [] then _ else _) = _
    rw [if_neg hp]; rfl
  | p :: q :: r, h => by
    have hp := h p (by simp)
    have ih := firstE_all (q :: r) (fun x hx => h x (by simp [hx]))
    show (if p = [] then _ else (p :: (firstE (q :: r ++ [[], []])).1, (firstE (q :: r ++ [[], []])).2)) = _
    rw [if_neg hp, ih]; rfl
theorem hasSuf_iff (l : List UInt8) : Lib.hasSuffix l [13, 10, 13, 10] = true ↔ ∃ t, l = t ++ [13, 10, 13, 10] := by
  unfold Lib.hasSuffix
  rw [List.isSuffixOf_iff_suffix]
  exact ⟨fun ⟨t, h⟩ => ⟨t, h.symm⟩, fun ⟨t, h⟩ => ⟨t, h.symm⟩⟩
theorem trimSuf (t : List UInt8) : Lib.trimSuffix (t ++ [13, 10, 13, 10]) [13, 10, 13, 10] = t := by
  unfold Lib.trimSuffix
  rw [if_pos ((hasSuf_iff _).2 ⟨t, rfl⟩)]
  simp
theorem crl_end (t : List UInt8) : crl (t ++ [13, 10, 13, 10]) = crl t ++ [[], []] := by
  have e : lnFold (t ++ [13, 10, 13, 10]) = ((lnFold t).1 ++ [(lnFold t).2] ++ [[]], []) := by
    unfold lnFold
    rw [List.foldl_append]
    obtain ⟨o, c⟩ := t.foldl lnStep ([], [])
    rw [List.foldl_cons, step13, List.foldl_cons, step10, List.foldl_cons, step13, List.foldl_cons]
    have := step10 (o ++ [c]) []
    rw [this]
    rfl
  unfold crl
  rw [e]; simp
/-- The program's lines: of a text whose last one is empty. -/
def linesO (l : List UInt8) : Option (List (List UInt8)) := if Lib.hasSuffix l [13, 10, 13, 10] then some (crl (Lib.trimSuffix l [13, 10, 13, 10])) else none
/-- Both ways agree, where an empty line is none. -/
theorem lines_both (l : List UInt8) :
    (∃ p ps, linesO l = some (p :: ps) ∧ (∀ x ∈ p :: ps, x ≠ []) ∧ rlF l [] [] = (p :: ps ++ [[]], true)) ∨
    ((linesO l = none ∨ ∃ q, linesO l = some q ∧ ∃ x ∈ q, x = []) ∧ ((rlF l [] []).2 = false ∨ (rlF l [] []).1.length < 2)) := by
  rw [rlF_crl]
  unfold linesO
  by_cases hs : Lib.hasSuffix l [13, 10, 13, 10] = true
  · rw [if_pos hs]
    obtain ⟨t, rfl⟩ := (hasSuf_iff l).1 hs
    rw [trimSuf, crl_end]
    by_cases ha : ∀ x ∈ crl t, x ≠ []
    · left
      obtain ⟨p, ps, e⟩ := crl_cons t
      rw [e] at ha ⊢
      exact ⟨p, ps, rfl, ha, firstE_all _ ha⟩
    · right
      have hx : ∃ x ∈ crl t, x = [] := by
        simpa using ha
      refine ⟨Or.inr ⟨_, rfl, hx⟩, Or.inl ?_⟩
      by_cases hf : (firstE (crl t ++ [[], []])).2 = true
      · obtain ⟨a, h1, _, h3⟩ := firstE_ok _ hf
        have := List.append_cancel_right h1
        obtain ⟨x, hx1, hx2⟩ := hx
        exact absurd hx2 (h3 x (this ▸ hx1))
      · simpa using hf
  · rw [if_neg hs]
    right
    refine ⟨Or.inl rfl, ?_⟩
    by_cases hf : (firstE (crl l)).2 = true
    · obtain ⟨a, h1, h2, h3⟩ := firstE_ok _ hf
      right
      rw [h2]
      cases ha : a.reverse with
      | nil =>
        have : a = [] := by simpa using ha
        rw [this]; decide
      | cons x b =>
        exfalso
        have e : a = b.reverse ++ [x] := by
          have := congrArg List.reverse ha
          simpa using this
        have hc : lnFold l = (a ++ [[]], []) := by
          have e1 : (lnFold l).1 ++ [(lnFold l).2] = (a ++ [[]]) ++ [[]] := by
            have := h1; unfold crl at this; rw [this]; simp
          have e2 := List.append_inj_left' e1 rfl
          have e3 := List.append_inj_right' e1 rfl
          injection e3 with e3 _
          exact Prod.ext e2 e3
        have hfl := crl_flat l
        rw [hc] at hfl
        simp only [List.append_nil] at hfl
        rw [flatP_snoc, e, flatP_snoc] at hfl
        refine hs ((hasSuf_iff l).2 ⟨flatP b.reverse ++ x, ?_⟩)
        rw [← hfl]; simp
    · left; simpa using hf
end Go.Proofs.YtonoaopioifedaaGreatDoor
