/- The document's wheel beside the ends (plain). -/
import Derived.Test.YtdjkoomgapflcaaRWs
namespace Go.Proofs.Ytdjkoomgapflcaa
open Go.RowKit Go.Deep
set_option linter.unusedVariables false
set_option linter.unusedSimpArgs false
theorem rel_keys {R : RL} {E : EL} (h : Rel R E) : (R.map (·.1)).Perm (E.map (·.1.k)) := by
  have := h.map (·.1)
  rw [List.map_map] at this
  exact this
theorem rel_nodup {R : RL} {E : EL} (h : Rel R E) (hd : DK E) : (R.map (·.1)).Nodup := by
  rw [(rel_keys h).nodup_iff]
  unfold List.Nodup
  rw [List.pairwise_map]
  exact hd
theorem rel_mem_iff {R : RL} {E : EL} (h : Rel R E) (k : Int) : decide (k ∈ R.map (·.1)) = hK k E := by
  rw [Bool.eq_iff_iff, decide_eq_true_iff, (rel_keys h).mem_iff, hK_iff, List.mem_map]
  constructor
  · rintro ⟨x, hx, e⟩; exact ⟨x, hx, e.symm⟩
  · rintro ⟨x, hx, e⟩; exact ⟨x, hx, e.symm⟩
theorem rel_cR {R : RL} {E : EL} (h : Rel R E) (k : Int) : Rel (cR k R) (cK k E) := by
  have h1 := h.filter fun x => decide (k ≠ x.1)
  rw [List.filter_map] at h1
  exact h1
theorem rel_setR {R : RL} {E : EL} (h : Rel R E) (x : EK) : Rel (cR x.k R ++ [(x.k, x.s)]) (sK x E) := by
  have h1 : (sK x E).Perm ((x, ()) :: cK x.k E) := ins_perm (has_of_key (cK_not x.k E))
  have h2 := h1.map pairE
  exact (List.perm_append_comm.trans (List.Perm.cons _ (rel_cR h x.k))).trans h2.symm
theorem rel_find {R : RL} {E : EL} (h : Rel R E) (hd : DK E) (k : Int) :
    (hK k E = false ∧ idxL k (R.map (·.1)) = -1) ∨ ∃ (i : Nat) (s : Int), hK k E = true ∧ i < R.length ∧ idxL k (R.map (·.1)) = (i : Int) ∧ R[i]? = some (k, s) ∧ gK k E = some s := by
  rcases idxL_spec k (R.map (·.1)) with ⟨h1, h2⟩ | ⟨i, h1, h2, h3, h4⟩
  · exact .inl ⟨by rw [← rel_mem_iff h, decide_eq_false h2], h1⟩
  · have hk : hK k E = true := by rw [← rel_mem_iff h, decide_eq_true (List.mem_of_getElem? h3)]
    rw [List.length_map] at h1
    rw [List.getElem?_map, List.getElem?_eq_getElem h1] at h3
    have hki : R[i].1 = k := by simpa using h3
    obtain ⟨x, hx, ek, eg⟩ := gK_some hk
    obtain ⟨y, hy, e⟩ := rel_mem2 h (List.getElem_mem h1)
    have hky : y.1.k = x.1.k := by rw [e] at hki; exact hki.trans ek
    have hxy : y = x := by
      have h5 : ∀ {F : EL}, DK F → y ∈ F → x ∈ F → y = x := by
        intro F
        induction F with
        | nil => intro _ h; cases h
        | cons z F ih =>
          intro hp ha hb
          have hp' := List.pairwise_cons.1 hp
          rcases List.mem_cons.1 ha with e1 | a1
          · rcases List.mem_cons.1 hb with e2 | b1
            · rw [e1, e2]
            · exact absurd hky (by rw [e1]; exact hp'.1 x b1)
          · rcases List.mem_cons.1 hb with e2 | b1
            · exact absurd hky.symm (by rw [e2]; exact hp'.1 y a1)
            · exact ih hp'.2 a1 b1
      exact h5 hd hy hx
    refine .inr ⟨i, x.1.s, hk, h1, h2, ?_, eg⟩
    rw [List.getElem?_eq_getElem h1, e, hxy, ek]
theorem le_of_asc {x : EK × Unit} {E : EL} (ha : Asc tE (x :: E)) : ∀ y ∈ x :: E, leP (pairE x) (pairE y) := by
  intro y hy
  rcases List.mem_cons.1 hy with rfl | hy
  · exact leP_refl _
  · have h1 := (List.pairwise_cons.1 ha).1 y hy
    have a1 := x.1.hs; have a2 := x.1.hk; have b1 := y.1.hs; have b2 := y.1.hk
    unfold tE at h1
    unfold leP pairE
    dsimp only
    omega
theorem rel_first {R : RL} {E : EL} (h : Rel R E) (ha : Asc tE E) {b : Int} (hb : BestV R R.length b) :
    (E = [] ∧ b = -1) ∨ ∃ (x : EK × Unit) (E' : EL) (i : Nat), E = x :: E' ∧ b = (i : Int) ∧ i < R.length ∧ R[i]? = some (x.1.k, x.1.s) := by
  rcases hb with ⟨h0, h1⟩ | ⟨i, hi, h1, m, hm, hmin⟩
  · have := rel_len h
    cases E with
    | nil => exact .inl ⟨rfl, h1⟩
    | cons x E => simp at this; omega
  · cases E with
    | nil => have := rel_len h; simp at this; rw [this] at hi; simp at hi
    | cons x E =>
      refine .inr ⟨x, E, i, rfl, h1, hi, ?_⟩
      rw [hm]
      obtain ⟨y, hy, e⟩ := rel_mem2 h (List.mem_of_getElem? hm)
      have l1 := le_of_asc ha y hy
      have hxm : pairE x ∈ R := h.mem_iff.2 (List.mem_map_of_mem List.mem_cons_self)
      obtain ⟨j, hj, ej⟩ := List.getElem_of_mem hxm
      have l2 := hmin j (pairE x) hj (by rw [List.getElem?_eq_getElem hj, ej])
      have : m = pairE y := e
      rw [this] at l2 ⊢
      rw [leP_anti l2 l1]
      rfl
/-- The ends without their first. -/
theorem cK_first {x : EK × Unit} {E : EL} (hd : DK (x :: E)) : cK x.1.k (x :: E) = E := by
  unfold cK
  rw [List.filter_cons_of_neg (by simp)]
  refine List.filter_eq_self.2 fun y hy => ?_
  have := (List.pairwise_cons.1 hd).1 y hy
  simpa using this
theorem dk_drop {E : EL} (h : DK E) (n : Nat) : DK (E.drop n) := h.sublist (List.drop_sublist n E)
theorem dk_asc_drop {E : EL} (h : Asc tE E) (n : Nat) : Asc tE (E.drop n) := h.sublist (List.drop_sublist n E)
end Go.Proofs.Ytdjkoomgapflcaa
