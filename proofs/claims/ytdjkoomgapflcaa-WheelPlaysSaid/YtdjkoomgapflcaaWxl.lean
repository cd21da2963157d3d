/- What has ended, beside the document's rows (plain). -/
import Derived.Test.YtdjkoomgapflcaaWx
namespace Go.Proofs.Ytdjkoomgapflcaa
open Go.RowKit Go.Deep
set_option linter.unusedVariables false
set_option linter.unusedSimpArgs false
theorem tw_iff {α : Type} (q : α → Bool) : ∀ (E : List α) (i : Nat) (x : α), i ≤ (E.takeWhile q).length → E[i]? = some x → (q x = true ↔ i < (E.takeWhile q).length)
  | [], i, x, _, h => by simp at h
  | y :: E, 0, x, _, h => by
    have : y = x := by simpa using h
    subst this
    by_cases hq : q y = true
    · rw [List.takeWhile_cons_of_pos hq]; simp [hq]
    · rw [List.takeWhile_cons_of_neg hq]; simp [hq]
  | y :: E, i + 1, x, hl, h => by
    have h' : E[i]? = some x := by simpa using h
    by_cases hq : q y = true
    · rw [List.takeWhile_cons_of_pos hq] at hl ⊢
      rw [List.length_cons] at hl ⊢
      rw [tw_iff q E i x (by omega) h']
      omega
    · rw [List.takeWhile_cons_of_neg hq] at hl
      simp at hl
theorem tw_le {α : Type} (q : α → Bool) : ∀ (E : List α), (E.takeWhile q).length ≤ E.length
  | [] => by simp
  | y :: E => by
    rw [List.takeWhile_cons]
    split
    · have := tw_le q E; simp; omega
    · simp
theorem drop_at {E : EL} {i : Nat} {x : EK × Unit} {E' : EL} (h : E.drop i = x :: E') : E[i]? = some x ∧ E.drop (i + 1) = E' := by
  refine ⟨?_, ?_⟩
  · have := congrArg (fun l => l[0]?) h
    simpa using this
  · rw [← List.drop_drop, h]; rfl
theorem due_stop {E : EL} {now most : Int} {i : Nat} {x : EK × Unit} {E' : EL} (h : E.drop i = x :: E') (hi : i ≤ dueN E now most) (hx : now < x.1.s) : dueN E now most = i := by
  have h1 := tw_iff (fun x : EK × Unit => decide (x.1.s ≤ now)) E i x (Nat.le_trans hi (Nat.min_le_left _ _)) (drop_at h).1
  have h2 : ¬ i < (dueD E now).length := fun g => by
    have := h1.2 g
    have := of_decide_eq_true this
    omega
  unfold dueN at hi ⊢
  omega
theorem due_nil {E : EL} {now most : Int} {i : Nat} (h : E.drop i = []) (hi : i ≤ dueN E now most) : dueN E now most = i := by
  have h1 := dueN_le E now most
  have h2 : E.length ≤ i := by simpa using h
  omega
theorem due_end {E : EL} {now most : Int} {i : Nat} (hi : i ≤ dueN E now most) (h0 : i ≠ 0) (h1 : ¬ (i : Int) < most) : dueN E now most = i := by
  unfold dueN at hi ⊢
  omega
theorem due_go {E : EL} {now most : Int} {i : Nat} {x : EK × Unit} {E' : EL} (h : E.drop i = x :: E') (hi : i ≤ dueN E now most) (hx : x.1.s ≤ now) (hc : i = 0 ∨ (i : Int) < most) : i < dueN E now most := by
  have h1 := (tw_iff (fun x : EK × Unit => decide (x.1.s ≤ now)) E i x (Nat.le_trans hi (Nat.min_le_left _ _)) (drop_at h).1).1 (decide_eq_true hx)
  have h2 : i < (dueD E now).length := h1
  unfold dueN
  omega
theorem due_len (E : EL) (now most : Int) : ((E.take (dueN E now most)).map (·.1.k)).length = dueN E now most := by
  rw [List.length_map, List.length_take]
  have := dueN_le E now most
  omega
theorem due_key {E : EL} {N i : Nat} {x : EK × Unit} {E' : EL} (h : E.drop i = x :: E') (hi : i < N) : ((E.take N).map (·.1.k))[i]? = some x.1.k := by
  rw [List.getElem?_map, List.getElem?_take, if_pos hi, (drop_at h).1]
  rfl
theorem next_form (E : EL) : ∃ nx is, nextV E = .tuple #[.int .u64 nx, .bool is] ∧ ((E = [] ∧ nx = 0 ∧ is = false) ∨ ∃ x E', E = x :: E' ∧ nx = x.1.s ∧ is = true) := by
  cases E with
  | nil => exact ⟨_, _, rfl, .inl ⟨rfl, rfl, rfl⟩⟩
  | cons x E => exact ⟨_, _, rfl, .inr ⟨x, E, rfl, rfl, rfl⟩⟩
theorem next_first {R : RL} {E : EL} {b : Int} {nx : Int} {is : Bool} (h : Rel R E) (ha : Asc tE E) (hb : BestV R R.length b) (hn : (E = [] ∧ nx = 0 ∧ is = false) ∨ ∃ x E', E = x :: E' ∧ nx = x.1.s ∧ is = true) :
    (is = false ∧ nx = 0 ∧ b = -1) ∨ ∃ (i : Nat) (kk : Int), is = true ∧ b = (i : Int) ∧ i < R.length ∧ R[i]? = some (kk, nx) := by
  rcases rel_first h ha hb with ⟨h1, h2⟩ | ⟨x, E', i, h1, h2, h3, h4⟩
  · rcases hn with ⟨_, h3, h4⟩ | ⟨y, F, h3, _⟩
    · exact .inl ⟨h4, h3, h2⟩
    · rw [h1] at h3; cases h3
  · rcases hn with ⟨h5, _⟩ | ⟨y, F, h5, h6, h7⟩
    · rw [h1] at h5; cases h5
    · rw [h1] at h5; cases h5
      exact .inr ⟨i, x.1.k, h7, h2, h3, by rw [h6]; exact h4⟩
theorem find_form {R : RL} {E : EL} (h : Rel R E) (hd : DK E) (k : Int) : ∃ g hb fi, (gK k E).getD 0 = g ∧ hK k E = hb ∧ idxL k (R.map (·.1)) = fi ∧ ((hb = false ∧ g = 0 ∧ fi = -1) ∨ ∃ i : Nat, hb = true ∧ fi = (i : Int) ∧ i < R.length ∧ R[i]? = some (k, g)) := by
  refine ⟨_, _, _, rfl, rfl, rfl, ?_⟩
  rcases rel_find h hd k with ⟨h1, h2⟩ | ⟨i, s, h1, h2, h3, h4, h5⟩
  · exact .inl ⟨h1, by rw [gK_none h1]; rfl, h2⟩
  · exact .inr ⟨i, h1, h3, h2, by rw [h5]; exact h4⟩
section
variable {base : Nat} {w : World} {p ta tb rp : Nat} {E : EL} {R : RL} {X : Nat} {o : Op4} {z : World}
theorem WX.place2 (h : WX base w p ta tb rp E R X o z) (hn : 0 < R.length) : ∃ kg kc vg vc, z.cell? ⟨rp, 0, none⟩ = some (.slice (some ⟨kg, 0, none⟩) R.length kc) ∧ z.cell? ⟨rp, 1, none⟩ = some (.slice (some ⟨vg, 0, none⟩) R.length vc) ∧ ∀ i x, R[i]? = some x → z.cell? ⟨kg, i, none⟩ = some (.int .i64 x.1) ∧ z.cell? ⟨vg, i, none⟩ = some (.int .u64 x.2) := by
  obtain ⟨ka, kc, va, vc, hr⟩ := h.ww.rw
  obtain ⟨t0, t1, _⟩ := two_cells hr.tab
  obtain ⟨g, f, rfl, rfl, hc⟩ := hr.at hn
  exact ⟨g, kc, f, vc, t0, t1, hc⟩
theorem WX.dr (h : WX base w p ta tb rp E R X o z) (m : Nat) : WX base w p ta tb rp E R X o (z.drewN m) := h.q (bdrewN (Below.refl _ _) _)
theorem IRow.dr {v : Value} {xs : List Int} (h : IRow base z v xs) (m : Nat) : IRow base (z.drewN m) v xs := h.only (X := fun _ => False) (OnlyS.of (bdrewN (Below.refl _ _) _)) fun _ _ e => e
theorem len_q (h : WX base w p ta tb rp E R X o z) (m : Nat) : Calls Try.prog 18 #[.pointer (some ⟨p, 0, none⟩)] (z.drewN m) fun e w' => e = .returned (.int .i64 (E.length : Int)) ∧ w' = z.drewN m :=
  (len_any (z.drewN m) p ta tb E (h.dr m).ww.wat).mono fun _ _ h => ⟨h.1, h.2.symm⟩
end
end Go.Proofs.Ytdjkoomgapflcaa
