/- Wheels: the keys with their seconds, and the ends in order (plain). -/
import Derived.Test.YtdjkoomgapflcaaGPlain
import Derived.Test.YtdjkoomgapflcaaEKey
namespace Go.Proofs.Ytdjkoomgapflcaa
open Go.RowKit Go.Deep
set_option linter.unusedVariables false
set_option linter.unusedSimpArgs false
abbrev EL := List (EK × Unit)
def pairE (x : EK × Unit) : Int × Int := (x.1.k, x.1.s)
/-- The keys with their seconds are the ends. -/
def Rel (A : List (Int × Int)) (E : EL) : Prop := A.Perm (E.map pairE)
/-- Is a key to end? Its second; the ends without it; with it. -/
def hK (k : Int) (E : EL) : Bool := E.any fun x => decide (k = x.1.k)
def gK (k : Int) (E : EL) : Option Int := (E.find? fun x => decide (k = x.1.k)).map (·.1.s)
def cK (k : Int) (E : EL) : EL := E.filter fun x => decide (k ≠ x.1.k)
def sK (x : EK) (E : EL) : EL := insL tE x () (cK x.k E)
theorem ins_perm {κ ν : Type} {τ : κ → Int} {k : κ} {v : ν} : ∀ {L : List (κ × ν)}, hasL τ k L = false → (insL τ k v L).Perm ((k, v) :: L)
  | [], _ => List.Perm.refl _
  | x :: L, h => by
    have h1 : ¬ τ k = τ x.1 := by
      intro e; unfold hasL at h; rw [List.any_cons, decide_eq_true e] at h; cases h
    have h2 : hasL τ k L = false := by
      unfold hasL at h ⊢; rw [List.any_cons, Bool.or_eq_false_iff] at h; exact h.2
    rw [insL]
    split
    · exact List.Perm.refl _
    · exact (List.Perm.cons x (ins_perm h2)).trans (List.Perm.swap _ _ _)
theorem rel_nil : Rel [] [] := List.Perm.refl _
theorem rel_len {A : List (Int × Int)} {E : EL} (h : Rel A E) : A.length = E.length := by have := h.length_eq; rwa [List.length_map] at this
theorem rel_mem {A : List (Int × Int)} {E : EL} (h : Rel A E) {x : EK × Unit} (hx : x ∈ E) : (x.1.k, x.1.s) ∈ A := h.mem_iff.2 (List.mem_map.2 ⟨x, hx, rfl⟩)
theorem rel_mem2 {A : List (Int × Int)} {E : EL} (h : Rel A E) {y : Int × Int} (hy : y ∈ A) : ∃ x ∈ E, y = (x.1.k, x.1.s) := by
  obtain ⟨x, hx, e⟩ := List.mem_map.1 (h.mem_iff.1 hy)
  exact ⟨x, hx, e.symm⟩
theorem hK_iff {k : Int} {E : EL} : hK k E = true ↔ ∃ x ∈ E, k = x.1.k := by
  unfold hK; rw [List.any_eq_true]; simp
theorem rel_has {A : List (Int × Int)} {E : EL} (h : Rel A E) (k : Int) : hasL id k A = hK k E := by
  rw [Bool.eq_iff_iff, hasL_iff, hK_iff]
  constructor
  · rintro ⟨y, hy, e⟩
    obtain ⟨x, hx, e2⟩ := rel_mem2 h hy
    exact ⟨x, hx, by rw [e2] at e; exact e⟩
  · rintro ⟨x, hx, e⟩
    exact ⟨_, rel_mem h hx, e⟩
theorem asc_uniq {κ ν : Type} {τ : κ → Int} : ∀ {L : List (κ × ν)}, Asc τ L → ∀ {x y : κ × ν}, x ∈ L → y ∈ L → τ x.1 = τ y.1 → x = y
  | [], _, x, y, hx, _, _ => by cases hx
  | z :: L, h, x, y, hx, hy, e => by
    have h' := List.pairwise_cons.1 h
    rcases List.mem_cons.1 hx with h1 | h1
    · rcases List.mem_cons.1 hy with h2 | h2
      · rw [h1, h2]
      · have h3 := h'.1 y h2
        rw [h1] at e
        omega
    · rcases List.mem_cons.1 hy with h2 | h2
      · have h3 := h'.1 x h1
        rw [h2] at e
        omega
      · exact asc_uniq h'.2 h1 h2 e
theorem get_mem {κ ν : Type} {τ : κ → Int} {L : List (κ × ν)} (h : Asc τ L) {x : κ × ν} (hx : x ∈ L) {k : κ} (hk : τ k = τ x.1) : getL τ k L = some x.2 := by
  unfold getL
  cases hf : L.find? fun y => decide (τ k = τ y.1) with
  | none =>
    have := List.find?_eq_none.1 hf x hx
    simp at this; exact absurd hk this
  | some y =>
    have hy := List.mem_of_find?_eq_some hf
    have he := List.find?_some hf
    have h3 : τ k = τ y.1 := of_decide_eq_true he
    have h4 : y = x := asc_uniq h hy hx (by rw [← h3, hk])
    rw [h4]; rfl
/-- Of two ends of one key there is one. -/
theorem rel_uniq {A : List (Int × Int)} {E : EL} (h : Rel A E) (ha : Asc id A) {x y : EK × Unit} (hx : x ∈ E) (hy : y ∈ E) (e : x.1.k = y.1.k) : x = y := by
  have h1 := rel_mem h hx
  have h2 := rel_mem h hy
  have h3 := asc_uniq ha h1 h2 e
  have h4 : x.1.s = y.1.s := congrArg Prod.snd h3
  obtain ⟨⟨a, b, c, d⟩, u⟩ := x
  obtain ⟨⟨a', b', c', d'⟩, u'⟩ := y
  simp only at e h4
  subst e h4
  rfl
theorem rel_get {A : List (Int × Int)} {E : EL} (h : Rel A E) (ha : Asc id A) (k : Int) : getL id k A = gK k E := by
  unfold gK
  cases hf : E.find? fun x => decide (k = x.1.k) with
  | none =>
    refine get_none ?_
    rw [rel_has h]
    cases hh : hK k E with
    | false => rfl
    | true =>
      obtain ⟨x, hx, e⟩ := hK_iff.1 hh
      have := List.find?_eq_none.1 hf x hx
      simp at this; exact absurd e this
  | some x =>
    have hx := List.mem_of_find?_eq_some hf
    have he : k = x.1.k := by have := List.find?_some hf; simpa using this
    exact get_mem ha (rel_mem h hx) he
theorem gK_some {k : Int} {E : EL} (h : hK k E = true) : ∃ x ∈ E, k = x.1.k ∧ gK k E = some x.1.s := by
  unfold gK
  cases hf : E.find? fun x => decide (k = x.1.k) with
  | none =>
    obtain ⟨x, hx, e⟩ := hK_iff.1 h
    have := List.find?_eq_none.1 hf x hx
    simp at this; exact absurd e this
  | some x => exact ⟨x, List.mem_of_find?_eq_some hf, by have := List.find?_some hf; simpa using this, rfl⟩
theorem gK_none {k : Int} {E : EL} (h : hK k E = false) : gK k E = none := by
  unfold gK
  rw [List.find?_eq_none.2]
  · rfl
  · intro x hx
    unfold hK at h
    have := List.any_eq_false.1 h x hx
    simpa using this
theorem rel_del {A : List (Int × Int)} {E : EL} (h : Rel A E) (k : Int) : Rel (delL id k A) (cK k E) := by
  unfold Rel delL cK
  have h1 := h.filter (fun x => decide (id k ≠ id x.1))
  rw [List.filter_map] at h1
  exact h1
theorem cK_del {A : List (Int × Int)} {E : EL} (h : Rel A E) (ha : Asc id A) {x : EK × Unit} (hx : x ∈ E) : delL tE x.1 E = cK x.1.k E := by
  unfold delL cK
  refine List.filter_congr fun y hy => ?_
  rw [decide_eq_decide]
  constructor
  · intro h1 e; exact h1 (by rw [rel_uniq h ha hx hy e])
  · intro h1 e; exact h1 (by rw [tE_inj e])
theorem cK_not (k : Int) (E : EL) : hK k (cK k E) = false := by
  unfold hK cK
  rw [List.any_eq_false]
  intro x hx
  have := (List.mem_filter.1 hx).2
  simpa using this
theorem cK_self {k : Int} {E : EL} (h : hK k E = false) : cK k E = E := by
  unfold cK
  rw [List.filter_eq_self]
  intro x hx
  unfold hK at h
  have := List.any_eq_false.1 h x hx
  simpa using this
theorem has_of_key {x : EK} {E : EL} (h : hK x.k E = false) : hasL tE x E = false := by
  cases hh : hasL tE x E with
  | false => rfl
  | true =>
    obtain ⟨y, hy, e⟩ := hasL_iff.1 hh
    have h2 : hK x.k E = true := hK_iff.2 ⟨y, hy, congrArg EK.k (tE_inj e)⟩
    rw [h] at h2; cases h2
theorem rel_ins {A : List (Int × Int)} {E : EL} (h : Rel A E) (x : EK) (hn : hK x.k E = false) : Rel (insL id x.k x.s A) (insL tE x () E) := by
  unfold Rel
  have h1 : (insL id x.k x.s A).Perm ((x.k, x.s) :: A) := ins_perm (by rw [rel_has h]; exact hn)
  have h2 : (insL tE x () E).Perm ((x, ()) :: E) := ins_perm (has_of_key hn)
  have h3 := h2.map pairE
  rw [List.map_cons] at h3
  exact h1.trans ((List.Perm.cons _ h).trans h3.symm)
theorem cK_len (k : Int) (E : EL) : (cK k E).length ≤ E.length := List.length_filter_le _ _
theorem cK_asc {k : Int} {E : EL} (h : Asc tE E) : Asc tE (cK k E) := List.Pairwise.sublist List.filter_sublist h
theorem sK_len (x : EK) (E : EL) : (sK x E).length ≤ E.length + 1 := by
  unfold sK; exact Nat.le_trans (ins_le _) (by have := cK_len x.k E; omega)
theorem sK_asc {x : EK} {E : EL} (h : Asc tE E) : Asc tE (sK x E) := ins_asc (cK_asc h)
end Go.Proofs.Ytdjkoomgapflcaa
