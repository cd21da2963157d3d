/- Wheels: what has ended, in order, as many as are asked for (plain). -/
import Derived.Test.YtdjkoomgapflcaaWhP
namespace Go.Proofs.Ytdjkoomgapflcaa
open Go.RowKit Go.Deep
set_option linter.unusedVariables false
def minus (E : EL) (pre : EL) : EL := pre.foldl (fun E x => cK x.1.k E) E
theorem minus_snoc (E pre : EL) (x : EK × Unit) : minus E (pre ++ [x]) = cK x.1.k (minus E pre) := by simp [minus]
theorem minus_len (E : EL) : ∀ pre : EL, (minus E pre).length ≤ E.length := by
  intro pre
  induction pre generalizing E with
  | nil => exact Nat.le_refl _
  | cons x pre ih => exact Nat.le_trans (ih (cK x.1.k E)) (cK_len _ _)
/-- Each key ends once. -/
def DK (E : EL) : Prop := E.Pairwise fun a b => a.1.k ≠ b.1.k
theorem dk_of {A : List (Int × Int)} {E : EL} (h : Rel A E) (ha : Asc id A) (hE : Asc tE E) : DK E := by
  unfold DK
  refine List.Pairwise.imp_of_mem ?_ hE
  intro x y hx hy hxy e
  have := rel_uniq h ha hx hy e
  subst this
  exact absurd hxy (by omega)
theorem minus_take : ∀ {E : EL}, DK E → ∀ n, minus E (E.take n) = E.drop n
  | [], _, n => by simp [minus]
  | x :: E, h, 0 => rfl
  | x :: E, h, n + 1 => by
    have h' := List.pairwise_cons.1 h
    have hc : cK x.1.k (x :: E) = E := by
      unfold cK
      rw [List.filter_cons, if_neg (by simp), List.filter_eq_self]
      intro y hy
      simpa using h'.1 y hy
    rw [List.take_succ_cons, List.drop_succ_cons]
    show minus (cK x.1.k (x :: E)) (E.take n) = _
    rw [hc]
    exact minus_take h'.2 n
/-- How many are told. -/
def dueD (E : EL) (now : Int) : EL := E.takeWhile fun x => decide (x.1.s ≤ now)
def dueN (E : EL) (now most : Int) : Nat := min (dueD E now).length (max 1 most.toNat)
theorem takeW_all {α : Type} {p : α → Bool} : ∀ {l : List α}, (∀ x ∈ l, p x = true) → l.takeWhile p = l
  | [], _ => rfl
  | x :: l, h => by
    rw [List.takeWhile_cons, if_pos (h x (by simp)), takeW_all fun y hy => h y (by simp [hy])]
theorem takeW_stop {α : Type} {p : α → Bool} {x : α} {r : List α} (hx : p x = false) : ∀ {l : List α}, (∀ y ∈ l, p y = true) → (l ++ x :: r).takeWhile p = l
  | [], _ => by rw [List.nil_append, List.takeWhile_cons, hx]; rfl
  | y :: l, h => by
    rw [List.cons_append, List.takeWhile_cons, if_pos (h y (by simp)), takeW_stop hx fun z hz => h z (by simp [hz])]
theorem takeW_more {α : Type} {p : α → Bool} {r : List α} : ∀ {l : List α}, (∀ y ∈ l, p y = true) → l.length ≤ ((l ++ r).takeWhile p).length
  | [], _ => Nat.zero_le _
  | y :: l, h => by
    rw [List.cons_append, List.takeWhile_cons, if_pos (h y (by simp)), List.length_cons, List.length_cons]
    have := takeW_more (r := r) fun z hz => h z (List.mem_cons_of_mem y hz)
    omega
/-- What goes on: all told have ended, and more are asked for. -/
def Goes (now most : Int) (pre : EL) : Prop := (∀ x ∈ pre, x.1.s ≤ now) ∧ (pre = [] ∨ (pre.length : Int) < most)
theorem due_done {E : EL} {now most : Int} (h : Goes now most E) : dueN E now most = E.length := by
  unfold dueN dueD
  rw [takeW_all (fun x hx => by simpa using h.1 x hx)]
  rcases h.2 with h | h
  · subst h; simp
  · omega
theorem due_late {E pre r : EL} {x : EK × Unit} {now most : Int} (he : E = pre ++ x :: r) (h : Goes now most pre) (hx : now < x.1.s) : dueN E now most = pre.length := by
  subst he
  unfold dueN dueD
  rw [takeW_stop (by simp; omega) (fun y hy => by simpa using h.1 y hy)]
  rcases h.2 with h | h
  · subst h; simp
  · omega
theorem due_full {E pre r : EL} {x : EK × Unit} {now most : Int} (he : E = pre ++ x :: r) (h : Goes now most pre) (hx : x.1.s ≤ now) (hm : ¬ (pre.length : Int) + 1 < most) : dueN E now most = pre.length + 1 := by
  subst he
  unfold dueN dueD
  have hl := takeW_more (p := fun y : EK × Unit => decide (y.1.s ≤ now)) (l := pre ++ [x]) (r := r) (fun y hy => by
    rcases List.mem_append.1 hy with hy | hy
    · simpa using h.1 y hy
    · rw [List.mem_singleton.1 hy]; simpa using hx)
  rw [List.append_assoc, List.singleton_append, List.length_append, List.length_singleton] at hl
  rcases h.2 with h | h
  · subst h
    simp only [List.length_nil, Nat.zero_add, Int.natCast_zero] at *
    omega
  · omega
theorem dueN_le (E : EL) (now most : Int) : dueN E now most ≤ E.length := by
  have : (dueD E now).length ≤ E.length := (List.takeWhile_sublist _).length_le
  unfold dueN; omega
end Go.Proofs.Ytdjkoomgapflcaa
