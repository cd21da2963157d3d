/- What is taken away of a set's mappings, one by one (plain, and what holds between two). -/
import Derived.Test.YtijjgnkfddklgaaMSet
import Derived.Test.YtijjgnkfddklgaaCW
namespace Go.Proofs.Ytijjgnkfddklgaa
open Go.RowKit Go.Deep Go.Shelf
set_option linter.unusedVariables false
set_option linter.unusedSimpArgs false
set_option maxRecDepth 100000
/-- What stays of a list, one by one. -/
def keepQ (q : ML → MK × ME → Bool) : ML → ML → ML
  | _, [] => []
  | p, x :: r => (if q p x then [] else [x]) ++ keepQ q (p ++ [x]) r
theorem keepQ_snoc (q : ML → MK × ME → Bool) (x : MK × ME) : ∀ (a p : ML), keepQ q p (a ++ [x]) = keepQ q p a ++ (if q (p ++ a) x then [] else [x])
  | [], p => by simp [keepQ]
  | y :: a, p => by
    rw [List.cons_append, keepQ, keepQ, keepQ_snoc q x a (p ++ [y]), List.append_assoc, List.append_assoc, List.singleton_append]
theorem keepQ_sub (q : ML → MK × ME → Bool) : ∀ (a p : ML), (keepQ q p a).Sublist a
  | [], _ => List.Sublist.refl _
  | x :: a, p => by
    rw [keepQ]
    have := keepQ_sub q a (p ++ [x])
    split
    · exact this.cons _
    · exact List.Sublist.cons_cons x this
theorem keepQ_const (f : MK × ME → Bool) : ∀ (a p : ML), keepQ (fun _ x => f x) p a = a.filter (fun x => !f x)
  | [], _ => rfl
  | x :: a, p => by
    rw [keepQ, keepQ_const f a, List.filter_cons]
    cases f x <;> rfl
/-- The list when some have been looked at. -/
def delAll (q : ML → MK × ME → Bool) : ML → ML → ML → ML
  | _, [], L => L
  | p, x :: r, L => delAll q (p ++ [x]) r (if q p x then delL tM x.1 L else L)
theorem delAll_snoc (q : ML → MK × ME → Bool) (x : MK × ME) : ∀ (a p L : ML), delAll q p (a ++ [x]) L = if q (p ++ a) x then delL tM x.1 (delAll q p a L) else delAll q p a L
  | [], p, L => by simp [delAll]
  | y :: a, p, L => by
    rw [List.cons_append, delAll, delAll, delAll_snoc q x a (p ++ [y]), List.append_assoc, List.singleton_append]
theorem delAll_len (q : ML → MK × ME → Bool) : ∀ (a p L : ML), (delAll q p a L).length ≤ L.length
  | [], p, L => Nat.le_refl _
  | y :: a, p, L => by
    rw [delAll]
    refine Nat.le_trans (delAll_len q a _ _) ?_
    split
    · exact del_le L
    · exact Nat.le_refl _
theorem delAll_keep (q : ML → MK × ME → Bool) : ∀ (r p K : ML), Asc tM (K ++ r) → delAll q p r (K ++ r) = K ++ keepQ q p r
  | [], p, K, _ => by simp [delAll, keepQ]
  | x :: r, p, K, h => by
    rw [delAll, keepQ]
    have h3 := asc_mid.1 h
    cases hq : q p x with
    | true =>
      rw [if_pos rfl, if_pos rfl, del_here rfl h3.2.2.1 h3.2.2.2, List.nil_append]
      refine delAll_keep q r (p ++ [x]) K ?_
      exact List.Pairwise.sublist ((List.Sublist.refl K).append (List.sublist_cons_self x r)) h
    | false =>
      rw [if_neg (by simp), if_neg (by simp), show K ++ x :: r = (K ++ [x]) ++ r by simp, delAll_keep q r (p ++ [x]) (K ++ [x]) (by simpa using h), List.append_assoc]
def midQ (q : ML → MK × ME → Bool) (L pre : ML) : ML := delAll q [] pre L
theorem midQ_nil (q : ML → MK × ME → Bool) (L : ML) : midQ q L [] = L := rfl
theorem midQ_all {q : ML → MK × ME → Bool} {L : ML} (h : Asc tM L) : midQ q L L = keepQ q [] L := delAll_keep q L [] [] h
theorem midQ_len (q : ML → MK × ME → Bool) (L pre : ML) : (midQ q L pre).length ≤ L.length := delAll_len q pre [] L
theorem midQ_stay {q : ML → MK × ME → Bool} {L pre : ML} {x : MK × ME} (h : q pre x = false) : midQ q L (pre ++ [x]) = midQ q L pre := by
  unfold midQ; rw [delAll_snoc, List.nil_append, h]; rfl
theorem midQ_gone {q : ML → MK × ME → Bool} {L pre : ML} {x : MK × ME} (h : q pre x = true) : midQ q L (pre ++ [x]) = delL tM x.1 (midQ q L pre) := by
  unfold midQ; rw [delAll_snoc, List.nil_append, h]; rfl
/-- Cells stay, but the table's head. -/
def KT (W W' : World) : Prop := ∀ (k : Nat) (cs : Array Value) (T : TypeId) (f : Nat × Nat), T ≠ 107 → W.heap[k]? = some (Obj.cells cs T f) → W'.heap[k]? = some (Obj.cells cs T f)
/-- Only blocks of ints turn. -/
def OnlyI (base : Nat) (W W' : World) : Prop := OnlyS (fun k => base ≤ k ∧ ∃ cs f, W.heap[k]? = some (.cells cs 3 f)) W W'
theorem OnlyI.of {base : Nat} {W W' : World} (h : Below W.heap.size W W') : OnlyI base W W' := OnlyS.of h
theorem OnlyI.cells {base : Nat} {W W' : World} (h : OnlyI base W W') {k : Nat} {cs : Array Value} {T : TypeId} {f : Nat × Nat} (hT : T ≠ 3) (hk : W.heap[k]? = some (.cells cs T f)) : W'.heap[k]? = some (.cells cs T f) :=
  h.heap hk (by rintro ⟨_, ds, g, hd⟩; rw [hk] at hd; injection hd with hd; injection hd with _ h2 _; exact hT h2)
theorem OnlyI.other {base : Nat} {W W' : World} (h : OnlyI base W W') {k : Nat} {o : Obj} (hc : o.isCells = false) (hk : W.heap[k]? = some o) : W'.heap[k]? = some o :=
  h.heap hk (by rintro ⟨_, ds, g, hd⟩; rw [hk] at hd; cases hd; cases hc)
theorem SAt.keepC {w w' : World} {sp tt : Nat} {cs : Array Value} {up : Int} {L : ML} (h : SAt w sp tt cs up L) (hk : ∀ (k : Nat) (ds : Array Value) (T : TypeId) (f : Nat × Nat), T = 79 ∨ T = 107 ∨ T = 122 → w.heap[k]? = some (Obj.cells ds T f) → w'.heap[k]? = some (Obj.cells ds T f)) : SAt w' sp tt cs up L := by
  obtain ⟨ds, h1⟩ := tab_hd h.tab
  refine ⟨hk _ _ _ _ (.inl rfl) h.blk, h.csz, h.tab.keep (fun b es hb => hk _ _ _ _ (.inr (.inr rfl)) hb) (fun o ho => ?_)⟩
  have := hk _ _ _ _ (.inr (.inl rfl)) h1
  rw [h1] at ho
  rw [this, ho]
/-- The blocks that take turns. -/
def XT (tt base : Nat) : Nat → Prop := fun k => k = tt ∨ base ≤ k
theorem XT_int {w W W' : World} {tt base : Nat} (h : OnlyS (XT tt base) w W) (g : OnlyI base W W') : OnlyS (XT tt base) w W' := h.trans g (fun i hi hy => .inr hy.1)
/-- What taking some away answers, and leaves. -/
def TakeAns (q : ML → MK × ME → Bool) (base sp tt : Nat) (cs : Array Value) (up : Int) (L : ML) (w : World) (e : Ending) (w' : World) : Prop :=
  e = .returned (.bool (decide ((keepQ q [] L).length ≠ L.length))) ∧ SAt w' sp tt cs (if (keepQ q [] L).length ≠ L.length then IntKind.u32.wrap (up + 1) else up) (keepQ q [] L) ∧ OnlyS (fun k => k = sp ∨ XT tt base k) w w'
end Go.Proofs.Ytijjgnkfddklgaa
