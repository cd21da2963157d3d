/- A struct in a block, loaded and stored whole, or a part of it: the door's seat. -/
import Derived.Test.YtlipckpacdioiaaDoorIRp
import Derived.Deep.WholeRow
import Derived.Deep.MidRow
import Derived.BigFrame
namespace Go.Proofs.YtlipckpacdioiaaDoor
open Go.RowKit
set_option linter.unusedVariables false
set_option linter.unusedSimpArgs false
set_option maxRecDepth 100000
/-- A part of an array, anew. -/
def upd (cs : Array Value) : Nat → List Value → Array Value
  | _, [] => cs
  | o, v :: vs => upd (cs.setIfInBounds o v) (o + 1) vs
theorem upd_size : ∀ (vs : List Value) (cs : Array Value) (o : Nat), (upd cs o vs).size = cs.size
  | [], _, _ => rfl
  | v :: vs, cs, o => by unfold upd; rw [upd_size vs]; simp
theorem upd_get : ∀ (vs : List Value) (cs : Array Value) (o i : Nat), o + vs.length ≤ cs.size → (upd cs o vs)[i]? = if o ≤ i ∧ i < o + vs.length then vs[i - o]? else cs[i]?
  | [], cs, o, i, _ => by unfold upd; rw [if_neg (by simp only [List.length_nil]; omega)]
  | v :: vs, cs, o, i, h => by
    unfold upd
    simp only [List.length_cons] at h ⊢
    rw [upd_get vs _ (o + 1) i (by simp; omega)]
    by_cases h1 : o + 1 ≤ i ∧ i < o + 1 + vs.length
    · rw [if_pos h1, if_pos (by omega), show i - o = (i - (o + 1)) + 1 by omega, List.getElem?_cons_succ]
    · rw [if_neg h1]
      by_cases h2 : i = o
      · subst h2
        rw [if_pos (by omega), Nat.sub_self, List.getElem?_cons_zero, Array.getElem?_setIfInBounds_self_of_lt (by omega)]
      · rw [if_neg (by omega), Array.getElem?_setIfInBounds_ne (by omega)]
theorem upd_whole {c cs : Array Value} (h : c.size = cs.size) : upd c 0 cs.toList = cs := by
  apply Array.ext_getElem?
  intro i
  rw [upd_get _ _ _ _ (by simp; omega)]
  split
  · simp
  · rename_i hn
    rw [Array.getElem?_eq_none (by simp at hn; omega), Array.getElem?_eq_none (by simp at hn; omega)]
theorem heap_setCells (g : Nat) (t : TypeId) : ∀ (vs : List Value) (o : Nat) (w : World) (cs : Array Value), w.heap[g]? = some (.cells cs t (0, 0)) → (w.setCells g o vs).heap[g]? = some (.cells (upd cs o vs) t (0, 0))
  | [], _, _, _, h => h
  | v :: vs, o, w, cs, h => heap_setCells g t vs (o + 1) _ _ (heap_setCell_same w g o _ _ v h)
theorem setCells_other (g : Nat) : ∀ (vs : List Value) (o : Nat) (w : World) (k : Nat), k ≠ g → (w.setCells g o vs).heap[k]? = w.heap[k]?
  | [], _, _, _, _ => rfl
  | v :: vs, o, w, k, h => (setCells_other g vs (o + 1) _ k h).trans (heap_setCell_other _ _ _ _ h)
theorem below_setCells (g : Nat) {N : Nat} {w0 : World} (hN : N ≤ g) : ∀ (vs : List Value) (o : Nat) (w : World), Below N w0 w → Below N w0 (w.setCells g o vs)
  | [], _, _, h => h
  | v :: vs, o, w, h => below_setCells g hN vs (o + 1) _ (h.setCell (p := ⟨g, o, none⟩) hN v)
theorem setCells_size (g : Nat) : ∀ (vs : List Value) (o : Nat) (w : World), (w.setCells g o vs).heap.size = w.heap.size
  | [], _, _ => rfl
  | v :: vs, o, w => (setCells_size g vs (o + 1) _).trans (by simp)
theorem there_of {w : World} {g : Nat} {t : TypeId} {cs : Array Value} (h : w.heap[g]? = some (.cells cs t (0, 0))) {o n : Nat} (hn : o + n ≤ cs.size) : w.there g o n := fun j hj => by
  have : o + j < cs.size := by omega
  refine ⟨?_, ?_⟩
  · simp [World.cell?, h, this]
  · simp [World.frozen?, h]
/-- A struct of a block is stored, at a place within it. -/
theorem st_part {ops : Array Oper} {rest : List Oper} {o : Oper} {a : Act} {w : World} {Q : Exit → Act → World → Prop} (T : TypeId) (x y : Operand) (ho : o.op = .store T x y) (hw : Region.wanted o (yielded ops a.tmps) = true)
    (g i : Nat) (hx : a.eval x = .pointer (some ⟨g, i, none⟩)) (c : Array Value) (t : TypeId) (cs : Array Value) (hy : a.eval y = .agg cs) (hg : w.heap[g]? = some (.cells c t (0, 0))) (hc : Nat.ble (i + cs.size) c.size = true) (hi : (Tryd.prog.info? T).map (·.size) = some cs.size) (h1 : cs.all (·.oneCell') = true)
    {N : Nat} {w0 : World} (hB : Below N w0 w) (hN : N ≤ g)
    (h : ∀ w', w'.heap[g]? = some (.cells (upd c i cs.toList) t (0, 0)) → Below N w0 w' → (∀ k, k ≠ g → w'.heap[k]? = w.heap[k]?) → w'.heap.size = w.heap.size → wpList Tryd.prog ops Q rest (a.put o.dst undef) w') : wpList Tryd.prog ops Q (o :: rest) a w := by
  refine BigFrame.wpList_want hw fun K hK => ?_
  refine wp_store_mid T x y ho g i cs hx hy (there_of hg (Nat.le_of_ble_eq_true hc)) hi h1 ?_
  exact hK _ _ (h _ (heap_setCells g t cs.toList i w c hg) (below_setCells g hN _ _ _ hB) (fun k hk => setCells_other g _ _ _ k hk) (setCells_size g _ _ _))
/-- A struct of a block is loaded whole. -/
theorem ld_whole {ops : Array Oper} {rest : List Oper} {o : Oper} {a : Act} {w : World} {Q : Exit → Act → World → Prop} (T : TypeId) (x : Operand) (ho : o.op = .load T x) (hw : Region.wanted o (yielded ops a.tmps) = true)
    (g : Nat) (hx : a.eval x = .pointer (some ⟨g, 0, none⟩)) (cs : Array Value) (t : TypeId) (hg : w.heap[g]? = some (.cells cs t (0, 0))) {fs : Array Field} (hu : Tryd.prog.underlying T = some (.struct fs)) (hi : (Tryd.prog.info? T).map (·.size) = some cs.size)
    (h : wpList Tryd.prog ops Q rest (a.put o.dst (.agg cs)) w) : wpList Tryd.prog ops Q (o :: rest) a w :=
  BigFrame.wpList_want hw fun K hK => wp_load_row T x ho g hx _ cs (0, 0) _ hg hu rfl hi (hK _ _ h)
/-- The results of a function: a variable's struct, and a temporary. -/
theorem results_cell_tmp {P : Program} {fn : Func} {p q : Tmp} {ty : TypeId} (h : fn.results = #[.cell p ty, .tmp q]) (tmps : Array Value) (w : World) (g : Nat) (t : TypeId) (cs : Array Value) (fr : Nat × Nat) (d : TypeDesc)
    (hp : tmps.getD p undef = .pointer (some ⟨g, 0, none⟩)) (hg : w.heap[g]? = some (.cells cs t fr))
    (hu : P.underlying ty = some d) (hd : (match d with | .struct _ | .array _ _ => true | _ => false) = true) (hi : (P.info? ty).map (·.size) = some cs.size) (v : Value) (hv : tmps.getD q undef = v) :
    (results fn tmps).run P w = .ok (.tuple #[.agg cs, v]) w := by
  have hp' : tmps[p]?.getD undef = .pointer (some ⟨g, 0, none⟩) := by simpa using hp
  have hv' : tmps[q]?.getD undef = v := by simpa using hv
  simp [results, h, hp', hv', asAddr, run_loadVar_row w g t ty cs fr d hg hu hd hi]
theorem own_ne_lt {w : World} {base L n : Nat} {v : Value} {xs : List Value} (h : w.ownsRow base 5 1 v n xs) (hL : L < base) : v.ownBlock ≠ some L := fun e => by have := (h.lt L e).1; omega
theorem owns_blk {w w' : World} {base0 base g n : Nat} {v : Value} {xs : List Value} (h0 : w.ownsRow base0 5 1 v n xs) (h : w.ownsRow base 5 1 v n xs) (ho : ∀ k, k ≠ g → w'.heap[k]? = w.heap[k]?) (hb : base0 ≤ base) (hg : g < base) : w'.ownsRow base0 5 1 v n xs := by
  obtain ⟨h1, h2⟩ := h0
  refine ⟨h1, ?_⟩
  rcases h2 with h2 | ⟨k, cap, cur, hv, hk, hh, r⟩
  · exact .inl h2
  · have hne : k ≠ g := by
      intro e
      have := (h.lt k (by rw [hv]; rfl)).1
      omega
    exact .inr ⟨k, cap, cur, hv, hk, (ho k hne).trans hh, r⟩
end Go.Proofs.YtlipckpacdioiaaDoor

