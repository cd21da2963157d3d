/- Structs in a block, loaded and stored whole. -/
import Derived.Test.YtbiblaeocbcfhaaGreatDoorZStp
import Derived.Deep.WholeRow
import Derived.Deep.MidRow
import Derived.BigFrame
import Derived.Deep.RegionHeld3
import Derived.Deep.Cut
namespace Go.Proofs.YtbiblaeocbcfhaaGreatDoor
open Go.RowKit Go.Deep
set_option linter.unusedVariables false
set_option linter.unusedSimpArgs false
set_option maxRecDepth 100000
/-- A part of an array, anew. -/
def upd (cs : Array Value) : Nat → List Value → Array Value
  | _, [] => cs
  | o, v :: vs => upd (cs.setIfInBounds o v) (o + 1) vs
theorem upd_size : ∀ (vs : List Value) (cs : Array Value) (o : Nat), (upd cs o vs).size = cs.size
  | [], _, _ => rfl
  | v :: vs, cs, o => by unfold upd; rw [upd_size vs]; simp
theorem upd_get : ∀ (vs : List Value) (cs : Array Value) (o i : Nat), o + vs.length ≤ cs.size → (upd cs o vs)[i]? = if o ≤ i ∧ i < o + vs.length then vs[i - o]? else cs[i]?
  | [], cs, o, i, _ => by unfold upd; rw [if_neg (by simp only [List.length_nil]; omega)]
  | v :: vs, cs, o, i, h => by
    unfold upd
    simp only [List.length_cons] at h ⊢
    rw [upd_get vs _ (o + 1) i (by simp; omega)]
    by_cases h1 : o + 1 ≤ i ∧ i < o + 1 + vs.length
    · rw [if_pos h1, if_pos (by omega), show i - o = (i - (o + 1)) + 1 by omega, List.getElem?_cons_succ]
    · rw [if_neg h1]
      by_cases h2 : i = o
      · subst h2
        rw [if_pos (by omega), Nat.sub_self, List.getElem?_cons_zero, Array.getElem?_setIfInBounds_self_of_lt (by omega)]
      · rw [if_neg (by omega), Array.getElem?_setIfInBounds_ne (by omega)]
theorem upd_whole {c cs : Array Value} (h : c.size = cs.size) : upd c 0 cs.toList = cs := by
  apply Array.ext_getElem?
  intro i
  rw [upd_get _ _ _ _ (by simp; omega)]
  split
  · simp
  · rename_i hn
    rw [Array.getElem?_eq_none (by simp at hn; omega), Array.getElem?_eq_none (by simp at hn; omega)]
theorem heap_setCells (g : Nat) (t : TypeId) : ∀ (vs : List Value) (o : Nat) (w : World) (cs : Array Value), w.heap[g]? = some (.cells cs t (0, 0)) → (w.setCells g o vs).heap[g]? = some (.cells (upd cs o vs) t (0, 0))
  | [], _, _, _, h => h
  | v :: vs, o, w, cs, h => heap_setCells g t vs (o + 1) _ _ (heap_setCell_same w g o _ _ v h)
theorem setCells_other (g : Nat) : ∀ (vs : List Value) (o : Nat) (w : World) (k : Nat), k ≠ g → (w.setCells g o vs).heap[k]? = w.heap[k]?
  | [], _, _, _, _ => rfl
  | v :: vs, o, w, k, h => (setCells_other g vs (o + 1) _ k h).trans (heap_setCell_other _ _ _ _ h)
theorem below_setCells (g : Nat) {N : Nat} {w0 : World} (hN : N ≤ g) : ∀ (vs : List Value) (o : Nat) (w : World), Below N w0 w → Below N w0 (w.setCells g o vs)
  | [], _, _, h => h
  | v :: vs, o, w, h => below_setCells g hN vs (o + 1) _ (h.setCell (p := ⟨g, o, none⟩) hN v)
theorem setCells_size (g : Nat) : ∀ (vs : List Value) (o : Nat) (w : World), (w.setCells g o vs).heap.size = w.heap.size
  | [], _, _ => rfl
  | v :: vs, o, w => (setCells_size g vs (o + 1) _).trans (by simp)
theorem there_of {w : World} {g : Nat} {t : TypeId} {cs : Array Value} (h : w.heap[g]? = some (.cells cs t (0, 0))) {o n : Nat} (hn : o + n ≤ cs.size) : w.there g o n := fun j hj => by
  have : o + j < cs.size := by omega
  refine ⟨?_, ?_⟩
  · simp [World.cell?, h, this]
  · simp [World.frozen?, h]
/-- A struct of a block is stored, at a place within it. -/
theorem st_part {ops : Array Oper} {rest : List Oper} {o : Oper} {a : Act} {w : World} {Q : Exit → Act → World → Prop} (T : TypeId) (x y : Operand) (ho : o.op = .store T x y) (hw : Region.wanted o (yielded ops a.tmps) = true)
    (g i : Nat) (hx : a.eval x = .pointer (some ⟨g, i, none⟩)) (c : Array Value) (t : TypeId) (cs : Array Value) (hy : a.eval y = .agg cs) (hg : w.heap[g]? = some (.cells c t (0, 0))) (hc : Nat.ble (i + cs.size) c.size = true) (hi : (Tryz.prog.info? T).map (·.size) = some cs.size) (h1 : cs.all (·.oneCell') = true)
    {N : Nat} {w0 : World} (hB : Below N w0 w) (hN : N ≤ g)
    (h : ∀ w', w'.heap[g]? = some (.cells (upd c i cs.toList) t (0, 0)) → Below N w0 w' → (∀ k, k ≠ g → w'.heap[k]? = w.heap[k]?) → w'.heap.size = w.heap.size → wpList Tryz.prog ops Q rest (a.put o.dst undef) w') : wpList Tryz.prog ops Q (o :: rest) a w := by
  refine BigFrame.wpList_want hw fun K hK => ?_
  refine wp_store_mid T x y ho g i cs hx hy (there_of hg (Nat.le_of_ble_eq_true hc)) hi h1 ?_
  exact hK _ _ (h _ (heap_setCells g t cs.toList i w c hg) (below_setCells g hN _ _ _ hB) (fun k hk => setCells_other g _ _ _ k hk) (setCells_size g _ _ _))
/-- A struct of a block is loaded whole. -/
theorem ld_whole {ops : Array Oper} {rest : List Oper} {o : Oper} {a : Act} {w : World} {Q : Exit → Act → World → Prop} (T : TypeId) (x : Operand) (ho : o.op = .load T x) (hw : Region.wanted o (yielded ops a.tmps) = true)
    (g : Nat) (hx : a.eval x = .pointer (some ⟨g, 0, none⟩)) (cs : Array Value) (t : TypeId) (hg : w.heap[g]? = some (.cells cs t (0, 0))) {fs : Array Field} (hu : Tryz.prog.underlying T = some (.struct fs)) (hi : (Tryz.prog.info? T).map (·.size) = some cs.size)
    (h : wpList Tryz.prog ops Q rest (a.put o.dst (.agg cs)) w) : wpList Tryz.prog ops Q (o :: rest) a w :=
  BigFrame.wpList_want hw fun K hK => wp_load_row T x ho g hx _ cs (0, 0) _ hg hu rfl hi (hK _ _ h)
/-- A request's cells. -/
def rqc (r : Rq) (fv bv : Value) : Array Value := #[.string (bs r.me), .string (bs r.ta), .int .i64 (r.minor : Int), fv, bv, .bool r.keep]
theorem six_set {w : World} {S : Nat} {T : TypeId} {a0 a1 a2 a3 a4 a5 : Value} (h : w.heap[S]? = some (.cells #[a0, a1, a2, a3, a4, a5] T (0, 0))) (v0 v1 v2 v3 v4 v5 : Value) {w0 : World} (hb : Below w0.heap.size w0 w) (hS : w0.heap.size ≤ S) :
    ((((((w.setCell ⟨S, 0, none⟩ v0).setCell ⟨S, 1, none⟩ v1).setCell ⟨S, 2, none⟩ v2).setCell ⟨S, 3, none⟩ v3).setCell ⟨S, 4, none⟩ v4).setCell ⟨S, 5, none⟩ v5).heap[S]? = some (.cells #[v0, v1, v2, v3, v4, v5] T (0, 0)) ∧
    Below w0.heap.size w0 ((((((w.setCell ⟨S, 0, none⟩ v0).setCell ⟨S, 1, none⟩ v1).setCell ⟨S, 2, none⟩ v2).setCell ⟨S, 3, none⟩ v3).setCell ⟨S, 4, none⟩ v4).setCell ⟨S, 5, none⟩ v5) :=
  ⟨set_block (set_block (set_block (set_block (set_block (set_block h 0 v0) 1 v1) 2 v2) 3 v3) 4 v4) 5 v5, (((((hb.setCell (p := ⟨S, 0, none⟩) hS _).setCell (p := ⟨S, 1, none⟩) hS _).setCell (p := ⟨S, 2, none⟩) hS _).setCell (p := ⟨S, 3, none⟩) hS _).setCell (p := ⟨S, 4, none⟩) hS _).setCell (p := ⟨S, 5, none⟩) hS _⟩
end Go.Proofs.YtbiblaeocbcfhaaGreatDoor
