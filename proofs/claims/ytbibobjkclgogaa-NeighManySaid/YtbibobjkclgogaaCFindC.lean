/- Which forward a port has: the program's and the document's. -/
import Derived.Test.YtbibobjkclgogaaCSpeaks
import Derived.Deep.RegionHeld3
import Derived.Laws.CopyOwn
namespace Go.Proofs.Ytbibobjkclgogaa
open Go.RowKit
set_option linter.unusedVariables false
set_option linter.unusedSimpArgs false
set_option maxRecDepth 100000
abbrev Fwd := Nat × Nat × Nat × Nat
/-- Forwards that can be read. -/
def FwAt (w : World) (a : Option Addr) (fs : List Fwd) : Prop := fs ≠ [] → ∃ b off, a = some ⟨b, off, none⟩ ∧ b < w.heap.size ∧ ∀ i f, fs[i]? = some f →
  w.cell? ⟨b, off + i * 4, none⟩ = some (.int .u8 (f.1 : Int)) ∧ w.cell? ⟨b, off + i * 4 + 1, none⟩ = some (.int .u16 (f.2.1 : Int)) ∧ w.cell? ⟨b, off + i * 4 + 2, none⟩ = some (.int .u16 (f.2.2.1 : Int)) ∧ w.cell? ⟨b, off + i * 4 + 3, none⟩ = some (.int .u32 (f.2.2.2 : Int))
theorem FwAt.below {w w' : World} {a : Option Addr} {fs : List Fwd} {B : Nat} (h : FwAt w a fs) (hb : Below B w w') (hB : w.heap.size ≤ B) : FwAt w' a fs := by
  intro hne
  obtain ⟨b, off, rfl, hlt, hc⟩ := h hne
  refine ⟨b, off, rfl, Nat.lt_of_lt_of_le hlt hb.size, fun i f hi => ?_⟩
  obtain ⟨c0, c1, c2, c3⟩ := hc i f hi
  have k : ∀ o, w'.cell? ⟨b, o, none⟩ = w.cell? ⟨b, o, none⟩ := fun o => hb.cell (p := ⟨b, o, none⟩) (show b < B by omega)
  exact ⟨(k _).trans c0, (k _).trans c1, (k _).trans c2, (k _).trans c3⟩
theorem FwAt.cells {w : World} {a : Option Addr} {fs : List Fwd} (h : FwAt w a fs) {j : Nat} (hj : j < fs.length) : ∃ b off, a = some ⟨b, off, none⟩ ∧ b < w.heap.size ∧
    w.cell? ⟨b, off + j * 4, none⟩ = some (.int .u8 ((fs[j]'hj).1 : Int)) ∧ w.cell? ⟨b, off + j * 4 + 1, none⟩ = some (.int .u16 ((fs[j]'hj).2.1 : Int)) ∧ w.cell? ⟨b, off + j * 4 + 2, none⟩ = some (.int .u16 ((fs[j]'hj).2.2.1 : Int)) ∧ w.cell? ⟨b, off + j * 4 + 3, none⟩ = some (.int .u32 ((fs[j]'hj).2.2.2 : Int)) := by
  obtain ⟨b, off, rfl, hlt, hc⟩ := h (by intro e; subst e; simp at hj)
  exact ⟨b, off, rfl, hlt, hc j _ (List.getElem?_eq_getElem hj)⟩
def hitB (p q : Nat) (f : Fwd) : Bool := f.1 == p && f.2.1 == q
def findL (fs : List Fwd) (p q : Nat) : Option Fwd := fs.find? (hitB p q)
def fwF (o : Option Fwd) : Fwd := o.getD (0, 0, 0, 0)
theorem find_hit {fs : List Fwd} {p q j : Nat} (hj : j < fs.length) (hb : ∀ i f, i < j → fs[i]? = some f → hitB p q f = false) (hh : hitB p q (fs[j]'hj) = true) : findL fs p q = some (fs[j]'hj) := by
  unfold findL
  rw [List.find?_eq_some_iff_getElem]
  refine ⟨hh, j, hj, rfl, fun i hi => ?_⟩
  rw [hb i _ hi (List.getElem?_eq_getElem (by omega))]; rfl
theorem find_none {fs : List Fwd} {p q : Nat} (hb : ∀ i f, i < fs.length → fs[i]? = some f → hitB p q f = false) : findL fs p q = none := by
  unfold findL
  rw [List.find?_eq_none]
  intro f hf
  obtain ⟨i, hi, rfl⟩ := List.mem_iff_getElem.1 hf
  rw [hb i _ hi (List.getElem?_eq_getElem hi)]; decide
theorem hit_more {fs : List Fwd} {p q j : Nat} (hj : j < fs.length) (hb : ∀ i f, i < j → fs[i]? = some f → hitB p q f = false) (hh : hitB p q (fs[j]'hj) = false) : ∀ i f, i < j + 1 → fs[i]? = some f → hitB p q f = false := by
  intro i f hi hf
  by_cases h : i = j
  · subst h; rw [List.getElem?_eq_getElem hj] at hf; cases hf; exact hh
  · exact hb i f (by omega) hf
theorem four_cells {w : World} {R : Nat} {t : TypeId} {v0 v1 v2 v3 : Value} (h : w.heap[R]? = some (.cells #[v0, v1, v2, v3] t (0, 0))) : w.cell? ⟨R, 0, none⟩ = some v0 ∧ w.cell? ⟨R, 1, none⟩ = some v1 ∧ w.cell? ⟨R, 2, none⟩ = some v2 ∧ w.cell? ⟨R, 3, none⟩ = some v3 ∧ ∀ i, w.frozen? ⟨R, i, none⟩ = false := by
  refine ⟨?_, ?_, ?_, ?_, fun i => ?_⟩ <;> simp [World.cell?, World.frozen?, h]
theorem info_fwd : (Try.prog.info? 97).map (·.size) = some 4 := by kernel_rfl
theorem all4 (k0 k1 k2 k3 : IntKind) (a b c d : Int) : (#[.int k0 a, .int k1 b, .int k2 c, .int k3 d] : Array Value).all (·.oneCell') = true := by
  simp [Value.oneCell']
/-- A forward, stored whole. -/
theorem st_fwd {ops : Array Oper} {rest : List Oper} {o : Oper} {a : Act} {w : World} {Q : Exit → Act → World → Prop} (x y : Operand) (ho : o.op = .store 97 x y) (hw : Region.wanted o (yielded ops a.tmps) = true)
    (g : Nat) (hx : a.eval x = .pointer (some ⟨g, 0, none⟩)) (c cs : Array Value) (hy : a.eval y = .agg cs) (hg : w.heap[g]? = some (.cells c 97 (0, 0))) (hc : c.size = 4) (hs : cs.size = 4) (h1 : cs.all (·.oneCell') = true)
    {N : Nat} {w0 : World} (hB : Below N w0 w) (hN : N ≤ g)
    (h : ∀ w', w'.heap[g]? = some (.cells cs 97 (0, 0)) → Below N w0 w' → (∀ k, k ≠ g → w'.heap[k]? = w.heap[k]?) → w'.heap.size = w.heap.size → wpList Try.prog ops Q rest (a.put o.dst undef) w') : wpList Try.prog ops Q (o :: rest) a w := by
  refine BigFrame.wpList_want hw fun K hK => ?_
  unfold Oper.wp execOp
  simp only [ho, hx, hy, Instr.storeAt, Instr.sureAddr, Sem.run_bind, Sem.run_pure, Result.andThen_ok, run_storeVar_row w g 97 97 c cs hg (by rw [hs]; exact info_fwd) (by omega) h1]
  exact hK _ _ (h _ (setRow_heap w g c cs _ _ hg) (below_setRow hB hN cs) (fun k hk => setRow_other w g k cs hk) (setRow_size w g cs))
end Go.Proofs.Ytbibobjkclgogaa

/- Which forward a port has, of a configuration. -/
namespace Go.Proofs.Ytbibobjkclgogaa
open Go.RowKit
set_option linter.unusedVariables false
set_option linter.unusedSimpArgs false
set_option maxRecDepth 100000
/-- The cell of a configuration that has its forwards. -/
structure CfF (cs : Array Value) (a : Option Addr) (n cap : Nat) : Prop where
  size : cs.size = 28
  fw : cs[25]? = some (.slice a n cap)
end Go.Proofs.Ytbibobjkclgogaa
