/- SameUDP and SameICMP of equal values; an append's step. -/
import Derived.Test.YtlipckpacdioiaaDoorTRef
import Derived.Test.YtlipckpacdioiaaDoorTEye
import Derived.Test.YtlipckpacdioiaaDoorConv
import Derived.Deep.RegionHeld3
import Derived.Deep.DeepCutAuto
namespace Go.Proofs.YtlipckpacdioiaaDoor
open Go.RowKit
set_option linter.unusedVariables false
set_option linter.unusedSimpArgs false
set_option maxRecDepth 100000
theorem step_append_ex {P : Program} {ops : Array Oper} {o : Oper} {a : Act} {w : World} {K : Act → World → Prop} {Q : Exit → Act → World → Prop} {E : Prop} (hgd : o.guard = none) (d s : Operand) (dT sT : TypeId)
    (ho : o.op = .call { callee := .builtin .append, args := #[d, s], argTypes := #[dT, sT] }) (vs vx : Value) (hd : a.eval d = vs) (hs : a.eval s = vx) (R : Value → World → Prop)
    (hr : ∃ v' w', (Builtin.append_ #[dT, sT] o.type #[vs, vx]).run P w = .ok v' w' ∧ R v' w') (h : ∀ v' w', R v' w' → K (a.put o.dst v') w') :
    if Region.wanted o (yielded ops a.tmps) = true then Oper.wp P o a w K Q else E := by
  obtain ⟨v', w', hrun, hR⟩ := hr
  have hw : Region.wanted o (yielded ops a.tmps) = true := by simp [Region.wanted, hgd]
  rw [if_pos hw]
  unfold Oper.wp
  simp [execOp, ho, resolve, invoke, builtin, hd, hs, hrun, Result.andThen]
  exact h v' w' hR
theorem app_own2 (V : World) (base : Nat) (v : Value) (n : Nat) (xs : List Int) (hV : V.ownsRow base 5 1 v n (xs.map (Value.int .u8))) (a : Option Addr) (ys : List Int) (m c : Nat) (hr : Row .u8 V a ys) (hl : ys.length = m) (hn : a = none → c = 0)
    (hs : n + m ≤ 1099511627776) (hb : base ≤ V.heap.size) :
    ∃ v' w', (Builtin.append_ #[25, 25] 25 #[v, .slice a m c]).run Tryd.prog V = .ok v' w' ∧ (w'.ownsRow base 5 1 v' (n + m) ((xs ++ ys).map (Value.int .u8)) ∧ Below base V w' ∧ ∀ (L : Nat) (o : Obj), V.heap[L]? = some o → v.ownBlock ≠ some L → w'.heap[L]? = some o) := by
  obtain ⟨i0, hi, hz0, hz1, hz2⟩ := info_parts Tryd.info5
  cases a with
  | none =>
    have hy : ys = [] := row_none hr
    have hm0 : m = 0 := by rw [← hl, hy]; rfl
    have hrun := run_append_owned_none (P := Tryd.prog) (w := V) base 25 25 5 i0 1 Tryd.underlying25 hi v n (xs.map (Value.int .u8)) hV
    rw [hn rfl, hm0, hy, List.append_nil]
    exact ⟨_, _, hrun, hV, Below.refl _ _, fun _ _ h _ => h⟩
  | some ad =>
    obtain ⟨v', w', h1, h2, h3, _⟩ := run_append_own (P := Tryd.prog) V base 25 25 5 i0 (.int .u8 0) 1 1 Tryd.underlying25 hi hz0 hz1 hz2 rfl (by decide) v n (xs.map (Value.int .u8)) hV ad m c (ys.map (Value.int .u8)) (by simp [hl]) (row_cells hr) (ints_one _ _) (by unfold maxLen; omega) (by omega) hb
    rw [← List.map_append] at h2
    exact ⟨_, _, h1, h2, (Below.refl base V).grown h3 hb (fun k e => (hV.lt k e).1), fun L o h hne => (h3.block L (lt_of_block h) hne.symm).trans h⟩
theorem litB {V w' : World} {o : Obj} (h : Below (V.alloc o).heap.size (V.alloc o) w') : w'.heap[V.heap.size]? = some o := (h.block V.heap.size (by simp)).trans (heap_alloc_new V o)
theorem litB_d {V w' : World} {o : Obj} (h : Below (V.alloc o).drew.heap.size (V.alloc o).drew w') : w'.heap[V.heap.size]? = some o := litB (below_of_drew h)
theorem row_two {w : World} {L : Nat} {x y : Int} (h : w.heap[L]? = some (.cells #[.int .u8 x, .int .u8 y] 5 (0, 0))) : Row .u8 w (some ⟨L, 0, none⟩) [x, y] := by
  intro _
  refine ⟨L, 0, rfl, lt_of_block h, fun i hi => ?_⟩
  simp only [World.cell?, h]
  match i, hi with
  | 0, _ => rfl
  | 1, _ => rfl
theorem own_ne {w : World} {base : Nat} {v : Value} {n : Nat} {xs : List Value} {L : Nat} (h : w.ownsRow base 5 1 v n xs) (hL : w.heap.size ≤ L) : v.ownBlock ≠ some L := by
  intro e
  rcases h.2 with ⟨h, _⟩ | ⟨g, c', cur, hv, hg, hh, _⟩
  · rw [h] at e; simp [Value.ownBlock] at e
  · rw [hv] at e; simp [Value.ownBlock] at e; subst e; have := lt_of_block hh; omega
end Go.Proofs.YtlipckpacdioiaaDoor
