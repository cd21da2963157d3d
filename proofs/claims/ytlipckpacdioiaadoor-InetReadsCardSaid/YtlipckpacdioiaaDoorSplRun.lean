/- A copy of two bytes into a row; a slice's tail. -/
import Derived.Test.YtlipckpacdioiaaDoorJoin
import Derived.Test.YtlipckpacdioiaaDoorPlainSpl
import Derived.Laws.CopyOwn
import Derived.Deep.RegionWith
import Derived.Deep.RegionLaw
namespace Go.Proofs.YtlipckpacdioiaaDoor
open Go.RowKit
set_option linter.unusedVariables false
set_option linter.unusedSimpArgs false
set_option maxRecDepth 100000
theorem copy2_run (w : World) (base g n c o L C : Nat) (xs ys : List Int) (ad : Addr) (c3 : Nat) (ty : TypeId) (hown : w.ownsRow base 5 1 (.slice (some ⟨g, 0, none⟩) n c) n (xs.map (Value.int .u8))) (hr : Row .u8 w (some ad) ys) (hy : ys.length = 2) (ho : o + 2 ≤ n) (hL : 2 ≤ L) :
    ∃ w', (Builtin.copy_ #[25, 25] ty #[.slice (some ⟨g, o, none⟩) L C, .slice (some ad) 2 c3]).run Tryd.prog w = .ok (.int .i64 2) w' ∧
      w'.ownsRow base 5 1 (.slice (some ⟨g, 0, none⟩) n c) n ((spl xs o ys).map (Value.int .u8)) ∧ w.grownBy w' (some g) := by
  have hxl : xs.length = n := by have := hown.1; simpa using this
  rcases hown.2 with ⟨h, _⟩ | ⟨g', cap, cur, hv, hg, hh, hnc, hcm, hcs, htk⟩
  · cases h
  · obtain ⟨rfl, rfl⟩ : g = g' ∧ c = cap := by simpa using hv
    have hrun := run_copy_row (P := Tryd.prog) w 25 25 ty 5 g o L C ad 2 c3 cur 5 (ys.map (Value.int .u8)) Tryd.underlying25 (by kernel_rfl) hh (by rw [List.length_map, hy]; exact (Nat.min_eq_left hL).symm)
      (row_cells hr) (by rw [List.length_map, hy]; omega) (ints_one _ _)
    rw [List.length_map, hy] at hrun
    refine ⟨w.setRow g (cur.toList.take o ++ ys.map (Value.int .u8) ++ cur.toList.drop (o + 2)).toArray, hrun, ?_, ⟨rfl, rfl, rfl, by simp [World.setRow], fun k hk hne => setRow_other w g k _ (by intro e; exact hne (by rw [e]))⟩⟩
    have hlt := lt_of_block hh
    have hcl : cur.toList.length = c := by simp; omega
    have hsame : (w.setRow g (cur.toList.take o ++ ys.map (Value.int .u8) ++ cur.toList.drop (o + 2)).toArray).heap[g]? = some (.cells (cur.toList.take o ++ ys.map (Value.int .u8) ++ cur.toList.drop (o + 2)).toArray 5 (0, 0)) := by
      have h' : w.heap[g] = .cells cur 5 (0, 0) := by simpa [Array.getElem?_eq_getElem hlt] using hh
      show (w.heap.modify g _)[g]? = _
      rw [Array.getElem?_eq_getElem (by simpa using hlt), Array.getElem_modify_self, h']
    refine ⟨by rw [List.length_map, spl_len _ _ _ (by omega), hxl, Nat.mul_one], .inr ⟨g, c, _, rfl, hg, hsame, hnc, hcm, ?_, ?_⟩⟩
    · simp [hy]; omega
    · have h1 : (spl xs o ys).map (Value.int .u8) = (xs.map (Value.int .u8)).take o ++ ys.map (Value.int .u8) ++ (xs.map (Value.int .u8)).drop (o + 2) := by
        rw [spl, List.map_append, List.map_append, List.map_take, List.map_drop, hy]
      rw [h1, ← htk, Nat.mul_one, List.take_take, Nat.min_eq_left (by omega), List.drop_take]
      rw [List.take_append, List.take_of_length_le (by simp [hy]; omega)]
      congr 2
      simp [hy]; omega

/-- A copy whose run is known, in a region that draws its order. -/
theorem step_copy_run {P : Program} {ops : Array Oper} {o : Oper} {a : Act} {w : World} {K : Act → World → Prop} {Q : Exit → Act → World → Prop} {E : Prop} (hgd : o.guard = none) (d s : Operand) (dT sT : TypeId)
    (ho : o.op = .call { callee := .builtin .copy, args := #[d, s], argTypes := #[dT, sT] }) (vs vx : Value) (hd : a.eval d = vs) (hs : a.eval s = vx) (v' : Value) (w' : World)
    (hr : (Builtin.copy_ #[dT, sT] o.type #[vs, vx]).run P w = .ok v' w') (h : K (a.put o.dst v') w') :
    if Region.wanted o (yielded ops a.tmps) = true then Oper.wp P o a w K Q else E := by
  have hw : Region.wanted o (yielded ops a.tmps) = true := by simp [Region.wanted, hgd]
  rw [if_pos hw]
  unfold Oper.wp
  simp [execOp, ho, resolve, invoke, builtin, hd, hs, hr, Result.andThen]
  exact h

theorem slice_tail_run (g n c o : Nat) (l : Int) (hl : l = (o : Int)) (h1 : o ≤ n) (h2 : o < c) (W : World) :
    (Instr.slice 25 (.slice (some ⟨g, 0, none⟩) n c) (some (.int .i64 l)) none none).run Tryd.prog W = .ok (.slice (some ⟨g, o, none⟩) (n - o) (c - o)) W := by
  subst hl
  have hz : ∀ W, (sizeOf 5).run Tryd.prog W = .ok 1 W := fun W => by
    obtain ⟨i0, hi, _, hs, _⟩ := info_parts Tryd.info5
    simp [sizeOf, typeInfo, hi, hs]
  have he : Tryd.prog.elem 25 = 5 := by kernel_rfl
  rw [run_slice_l (P := Tryd.prog) W 25 _ n c (by rw [he]; exact Tryd.underlying25) .i64 (o : Int) (by omega) (by omega), he, hz]
  have hne : ¬ c = o := by omega
  simp [sliced, Result.andThen, hne, Addr.add_lit]

end Go.Proofs.YtlipckpacdioiaaDoor
