/- The document's small functions of layer 5: two, lay, Sum. -/
import Derived.Test.YtlipckpacdioiaaDoorRefNum
import Derived.Test.YtlipckpacdioiaaDoorTLay
import Derived.Lib.AppendZerosOnto
namespace Go.Proofs.YtlipckpacdioiaaDoor
open Go.RowKit
set_option linter.unusedVariables false
set_option linter.unusedSimpArgs false
set_option maxRecDepth 100000
/-- An append onto a row of one's own: it runs. -/
theorem app_own (V : World) (base : Nat) (v : Value) (n : Nat) (xs : List Int) (hV : V.ownsRow base 5 1 v n (xs.map (Value.int .u8))) (a : Option Addr) (ys : List Int) (m c : Nat) (hr : Row .u8 V a ys) (hl : ys.length = m) (hn : a = none → c = 0)
    (hs : n + m ≤ 1099511627776) (hb : base ≤ V.heap.size) :
    ∃ v' w', (Builtin.append_ #[25, 25] 25 #[v, .slice a m c]).run Tryd.prog V = .ok v' w' ∧ (w'.ownsRow base 5 1 v' (n + m) ((xs ++ ys).map (Value.int .u8)) ∧ Below base V w') := by
  obtain ⟨i0, hi, hz0, hz1, hz2⟩ := info_parts Tryd.info5
  cases a with
  | none =>
    have hy : ys = [] := row_none hr
    have hm0 : m = 0 := by rw [← hl, hy]; rfl
    have hrun := run_append_owned_none (P := Tryd.prog) (w := V) base 25 25 5 i0 1 Tryd.underlying25 hi v n (xs.map (Value.int .u8)) hV
    rw [hn rfl, hm0, hy, List.append_nil]
    exact ⟨_, _, hrun, hV, Below.refl _ _⟩
  | some ad =>
    obtain ⟨v', w', h1, h2, h3, _⟩ := run_append_own (P := Tryd.prog) V base 25 25 5 i0 (.int .u8 0) 1 1 Tryd.underlying25 hi hz0 hz1 hz2 rfl (by decide) v n (xs.map (Value.int .u8)) hV ad m c (ys.map (Value.int .u8)) (by simp [hl]) (row_cells hr) (ints_one _ _) (by unfold maxLen; omega) (by omega) hb
    rw [← List.map_append] at h2
    exact ⟨_, _, h1, h2, (Below.refl base V).grown h3 hb (fun k e => (hV.lt k e).1)⟩
theorem refNum2_own (n : Nat) (w : World) (hn : n < 18446744073709551616) :
    Calls Tryd.prog 23 #[.int .i64 2, .int .u64 n] w fun e w' => ∃ g c, e = .returned (.slice (some ⟨g, 0, none⟩) 2 c) ∧ w'.ownsRow w.heap.size 5 1 (.slice (some ⟨g, 0, none⟩) 2 c) 2 ((numB 2 n).map (Value.int .u8)) ∧ Below w.heap.size w w' := refNum_own 2 n w hn
theorem refNum4_own (n : Nat) (w : World) (hn : n < 18446744073709551616) :
    Calls Tryd.prog 23 #[.int .i64 4, .int .u64 n] w fun e w' => ∃ g c, e = .returned (.slice (some ⟨g, 0, none⟩) 4 c) ∧ w'.ownsRow w.heap.size 5 1 (.slice (some ⟨g, 0, none⟩) 4 c) 4 ((numB 4 n).map (Value.int .u8)) ∧ Below w.heap.size w w' := refNum_own 4 n w hn
theorem numB2 (v : Nat) (h : v ≤ 65535) : numB 2 v = [((v / 256 : Nat) : Int), ((v % 256 : Nat) : Int)] := by
  have h1 : numB 2 v = [byteAt v 1, byteAt v 0] := rfl
  rw [h1]; unfold byteAt; simp; omega
theorem owns_store {w : World} {base n c g : Nat} {xs : List Int} {i : Nat} {v : Int} (h : w.ownsRow base 5 1 (.slice (some ⟨g, 0, none⟩) n c) n (xs.map (Value.int .u8))) (hi : i < n) :
    (w.setCell ⟨g, i, none⟩ (.int .u8 v)).ownsRow base 5 1 (.slice (some ⟨g, 0, none⟩) n c) n ((xs.set i v).map (Value.int .u8)) := by
  rcases h.2 with ⟨h0, _⟩ | ⟨r, cap, cur, hv, hr, hh, hnc, hcm, hcs, htk⟩
  · cases h0
  · obtain ⟨rfl, rfl⟩ : g = r ∧ c = cap := by simpa using hv
    have hlt := lt_of_block hh
    have h' : w.heap[g] = .cells cur 5 (0, 0) := by simpa [Array.getElem?_eq_getElem hlt] using hh
    refine ⟨by have := h.1; simpa using this, .inr ⟨g, c, cur.setIfInBounds i (.int .u8 v), rfl, hr, ?_, hnc, hcm, by simpa using hcs, ?_⟩⟩
    · show (w.heap.modify g _)[g]? = _
      rw [Array.getElem?_eq_getElem (by simpa using hlt), Array.getElem_modify_self, h']
      rfl
    · rw [Array.toList_setIfInBounds, List.take_set, htk, List.map_set]
end Go.Proofs.YtlipckpacdioiaaDoor
