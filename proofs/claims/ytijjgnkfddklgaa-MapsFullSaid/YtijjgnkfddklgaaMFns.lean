/- Sets in memory; their small functions. -/
import Derived.Test.YtijjgnkfddklgaaCM
import Derived.Test.YtijjgnkfddklgaaCFindC
import Derived.Test.YtijjgnkfddklgaaOnly
namespace Go.Proofs.Ytijjgnkfddklgaa
open Go.RowKit Go.Deep
set_option linter.unusedVariables false
set_option linter.unusedSimpArgs false
set_option maxRecDepth 100000
def MX : Int := 9223372036854775807
abbrev ML := List (MK × ME)
/-- A set in memory. -/
structure SAt (w : World) (sp tt : Nat) (cs : Array Value) (up : Int) (L : ML) : Prop where
  blk : w.heap[sp]? = some (.cells (cs ++ #[.pointer (some ⟨tt, 0, none⟩), .int .u32 up]) 79 (0, 0))
  csz : cs.size = 28
  tab : C.Tab w tt MX C.oF tM L
theorem SAt.below {w w' : World} {sp tt : Nat} {cs : Array Value} {up : Int} {L : ML} (h : SAt w sp tt cs up L) (hb : Below w.heap.size w w') : SAt w' sp tt cs up L :=
  ⟨(hb.block sp (lt_of_block h.blk)).trans h.blk, h.csz, h.tab.below hb (Nat.le_refl _)⟩
theorem SAt.conf {w : World} {sp tt : Nat} {cs : Array Value} {up : Int} {L : ML} (h : SAt w sp tt cs up L) {i : Nat} {v : Value} (hv : cs[i]? = some v) : w.cell? ⟨sp, i, none⟩ = some v := by
  have hi : i < cs.size := (Array.getElem?_eq_some_iff.1 hv).1
  rw [cell_of_row _ _ i _ _ (0, 0) h.blk, Array.getElem?_append_left hi, hv]
theorem SAt.c28 {w : World} {sp tt : Nat} {cs : Array Value} {up : Int} {L : ML} (h : SAt w sp tt cs up L) : w.cell? ⟨sp, 28, none⟩ = some (.pointer (some ⟨tt, 0, none⟩)) := by
  rw [cell_of_row _ _ 28 _ _ (0, 0) h.blk, Array.getElem?_append_right (by rw [h.csz]; omega), h.csz]
  rfl
theorem SAt.c29 {w : World} {sp tt : Nat} {cs : Array Value} {up : Int} {L : ML} (h : SAt w sp tt cs up L) : w.cell? ⟨sp, 29, none⟩ = some (.int .u32 up) := by
  rw [cell_of_row _ _ 29 _ _ (0, 0) h.blk, Array.getElem?_append_right (by rw [h.csz]; omega), h.csz]
  rfl
theorem when_any (b : Bool) (c : Int) (w : World) :
    Calls Try.prog 46 #[.bool b, .int .i64 c] w fun e w' => e = .returned (.int .i64 (if b then c else 0)) ∧ w' = w := by
  cases b with
  | false =>
    go_enter Try.func46, Try.ntmps46
    go_wp2
    go_ret
    exact ⟨rfl, rfl⟩
  | true =>
    go_enter Try.func46, Try.ntmps46
    go_wp2
    go_ret
    exact ⟨rfl, rfl⟩
set_option maxHeartbeats 800000 in
theorem slen_any (w : World) (sp tt : Nat) (cs : Array Value) (up : Int) (L : ML) (h : SAt w sp tt cs up L) :
    Calls Try.prog 15 #[.pointer (some ⟨sp, 0, none⟩)] w fun e w' => e = .returned (.int .i64 (L.length : Int)) ∧ w' = w := by
  have HL := hide (C.LenL h.tab)
  have c28 := h.c28
  clear h
  go_enter Try.func15, Try.ntmps15
  go_wp2_with fail
  refine HL.out.mono ?_
  rintro e w1 ⟨rfl, rfl⟩
  clear HL
  go_wp2
  go_ret
  exact ⟨rfl, rfl⟩
set_option maxHeartbeats 1600000 in
theorem keyOf_any (p x t r h : Int) (w : World) :
    Calls Try.prog 53 #[.agg #[.int .u8 p, .int .u16 x, .int .u16 t, .int .u32 r, .int .u32 h]] w fun e w' => e = .returned (.agg #[.int .u8 p, .int .u16 x, .int .u32 r]) ∧ Below w.heap.size w w' := by
  go_enter Try.func53, Try.ntmps53
  go_wp2_with fail
  obtain ⟨V, hV, hx, hb⟩ : ∃ V, (w.alloc (.cells #[.int .u8 p, .int .u16 x, .int .u16 t, .int .u32 r, .int .u32 h] 38)).alloc (.cells #[.int .u8 p, .int .u16 x, .int .u32 r] 76) = V ∧ V.heap[w.heap.size + 1]? = some (.cells #[.int .u8 p, .int .u16 x, .int .u32 r] 76 (0, 0)) ∧ Below w.heap.size w V := by
    refine ⟨_, rfl, ?_, ((Below.refl _ _).alloc (Nat.le_refl _) _).alloc (by simp) _⟩
    have h1 := heap_alloc_new (w.alloc (.cells #[.int .u8 p, .int .u16 x, .int .u16 t, .int .u32 r, .int .u32 h] 38)) (.cells #[.int .u8 p, .int .u16 x, .int .u32 r] 76)
    rw [show (w.alloc (.cells #[.int .u8 p, .int .u16 x, .int .u16 t, .int .u32 r, .int .u32 h] 38)).heap.size = w.heap.size + 1 by simp] at h1
    exact h1
  rw [hV]
  obtain ⟨k0, k1, k2, kf⟩ := three_cells hx
  have HB := hide hb
  clear hV hx hb
  exact bodyPost_ret (v := .agg #[.int .u8 p, .int .u16 x, .int .u32 r]) (by simp [results, Try.results53, go_sem, *]) rfl ⟨rfl, HB.out⟩
end Go.Proofs.Ytijjgnkfddklgaa
