/- An Eye whose bytes suffice; numbers within bytes. -/
import Derived.Test.YtlipckpacdioiaaDoorTHelp
import Derived.Test.YtlipckpacdioiaaDoorEyeBytes
namespace Go.Proofs.YtlipckpacdioiaaDoor
open Go.RowKit
set_option linter.unusedVariables false
set_option linter.unusedSimpArgs false
set_option maxRecDepth 100000
theorem EyeAt.lt {w : World} {E B : Nat} {rest : List Int} {bad : Bool} (h : EyeAt w E B rest bad) : E < w.heap.size := by
  obtain ⟨_, v, hE, _⟩ := h
  exact lt_of_block hE
theorem EyeAt.below {w w' : World} {E B D : Nat} {rest : List Int} {bad : Bool} (h : EyeAt w E B rest bad) (hb : Below D w w') (hB : w.heap.size ≤ D) : EyeAt w' E B rest bad := by
  have hE := h.lt
  obtain ⟨hBs, v, hv, hL⟩ := h
  refine ⟨Nat.le_trans hBs hb.size, v, (hb.block E (by omega)).trans hv, ?_⟩
  rcases hL with hL | ⟨b, off, c, h1, h2, h3, h4, h5, h6⟩
  · exact .inl hL
  · exact .inr ⟨b, off, c, h1, h2, h3, h4, h5, fun i hi => (hb.cell (p := ⟨b, off + i, none⟩) (show b < D by omega)).trans (h6 i hi)⟩
theorem EyeAt.set {w : World} {E B g i : Nat} {rest : List Int} {bad : Bool} {v : Value} (h : EyeAt w E B rest bad) (h1 : B ≤ g) (h2 : E ≠ g) : EyeAt (w.setCell ⟨g, i, none⟩ v) E B rest bad := by
  obtain ⟨hBs, u, hv, hL⟩ := h
  refine ⟨by simpa using hBs, u, (Below.heap_setCell _ _ _ _ h2).trans hv, ?_⟩
  rcases hL with hL | ⟨b, off, c, h1', h2', h3, h4, h5, h6⟩
  · exact .inl hL
  · exact .inr ⟨b, off, c, h1', h2', h3, h4, h5, fun i hi => (cell_set_ne w g _ v (show b ≠ g by omega)).trans (h6 i hi)⟩
theorem gb_of_below {w w' : World} {r : Option Nat} (h : Below w.heap.size w w') : w.grownBy w' r := ⟨h.os, h.tape, h.output, h.size, fun i hi _ => h.block i hi⟩
theorem bytesOk_any (E B : Nat) (rest : List Int) (bad : Bool) (k : Nat) (w : World) (h : EyeAt w E B rest bad) (hl : rest.length ≤ 1099511627776) (hk : k ≤ rest.length) :
    Calls Tryd.prog 28 #[.pointer (some ⟨E, 0, none⟩), .int .i64 (k : Int)] w fun e w' => ∃ a c, e = .returned (.slice a k c) ∧ w'.ownsRow w.heap.size 5 1 (.slice a k c) k ((rest.take k).map (Value.int .u8)) ∧ EyeAt w' E B (rest.drop k) bad ∧ w.grownBy w' (some E) := by
  have hh := eyeBytes_any E B rest bad (k : Int) w h hl (by omega)
  rw [Int.toNat_natCast, if_pos hk, if_pos hk, if_pos hk, show decide (rest.length < k) = false from by simp; omega, Bool.or_false] at hh
  refine hh.mono ?_
  rintro e w' ⟨w1, a, c, rfl, hown, heye, hg, hb⟩
  exact ⟨a, c, rfl, owns_mono hown hg.size, heye.below hb (Nat.le_refl _), gb_trans hg (gb_of_below hb)⟩

/-- The number of k bytes from K on. -/
def fld (xs : List Int) (K k : Nat) : Nat := (valB ((xs.drop K).take k)).toNat
theorem fld_eq (xs : List Int) (K k : Nat) (hb : ∀ x ∈ xs, 0 ≤ x ∧ x ≤ 255) : valB ((xs.drop K).take k) = (fld xs K k : Int) := by
  have := (valB_rng (xs.drop K) (fun x hx => hb x (List.mem_of_mem_drop hx)) k).1
  unfold fld; omega
theorem fld_lt (xs : List Int) (K k : Nat) (hb : ∀ x ∈ xs, 0 ≤ x ∧ x ≤ 255) : fld xs K k < 256 ^ k := by
  have h := valB_rng (xs.drop K) (fun x hx => hb x (List.mem_of_mem_drop hx)) k
  unfold fld
  have h2 : ((256 : Int) ^ k) = ((256 ^ k : Nat) : Int) := by simp
  rw [h2] at h
  omega
theorem eyeNum_at (E B K k : Nat) (xs : List Int) (w : World) (h : EyeAt w E B (xs.drop K) false) (hb : ∀ x ∈ xs, 0 ≤ x ∧ x ≤ 255) (hl : xs.length ≤ 1099511627776) (hk : k ≤ 8) (hk2 : K + k ≤ xs.length) :
    Calls Tryd.prog 27 #[.pointer (some ⟨E, 0, none⟩), .int .i64 k] w fun e w' => e = .returned (.int .u64 (fld xs K k)) ∧ EyeAt w' E B (xs.drop (K + k)) false ∧ w.grownBy w' (some E) := by
  have h1 := eyeNum_ok E B (xs.drop K) k w h (fun x hx => hb x (List.mem_of_mem_drop hx)) (by rw [List.length_drop]; omega) hk (by rw [List.length_drop]; omega)
  rw [fld_eq xs K k hb, List.drop_drop] at h1
  exact h1
theorem bytes_at (E B K k : Nat) (xs : List Int) (w : World) (h : EyeAt w E B (xs.drop K) false) (hl : xs.length ≤ 1099511627776) (hk2 : K + k ≤ xs.length) :
    Calls Tryd.prog 28 #[.pointer (some ⟨E, 0, none⟩), .int .i64 (k : Int)] w fun e w' => ∃ a c, e = .returned (.slice a k c) ∧ w'.ownsRow w.heap.size 5 1 (.slice a k c) k (((xs.drop K).take k).map (Value.int .u8)) ∧ EyeAt w' E B (xs.drop (K + k)) false ∧ w.grownBy w' (some E) := by
  have h1 := bytesOk_any E B (xs.drop K) false k w h (by rw [List.length_drop]; omega) (by rw [List.length_drop]; omega)
  rw [List.drop_drop] at h1
  exact h1
theorem left_at (E B K : Nat) (xs : List Int) (n : Nat) (w : World) (h : EyeAt w E B (xs.drop K) false) (hl : xs.length = n) :
    Calls Tryd.prog 29 #[.pointer (some ⟨E, 0, none⟩)] w fun e w' => e = .returned (.int .i64 ((n - K : Nat) : Int)) ∧ w = w' := by
  have h1 := left_any E B (xs.drop K) false w h
  rw [List.length_drop, hl] at h1
  exact h1
/-- A block that is not the Eye's stays. -/
theorem gb_block {w w' : World} {E R : Nat} {o : Obj} (h : w.grownBy w' (some E)) (ho : w.heap[R]? = some o) (hne : R ≠ E) : w'.heap[R]? = some o :=
  (h.block R (lt_of_block ho) (by intro e; injection e with e; exact hne e)).trans ho
theorem below_block {w w' : World} {R B : Nat} {o : Obj} (h : Below B w w') (ho : w.heap[R]? = some o) (hB : w.heap.size ≤ B) : w'.heap[R]? = some o :=
  (h.block R (Nat.lt_of_lt_of_le (lt_of_block ho) hB)).trans ho
theorem row_gb {k : IntKind} {w w' : World} {a : Option Addr} {xs : List Int} {E : Nat} (h : Row k w a xs) (hg : w.grownBy w' (some E)) (hE : ∀ b, a = some b → b.block ≠ E) : Row k w' a xs := by
  intro hne
  obtain ⟨b, off, rfl, hlt, hc⟩ := h hne
  exact ⟨b, off, rfl, Nat.lt_of_lt_of_le hlt hg.size, fun i hi => (World.cell?_of_block (hg.block b hlt (by intro e; injection e with e; exact hE _ rfl e))).trans (hc i hi)⟩
theorem owns_set {w : World} {base : Nat} {v : Value} {n : Nat} {xs : List Value} {g i : Nat} {u : Value} (h : w.ownsRow base 5 1 v n xs) (hg : g < base) : (w.setCell ⟨g, i, none⟩ u).ownsRow base 5 1 v n xs := by
  refine ⟨h.1, ?_⟩
  rcases h.2 with h | ⟨r, cap, cur, hv, hr, hh, rest⟩
  · exact .inl h
  · exact .inr ⟨r, cap, cur, hv, hr, (Below.heap_setCell _ _ _ _ (by intro e; simp at e; omega)).trans hh, rest⟩
theorem row_set {k : IntKind} {w : World} {a : Option Addr} {xs : List Int} {g i : Nat} {v : Value} (h : Row k w a xs) (hE : ∀ b, a = some b → b.block ≠ g) : Row k (w.setCell ⟨g, i, none⟩ v) a xs := by
  intro hne
  obtain ⟨b, off, rfl, hlt, hc⟩ := h hne
  exact ⟨b, off, rfl, by simpa using hlt, fun i hi => (cell_set_ne w g _ v (show b ≠ g from hE _ rfl)).trans (hc i hi)⟩
theorem row_take {k : IntKind} {w : World} {a : Option Addr} {xs : List Int} (h : Row k w a xs) (m : Nat) : Row k w a (xs.take m) := by
  intro hne
  have hx : xs ≠ [] := by rintro rfl; simp at hne
  obtain ⟨b, off, rfl, hlt, hc⟩ := h hx
  exact ⟨b, off, rfl, hlt, fun i hi => by rw [List.length_take] at hi; rw [hc i (by omega), List.getElem?_take_of_lt (by omega)]⟩
theorem four_cells {w : World} {F : Nat} {t : TypeId} {u v x y : Value} (h : w.heap[F]? = some (.cells #[u, v, x, y] t (0, 0))) : w.cell? ⟨F, 0, none⟩ = some u ∧ w.cell? ⟨F, 1, none⟩ = some v ∧ w.cell? ⟨F, 2, none⟩ = some x ∧ w.cell? ⟨F, 3, none⟩ = some y ∧ ∀ i, w.frozen? ⟨F, i, none⟩ = false := by
  simp [World.cell?, World.frozen?, h]
theorem four_set {w : World} {b i : Nat} {u v x y z : Value} {t : TypeId} (h : w.heap[b]? = some (.cells #[u, v, x, y] t (0, 0))) : (w.setCell ⟨b, i, none⟩ z).heap[b]? = some (.cells (#[u, v, x, y].setIfInBounds i z) t (0, 0)) := by
  have hlt := lt_of_block h
  have h' : w.heap[b] = .cells #[u, v, x, y] t (0, 0) := by simpa [Array.getElem?_eq_getElem hlt] using h
  show (w.heap.modify b _)[b]? = _
  rw [Array.getElem?_eq_getElem (by simpa using hlt), Array.getElem_modify_self, h']
  rfl
end Go.Proofs.YtlipckpacdioiaaDoor
