/- Head: memory: rows of bytes of one's own, texts to bytes and back. -/
import Derived.Test.YtonoaopioifedaaGreatDoorHFns
import Derived.OneCell
import Derived.Laws.Rows
import Derived.Laws.AppendOwn
import Derived.Laws.IdiomStrings
import Derived.Lib.SliceRun
import Derived.Lib.AppendZerosOnto
import Derived.Deep.OwnRows
import Derived.Deep.MidRow
import Derived.Maps.AppendAt
import Derived.Deep.Cut
import Derived.Lib.BufferMore
namespace Go.Proofs.YtonoaopioifedaaGreatDoor.H
open Go.RowKit Go.Deep
set_option linter.unusedVariables false
set_option linter.unusedSimpArgs false
set_option maxRecDepth 100000
theorem below_block {w w' : World} {R B : Nat} {o : Obj} (h : Below B w w') (ho : w.heap[R]? = some o) (hB : w.heap.size ≤ B) : w'.heap[R]? = some o := (h.block R (Nat.lt_of_lt_of_le (lt_of_block ho) hB)).trans ho
theorem slice_form {w : World} {base : Nat} {e : TypeId} {size : Nat} {v : Value} {n : Nat} {xs : List Value} (h : w.ownsRow base e size v n xs) : ∃ a c, v = .slice a n c := by
  rcases h.2 with ⟨h1, h2⟩ | ⟨g, cap, cur, h1, _⟩
  · exact ⟨none, 0, by rw [h1, h2]⟩
  · exact ⟨_, _, h1⟩
theorem owns_below {w w' : World} {base B : Nat} {e : TypeId} {size : Nat} {v : Value} {n : Nat} {xs : List Value} (h : w.ownsRow base e size v n xs) (hb : Below B w w') (hB : w.heap.size ≤ B) : w'.ownsRow base e size v n xs := by
  refine ⟨h.1, ?_⟩
  rcases h.2 with h2 | ⟨g, cap, cur, h1, h2, h3, h4⟩
  · exact .inl h2
  · exact .inr ⟨g, cap, cur, h1, h2, below_block hb h3 hB, h4⟩
theorem Tryz.info5 : (Tryz.prog.info? 5).map (fun i => (i.zero, i.size, i.bytes)) = some (some (.int .u8 0), 1, 1) := by kernel_rfl
def byV (b : UInt8) : Value := .int .u8 (b.toNat : Int)
/-- A row of bytes of one's own. -/
def OwnB (w : World) (K : Nat) (a : Option Addr) (n c : Nat) (l : List UInt8) : Prop := w.ownsRow K 5 1 (.slice a n c) n (l.map byV)
theorem OwnB.len {w : World} {K : Nat} {a : Option Addr} {n c : Nat} {l : List UInt8} (h : OwnB w K a n c l) : l.length = n := by have := h.1; simpa using this
/-- A byte is appended. -/
theorem push8 (V : World) (K : Nat) (a : Option Addr) (n c : Nat) (l : List UInt8) (hV : OwnB V K a n c l) (y : UInt8) (hs : n ≤ 1000000) (hK : K ≤ V.heap.size) :
    ∃ a' c' w', (Builtin.append_ #[29, 29] 29 #[.slice a n c, .slice (some ⟨V.heap.size, 0, none⟩) 1 1]).run Tryz.prog (V.alloc (.cells #[.int .u8 (y.toNat : Int)] 5)) = .ok (.slice a' (n + 1) c') w' ∧ OwnB w' K a' (n + 1) c' (l ++ [y]) ∧ Below K V w' := by
  have hal : Below V.heap.size V (V.alloc (.cells #[.int .u8 (y.toNat : Int)] 5)) := (Below.refl _ _).alloc (Nat.le_refl _) _
  have hr2 := World.ownsRow.alloc hV (.cells #[.int .u8 (y.toNat : Int)] 5)
  have hc : (V.alloc (.cells #[.int .u8 (y.toNat : Int)] 5)).heap[V.heap.size]? = some (.cells #[.int .u8 (y.toNat : Int)] 5 (0, 0)) := heap_alloc_new _ _
  obtain ⟨i0, hi, hz0, hz1, hz2⟩ := info_parts Tryz.info5
  obtain ⟨v', w', h1, h2, h3, _, h5⟩ := run_append_own_at (P := Tryz.prog) (V.alloc (.cells #[.int .u8 (y.toNat : Int)] 5)) K 29 29 5 i0 (.int .u8 0) 1 1 Tryz.underlying29 hi hz0 hz1 hz2 rfl (by decide) (.slice a n c) n (l.map byV) hr2 ⟨V.heap.size, 0, none⟩ 1 1 [.int .u8 (y.toNat : Int)] rfl (fun j u hj => by
    cases j with
    | zero => cases hj; show (V.alloc (.cells #[.int .u8 (y.toNat : Int)] 5)).cell? ⟨V.heap.size, 0, none⟩ = _; simp only [World.cell?, hc]; rfl
    | succ j => simp at hj) (by intro u hu; rw [List.mem_singleton.1 hu]; rfl) (by unfold maxLen; omega) (by omega) (by have := hal.size; omega)
  obtain ⟨a', c', rfl⟩ := slice_form h2
  refine ⟨a', c', w', h1, ?_, (hal.mono hK).grown h3 (by have := hal.size; omega) (fun z e => (hr2.lt z e).1)⟩
  unfold OwnB
  rw [List.map_append]
  exact h2
theorem lit8 (w : World) : OwnB (w.alloc (.cells #[] 5)) w.heap.size (some ⟨w.heap.size, 0, none⟩) 0 0 [] := World.ownsRow_lit (base := w.heap.size) (e := 5) (size := 1) w #[] 0 (Nat.le_refl _) (by unfold maxLen; omega) rfl
theorem add0 (g j : Nat) : (⟨g, 0, none⟩ : Addr).add j = ⟨g, j, none⟩ := by
  unfold Addr.add
  by_cases h : j = 0 <;> simp [h]
/-- A row of one's own, as a text. -/
theorem back8 (w : World) (K : Nat) (a : Option Addr) (n c : Nat) (l : List UInt8) (h : OwnB w K a n c l) (ha : a ≠ none) : (convert 29 9 (.slice a n c)).run Tryz.prog w = .ok (.string (bs l)) w := by
  have hl := h.len
  rcases h.2 with ⟨h1, _⟩ | ⟨g, cap, cur, h1, _⟩
  · cases h1; exact absurd rfl ha
  · obtain ⟨rfl, rfl⟩ : a = some ⟨g, 0, none⟩ ∧ c = cap := by simpa using h1
    rw [← hl]
    refine run_convert_bytes_back w 29 9 5 ⟨g, 0, none⟩ c l Tryz.underlying29 Tryz.underlying5 Tryz.underlying9 fun j hj => ?_
    have := World.ownsRow.cellAt h j (by omega)
    rw [add0, this]
    simp [List.getElem?_map, List.getElem?_eq_getElem hj, byV]
theorem owns_some {w : World} {K : Nat} {a : Option Addr} {n c : Nat} {l : List UInt8} (h : OwnB w K a n c l) (hl : l ≠ []) : a ≠ none := by
  rintro rfl
  rcases h.2 with ⟨h1, h2⟩ | ⟨g, cap, cur, h1, _⟩
  · have := h.len; rw [h2] at this; exact hl (List.length_eq_zero_iff.1 this)
  · cases h1
/-- A text's bytes, of which the first k are made small. -/
def LwAt (w : World) (S : Nat) (l : List UInt8) (k : Nat) : Prop := ∃ cs : Array Value, w.heap[S]? = some (.cells cs 5 (cs.size, cs.size + 1)) ∧ l.length ≤ cs.size ∧ ∀ j b, l[j]? = some b → cs[j]? = some (byV (if j < k then smallU b else b))
theorem LwAt.at {w : World} {S k : Nat} {l : List UInt8} (h : LwAt w S l k) (j : Nat) (b : UInt8) (hb : l[j]? = some b) : w.cell? ⟨S, j, none⟩ = some (byV (if j < k then smallU b else b)) ∧ w.frozen? ⟨S, j, none⟩ = false := by
  obtain ⟨cs, h1, h2, h3⟩ := h
  have hj : j < l.length := (List.getElem?_eq_some_iff.1 hb).1
  refine ⟨?_, ?_⟩
  · simp [World.cell?, h1, h3 j b hb]
  · simp [World.frozen?, h1]; omega
theorem LwAt.keep {w : World} {S k : Nat} {l : List UInt8} (h : LwAt w S l k) (b : UInt8) (hb : l[k]? = some b) (hu : upB b = false) : LwAt w S l (k + 1) := by
  obtain ⟨cs, h1, h2, h3⟩ := h
  refine ⟨cs, h1, h2, fun j c hc => ?_⟩
  rw [h3 j c hc]
  rcases Nat.lt_trichotomy j k with e | e | e
  · rw [if_pos e, if_pos (by omega)]
  · subst e
    rw [hb] at hc; cases hc
    rw [if_neg (by omega), if_pos (by omega)]
    unfold smallU; rw [hu]; rfl
  · rw [if_neg (by omega), if_neg (by omega)]
theorem LwAt.store {w : World} {S k : Nat} {l : List UInt8} (h : LwAt w S l k) (b : UInt8) (hb : l[k]? = some b) : LwAt (w.setCell ⟨S, k, none⟩ (byV (smallU b))) S l (k + 1) := by
  obtain ⟨cs, h1, h2, h3⟩ := h
  refine ⟨cs.setIfInBounds k (byV (smallU b)), ?_, by simpa using h2, fun j c hc => ?_⟩
  · have := Lib.heap_setCell_same (i := k) h1 (byV (smallU b))
    simpa using this
  · by_cases e : j = k
    · subst e
      rw [hb] at hc; cases hc
      have hj : j < cs.size := by have := (List.getElem?_eq_some_iff.1 hb).1; omega
      rw [if_pos (by omega)]
      simp [hj]
    · rw [Array.getElem?_setIfInBounds_ne (by omega), h3 j c hc]
      rcases Nat.lt_or_ge j k with h | h
      · rw [if_pos h, if_pos (by omega)]
      · rw [if_neg (by omega), if_neg (by omega)]
theorem LwAt.text {w : World} {S : Nat} {l : List UInt8} (h : LwAt w S l l.length) (c : Nat) : (convert 29 9 (.slice (some ⟨S, 0, none⟩) l.length c)).run Tryz.prog w = .ok (.string (bs (lowL l))) w := by
  have e : l.length = (lowL l).length := by unfold lowL; simp
  rw [show (Value.slice (some ⟨S, 0, none⟩) l.length c) = .slice (some ⟨S, 0, none⟩) (lowL l).length c by rw [← e]]
  refine run_convert_bytes_back w 29 9 5 ⟨S, 0, none⟩ c (lowL l) Tryz.underlying29 Tryz.underlying5 Tryz.underlying9 fun j hj => ?_
  have hj2 : j < l.length := by omega
  have := (h.at j l[j] (List.getElem?_eq_getElem hj2)).1
  rw [if_pos hj2] at this
  rw [add0, this]
  simp [byV, lowL]
/-- A text, as bytes of its own. -/
theorem bytes8 (w : World) (s : ByteArray) : ∃ cap W, (convert 9 29 (.string s)).run Tryz.prog w = .ok (.slice (some ⟨w.heap.size, 0, none⟩) s.size cap) W ∧ LwAt W w.heap.size s.data.toList 0 ∧ Below w.heap.size w W := by
  refine ⟨_, _, run_bytes_of_string w 9 29 5 s Tryz.underlying9 Tryz.underlying29 Tryz.underlying5, ?_, (Below.refl _ _).drew.alloc (Nat.le_refl _) _⟩
  refine ⟨_, heap_alloc_new w.drew _, by simp [bytesRow], fun j b hb => ?_⟩
  rw [if_neg (by omega)]
  have hj : j < s.data.size := by have := (List.getElem?_eq_some_iff.1 hb).1; simpa using this
  unfold bytesRow
  rw [Array.getElem?_append_left (by simpa using hj)]
  simp at hb
  simp [hb, byV]
end Go.Proofs.YtonoaopioifedaaGreatDoor.H
