/- Packets that wait: rows of them in memory. -/
import Derived.Test.YtbibobjkclgogaaOnly
import Derived.Test.YtbibobjkclgogaaDL
import Derived.Lib.SliceRun
import Derived.Deep.Upon
import Derived.Maps.AppendAt
import Derived.Laws.OwnMore
namespace Go.Proofs.Ytbibobjkclgogaa
open Go.RowKit Go.Deep
set_option linter.unusedVariables false
set_option linter.unusedSimpArgs false
set_option maxRecDepth 100000
/-- A packet that waits: its time to live, its protocol, its number, its ends, its body's slice, and the second at which it came; what its body's bytes are. -/
structure HV where
  t : Int
  p : Int
  i : Int
  s : Int
  d : Int
  a : Option Addr
  n : Nat
  c : Nat
  e : Int
  b : List Int
instance : Inhabited HV := ⟨⟨0, 0, 0, 0, 0, none, 0, 0, 0, []⟩⟩
def hvc (x : HV) : List Value := [.int .u8 x.t, .int .u8 x.p, .int .u16 x.i, .int .u32 x.s, .int .u32 x.d, .slice x.a x.n x.c, .int .u64 x.e]
/-- The packet's own six cells. -/
def pkc (x : HV) : List Value := [.int .u8 x.t, .int .u8 x.p, .int .u16 x.i, .int .u32 x.s, .int .u32 x.d, .slice x.a x.n x.c]
def hrow (H : List HV) : List Value := H.flatMap hvc
def prow (H : List HV) : List Value := H.flatMap pkc
theorem hrow_len (H : List HV) : (hrow H).length = H.length * 7 := by
  induction H with
  | nil => rfl
  | cons x r ih => unfold hrow at *; rw [List.flatMap_cons, List.length_append, ih, List.length_cons]; show 7 + _ = _; omega
theorem prow_len (H : List HV) : (prow H).length = H.length * 6 := by
  induction H with
  | nil => rfl
  | cons x r ih => unfold prow at *; rw [List.flatMap_cons, List.length_append, ih, List.length_cons]; show 6 + _ = _; omega
theorem hrow_at : ∀ (H : List HV) (j k : Nat) (hj : j < H.length), k < 7 → (hrow H)[j * 7 + k]? = (hvc H[j])[k]?
  | x :: r, 0, k, _, hk => by
    unfold hrow
    rw [List.flatMap_cons, List.getElem?_append_left (by show 0 * 7 + k < 7; omega)]
    simp
  | x :: r, j + 1, k, hj, hk => by
    have ih := hrow_at r j k (by simpa using hj) hk
    unfold hrow at *
    rw [List.flatMap_cons, List.getElem?_append_right (by show 7 ≤ _; omega)]
    rw [show (j + 1) * 7 + k - (hvc x).length = j * 7 + k by show (j + 1) * 7 + k - 7 = _; omega, ih]
    rfl
theorem prow_at : ∀ (H : List HV) (j k : Nat) (hj : j < H.length), k < 6 → (prow H)[j * 6 + k]? = (pkc H[j])[k]?
  | x :: r, 0, k, _, hk => by
    unfold prow
    rw [List.flatMap_cons, List.getElem?_append_left (by show 0 * 6 + k < 6; omega)]
    simp
  | x :: r, j + 1, k, hj, hk => by
    have ih := prow_at r j k (by simpa using hj) hk
    unfold prow at *
    rw [List.flatMap_cons, List.getElem?_append_right (by show 6 ≤ _; omega)]
    rw [show (j + 1) * 6 + k - (pkc x).length = j * 6 + k by show (j + 1) * 6 + k - 6 = _; omega, ih]
    rfl
theorem hrow_snoc (H : List HV) (x : HV) : hrow (H ++ [x]) = hrow H ++ hvc x := by unfold hrow; rw [List.flatMap_append]; simp
theorem prow_snoc (H : List HV) (x : HV) : prow (H ++ [x]) = prow H ++ pkc x := by unfold prow; rw [List.flatMap_append]; simp
theorem hrow_take (H : List HV) : ∀ i, hrow (H.take i) = (hrow H).take (i * 7) := by
  induction H with
  | nil => intro i; simp [hrow]
  | cons x r ih =>
    intro i
    cases i with
    | zero => simp [hrow]
    | succ i =>
      have h1 := ih i
      unfold hrow at *
      rw [List.take_succ_cons, List.flatMap_cons, List.flatMap_cons, h1, show (i + 1) * 7 = (hvc x).length + i * 7 by show _ = 7 + _; omega, List.take_length_add_append]
/-- The seven cells of a place are set. -/
def set7 (L : List Value) (o : Nat) (x : HV) : List Value := ((((((L.set o (.int .u8 x.t)).set (o + 1) (.int .u8 x.p)).set (o + 2) (.int .u16 x.i)).set (o + 3) (.int .u32 x.s)).set (o + 4) (.int .u32 x.d)).set (o + 5) (.slice x.a x.n x.c)).set (o + 6) (.int .u64 x.e)
theorem set7_right (A L : List Value) (o : Nat) (x : HV) : set7 (A ++ L) (A.length + o) x = A ++ set7 L o x := by
  unfold set7
  rw [Nat.add_assoc, Nat.add_assoc, Nat.add_assoc, Nat.add_assoc, Nat.add_assoc, Nat.add_assoc]
  repeat rw [List.set_append_right _ _ (by omega)]
  simp only [Nat.add_sub_cancel_left]
theorem hrow_set : ∀ (H : List HV) (i : Nat) (x : HV), i < H.length → hrow (H.set i x) = set7 (hrow H) (i * 7) x
  | y :: r, 0, x, _ => by
    unfold hrow
    rw [List.set_cons_zero, List.flatMap_cons, List.flatMap_cons]
    rfl
  | y :: r, i + 1, x, h => by
    have ih := hrow_set r i x (by simpa using h)
    unfold hrow at *
    rw [List.set_cons_succ, List.flatMap_cons, List.flatMap_cons, ih, show (i + 1) * 7 = (hvc y).length + i * 7 by show _ = 7 + _; omega, set7_right]
theorem set7_take (L : List Value) (o m : Nat) (x : HV) : (set7 L o x).take m = set7 (L.take m) o x := by
  unfold set7
  simp only [List.take_set]
/-- A row of packets that wait. -/
def HRow (w : World) (base : Nat) (v : Value) (H : List HV) : Prop := w.ownsRow base 84 7 v H.length (hrow H)
/-- A row of packets that are given. -/
def PRow (w : World) (base : Nat) (v : Value) (H : List HV) : Prop := w.ownsRow base 44 6 v H.length (prow H)
theorem HRow.nil (w : World) (base : Nat) : HRow w base (.slice none 0 0) [] := World.ownsRow_nil _ _ _ _
theorem PRow.nil (w : World) (base : Nat) : PRow w base (.slice none 0 0) [] := World.ownsRow_nil _ _ _ _
theorem HRow.below {w w' : World} {base : Nat} {v : Value} {H : List HV} (h : HRow w base v H) (hb : Below w.heap.size w w') : HRow w' base v H := owns_below h hb (Nat.le_refl _)
theorem PRow.below {w w' : World} {base : Nat} {v : Value} {H : List HV} (h : PRow w base v H) (hb : Below w.heap.size w w') : PRow w' base v H := owns_below h hb (Nat.le_refl _)
theorem HRow.only {X : Nat → Prop} {w w' : World} {base : Nat} {v : Value} {H : List HV} (h : HRow w base v H) (hb : OnlyS X w w') (hx : ∀ k, v.ownBlock = some k → ¬ X k) : HRow w' base v H := hb.owns h hx
theorem PRow.only {X : Nat → Prop} {w w' : World} {base : Nat} {v : Value} {H : List HV} (h : PRow w base v H) (hb : OnlyS X w w') (hx : ∀ k, v.ownBlock = some k → ¬ X k) : PRow w' base v H := hb.owns h hx
/-- A row of which something waits leads somewhere. -/
theorem HRow.form {w : World} {base : Nat} {v : Value} {H : List HV} (h : HRow w base v H) : (v = .slice none 0 0 ∧ H = []) ∨ ∃ b cap, v = .slice (some ⟨b, 0, none⟩) H.length cap ∧ base ≤ b ∧ b < w.heap.size ∧ H.length ≤ cap ∧ ∃ cur, w.heap[b]? = some (.cells cur 84 (0, 0)) ∧ cur.size = cap * 7 ∧ cur.toList.take (H.length * 7) = hrow H := by
  rcases h.2 with ⟨h1, h2⟩ | ⟨g, cap, cur, h1, h2, h3, h4, h5, h6, h7⟩
  · exact .inl ⟨h1, List.eq_nil_of_length_eq_zero h2⟩
  · exact .inr ⟨g, cap, h1, h2, lt_of_block h3, h4, cur, h3, h6, h7⟩
theorem HRow.cells {w : World} {base b cap : Nat} {H : List HV} {n : Nat} (h : HRow w base (.slice (some ⟨b, 0, none⟩) n cap) H) {j : Nat} (hj : j < H.length) :
    w.cell? ⟨b, j * 7, none⟩ = some (.int .u8 H[j].t) ∧ w.cell? ⟨b, j * 7 + 1, none⟩ = some (.int .u8 H[j].p) ∧ w.cell? ⟨b, j * 7 + 2, none⟩ = some (.int .u16 H[j].i) ∧ w.cell? ⟨b, j * 7 + 3, none⟩ = some (.int .u32 H[j].s) ∧ w.cell? ⟨b, j * 7 + 4, none⟩ = some (.int .u32 H[j].d) ∧ w.cell? ⟨b, j * 7 + 5, none⟩ = some (.slice H[j].a H[j].n H[j].c) ∧ w.cell? ⟨b, j * 7 + 6, none⟩ = some (.int .u64 H[j].e) := by
  have hn : n = H.length := by
    rcases h.2 with ⟨h1, h2⟩ | ⟨g, cap, cur, h1, _⟩
    · simp at h1
    · simp at h1; exact h1.2.1
  subst hn
  have k : ∀ k, k < 7 → w.cell? ⟨b, j * 7 + k, none⟩ = (hvc H[j])[k]? := fun k hk => (World.ownsRow.cellAt h (j * 7 + k) (by omega)).trans (hrow_at H j k hj hk)
  exact ⟨k 0 (by omega), k 1 (by omega), k 2 (by omega), k 3 (by omega), k 4 (by omega), k 5 (by omega), k 6 (by omega)⟩
theorem PRow.cells {w : World} {base b cap : Nat} {H : List HV} {n : Nat} (h : PRow w base (.slice (some ⟨b, 0, none⟩) n cap) H) {j : Nat} (hj : j < H.length) :
    w.cell? ⟨b, j * 6, none⟩ = some (.int .u8 H[j].t) ∧ w.cell? ⟨b, j * 6 + 1, none⟩ = some (.int .u8 H[j].p) ∧ w.cell? ⟨b, j * 6 + 2, none⟩ = some (.int .u16 H[j].i) ∧ w.cell? ⟨b, j * 6 + 3, none⟩ = some (.int .u32 H[j].s) ∧ w.cell? ⟨b, j * 6 + 4, none⟩ = some (.int .u32 H[j].d) ∧ w.cell? ⟨b, j * 6 + 5, none⟩ = some (.slice H[j].a H[j].n H[j].c) := by
  have hn : n = H.length := by
    rcases h.2 with ⟨h1, h2⟩ | ⟨g, cap, cur, h1, _⟩
    · simp at h1
    · simp at h1; exact h1.2.1
  subst hn
  have k : ∀ k, k < 6 → w.cell? ⟨b, j * 6 + k, none⟩ = (pkc H[j])[k]? := fun k hk => (World.ownsRow.cellAt h (j * 6 + k) (by omega)).trans (prow_at H j k hj hk)
  exact ⟨k 0 (by omega), k 1 (by omega), k 2 (by omega), k 3 (by omega), k 4 (by omega), k 5 (by omega)⟩
theorem HRow.live {w : World} {base b cap n : Nat} {H : List HV} (h : HRow w base (.slice (some ⟨b, 0, none⟩) n cap) H) : n = H.length ∧ base ≤ b ∧ b < w.heap.size ∧ n ≤ cap ∧ (∀ i, w.frozen? ⟨b, i, none⟩ = false) ∧ ∀ j, j < cap * 7 → (w.cell? ⟨b, j, none⟩).isSome = true := by
  rcases h.form with ⟨h1, _⟩ | ⟨b', cap', h1, h2, h3, h4, cur, h5, h6, h7⟩
  · simp at h1
  · simp at h1
    obtain ⟨rfl, rfl, rfl⟩ := h1
    refine ⟨rfl, h2, h3, h4, fun i => by simp [World.frozen?, h5], fun j hj => ?_⟩
    simp [World.cell?, h5]
    omega
/-- A place of the row is written whole. -/
theorem HRow.put {w : World} {base b cap n : Nat} {H : List HV} (h : HRow w base (.slice (some ⟨b, 0, none⟩) n cap) H) (i : Nat) (hi : i < H.length) (x : HV) {w' : World} (hw : (((((((w.setCell ⟨b, i * 7, none⟩ (.int .u8 x.t)).setCell ⟨b, i * 7 + 1, none⟩ (.int .u8 x.p)).setCell ⟨b, i * 7 + 2, none⟩ (.int .u16 x.i)).setCell ⟨b, i * 7 + 3, none⟩ (.int .u32 x.s)).setCell ⟨b, i * 7 + 4, none⟩ (.int .u32 x.d)).setCell ⟨b, i * 7 + 5, none⟩ (.slice x.a x.n x.c)).setCell ⟨b, i * 7 + 6, none⟩ (.int .u64 x.e)) = w') :
    HRow w' base (.slice (some ⟨b, 0, none⟩) n cap) (H.set i x) ∧ OnlyS (fun k => k = b) w w' := by
  have hn := h.live.1
  rcases h.2 with ⟨h1, _⟩ | ⟨b', cap', cur, h1, h2, h3, h4, h5, h6, h7⟩
  · simp at h1
  · simp at h1
    obtain ⟨rfl, _, rfl⟩ := h1
    obtain ⟨w0, hw0⟩ : ∃ z, w.setCell ⟨b, i * 7, none⟩ (.int .u8 x.t) = z := ⟨_, rfl⟩
    have q0 := heap_setCell_same w b (i * 7) (cur) _ (.int .u8 x.t) h3
    have o0 := OnlyS.setCell (OnlyS.refl (fun k => k = b) w) b (i * 7) (.int .u8 x.t) (.inl rfl)
    rw [hw0] at q0 o0 hw
    obtain ⟨w1, hw1⟩ : ∃ z, w0.setCell ⟨b, i * 7 + 1, none⟩ (.int .u8 x.p) = z := ⟨_, rfl⟩
    have q1 := heap_setCell_same w0 b (i * 7 + 1) ((cur).setIfInBounds (i * 7) (.int .u8 x.t)) _ (.int .u8 x.p) q0
    have o1 := OnlyS.setCell o0 b (i * 7 + 1) (.int .u8 x.p) (.inl rfl)
    rw [hw1] at q1 o1 hw
    obtain ⟨w2, hw2⟩ : ∃ z, w1.setCell ⟨b, i * 7 + 2, none⟩ (.int .u16 x.i) = z := ⟨_, rfl⟩
    have q2 := heap_setCell_same w1 b (i * 7 + 2) (((cur).setIfInBounds (i * 7) (.int .u8 x.t)).setIfInBounds (i * 7 + 1) (.int .u8 x.p)) _ (.int .u16 x.i) q1
    have o2 := OnlyS.setCell o1 b (i * 7 + 2) (.int .u16 x.i) (.inl rfl)
    rw [hw2] at q2 o2 hw
    obtain ⟨w3, hw3⟩ : ∃ z, w2.setCell ⟨b, i * 7 + 3, none⟩ (.int .u32 x.s) = z := ⟨_, rfl⟩
    have q3 := heap_setCell_same w2 b (i * 7 + 3) ((((cur).setIfInBounds (i * 7) (.int .u8 x.t)).setIfInBounds (i * 7 + 1) (.int .u8 x.p)).setIfInBounds (i * 7 + 2) (.int .u16 x.i)) _ (.int .u32 x.s) q2
    have o3 := OnlyS.setCell o2 b (i * 7 + 3) (.int .u32 x.s) (.inl rfl)
    rw [hw3] at q3 o3 hw
    obtain ⟨w4, hw4⟩ : ∃ z, w3.setCell ⟨b, i * 7 + 4, none⟩ (.int .u32 x.d) = z := ⟨_, rfl⟩
    have q4 := heap_setCell_same w3 b (i * 7 + 4) (((((cur).setIfInBounds (i * 7) (.int .u8 x.t)).setIfInBounds (i * 7 + 1) (.int .u8 x.p)).setIfInBounds (i * 7 + 2) (.int .u16 x.i)).setIfInBounds (i * 7 + 3) (.int .u32 x.s)) _ (.int .u32 x.d) q3
    have o4 := OnlyS.setCell o3 b (i * 7 + 4) (.int .u32 x.d) (.inl rfl)
    rw [hw4] at q4 o4 hw
    obtain ⟨w5, hw5⟩ : ∃ z, w4.setCell ⟨b, i * 7 + 5, none⟩ (.slice x.a x.n x.c) = z := ⟨_, rfl⟩
    have q5 := heap_setCell_same w4 b (i * 7 + 5) ((((((cur).setIfInBounds (i * 7) (.int .u8 x.t)).setIfInBounds (i * 7 + 1) (.int .u8 x.p)).setIfInBounds (i * 7 + 2) (.int .u16 x.i)).setIfInBounds (i * 7 + 3) (.int .u32 x.s)).setIfInBounds (i * 7 + 4) (.int .u32 x.d)) _ (.slice x.a x.n x.c) q4
    have o5 := OnlyS.setCell o4 b (i * 7 + 5) (.slice x.a x.n x.c) (.inl rfl)
    rw [hw5] at q5 o5 hw
    obtain ⟨w6, hw6⟩ : ∃ z, w5.setCell ⟨b, i * 7 + 6, none⟩ (.int .u64 x.e) = z := ⟨_, rfl⟩
    have q6 := heap_setCell_same w5 b (i * 7 + 6) (((((((cur).setIfInBounds (i * 7) (.int .u8 x.t)).setIfInBounds (i * 7 + 1) (.int .u8 x.p)).setIfInBounds (i * 7 + 2) (.int .u16 x.i)).setIfInBounds (i * 7 + 3) (.int .u32 x.s)).setIfInBounds (i * 7 + 4) (.int .u32 x.d)).setIfInBounds (i * 7 + 5) (.slice x.a x.n x.c)) _ (.int .u64 x.e) q5
    have o6 := OnlyS.setCell o5 b (i * 7 + 6) (.int .u64 x.e) (.inl rfl)
    rw [hw6] at q6 o6 hw
    subst hw
    refine ⟨⟨by rw [hrow_len], .inr ⟨b, cap, _, by rw [List.length_set, hn], h2, q6, by rw [List.length_set]; exact h4, h5, by simp [h6], ?_⟩⟩, o6⟩
    rw [List.length_set, hrow_set _ _ _ hi, ← h7, ← set7_take]
    unfold set7
    simp
end Go.Proofs.Ytbibobjkclgogaa
