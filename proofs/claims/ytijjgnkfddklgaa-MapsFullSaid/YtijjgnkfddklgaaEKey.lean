/- Plain facts on blocks. -/
import Derived.Test.YtijjgnkfddklgaaGPlain
import Derived.Test.YtijjgnkfddklgaaProg
import Derived.Below
import Derived.Deep.Trees
import Derived.Deep.RegionHeld3
namespace Go.Proofs.Ytijjgnkfddklgaa
open Go.RowKit Go.Deep
set_option linter.unusedVariables false
theorem below_block {w w' : World} {R B : Nat} {o : Obj} (h : Below B w w') (ho : w.heap[R]? = some o) (hB : w.heap.size ≤ B) : w'.heap[R]? = some o := (h.block R (Nat.lt_of_lt_of_le (lt_of_block ho) hB)).trans ho
theorem below_of_drew {B : Nat} {w w' : World} (h : Below B w.drew w') : Below B w w' := ((Below.refl _ w).drew).trans h
theorem three_cells {w : World} {R : Nat} {t : TypeId} {v0 v1 v2 : Value} (h : w.heap[R]? = some (.cells #[v0, v1, v2] t (0, 0))) : w.cell? ⟨R, 0, none⟩ = some v0 ∧ w.cell? ⟨R, 1, none⟩ = some v1 ∧ w.cell? ⟨R, 2, none⟩ = some v2 ∧ ∀ i, w.frozen? ⟨R, i, none⟩ = false := by
  refine ⟨?_, ?_, ?_, fun i => ?_⟩ <;> simp [World.cell?, World.frozen?, h]
theorem two_cells {w : World} {R : Nat} {t : TypeId} {v0 v1 : Value} (h : w.heap[R]? = some (.cells #[v0, v1] t (0, 0))) : w.cell? ⟨R, 0, none⟩ = some v0 ∧ w.cell? ⟨R, 1, none⟩ = some v1 ∧ ∀ i, w.frozen? ⟨R, i, none⟩ = false := by
  refine ⟨?_, ?_, fun i => ?_⟩ <;> simp [World.cell?, World.frozen?, h]
theorem one_cell {w : World} {R : Nat} {t : TypeId} {v0 : Value} (h : w.heap[R]? = some (.cells #[v0] t (0, 0))) : w.cell? ⟨R, 0, none⟩ = some v0 ∧ ∀ i, w.frozen? ⟨R, i, none⟩ = false := by
  refine ⟨?_, fun i => ?_⟩ <;> simp [World.cell?, World.frozen?, h]
def sgn (x y : Int) : Int := if x < y then -1 else if y < x then 1 else 0
theorem gb_set (w : World) (E i : Nat) (x : Value) : w.grownBy (w.setCell ⟨E, i, none⟩ x) (some E) :=
  ⟨rfl, rfl, rfl, by simp, fun k hk hne => Below.heap_setCell _ _ _ _ (by intro e; exact hne (by rw [e]))⟩
theorem gb_trans {a b c : World} {r : Option Nat} (h : a.grownBy b r) (k : b.grownBy c r) : a.grownBy c r :=
  ⟨k.os.trans h.os, k.tape.trans h.tape, k.output.trans h.output, Nat.le_trans h.size k.size, fun i hi hne => (k.block i (Nat.lt_of_lt_of_le hi h.size) hne).trans (h.block i hi hne)⟩
theorem gb_of_below {B : Nat} {w w' : World} {r : Option Nat} (h : Below B w w') (hB : w.heap.size ≤ B) : w.grownBy w' r := ⟨h.os, h.tape, h.output, h.size, fun i hi _ => h.block i (Nat.lt_of_lt_of_le hi hB)⟩
theorem gb_drewN (w : World) (n : Nat) (r : Option Nat) : w.grownBy (w.drewN n) r := gb_of_below (bdrewN (Below.refl w.heap.size w) n) (Nat.le_refl _)
theorem gb_block {w w' : World} {E R : Nat} {o : Obj} (h : w.grownBy w' (some E)) (ho : w.heap[R]? = some o) (hne : R ≠ E) : w'.heap[R]? = some o := (h.block R (lt_of_block ho) (by intro e; cases e; exact hne rfl)).trans ho
end Go.Proofs.Ytijjgnkfddklgaa

/- Keys of mappings, and entries. -/
namespace Go.Proofs.Ytijjgnkfddklgaa
open Go.RowKit Go.Deep
set_option linter.unusedVariables false
/-- A mapping's key: the protocol, the port, the remote address. -/
structure MK where
  p : Int
  x : Int
  r : Int
  hp : 0 ≤ p ∧ p ≤ 255
  hx : 0 ≤ x ∧ x ≤ 65535
  hr : 0 ≤ r ∧ r ≤ 4294967295
/-- An entry: the protocol, the port, the host's port, the remote address, the host; whether it is enabled; its words; when it ends. -/
structure ME where
  p : Int
  x : Int
  t : Int
  r : Int
  h : Int
  en : Bool
  ws : ByteArray
  e : Int
/-- A key's measure. -/
def tM (k : MK) : Int := k.p * 281474976710656 + k.x * 4294967296 + k.r
theorem tM_inj {x y : MK} (h : tM x = tM y) : x = y := by
  obtain ⟨a, b, c, h1, h2, h3⟩ := x
  obtain ⟨d, e, f, h4, h5, h6⟩ := y
  unfold tM at h
  dsimp only at h h1 h2 h3 h4 h5 h6
  have e1 : a = d := by omega
  subst e1
  have e2 : b = e := by omega
  subst e2
  have e3 : c = f := by omega
  subst e3
  rfl
theorem sgn_lt {x y : Int} (h : x < y) : sgn x y = -1 := by unfold sgn; rw [if_pos h]
theorem sgn_gt {x y : Int} (h : y < x) : sgn x y = 1 := by unfold sgn; rw [if_neg (by omega), if_pos h]
theorem sgn_eq (x : Int) : sgn x x = 0 := by unfold sgn; rw [if_neg (by omega), if_neg (by omega)]
theorem tM_sgn (x y : MK) : sgn (tM x) (tM y) = if sgn x.p y.p ≠ 0 then sgn x.p y.p else if sgn x.x y.x ≠ 0 then sgn x.x y.x else sgn x.r y.r := by
  obtain ⟨a, b, c, h1, h2, h3⟩ := x
  obtain ⟨d, e, f, h4, h5, h6⟩ := y
  unfold tM
  dsimp only at h1 h2 h3 h4 h5 h6 ⊢
  rcases Int.lt_trichotomy a d with h | h | h
  · rw [sgn_lt h, if_pos (by decide), sgn_lt (by omega)]
  · subst h
    rw [sgn_eq a, if_neg (by decide)]
    rcases Int.lt_trichotomy b e with h | h | h
    · rw [sgn_lt h, if_pos (by decide), sgn_lt (by omega)]
    · subst h
      rw [sgn_eq b, if_neg (by decide)]
      rcases Int.lt_trichotomy c f with h | h | h
      · rw [sgn_lt h, sgn_lt (by omega)]
      · subst h; rw [sgn_eq, sgn_eq]
      · rw [sgn_gt h, sgn_gt (by omega)]
    · rw [sgn_gt h, if_pos (by decide), sgn_gt (by omega)]
  · rw [sgn_gt h, if_pos (by decide), sgn_gt (by omega)]
end Go.Proofs.Ytijjgnkfddklgaa
