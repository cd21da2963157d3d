/- What a call leaves as it was: all blocks but a few. -/
import Derived.Test.YtbibobjkclgogaaEKey
namespace Go.Proofs.Ytbibobjkclgogaa
open Go.RowKit Go.Deep
set_option linter.unusedVariables false
/-- Of what was there, only the blocks X may have turned. -/
structure OnlyS (X : Nat → Prop) (w w' : World) : Prop where
  os : w'.os = w.os
  tape : w'.tape = w.tape
  output : w'.output = w.output
  size : w.heap.size ≤ w'.heap.size
  block : ∀ k, k < w.heap.size → ¬ X k → w'.heap[k]? = w.heap[k]?
theorem OnlyS.refl (X : Nat → Prop) (w : World) : OnlyS X w w := ⟨rfl, rfl, rfl, Nat.le_refl _, fun _ _ _ => rfl⟩
theorem OnlyS.trans {X Y : Nat → Prop} {a b c : World} (h : OnlyS X a b) (k : OnlyS Y b c) (hs : ∀ i, i < a.heap.size → Y i → X i) : OnlyS X a c :=
  ⟨k.os.trans h.os, k.tape.trans h.tape, k.output.trans h.output, Nat.le_trans h.size k.size, fun i hi hx => (k.block i (Nat.lt_of_lt_of_le hi h.size) (fun hy => hx (hs i hi hy))).trans (h.block i hi hx)⟩
theorem OnlyS.tr {X : Nat → Prop} {a b c : World} (h : OnlyS X a b) (k : OnlyS X b c) : OnlyS X a c := h.trans k (fun _ _ h => h)
theorem OnlyS.of {X : Nat → Prop} {w w' : World} (h : Below w.heap.size w w') : OnlyS X w w' := ⟨h.os, h.tape, h.output, h.size, fun k hk _ => h.block k hk⟩
theorem OnlyS.mono {X Y : Nat → Prop} {w w' : World} (h : OnlyS X w w') (hs : ∀ i, i < w.heap.size → X i → Y i) : OnlyS Y w w' := ⟨h.os, h.tape, h.output, h.size, fun k hk hy => h.block k hk fun hx => hy (hs k hk hx)⟩
theorem OnlyS.below {X : Nat → Prop} {K : Nat} {w w' : World} (h : OnlyS X w w') (hX : ∀ k, X k → K ≤ k) (hK : K ≤ w.heap.size) : Below K w w' := ⟨h.os, h.tape, h.output, h.size, fun k hk => h.block k (by omega) fun hx => by have := hX k hx; omega⟩
theorem OnlyS.then {X : Nat → Prop} {a b c : World} (h : OnlyS X a b) (k : Below b.heap.size b c) : OnlyS X a c := h.trans (Y := fun _ => False) ⟨k.os, k.tape, k.output, k.size, fun i hi _ => k.block i hi⟩ (fun _ _ h => h.elim)
theorem OnlyS.drew {X : Nat → Prop} {a b : World} (h : OnlyS X a b) : OnlyS X a b.drew := ⟨h.os, h.tape, h.output, h.size, h.block⟩
theorem OnlyS.setCell {X : Nat → Prop} {a b : World} (h : OnlyS X a b) (g i : Nat) (v : Value) (hg : X g ∨ a.heap.size ≤ g) : OnlyS X a (b.setCell ⟨g, i, none⟩ v) :=
  ⟨h.os, h.tape, h.output, by simpa using h.size, fun k hk hx => (heap_setCell_other _ _ _ _ (by rintro rfl; rcases hg with hg | hg; exact hx hg; omega)).trans (h.block k hk hx)⟩
theorem OnlyS.grown {X : Nat → Prop} {a b c : World} {row : Option Nat} (h : OnlyS X a b) (hg : b.grownBy c row) (hr : ∀ k, row = some k → X k ∨ a.heap.size ≤ k) : OnlyS X a c :=
  ⟨hg.os.trans h.os, hg.tape.trans h.tape, hg.output.trans h.output, Nat.le_trans h.size hg.size, fun k hk hx => (hg.block k (Nat.lt_of_lt_of_le hk h.size) (by
    intro e
    rcases hr k e.symm with h1 | h1
    · exact hx h1
    · omega)).trans (h.block k hk hx)⟩
theorem OnlyS.heap {X : Nat → Prop} {a b : World} {g : Nat} {o : Obj} (h : OnlyS X a b) (hg : a.heap[g]? = some o) (hx : ¬ X g) : b.heap[g]? = some o := (h.block g (lt_of_block hg) hx).trans hg
theorem OnlyS.cell {X : Nat → Prop} {a b : World} (h : OnlyS X a b) {p : Addr} (hp : p.block < a.heap.size) (hx : ¬ X p.block) : b.cell? p = a.cell? p := World.cell?_of_block (h.block p.block hp hx)
theorem OnlyS.owns {X : Nat → Prop} {a b : World} {base : Nat} {e : TypeId} {size : Nat} {v : Value} {n : Nat} {xs : List Value} (h : OnlyS X a b) (ho : a.ownsRow base e size v n xs) (hx : ∀ k, v.ownBlock = some k → ¬ X k) : b.ownsRow base e size v n xs := by
  refine ⟨ho.1, ?_⟩
  rcases ho.2 with h2 | ⟨g, cap, cur, rfl, h2, h3, h4⟩
  · exact .inl h2
  · exact .inr ⟨g, cap, cur, rfl, h2, h.heap h3 (hx g rfl), h4⟩
theorem OnlyS.gb {r : Nat} {a b : World} (h : a.grownBy b (some r)) : OnlyS (fun k => k = r) a b := ⟨h.os, h.tape, h.output, h.size, fun k hk hx => h.block k hk (by intro e; cases e; exact hx rfl)⟩
end Go.Proofs.Ytbibobjkclgogaa
