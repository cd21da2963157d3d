/- http: what a call leaves as it was; rows of bytes of one's own; the reader's block. -/
import Derived.Test.YtbiblaeocbcfhaaGreatDoorHMem
import Derived.Test.YtbiblaeocbcfhaaGreatDoorHFld
import Derived.Test.YtbiblaeocbcfhaaGreatDoorPm
import Derived.Maps.AppendAt
import Derived.Laws.OwnMore
import Derived.Deep.AppendLies
namespace Go.Proofs.YtbiblaeocbcfhaaGreatDoor
open Go.RowKit Go.Deep
set_option linter.unusedVariables false
set_option linter.unusedSimpArgs false
set_option maxRecDepth 100000
/-- Of what was there, only the blocks X may have turned. -/
structure OnlyS (X : Nat → Prop) (w w' : World) : Prop where
  os : w'.os = w.os
  tape : w'.tape = w.tape
  output : w'.output = w.output
  size : w.heap.size ≤ w'.heap.size
  block : ∀ k, k < w.heap.size → ¬ X k → w'.heap[k]? = w.heap[k]?
theorem OnlyS.refl (X : Nat → Prop) (w : World) : OnlyS X w w := ⟨rfl, rfl, rfl, Nat.le_refl _, fun _ _ _ => rfl⟩
theorem OnlyS.trans {X Y : Nat → Prop} {a b c : World} (h : OnlyS X a b) (k : OnlyS Y b c) (hs : ∀ i, i < a.heap.size → Y i → X i) : OnlyS X a c :=
  ⟨k.os.trans h.os, k.tape.trans h.tape, k.output.trans h.output, Nat.le_trans h.size k.size, fun i hi hx => (k.block i (Nat.lt_of_lt_of_le hi h.size) (fun hy => hx (hs i hi hy))).trans (h.block i hi hx)⟩
theorem OnlyS.of {X : Nat → Prop} {w w' : World} (h : Below w.heap.size w w') : OnlyS X w w' := ⟨h.os, h.tape, h.output, h.size, fun k hk _ => h.block k hk⟩
theorem OnlyS.mono {X Y : Nat → Prop} {w w' : World} (h : OnlyS X w w') (hs : ∀ i, i < w.heap.size → X i → Y i) : OnlyS Y w w' := ⟨h.os, h.tape, h.output, h.size, fun k hk hy => h.block k hk fun hx => hy (hs k hk hx)⟩
theorem OnlyS.below {X : Nat → Prop} {K : Nat} {w w' : World} (h : OnlyS X w w') (hX : ∀ k, X k → K ≤ k) (hK : K ≤ w.heap.size) : Below K w w' := ⟨h.os, h.tape, h.output, h.size, fun k hk => h.block k (by omega) fun hx => by have := hX k hx; omega⟩
theorem OnlyS.then {X : Nat → Prop} {a b c : World} (h : OnlyS X a b) (k : Below b.heap.size b c) : OnlyS X a c := h.trans (Y := fun _ => False) ⟨k.os, k.tape, k.output, k.size, fun i hi _ => k.block i hi⟩ (fun _ _ h => h.elim)
theorem OnlyS.drew {X : Nat → Prop} {a b : World} (h : OnlyS X a b) : OnlyS X a b.drew := ⟨h.os, h.tape, h.output, h.size, h.block⟩
theorem OnlyS.setCell {X : Nat → Prop} {a b : World} (h : OnlyS X a b) (g i : Nat) (v : Value) (hg : X g ∨ a.heap.size ≤ g) : OnlyS X a (b.setCell ⟨g, i, none⟩ v) :=
  ⟨h.os, h.tape, h.output, by simpa using h.size, fun k hk hx => (heap_setCell_other _ _ _ _ (by rintro rfl; rcases hg with hg | hg; exact hx hg; omega)).trans (h.block k hk hx)⟩
theorem OnlyS.grown {X : Nat → Prop} {a b c : World} {row : Option Nat} (h : OnlyS X a b) (hg : b.grownBy c row) (hr : ∀ k, row = some k → X k ∨ a.heap.size ≤ k) : OnlyS X a c :=
  ⟨hg.os.trans h.os, hg.tape.trans h.tape, hg.output.trans h.output, Nat.le_trans h.size hg.size, fun k hk hx => (hg.block k (Nat.lt_of_lt_of_le hk h.size) (by
    intro e
    rcases hr k e.symm with h1 | h1
    · exact hx h1
    · omega)).trans (h.block k hk hx)⟩
theorem OnlyS.heap {X : Nat → Prop} {a b : World} {g : Nat} {o : Obj} (h : OnlyS X a b) (hg : a.heap[g]? = some o) (hx : ¬ X g) : b.heap[g]? = some o := (h.block g (lt_of_block hg) hx).trans hg
theorem OnlyS.cell {X : Nat → Prop} {a b : World} (h : OnlyS X a b) {p : Addr} (hp : p.block < a.heap.size) (hx : ¬ X p.block) : b.cell? p = a.cell? p := World.cell?_of_block (h.block p.block hp hx)
theorem OnlyS.owns {X : Nat → Prop} {a b : World} {base : Nat} {e : TypeId} {size : Nat} {v : Value} {n : Nat} {xs : List Value} (h : OnlyS X a b) (ho : a.ownsRow base e size v n xs) (hx : ∀ k, v.ownBlock = some k → ¬ X k) : b.ownsRow base e size v n xs := by
  refine ⟨ho.1, ?_⟩
  rcases ho.2 with h2 | ⟨g, cap, cur, rfl, h2, h3, h4⟩
  · exact .inl h2
  · exact .inr ⟨g, cap, cur, rfl, h2, h.heap h3 (hx g rfl), h4⟩
/-- A row of bytes of one's own. -/
def u8V (l : List UInt8) : List Value := l.map fun b => Value.int .u8 (b.toNat : Int)
def U8 (w : World) (v : Value) (l : List UInt8) : Prop := w.ownsRow 0 5 1 v l.length (u8V l)
theorem U8.nil (w : World) : U8 w (.slice none 0 0) [] := World.ownsRow_nil w 0 _ _
theorem U8.form {w : World} {v : Value} {l : List UInt8} (h : U8 w v l) : ∃ a c, v = .slice a l.length c := slice_form h
theorem U8.only {X : Nat → Prop} {w w' : World} {v : Value} {l : List UInt8} (h : U8 w v l) (ho : OnlyS X w w') (hx : ∀ k, v.ownBlock = some k → ¬ X k) : U8 w' v l := ho.owns h hx
theorem U8.lt {w : World} {v : Value} {l : List UInt8} (h : U8 w v l) : ∀ k, v.ownBlock = some k → k < w.heap.size := fun k hk => (World.ownsRow.lt h k hk).2
/-- A byte is appended to a row: it stands in its own block, or in a new one. -/
theorem pushU (V : World) (a : Option Addr) (n c : Nat) (l : List UInt8) (hV : U8 V (.slice a n c) l) (hn : l.length = n) (y : Int) (yb : UInt8) (hy : y = (yb.toNat : Int)) (hs : n ≤ 1000000) :
    ∃ a' c' w', (Builtin.append_ #[22, 22] 22 #[.slice a n c, .slice (some ⟨V.heap.size, 0, none⟩) 1 1]).run Tryz.prog (V.alloc (.cells #[.int .u8 y] 5)) = .ok (.slice a' (n + 1) c') w' ∧
      U8 w' (.slice a' (n + 1) c') (l ++ [yb]) ∧ OnlyS (fun k => (Value.slice a n c).ownBlock = some k) V w' ∧ (∀ k, (Value.slice a' (n + 1) c').ownBlock = some k → (Value.slice a n c).ownBlock = some k ∨ V.heap.size ≤ k) := by
  subst hy
  have hr2 : (V.alloc (.cells #[.int .u8 (yb.toNat : Int)] 5)).ownsRow 0 5 1 (.slice a n c) n (u8V l) := by
    have h := World.ownsRow.alloc hV (.cells #[.int .u8 (yb.toNat : Int)] 5)
    rwa [hn] at h
  have hc : (V.alloc (.cells #[.int .u8 (yb.toNat : Int)] 5)).heap[V.heap.size]? = some (.cells #[.int .u8 (yb.toNat : Int)] 5 (0, 0)) := heap_alloc_new _ _
  obtain ⟨i0, hi, hz0, hz1, hz2⟩ := info_parts Tryz.info5
  have hal : OnlyS (fun k => (Value.slice a n c).ownBlock = some k) V (V.alloc (.cells #[.int .u8 (yb.toNat : Int)] 5)) := OnlyS.of ((Below.refl _ _).alloc (Nat.le_refl _) _)
  obtain ⟨v', w', h1, h2, h3, _, h5⟩ := run_append_own_at (P := Tryz.prog) (V.alloc (.cells #[.int .u8 (yb.toNat : Int)] 5)) 0 22 22 5 i0 (.int .u8 0) 1 1 Tryz.underlying22 hi hz0 hz1 hz2 rfl (by omega) (.slice a n c) n (u8V l) hr2 ⟨V.heap.size, 0, none⟩ 1 1 [.int .u8 (yb.toNat : Int)] rfl (by
    intro j u hj
    cases j with
    | zero => cases hj; show (V.alloc (.cells #[.int .u8 (yb.toNat : Int)] 5)).cell? ⟨V.heap.size, 0, none⟩ = _; simp only [World.cell?, hc]; rfl
    | succ j => simp at hj) (by intro u hu; rw [List.mem_singleton.1 hu]; rfl) (by unfold maxLen; omega) (by omega) (by omega)
  obtain ⟨a', c', rfl⟩ := slice_form h2
  refine ⟨a', c', w', h1, ?_, hal.grown h3 (fun k hk => .inl hk), fun k hk => ?_⟩
  · unfold U8 u8V
    rw [List.length_append, List.length_singleton, hn, List.map_append]
    exact h2
  · rcases h5 with h5 | h5
    · exact .inl (h5.symm.trans hk)
    · rw [h5] at hk
      have := hal.size
      exact .inr (by have := Option.some.inj hk; omega)
end Go.Proofs.YtbiblaeocbcfhaaGreatDoor
