/- http: the reader's block, and what a store leaves of it. -/
import Derived.Test.YtbiblaeocbcfhaaGreatDoorZMem
namespace Go.Proofs.YtbiblaeocbcfhaaGreatDoor
open Go.RowKit Go.Deep
set_option linter.unusedVariables false
set_option linter.unusedSimpArgs false
set_option maxRecDepth 100000
theorem cell_at {w : World} {g : Nat} {t : TypeId} {cs : Array Value} (h : w.heap[g]? = some (.cells cs t (0, 0))) (i : Nat) {v : Value} (hv : cs[i]? = some v) : w.cell? ⟨g, i, none⟩ = some v := by simp [World.cell?, h, hv]
theorem free_at {w : World} {g : Nat} {t : TypeId} {cs : Array Value} (h : w.heap[g]? = some (.cells cs t (0, 0))) : ∀ i, w.frozen? ⟨g, i, none⟩ = false := fun i => by simp [World.frozen?, h]
def mkF (f : List UInt8 × List UInt8) : fldRec := ⟨bs f.1, bs f.2⟩
/-- A row of fields. -/
def FV (w : World) (v : Value) (fs : List (List UInt8 × List UInt8)) : Prop := ∃ a c, v = .slice a fs.length c ∧ fldAt w a (fs.map mkF)
theorem FV.nil (w : World) : FV w (.slice none 0 0) [] := ⟨none, 0, rfl, fun h => absurd rfl h⟩
theorem FV.only {X : Nat → Prop} {w w' : World} {v : Value} {fs : List (List UInt8 × List UInt8)} (h : FV w v fs) (ho : OnlyS X w w') (hx : ∀ k, v.ownBlock = some k → ¬ X k) : FV w' v fs := by
  obtain ⟨a, c, rfl, hf⟩ := h
  refine ⟨a, c, rfl, fun hne => ?_⟩
  obtain ⟨b, off, rfl, hb, hc⟩ := hf hne
  exact ⟨b, off, rfl, Nat.lt_of_lt_of_le hb ho.size, fun i o ho' => ⟨(ho.cell (p := ⟨b, off + i * 2, none⟩) hb (hx b rfl)).trans (hc i o ho').1, (ho.cell (p := ⟨b, off + i * 2 + 1, none⟩) hb (hx b rfl)).trans (hc i o ho').2⟩⟩
abbrev pcs (p : PM) (tv fv bv : Value) : Array Value := #[.int .i64 (p.waits : Int), tv, .int .i64 (p.line : Int), .bool p.passed, .int .i64 p.left, .string (bs p.now.me), .string (bs p.now.ta), .int .i64 (p.now.minor : Int), fv, bv, .bool p.now.keep]
/-- The reader stands in block B. -/
structure At (w : World) (B : Nat) (p : PM) (tv fv bv : Value) : Prop where
  blk : w.heap[B]? = some (.cells (pcs p tv fv bv) 38 (0, 0))
  tx : U8 w tv p.text
  bd : U8 w bv p.now.body
  fl : FV w fv p.now.fs
  tB : tv.ownBlock ≠ some B
  bB : bv.ownBlock ≠ some B
  fB : fv.ownBlock ≠ some B
  tb : ∀ k, tv.ownBlock = some k → bv.ownBlock ≠ some k
  tf : ∀ k, tv.ownBlock = some k → fv.ownBlock ≠ some k
  bf : ∀ k, bv.ownBlock = some k → fv.ownBlock ≠ some k
  fk : ∀ k, fv.ownBlock = some k → k < w.heap.size
def Own (B : Nat) (tv bv : Value) : Nat → Prop := fun k => k = B ∨ tv.ownBlock = some k ∨ bv.ownBlock = some k
def Fresh (w : World) (v v' : Value) : Prop := ∀ k, v'.ownBlock = some k → v.ownBlock = some k ∨ w.heap.size ≤ k
theorem Fresh.refl (w : World) (v : Value) : Fresh w v v := fun _ h => .inl h
theorem Fresh.nil (w : World) (v : Value) : Fresh w v (.slice none 0 0) := fun k h => by cases h
theorem Fresh.trans {a b : World} {u v x : Value} (h : Fresh a u v) (k : Fresh b v x) (hs : a.heap.size ≤ b.heap.size) : Fresh a u x := fun i hi => by
  rcases k i hi with h1 | h1
  · exact h i h1
  · exact .inr (by omega)
theorem At.only {X : Nat → Prop} {w w' : World} {B : Nat} {p : PM} {tv fv bv : Value} (h : At w B p tv fv bv) (ho : OnlyS X w w') (h0 : ¬ X B) (h1 : ∀ k, tv.ownBlock = some k → ¬ X k) (h2 : ∀ k, bv.ownBlock = some k → ¬ X k) (h3 : ∀ k, fv.ownBlock = some k → ¬ X k) : At w' B p tv fv bv :=
  ⟨ho.heap h.blk h0, h.tx.only ho h1, h.bd.only ho h2, h.fl.only ho h3, h.tB, h.bB, h.fB, h.tb, h.tf, h.bf, fun k hk => Nat.lt_of_lt_of_le (h.fk k hk) ho.size⟩
theorem At.below {w w' : World} {B : Nat} {p : PM} {tv fv bv : Value} (h : At w B p tv fv bv) (hb : Below w.heap.size w w') : At w' B p tv fv bv :=
  h.only (X := fun _ => False) (OnlyS.of hb) (fun h => h) (fun _ _ h => h) (fun _ _ h => h) (fun _ _ h => h)
theorem set_block {w : World} {g : Nat} {t : TypeId} {cs : Array Value} (h : w.heap[g]? = some (.cells cs t (0, 0))) (i : Nat) (v : Value) : (w.setCell ⟨g, i, none⟩ v).heap[g]? = some (.cells (cs.setIfInBounds i v) t (0, 0)) := heap_setCell_same w g i _ _ v h
/-- A cell of the reader's block that holds no row is stored. -/
theorem At.set {w : World} {B : Nat} {p p' : PM} {tv fv bv : Value} (h : At w B p tv fv bv) (i : Nat) (v : Value) (hc : (pcs p tv fv bv).setIfInBounds i v = pcs p' tv fv bv) (h1 : p'.text = p.text) (h2 : p'.now.body = p.now.body) (h3 : p'.now.fs = p.now.fs) : At (w.setCell ⟨B, i, none⟩ v) B p' tv fv bv := by
  have ho : OnlyS (fun k => k = B) w (w.setCell ⟨B, i, none⟩ v) := (OnlyS.refl _ w).setCell B i v (.inl rfl)
  refine ⟨hc ▸ set_block h.blk i v, ?_, ?_, ?_, h.tB, h.bB, h.fB, h.tb, h.tf, h.bf, fun k hk => Nat.lt_of_lt_of_le (h.fk k hk) ho.size⟩
  · rw [h1]; exact h.tx.only ho (fun k hk e => h.tB (e ▸ hk))
  · rw [h2]; exact h.bd.only ho (fun k hk e => h.bB (e ▸ hk))
  · rw [h3]; exact h.fl.only ho (fun k hk e => h.fB (e ▸ hk))
theorem At.lt {w : World} {B : Nat} {p : PM} {tv fv bv : Value} (h : At w B p tv fv bv) : B < w.heap.size := lt_of_block h.blk
/-- The row of the lines is another one. -/
theorem At.text {w w1 : World} {B : Nat} {p p' : PM} {tv tv' fv bv : Value} (h : At w B p tv fv bv) (ho : OnlyS (fun k => tv.ownBlock = some k) w w1) (hu : U8 w1 tv' p'.text) (hf : Fresh w tv tv')
    (hc : pcs p' tv' fv bv = (pcs p tv fv bv).setIfInBounds 1 tv') (h2 : p'.now.body = p.now.body) (h3 : p'.now.fs = p.now.fs) :
    At (w1.setCell ⟨B, 1, none⟩ tv') B p' tv' fv bv ∧ OnlyS (Own B tv bv) w (w1.setCell ⟨B, 1, none⟩ tv') := by
  have hB1 := ho.heap h.blk (fun e => h.tB e)
  have htB : tv'.ownBlock ≠ some B := fun e => by
    rcases hf B e with h1 | h1
    · exact h.tB h1
    · have := h.lt; omega
  have ho2 : OnlyS (fun k => k = B) w1 (w1.setCell ⟨B, 1, none⟩ tv') := (OnlyS.refl _ w1).setCell B 1 tv' (.inl rfl)
  have hbd := h.bd.only ho (fun k hk e => h.tb k e hk)
  have hfd := h.fl.only ho (fun k hk e => h.tf k e hk)
  refine ⟨⟨hc ▸ set_block hB1 1 tv', hu.only ho2 (fun k hk e => htB (e ▸ hk)), ?_, ?_, htB, h.bB, h.fB, fun k hk e => ?_, fun k hk e => ?_, h.bf, fun k hk => Nat.lt_of_lt_of_le (h.fk k hk) (Nat.le_trans ho.size ho2.size)⟩, ?_⟩
  · rw [h2]; exact hbd.only ho2 (fun k hk e => h.bB (e ▸ hk))
  · rw [h3]; exact hfd.only ho2 (fun k hk e => h.fB (e ▸ hk))
  · rcases hf k hk with h1 | h1
    · exact h.tb k h1 e
    · have := h.bd.lt k e; omega
  · rcases hf k hk with h1 | h1
    · exact h.tf k h1 e
    · have := h.fk k e; omega
  · exact (ho.mono (Y := Own B tv bv) (fun k _ hk => .inr (.inl hk))).setCell B 1 tv' (.inl (.inl rfl))
/-- The row of the body is another one. -/
theorem At.body {w w1 : World} {B : Nat} {p p' : PM} {tv bv' fv bv : Value} (h : At w B p tv fv bv) (ho : OnlyS (fun k => bv.ownBlock = some k) w w1) (hu : U8 w1 bv' p'.now.body) (hf : Fresh w bv bv')
    (hc : pcs p' tv fv bv' = (pcs p tv fv bv).setIfInBounds 9 bv') (h2 : p'.text = p.text) (h3 : p'.now.fs = p.now.fs) :
    At (w1.setCell ⟨B, 9, none⟩ bv') B p' tv fv bv' ∧ OnlyS (Own B tv bv) w (w1.setCell ⟨B, 9, none⟩ bv') := by
  have hB1 := ho.heap h.blk (fun e => h.bB e)
  have htB : bv'.ownBlock ≠ some B := fun e => by
    rcases hf B e with h1 | h1
    · exact h.bB h1
    · have := h.lt; omega
  have ho2 : OnlyS (fun k => k = B) w1 (w1.setCell ⟨B, 9, none⟩ bv') := (OnlyS.refl _ w1).setCell B 9 bv' (.inl rfl)
  have htd := h.tx.only ho (fun k hk e => h.tb k hk e)
  have hfd := h.fl.only ho (fun k hk e => h.bf k e hk)
  refine ⟨⟨hc ▸ set_block hB1 9 bv', ?_, hu.only ho2 (fun k hk e => htB (e ▸ hk)), ?_, h.tB, htB, h.fB, fun k hk e => ?_, h.tf, fun k hk e => ?_, fun k hk => Nat.lt_of_lt_of_le (h.fk k hk) (Nat.le_trans ho.size ho2.size)⟩, ?_⟩
  · rw [h2]; exact htd.only ho2 (fun k hk e => h.tB (e ▸ hk))
  · rw [h3]; exact hfd.only ho2 (fun k hk e => h.fB (e ▸ hk))
  · rcases hf k e with h1 | h1
    · exact h.tb k hk h1
    · have := h.tx.lt k hk; omega
  · rcases hf k hk with h1 | h1
    · exact h.bf k h1 e
    · have := h.fk k e; omega
  · exact (ho.mono (Y := Own B tv bv) (fun k _ hk => .inr (.inr hk))).setCell B 9 bv' (.inl (.inl rfl))
end Go.Proofs.YtbiblaeocbcfhaaGreatDoor
