/- The cache in memory. -/
import Derived.Test.YtbibobjkclgogaaNDel
import Derived.Test.YtbibobjkclgogaaDFu
namespace Go.Proofs.Ytbibobjkclgogaa
open Go.RowKit Go.Deep
set_option linter.unusedVariables false
set_option linter.unusedSimpArgs false
set_option maxRecDepth 100000
/-- A packet's body lies in memory of the cache's own. -/
def BodOk (w : World) (K : Nat) (x : HV) : Prop := x.b.length = x.n ∧ w.ownsRow K 5 1 (.slice x.a x.n x.c) x.n (x.b.map (Value.int .u8))
/-- The cache: its block, its table, its row. -/
structure CAx (w : World) (K c tb : Nat) (a : Option Addr) (n cap : Nat) (L : List D.KV) (H : List HV) : Prop where
  blk : w.heap[c]? = some (.cells #[.pointer (some ⟨tb, 0, none⟩), .slice a n cap] 72 (0, 0))
  hc : K ≤ c
  ht : K ≤ tb
  tab : D.Tab w tb 256 D.oF id L
  row : HRow w K (.slice a n cap) H
  bod : ∀ x ∈ H, BodOk w K x
def CAt (w : World) (K c : Nat) (L : List D.KV) (H : List HV) : Prop := ∃ tb a n cap, CAx w K c tb a n cap L H
theorem BodOk.below {w w' : World} {K : Nat} {x : HV} (h : BodOk w K x) (hb : Below w.heap.size w w') : BodOk w' K x := ⟨h.1, owns_below h.2 hb (Nat.le_refl _)⟩
theorem CAx.below {w w' : World} {K c tb n cap : Nat} {a : Option Addr} {L : List D.KV} {H : List HV} (h : CAx w K c tb a n cap L H) (hb : Below w.heap.size w w') : CAx w' K c tb a n cap L H :=
  ⟨below_block hb h.blk (Nat.le_refl _), h.hc, h.ht, h.tab.below hb (Nat.le_refl _), h.row.below hb, fun x hx => (h.bod x hx).below hb⟩
theorem CAt.below {w w' : World} {K c : Nat} {L : List D.KV} {H : List HV} (h : CAt w K c L H) (hb : Below w.heap.size w w') : CAt w' K c L H := by
  obtain ⟨tb, a, n, cap, h⟩ := h
  exact ⟨tb, a, n, cap, h.below hb⟩
/-- Blocks of cells of a type. -/
def TyB (w : World) (k : Nat) (T : TypeId) : Prop := ∃ cs f, w.heap[k]? = some (.cells cs T f)
theorem TyB.ne {w : World} {k j : Nat} {T S : TypeId} (h : TyB w k T) (g : TyB w j S) (hne : T ≠ S) : k ≠ j := by
  rintro rfl
  obtain ⟨c1, f1, h1⟩ := h
  obtain ⟨c2, f2, h2⟩ := g
  rw [h1] at h2
  injection h2 with h2
  injection h2 with _ h2 _
  exact hne h2
theorem CAx.tyC {w : World} {K c tb n cap : Nat} {a : Option Addr} {L : List D.KV} {H : List HV} (h : CAx w K c tb a n cap L H) : TyB w c 72 := ⟨_, _, h.blk⟩
theorem CAx.tyT {w : World} {K c tb n cap : Nat} {a : Option Addr} {L : List D.KV} {H : List HV} (h : CAx w K c tb a n cap L H) : TyB w tb 100 := by
  obtain ⟨T, h1, _⟩ := h.tab
  exact ⟨_, _, h1⟩
theorem HRow.ty {w : World} {K k : Nat} {v : Value} {H : List HV} (h : HRow w K v H) (hk : RB v k) : TyB w k 84 ∧ K ≤ k := by
  rcases h.2 with ⟨h1, _⟩ | ⟨g, cap, cur, h1, h2, h3, _⟩
  · rw [RB, h1] at hk; simp [Value.ownBlock] at hk
  · rw [RB, h1] at hk
    simp [Value.ownBlock] at hk
    subst hk
    exact ⟨⟨_, _, h3⟩, h2⟩
theorem BodOk.ty {w : World} {K k : Nat} {x : HV} (h : BodOk w K x) (hk : (Value.slice x.a x.n x.c).ownBlock = some k) : TyB w k 5 ∧ K ≤ k := by
  rcases h.2.2 with ⟨h1, _⟩ | ⟨g, cap, cur, h1, h2, h3, _⟩
  · rw [h1] at hk; simp [Value.ownBlock] at hk
  · rw [h1] at hk
    simp [Value.ownBlock] at hk
    subst hk
    exact ⟨⟨_, _, h3⟩, h2⟩
theorem BodOk.only {X : Nat → Prop} {w w' : World} {K : Nat} {x : HV} (h : BodOk w K x) (hb : OnlyS X w w') (hx : ∀ k, TyB w k 5 → ¬ X k) : BodOk w' K x := ⟨h.1, hb.owns h.2 fun k hk => hx k (h.ty hk).1⟩
/-- The blocks of a node's type stay where others turn. -/
theorem nk_only {X : Nat → Prop} {w w' : World} (hb : OnlyS X w w') (hx : ∀ k, TyB w k 111 → ¬ X k) : D.NK w w' := fun b cs h => (hb.block b (lt_of_block h) (hx b ⟨_, _, h⟩)).trans h
/-- The row turns, and nothing else. -/
theorem CAx.rowed {w w' : World} {K c tb n cap n' cap' : Nat} {a a' : Option Addr} {L : List D.KV} {H H' : List HV} (h : CAx w K c tb a n cap L H) (hO : OnlyS (RB (.slice a n cap)) w w') (hr : HRow w' K (.slice a' n' cap') H') (hB : ∀ x ∈ H', BodOk w' K x) {w2 : World} (h2 : w'.setCell ⟨c, 1, none⟩ (.slice a' n' cap') = w2) :
    CAx w2 K c tb a' n' cap' L H' ∧ OnlyS (fun k => k = c ∨ RB (.slice a n cap) k) w w2 := by
  have hcr : ∀ k, RB (.slice a n cap) k → k ≠ c := fun k hk => (h.row.ty hk).1.ne h.tyC (by decide)
  have htr : ∀ k, RB (.slice a n cap) k → k ≠ tb := fun k hk => (h.row.ty hk).1.ne h.tyT (by decide)
  have hb1 : w'.heap[c]? = some (.cells #[.pointer (some ⟨tb, 0, none⟩), .slice a n cap] 72 (0, 0)) := hO.heap h.blk (fun e => hcr c e rfl)
  have hO2 : OnlyS (fun k => k = c) w' w2 := by rw [← h2]; exact (OnlyS.refl _ _).setCell c 1 _ (.inl rfl)
  have hO3 : OnlyS (fun k => k = c ∨ RB (.slice a n cap) k) w w2 := (hO.mono (Y := fun k => k = c ∨ RB (.slice a n cap) k) (fun i _ hi => .inr hi)).tr (hO2.mono (fun i _ hi => .inl hi))
  have htab : D.Tab w2 tb 256 D.oF id L := h.tab.keep (nk_only hO3 (fun k hk => by
    rintro (rfl | e)
    · exact hk.ne h.tyC (by decide) rfl
    · exact (h.row.ty e).1.ne hk (by decide) rfl)) (fun o ho => hO3.heap ho (by
    rintro (e | e)
    · exact h.tyT.ne h.tyC (by decide) e
    · exact htr _ e rfl))
  have tyc' : TyB w' c 72 := ⟨_, _, hb1⟩
  refine ⟨⟨by rw [← h2]; exact heap_setCell_same w' c 1 _ _ _ hb1, h.hc, h.ht, htab, hr.only hO2 (fun k hk e => (hr.ty hk).1.ne tyc' (by decide) e), fun x hx => (hB x hx).only hO2 (fun k hk e => hk.ne tyc' (by decide) e)⟩, hO3⟩
/-- The table turns, and nothing else. -/
theorem CAx.tabbed {w w' : World} {K c tb n cap : Nat} {a : Option Addr} {L L' : List D.KV} {H : List HV} (h : CAx w K c tb a n cap L H) (ht : D.Tab w' tb 256 D.oF id L') (hg : w.grownBy w' (some tb)) :
    CAx w' K c tb a n cap L' H ∧ OnlyS (fun k => k = tb) w w' := by
  have hO := OnlyS.gb hg
  have hct : c ≠ tb := h.tyC.ne h.tyT (by decide)
  exact ⟨⟨hO.heap h.blk hct, h.hc, h.ht, ht, h.row.only hO (fun k hk e => (h.row.ty hk).1.ne h.tyT (by decide) e), fun x hx => (h.bod x hx).only hO (fun k hk e => hk.ne h.tyT (by decide) e)⟩, hO⟩
/-- Blocks of all types but the cache's three stay. -/
def KO (w w' : World) : Prop := ∀ (k : Nat) (cs : Array Value) (T : TypeId) (f : Nat × Nat), (T ≠ 72 ∧ T ≠ 100 ∧ T ≠ 84) → w.heap[k]? = some (.cells cs T f) → w'.heap[k]? = some (.cells cs T f)
theorem KO.of {w w' : World} (h : Below w.heap.size w w') : KO w w' := fun k cs T f _ hb => below_block h hb (Nat.le_refl _)
theorem KO.trans {a b c : World} (h : KO a b) (g : KO b c) : KO a c := fun k cs T f ht hb => g k cs T f ht (h k cs T f ht hb)
theorem KO.only {X : Nat → Prop} {w w' : World} (h : OnlyS X w w') (hX : ∀ k, X k → TyB w k 72 ∨ TyB w k 100 ∨ TyB w k 84) : KO w w' := fun k cs T f ht hb => h.heap hb (fun e => by
  rcases hX k e with h1 | h1 | h1
  · exact h1.ne ⟨_, _, hb⟩ ht.1.symm rfl
  · exact h1.ne ⟨_, _, hb⟩ ht.2.1.symm rfl
  · exact h1.ne ⟨_, _, hb⟩ ht.2.2.symm rfl)
theorem KO.row {w w' : World} {K c tb n cap : Nat} {a : Option Addr} {L : List D.KV} {H : List HV} (h : CAx w K c tb a n cap L H) (hO : OnlyS (fun k => k = c ∨ RB (.slice a n cap) k) w w') : KO w w' := KO.only hO fun k hk => by
  rcases hk with rfl | hk
  · exact .inl h.tyC
  · exact .inr (.inr (h.row.ty hk).1)
theorem KO.tab {w w' : World} {K c tb n cap : Nat} {a : Option Addr} {L : List D.KV} {H : List HV} (h : CAx w K c tb a n cap L H) (hO : OnlyS (fun k => k = tb) w w') : KO w w' := KO.only hO fun k hk => by
  rw [hk]; exact .inr (.inl h.tyT)
end Go.Proofs.Ytbibobjkclgogaa
