/- Ssdp: the names, told to a function; the law's own. -/
import Derived.Test.YtonoaopioifedaaGreatDoorSRn
import Derived.Test.YtonoaopioifedaaGreatDoorSAk
namespace Go.Proofs.YtonoaopioifedaaGreatDoor
open Go.RowKit Go.Shelf Go.Deep
set_option linter.unusedVariables false
set_option linter.unusedSimpArgs false
set_option maxRecDepth 100000
/-- What the law's variables hold when k names have been told. -/
structure TS (w0 : World) (bo bi bx by' bm : Nat) (o : List UInt8) (most : Int) (k : Nat) (W : World) : Prop where
  below : Below w0.heap.size w0 W
  ok : W.heap[bo]? = some (.cells #[.bool true] 4 (0, 0))
  i : W.heap[bi]? = some (.cells #[.int .i64 (k : Int)] 3 (0, 0))
  x : ∃ a c, W.heap[bx]? = some (.cells #[.slice a 6 c] 35 (0, 0)) ∧ RowS W a 6 (nmsL o)
  y : ∃ a c, W.heap[by']? = some (.cells #[.slice a 6 c] 35 (0, 0)) ∧ RowS W a 6 ((nmsL o).map (unL o))
  m : W.heap[bm]? = some (.cells #[.int .i64 most] 3 (0, 0))
theorem TS.next {w0 W W' : World} {bo bi bx by' bm : Nat} {o : List UInt8} {most : Int} {k : Nat} (h : TS w0 bo bi bx by' bm o most k W) (hb : Below W.heap.size W W') : TS w0 bo bi bx by' bm o most k W' := by
  obtain ⟨a, c, h1, h2⟩ := h.x
  obtain ⟨a2, c2, h3, h4⟩ := h.y
  exact ⟨h.below.trans (hb.mono h.below.size), below_blk hb h.ok (Nat.le_refl _), below_blk hb h.i (Nat.le_refl _), ⟨a, c, below_blk hb h1 (Nat.le_refl _), h2.below hb⟩, ⟨a2, c2, below_blk hb h3 (Nat.le_refl _), h4.below hb⟩, below_blk hb h.m (Nat.le_refl _)⟩
theorem RowS.kt {w w' : World} {a : Option Addr} {n : Nat} {ls : List (List UInt8)} (h : RowS w a n ls) (k : ∀ (g j : Nat) (v : Value), w.cell? ⟨g, j, none⟩ = some v → (∃ s, v = .string s) → w'.cell? ⟨g, j, none⟩ = some v) : RowS w' a n ls := ⟨h.1, fun j y hy => by
  obtain ⟨g, e, hc⟩ := h.2 j y hy
  exact ⟨g, e, k _ _ _ hc ⟨_, rfl⟩⟩⟩
theorem set_str {w : World} {b : Nat} {u v x : Value} {T : TypeId} (h : w.heap[b]? = some (.cells #[u] T (0, 0))) (hu : ∀ s, u ≠ .string s) (g j : Nat) (hc : w.cell? ⟨g, j, none⟩ = some x) (hx : ∃ s, x = .string s) : (w.setCell ⟨b, 0, none⟩ v).cell? ⟨g, j, none⟩ = some x := by
  have hne : g ≠ b := by
    intro e; subst e
    obtain ⟨s, rfl⟩ := hx
    simp [World.cell?, h] at hc
    cases j with
    | zero => simp at hc; exact hu s hc
    | succ j => simp at hc
  have := heap_setCell_other w ⟨b, 0, none⟩ g v hne
  simpa [World.cell?, this] using hc
theorem set_kt {T U : TypeId} {w : World} {b : Nat} {u v : Value} (h : w.heap[b]? = some (.cells #[u] U (0, 0))) (hne : T ≠ U) : KT T w (w.setCell ⟨b, 0, none⟩ v) := kt_set h hne 0 v
set_option maxHeartbeats 4000000 in
theorem tells1_any (w0 : World) (bo bi bx by' bm : Nat) (o : List UInt8) (most : Int) (k : Nat) (y : List UInt8) (W : World) (h : TS w0 bo bi bx by' bm o most k W) (hk : k < 6) (hy : (nmsL o)[k]? = some y) (h1 : w0.heap.size ≤ bo) (h2 : w0.heap.size ≤ bi) (hd : bo ≠ bi ∧ bo ≠ bx ∧ bo ≠ by' ∧ bo ≠ bm ∧ bi ≠ bx ∧ bi ≠ by' ∧ bi ≠ bm) :
    Calls Tryz.prog 14 #[.string (bt y), .string (bt (unL o y)), .pointer (some ⟨bo, 0, none⟩), .pointer (some ⟨bi, 0, none⟩), .pointer (some ⟨bx, 0, none⟩), .pointer (some ⟨by', 0, none⟩), .pointer (some ⟨bm, 0, none⟩)] W fun e W' =>
      e = .returned (.bool (decide (((k + 1 : Nat) : Int) < most))) ∧ TS w0 bo bi bx by' bm o most (k + 1) W' ∧ KT 9 W W' := by
  obtain ⟨a, c, hx1, hx2⟩ := h.x
  obtain ⟨a2, c2, hy1, hy2⟩ := h.y
  obtain ⟨ga, ha, cx⟩ := hx2.2 k y hy
  obtain ⟨gb, hb, cy⟩ := hy2.2 k (unL o y) (by rw [List.getElem?_map, hy]; rfl)
  subst ha hb
  -- behind ok's store
  obtain ⟨W1, hW1⟩ : ∃ V, W.setCell ⟨bo, 0, none⟩ (.bool true) = V := ⟨_, rfl⟩
  have b1 : ∀ b, b ≠ bo → W1.heap[b]? = W.heap[b]? := fun b hb => by rw [← hW1]; exact heap_setCell_other W ⟨bo, 0, none⟩ b _ hb
  have o1 : W1.heap[bo]? = some (.cells #[.bool true] 4 (0, 0)) := by rw [← hW1]; exact heap_setCell_same W bo 0 _ _ _ h.ok
  have i1 : W1.heap[bi]? = _ := (b1 bi (Ne.symm hd.1)).trans h.i
  obtain ⟨W2, hW2⟩ : ∃ V, W1.setCell ⟨bi, 0, none⟩ (.int .i64 ((k + 1 : Nat) : Int)) = V := ⟨_, rfl⟩
  have b2 : ∀ b, b ≠ bi → W2.heap[b]? = W1.heap[b]? := fun b hb => by rw [← hW2]; exact heap_setCell_other W1 ⟨bi, 0, none⟩ b _ hb
  have i2 : W2.heap[bi]? = some (.cells #[.int .i64 ((k + 1 : Nat) : Int)] 3 (0, 0)) := by rw [← hW2]; exact heap_setCell_same W1 bi 0 _ _ _ i1
  have s1 : ∀ (g j : Nat) (v : Value), W.cell? ⟨g, j, none⟩ = some v → (∃ s, v = .string s) → W2.cell? ⟨g, j, none⟩ = some v := fun g j v hc hv => by
    rw [← hW2]
    refine set_str i1 (fun s e => by cases e) g j ?_ hv
    rw [← hW1]
    exact set_str h.ok (fun s e => by cases e) g j hc hv
  have HF := hide (show TS w0 bo bi bx by' bm o most (k + 1) W2 ∧ KT 9 W W2 from ⟨⟨by
      rw [← hW2, ← hW1]
      exact (h.below.setCell (p := ⟨bo, 0, none⟩) h1 _).setCell (p := ⟨bi, 0, none⟩) h2 _, (b2 bo hd.1).trans o1, i2,
      ⟨some ⟨ga, 0, none⟩, c, ((b2 bx (Ne.symm hd.2.2.2.2.1)).trans (b1 bx (Ne.symm hd.2.1))).trans hx1, hx2.kt s1⟩,
      ⟨some ⟨gb, 0, none⟩, c2, ((b2 by' (Ne.symm hd.2.2.2.2.2.1)).trans (b1 by' (Ne.symm hd.2.2.1))).trans hy1, hy2.kt s1⟩,
      ((b2 bm (Ne.symm hd.2.2.2.2.2.2)).trans (b1 bm (Ne.symm hd.2.2.2.1))).trans h.m⟩, by
      rw [← hW2]
      refine KT.trans ?_ (set_kt i1 (by decide))
      rw [← hW1]
      exact set_kt h.ok (by decide)⟩)
  have HW1 := hide hW1
  have HW2 := hide (show W1.setCell ⟨bi, 0, none⟩ (.int .i64 ((k : Int) + 1)) = W2 from hW2)
  have c0 := cell_of_one h.ok
  have f0 := free_of_one h.ok
  have c1 := cell_of_one h.i
  have c2' := cell_of_one hx1
  have c3 := cell_of_one hy1
  have HI1 := hide i1
  have HM2 := hide (HF.out.1.m)
  have HI2 := hide i2
  have hk4 : (0 : Int) ≤ (k : Int) := by omega
  have hk5 : (k : Int) < 6 := by omega
  have d1 : decide ((k : Int) < 6) = true := by simp; omega
  have d2 : decide (k < 6) = true := by simp; omega
  generalize bt y = Y at *
  generalize bt (unL o y) = U at *
  obtain ⟨q, hq⟩ : ∃ q, decide (((k + 1 : Nat) : Int) < most) = q := ⟨_, rfl⟩
  rw [hq]
  have hq2 : decide ((k : Int) + 1 < most) = q := hq
  clear h hx1 hx2 hy1 hy2 hy b1 o1 i1 b2 i2 s1 hW1 hW2 hd h1 h2 hq hk
  go_enter Tryz.func14, Tryz.ntmps14
  go_upto_region 2 with (fail)
  rw [HW1.out]
  have c1 := cell_of_one HI1.out
  have f1 := free_of_one HI1.out
  clear c0 f0 c2' c3 cx cy
  go_upto_region 3 with (fail)
  rw [HW2.out]
  have c5 := cell_of_one HI2.out
  have c6 := cell_of_one HM2.out
  have c5 : W2.cell? ⟨bi, 0, none⟩ = some (.int .i64 ((k : Int) + 1)) := c5
  clear c1 f1
  go_wp2_with fail
  go_ret
  exact ⟨rfl, HF.out.1, HF.out.2⟩
end Go.Proofs.YtonoaopioifedaaGreatDoor
