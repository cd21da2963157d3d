/- Tables: Get: [hearth/api.Addr, hearth/neigh.host]. -/
import Derived.Test.YtbibobjkclgogaaDK
namespace Go.Proofs.Ytbibobjkclgogaa.D
open Go.RowKit Go.Deep
open Go.Proofs.Ytbibobjkclgogaa
set_option linter.unusedVariables false
set_option linter.unusedSimpArgs false
set_option maxRecDepth 100000
def GV : Option NH → Value
  | none => .agg #[.int .u8 0, .int .u8 0, .int .u8 0, .int .u8 0, .int .u8 0, .int .u8 0, .int .u64 0]
  | some v => .agg #[.int .u8 v.m0, .int .u8 v.m1, .int .u8 v.m2, .int .u8 v.m3, .int .u8 v.m4, .int .u8 v.m5, .int .u64 v.e]
set_option maxHeartbeats 1600000 in
theorem get_any (t : Nat) (most : Int) (fv : Value) (τ : Int → Int) (T : BT KV) (k : Int) (w : World) (hT : TabAt w t most fv (ad T)) (hF : OrdF fv τ) (h : TIn w T) (ha : Asc τ (toL T)) :
    Calls Try.prog 27 #[.pointer (some ⟨t, 0, none⟩), .int .u32 k] w fun e w' => e = .returned (.tuple #[GV (getL τ k (toL T)), .bool (hasL τ k (toL T))]) ∧ Below w.heap.size w w' := by
  obtain ⟨W, hW, hb, hy⟩ : ∃ W, w.alloc (.cells #[.int .u8 0, .int .u8 0, .int .u8 0, .int .u8 0, .int .u8 0, .int .u8 0, .int .u64 0] 68) = W ∧ Below w.heap.size w W ∧ W.heap[w.heap.size]? = some (.cells #[.int .u8 0, .int .u8 0, .int .u8 0, .int .u8 0, .int .u8 0, .int .u8 0, .int .u64 0] 68 (0, 0)) := ⟨_, rfl, (Below.refl _ _).alloc (Nat.le_refl _) _, heap_alloc_new _ _⟩
  obtain ⟨C, hC⟩ : ∃ C, w.heap.size = C := ⟨_, rfl⟩
  rw [hC] at hy
  have HE := hide (And.intro hW hC)
  have hle : Hid (w.heap.size ≤ C) := hide (by omega)
  have HB := hide hb
  have HY := hide hy
  have HF := hide (find_any t most fv τ T k W (hT.below hb) hF (TIn.keep (NK.of_below hb (Nat.le_refl _)) h) ha)
  clear hW hC hb hy
  rcases findT_spec (k := k) h ha with ⟨h1, h2⟩ | ⟨b, a, l, r, h1, h2, h3, h4⟩
  · rw [h2, get_none h2]
    have H1 := hide h1
    clear hT h ha h1 h2
    go_enter Try.func27, Try.ntmps27
    go_upto_region 1 with (fail)
    rw [HE.out.1]
    try rw [HE.out.2]
    clear HE
    go_wp2_with fail
    refine HF.out.mono ?_
    rintro e w1 ⟨rfl, b1⟩
    have HB1 := hide (HB.out.trans (b1.mono HB.out.size))
    have HY1 := hide (below_block b1 HY.out (Nat.le_refl _))
    rw [H1.out]
    obtain ⟨y0, y1, y2, y3, y4, y5, y6, yf⟩ := val_cells HY1.out
    clear HF b1 HB HY
    rw [show ad (.nil : BT KV) = none from rfl]
    go_wp2_with fail
    obtain ⟨V, hV, ky, kb⟩ : ∃ V, (((((((w1.setCell ⟨C, 0, none⟩ (.int .u8 0)).setCell ⟨C, 1, none⟩ (.int .u8 0)).setCell ⟨C, 2, none⟩ (.int .u8 0)).setCell ⟨C, 3, none⟩ (.int .u8 0)).setCell ⟨C, 4, none⟩ (.int .u8 0)).setCell ⟨C, 5, none⟩ (.int .u8 0)).setCell ⟨C, 6, none⟩ (.int .u64 0)) = V ∧ V.heap[C]? = some (.cells #[.int .u8 0, .int .u8 0, .int .u8 0, .int .u8 0, .int .u8 0, .int .u8 0, .int .u64 0] 68 (0, 0)) ∧ Below w.heap.size w V := by
      have q0 : (w1.setCell ⟨C, 0, none⟩ (.int .u8 0)).heap[C]? = some (.cells #[.int .u8 0, .int .u8 0, .int .u8 0, .int .u8 0, .int .u8 0, .int .u8 0, .int .u64 0] 68 (0, 0)) := heap_setCell_same w1 C 0 _ _ _ HY1.out
      have q1 : ((w1.setCell ⟨C, 0, none⟩ (.int .u8 0)).setCell ⟨C, 1, none⟩ (.int .u8 0)).heap[C]? = some (.cells #[.int .u8 0, .int .u8 0, .int .u8 0, .int .u8 0, .int .u8 0, .int .u8 0, .int .u64 0] 68 (0, 0)) := heap_setCell_same (w1.setCell ⟨C, 0, none⟩ (.int .u8 0)) C 1 _ _ _ q0
      have q2 : (((w1.setCell ⟨C, 0, none⟩ (.int .u8 0)).setCell ⟨C, 1, none⟩ (.int .u8 0)).setCell ⟨C, 2, none⟩ (.int .u8 0)).heap[C]? = some (.cells #[.int .u8 0, .int .u8 0, .int .u8 0, .int .u8 0, .int .u8 0, .int .u8 0, .int .u64 0] 68 (0, 0)) := heap_setCell_same ((w1.setCell ⟨C, 0, none⟩ (.int .u8 0)).setCell ⟨C, 1, none⟩ (.int .u8 0)) C 2 _ _ _ q1
      have q3 : ((((w1.setCell ⟨C, 0, none⟩ (.int .u8 0)).setCell ⟨C, 1, none⟩ (.int .u8 0)).setCell ⟨C, 2, none⟩ (.int .u8 0)).setCell ⟨C, 3, none⟩ (.int .u8 0)).heap[C]? = some (.cells #[.int .u8 0, .int .u8 0, .int .u8 0, .int .u8 0, .int .u8 0, .int .u8 0, .int .u64 0] 68 (0, 0)) := heap_setCell_same (((w1.setCell ⟨C, 0, none⟩ (.int .u8 0)).setCell ⟨C, 1, none⟩ (.int .u8 0)).setCell ⟨C, 2, none⟩ (.int .u8 0)) C 3 _ _ _ q2
      have q4 : (((((w1.setCell ⟨C, 0, none⟩ (.int .u8 0)).setCell ⟨C, 1, none⟩ (.int .u8 0)).setCell ⟨C, 2, none⟩ (.int .u8 0)).setCell ⟨C, 3, none⟩ (.int .u8 0)).setCell ⟨C, 4, none⟩ (.int .u8 0)).heap[C]? = some (.cells #[.int .u8 0, .int .u8 0, .int .u8 0, .int .u8 0, .int .u8 0, .int .u8 0, .int .u64 0] 68 (0, 0)) := heap_setCell_same ((((w1.setCell ⟨C, 0, none⟩ (.int .u8 0)).setCell ⟨C, 1, none⟩ (.int .u8 0)).setCell ⟨C, 2, none⟩ (.int .u8 0)).setCell ⟨C, 3, none⟩ (.int .u8 0)) C 4 _ _ _ q3
      have q5 : ((((((w1.setCell ⟨C, 0, none⟩ (.int .u8 0)).setCell ⟨C, 1, none⟩ (.int .u8 0)).setCell ⟨C, 2, none⟩ (.int .u8 0)).setCell ⟨C, 3, none⟩ (.int .u8 0)).setCell ⟨C, 4, none⟩ (.int .u8 0)).setCell ⟨C, 5, none⟩ (.int .u8 0)).heap[C]? = some (.cells #[.int .u8 0, .int .u8 0, .int .u8 0, .int .u8 0, .int .u8 0, .int .u8 0, .int .u64 0] 68 (0, 0)) := heap_setCell_same (((((w1.setCell ⟨C, 0, none⟩ (.int .u8 0)).setCell ⟨C, 1, none⟩ (.int .u8 0)).setCell ⟨C, 2, none⟩ (.int .u8 0)).setCell ⟨C, 3, none⟩ (.int .u8 0)).setCell ⟨C, 4, none⟩ (.int .u8 0)) C 5 _ _ _ q4
      have q6 : (((((((w1.setCell ⟨C, 0, none⟩ (.int .u8 0)).setCell ⟨C, 1, none⟩ (.int .u8 0)).setCell ⟨C, 2, none⟩ (.int .u8 0)).setCell ⟨C, 3, none⟩ (.int .u8 0)).setCell ⟨C, 4, none⟩ (.int .u8 0)).setCell ⟨C, 5, none⟩ (.int .u8 0)).setCell ⟨C, 6, none⟩ (.int .u64 0)).heap[C]? = some (.cells #[.int .u8 0, .int .u8 0, .int .u8 0, .int .u8 0, .int .u8 0, .int .u8 0, .int .u64 0] 68 (0, 0)) := heap_setCell_same ((((((w1.setCell ⟨C, 0, none⟩ (.int .u8 0)).setCell ⟨C, 1, none⟩ (.int .u8 0)).setCell ⟨C, 2, none⟩ (.int .u8 0)).setCell ⟨C, 3, none⟩ (.int .u8 0)).setCell ⟨C, 4, none⟩ (.int .u8 0)).setCell ⟨C, 5, none⟩ (.int .u8 0)) C 6 _ _ _ q5
      exact ⟨_, rfl, q6, (((((((HB1.out.setCell (p := ⟨C, 0, none⟩) hle.out (.int .u8 0)).setCell (p := ⟨C, 1, none⟩) hle.out (.int .u8 0)).setCell (p := ⟨C, 2, none⟩) hle.out (.int .u8 0)).setCell (p := ⟨C, 3, none⟩) hle.out (.int .u8 0)).setCell (p := ⟨C, 4, none⟩) hle.out (.int .u8 0)).setCell (p := ⟨C, 5, none⟩) hle.out (.int .u8 0)).setCell (p := ⟨C, 6, none⟩) hle.out (.int .u64 0))⟩
    rw [hV]
    obtain ⟨u0, u1, u2, u3, u4, u5, u6, uf⟩ := val_cells ky
    have HKB := hide kb
    clear hV ky kb
    exact bodyPost_ret (v := .tuple #[.agg #[.int .u8 0, .int .u8 0, .int .u8 0, .int .u8 0, .int .u8 0, .int .u8 0, .int .u64 0], .bool false]) (by simp [results, Try.results27, go_sem, *]) rfl ⟨rfl, HKB.out⟩
  · rw [h3, h4]
    have H1 := hide h1
    have H2 := hide (TIn.keep (NK.of_below HB.out (Nat.le_refl _)) h2)
    clear hT h ha h1 h2 h3 h4
    go_enter Try.func27, Try.ntmps27
    go_upto_region 1 with (fail)
    rw [HE.out.1]
    try rw [HE.out.2]
    clear HE
    go_wp2_with fail
    refine HF.out.mono ?_
    rintro e w1 ⟨rfl, b1⟩
    have HB1 := hide (HB.out.trans (b1.mono HB.out.size))
    have HY1 := hide (below_block b1 HY.out (Nat.le_refl _))
    rw [H1.out]
    have HT1 := TIn.keep (NK.of_below b1 (Nat.le_refl _)) H2.out
    obtain ⟨_, c1, c1a, c1b, c1c, c1d, c1e, c1f, _, _, _, cf⟩ := five_cells HT1.2.1
    obtain ⟨y0, y1, y2, y3, y4, y5, y6, yf⟩ := val_cells HY1.out
    rw [show ad (.node b 0 a l r) = some ⟨b, 0, none⟩ from rfl]
    clear HF b1 HB HY HT1 H2
    go_wp2_with fail
    obtain ⟨V, hV, ky, kb⟩ : ∃ V, (((((((w1.setCell ⟨C, 0, none⟩ (.int .u8 a.2.m0)).setCell ⟨C, 1, none⟩ (.int .u8 a.2.m1)).setCell ⟨C, 2, none⟩ (.int .u8 a.2.m2)).setCell ⟨C, 3, none⟩ (.int .u8 a.2.m3)).setCell ⟨C, 4, none⟩ (.int .u8 a.2.m4)).setCell ⟨C, 5, none⟩ (.int .u8 a.2.m5)).setCell ⟨C, 6, none⟩ (.int .u64 a.2.e)) = V ∧ V.heap[C]? = some (.cells #[.int .u8 a.2.m0, .int .u8 a.2.m1, .int .u8 a.2.m2, .int .u8 a.2.m3, .int .u8 a.2.m4, .int .u8 a.2.m5, .int .u64 a.2.e] 68 (0, 0)) ∧ Below w.heap.size w V := by
      have q0 : (w1.setCell ⟨C, 0, none⟩ (.int .u8 a.2.m0)).heap[C]? = some (.cells #[.int .u8 a.2.m0, .int .u8 0, .int .u8 0, .int .u8 0, .int .u8 0, .int .u8 0, .int .u64 0] 68 (0, 0)) := heap_setCell_same w1 C 0 _ _ _ HY1.out
      have q1 : ((w1.setCell ⟨C, 0, none⟩ (.int .u8 a.2.m0)).setCell ⟨C, 1, none⟩ (.int .u8 a.2.m1)).heap[C]? = some (.cells #[.int .u8 a.2.m0, .int .u8 a.2.m1, .int .u8 0, .int .u8 0, .int .u8 0, .int .u8 0, .int .u64 0] 68 (0, 0)) := heap_setCell_same (w1.setCell ⟨C, 0, none⟩ (.int .u8 a.2.m0)) C 1 _ _ _ q0
      have q2 : (((w1.setCell ⟨C, 0, none⟩ (.int .u8 a.2.m0)).setCell ⟨C, 1, none⟩ (.int .u8 a.2.m1)).setCell ⟨C, 2, none⟩ (.int .u8 a.2.m2)).heap[C]? = some (.cells #[.int .u8 a.2.m0, .int .u8 a.2.m1, .int .u8 a.2.m2, .int .u8 0, .int .u8 0, .int .u8 0, .int .u64 0] 68 (0, 0)) := heap_setCell_same ((w1.setCell ⟨C, 0, none⟩ (.int .u8 a.2.m0)).setCell ⟨C, 1, none⟩ (.int .u8 a.2.m1)) C 2 _ _ _ q1
      have q3 : ((((w1.setCell ⟨C, 0, none⟩ (.int .u8 a.2.m0)).setCell ⟨C, 1, none⟩ (.int .u8 a.2.m1)).setCell ⟨C, 2, none⟩ (.int .u8 a.2.m2)).setCell ⟨C, 3, none⟩ (.int .u8 a.2.m3)).heap[C]? = some (.cells #[.int .u8 a.2.m0, .int .u8 a.2.m1, .int .u8 a.2.m2, .int .u8 a.2.m3, .int .u8 0, .int .u8 0, .int .u64 0] 68 (0, 0)) := heap_setCell_same (((w1.setCell ⟨C, 0, none⟩ (.int .u8 a.2.m0)).setCell ⟨C, 1, none⟩ (.int .u8 a.2.m1)).setCell ⟨C, 2, none⟩ (.int .u8 a.2.m2)) C 3 _ _ _ q2
      have q4 : (((((w1.setCell ⟨C, 0, none⟩ (.int .u8 a.2.m0)).setCell ⟨C, 1, none⟩ (.int .u8 a.2.m1)).setCell ⟨C, 2, none⟩ (.int .u8 a.2.m2)).setCell ⟨C, 3, none⟩ (.int .u8 a.2.m3)).setCell ⟨C, 4, none⟩ (.int .u8 a.2.m4)).heap[C]? = some (.cells #[.int .u8 a.2.m0, .int .u8 a.2.m1, .int .u8 a.2.m2, .int .u8 a.2.m3, .int .u8 a.2.m4, .int .u8 0, .int .u64 0] 68 (0, 0)) := heap_setCell_same ((((w1.setCell ⟨C, 0, none⟩ (.int .u8 a.2.m0)).setCell ⟨C, 1, none⟩ (.int .u8 a.2.m1)).setCell ⟨C, 2, none⟩ (.int .u8 a.2.m2)).setCell ⟨C, 3, none⟩ (.int .u8 a.2.m3)) C 4 _ _ _ q3
      have q5 : ((((((w1.setCell ⟨C, 0, none⟩ (.int .u8 a.2.m0)).setCell ⟨C, 1, none⟩ (.int .u8 a.2.m1)).setCell ⟨C, 2, none⟩ (.int .u8 a.2.m2)).setCell ⟨C, 3, none⟩ (.int .u8 a.2.m3)).setCell ⟨C, 4, none⟩ (.int .u8 a.2.m4)).setCell ⟨C, 5, none⟩ (.int .u8 a.2.m5)).heap[C]? = some (.cells #[.int .u8 a.2.m0, .int .u8 a.2.m1, .int .u8 a.2.m2, .int .u8 a.2.m3, .int .u8 a.2.m4, .int .u8 a.2.m5, .int .u64 0] 68 (0, 0)) := heap_setCell_same (((((w1.setCell ⟨C, 0, none⟩ (.int .u8 a.2.m0)).setCell ⟨C, 1, none⟩ (.int .u8 a.2.m1)).setCell ⟨C, 2, none⟩ (.int .u8 a.2.m2)).setCell ⟨C, 3, none⟩ (.int .u8 a.2.m3)).setCell ⟨C, 4, none⟩ (.int .u8 a.2.m4)) C 5 _ _ _ q4
      have q6 : (((((((w1.setCell ⟨C, 0, none⟩ (.int .u8 a.2.m0)).setCell ⟨C, 1, none⟩ (.int .u8 a.2.m1)).setCell ⟨C, 2, none⟩ (.int .u8 a.2.m2)).setCell ⟨C, 3, none⟩ (.int .u8 a.2.m3)).setCell ⟨C, 4, none⟩ (.int .u8 a.2.m4)).setCell ⟨C, 5, none⟩ (.int .u8 a.2.m5)).setCell ⟨C, 6, none⟩ (.int .u64 a.2.e)).heap[C]? = some (.cells #[.int .u8 a.2.m0, .int .u8 a.2.m1, .int .u8 a.2.m2, .int .u8 a.2.m3, .int .u8 a.2.m4, .int .u8 a.2.m5, .int .u64 a.2.e] 68 (0, 0)) := heap_setCell_same ((((((w1.setCell ⟨C, 0, none⟩ (.int .u8 a.2.m0)).setCell ⟨C, 1, none⟩ (.int .u8 a.2.m1)).setCell ⟨C, 2, none⟩ (.int .u8 a.2.m2)).setCell ⟨C, 3, none⟩ (.int .u8 a.2.m3)).setCell ⟨C, 4, none⟩ (.int .u8 a.2.m4)).setCell ⟨C, 5, none⟩ (.int .u8 a.2.m5)) C 6 _ _ _ q5
      exact ⟨_, rfl, q6, (((((((HB1.out.setCell (p := ⟨C, 0, none⟩) hle.out (.int .u8 a.2.m0)).setCell (p := ⟨C, 1, none⟩) hle.out (.int .u8 a.2.m1)).setCell (p := ⟨C, 2, none⟩) hle.out (.int .u8 a.2.m2)).setCell (p := ⟨C, 3, none⟩) hle.out (.int .u8 a.2.m3)).setCell (p := ⟨C, 4, none⟩) hle.out (.int .u8 a.2.m4)).setCell (p := ⟨C, 5, none⟩) hle.out (.int .u8 a.2.m5)).setCell (p := ⟨C, 6, none⟩) hle.out (.int .u64 a.2.e))⟩
    rw [hV]
    obtain ⟨u0, u1, u2, u3, u4, u5, u6, uf⟩ := val_cells ky
    have HKB := hide kb
    clear hV ky kb
    exact bodyPost_ret (v := .tuple #[.agg #[.int .u8 a.2.m0, .int .u8 a.2.m1, .int .u8 a.2.m2, .int .u8 a.2.m3, .int .u8 a.2.m4, .int .u8 a.2.m5, .int .u64 a.2.e], .bool true]) (by simp [results, Try.results27, go_sem, *]) rfl ⟨rfl, HKB.out⟩
end Go.Proofs.Ytbibobjkclgogaa.D
