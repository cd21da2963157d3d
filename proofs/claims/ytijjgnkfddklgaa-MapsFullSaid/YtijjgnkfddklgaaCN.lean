/- Tables: Get: [hearth/maps.key, hearth/api.Entry]. -/
import Derived.Test.YtijjgnkfddklgaaCK
namespace Go.Proofs.Ytijjgnkfddklgaa.C
open Go.RowKit Go.Deep
open Go.Proofs.Ytijjgnkfddklgaa
set_option linter.unusedVariables false
set_option linter.unusedSimpArgs false
set_option maxRecDepth 100000
def GV : Option ME → Value
  | none => .agg #[.int .u8 0, .int .u16 0, .int .u16 0, .int .u32 0, .int .u32 0, .bool false, .string ⟨#[]⟩, .int .u64 0]
  | some v => .agg #[.int .u8 v.p, .int .u16 v.x, .int .u16 v.t, .int .u32 v.r, .int .u32 v.h, .bool v.en, .string v.ws, .int .u64 v.e]
set_option maxHeartbeats 1600000 in
theorem get_any (t : Nat) (most : Int) (fv : Value) (τ : MK → Int) (T : BT KV) (k : MK) (w : World) (hT : TabAt w t most fv (ad T)) (hF : OrdF fv τ) (h : TIn w T) (ha : Asc τ (toL T)) :
    Calls Try.prog 52 #[.pointer (some ⟨t, 0, none⟩), .agg #[.int .u8 k.p, .int .u16 k.x, .int .u32 k.r]] w fun e w' => e = .returned (.tuple #[GV (getL τ k (toL T)), .bool (hasL τ k (toL T))]) ∧ Below w.heap.size w w' := by
  obtain ⟨W, hW, hb, hx, hy⟩ : ∃ W, (w.alloc (.cells #[.int .u8 k.p, .int .u16 k.x, .int .u32 k.r] 76)).alloc (.cells #[.int .u8 0, .int .u16 0, .int .u16 0, .int .u32 0, .int .u32 0, .bool false, .string ⟨#[]⟩, .int .u64 0] 40) = W ∧ Below w.heap.size w W ∧ W.heap[w.heap.size]? = some (.cells #[.int .u8 k.p, .int .u16 k.x, .int .u32 k.r] 76 (0, 0)) ∧ W.heap[w.heap.size + 1]? = some (.cells #[.int .u8 0, .int .u16 0, .int .u16 0, .int .u32 0, .int .u32 0, .bool false, .string ⟨#[]⟩, .int .u64 0] 40 (0, 0)) := by
    refine ⟨_, rfl, ((Below.refl _ _).alloc (Nat.le_refl _) _).alloc (by simp) _, below_block ((Below.refl _ _).alloc (Nat.le_refl _) _) (heap_alloc_new w _) (Nat.le_refl _), ?_⟩
    have h1 := heap_alloc_new (w.alloc (.cells #[.int .u8 k.p, .int .u16 k.x, .int .u32 k.r] 76)) (.cells #[.int .u8 0, .int .u16 0, .int .u16 0, .int .u32 0, .int .u32 0, .bool false, .string ⟨#[]⟩, .int .u64 0] 40)
    rw [show (w.alloc (.cells #[.int .u8 k.p, .int .u16 k.x, .int .u32 k.r] 76)).heap.size = w.heap.size + 1 by simp] at h1
    exact h1
  obtain ⟨B, hB⟩ : ∃ B, w.heap.size = B := ⟨_, rfl⟩
  obtain ⟨C, hC⟩ : ∃ C, w.heap.size + 1 = C := ⟨_, rfl⟩
  rw [hB] at hx
  rw [hC] at hy
  have HE := hide (And.intro hW (And.intro hC hB))
  have hle : Hid (w.heap.size ≤ C) := hide (by omega)
  have HB := hide hb
  have HY := hide hy
  have HF := hide (find_any t most fv τ T k W (hT.below hb) hF (TIn.keep (NK.of_below hb (Nat.le_refl _)) h) ha)
  obtain ⟨x0, x1, x2, xf⟩ := key_cells hx
  clear hW hB hC hb hx hy
  rcases findT_spec (k := k) h ha with ⟨h1, h2⟩ | ⟨b, a, l, r, h1, h2, h3, h4⟩
  · rw [h2, get_none h2]
    have H1 := hide h1
    clear hT h ha h1 h2
    go_enter Try.func52, Try.ntmps52
    go_upto_region 1 with (fail)
    rw [HE.out.1]
    try rw [HE.out.2.1]
    try rw [HE.out.2.2]
    clear HE
    go_wp2_with fail
    refine HF.out.mono ?_
    rintro e w1 ⟨rfl, b1⟩
    have HB1 := hide (HB.out.trans (b1.mono HB.out.size))
    have HY1 := hide (below_block b1 HY.out (Nat.le_refl _))
    rw [H1.out]
    obtain ⟨y0, y1, y2, y3, y4, y5, y6, y7, yf⟩ := val_cells HY1.out
    clear HF b1 x0 x1 x2 xf HB HY
    rw [show ad (.nil : BT KV) = none from rfl]
    go_wp2_with fail
    obtain ⟨V, hV, ky, kb⟩ : ∃ V, ((((((((w1.setCell ⟨C, 0, none⟩ (.int .u8 0)).setCell ⟨C, 1, none⟩ (.int .u16 0)).setCell ⟨C, 2, none⟩ (.int .u16 0)).setCell ⟨C, 3, none⟩ (.int .u32 0)).setCell ⟨C, 4, none⟩ (.int .u32 0)).setCell ⟨C, 5, none⟩ (.bool false)).setCell ⟨C, 6, none⟩ (.string ⟨#[]⟩)).setCell ⟨C, 7, none⟩ (.int .u64 0)) = V ∧ V.heap[C]? = some (.cells #[.int .u8 0, .int .u16 0, .int .u16 0, .int .u32 0, .int .u32 0, .bool false, .string ⟨#[]⟩, .int .u64 0] 40 (0, 0)) ∧ Below w.heap.size w V := by
      have q0 : (w1.setCell ⟨C, 0, none⟩ (.int .u8 0)).heap[C]? = some (.cells #[.int .u8 0, .int .u16 0, .int .u16 0, .int .u32 0, .int .u32 0, .bool false, .string ⟨#[]⟩, .int .u64 0] 40 (0, 0)) := heap_setCell_same w1 C 0 _ _ _ HY1.out
      have q1 : ((w1.setCell ⟨C, 0, none⟩ (.int .u8 0)).setCell ⟨C, 1, none⟩ (.int .u16 0)).heap[C]? = some (.cells #[.int .u8 0, .int .u16 0, .int .u16 0, .int .u32 0, .int .u32 0, .bool false, .string ⟨#[]⟩, .int .u64 0] 40 (0, 0)) := heap_setCell_same (w1.setCell ⟨C, 0, none⟩ (.int .u8 0)) C 1 _ _ _ q0
      have q2 : (((w1.setCell ⟨C, 0, none⟩ (.int .u8 0)).setCell ⟨C, 1, none⟩ (.int .u16 0)).setCell ⟨C, 2, none⟩ (.int .u16 0)).heap[C]? = some (.cells #[.int .u8 0, .int .u16 0, .int .u16 0, .int .u32 0, .int .u32 0, .bool false, .string ⟨#[]⟩, .int .u64 0] 40 (0, 0)) := heap_setCell_same ((w1.setCell ⟨C, 0, none⟩ (.int .u8 0)).setCell ⟨C, 1, none⟩ (.int .u16 0)) C 2 _ _ _ q1
      have q3 : ((((w1.setCell ⟨C, 0, none⟩ (.int .u8 0)).setCell ⟨C, 1, none⟩ (.int .u16 0)).setCell ⟨C, 2, none⟩ (.int .u16 0)).setCell ⟨C, 3, none⟩ (.int .u32 0)).heap[C]? = some (.cells #[.int .u8 0, .int .u16 0, .int .u16 0, .int .u32 0, .int .u32 0, .bool false, .string ⟨#[]⟩, .int .u64 0] 40 (0, 0)) := heap_setCell_same (((w1.setCell ⟨C, 0, none⟩ (.int .u8 0)).setCell ⟨C, 1, none⟩ (.int .u16 0)).setCell ⟨C, 2, none⟩ (.int .u16 0)) C 3 _ _ _ q2
      have q4 : (((((w1.setCell ⟨C, 0, none⟩ (.int .u8 0)).setCell ⟨C, 1, none⟩ (.int .u16 0)).setCell ⟨C, 2, none⟩ (.int .u16 0)).setCell ⟨C, 3, none⟩ (.int .u32 0)).setCell ⟨C, 4, none⟩ (.int .u32 0)).heap[C]? = some (.cells #[.int .u8 0, .int .u16 0, .int .u16 0, .int .u32 0, .int .u32 0, .bool false, .string ⟨#[]⟩, .int .u64 0] 40 (0, 0)) := heap_setCell_same ((((w1.setCell ⟨C, 0, none⟩ (.int .u8 0)).setCell ⟨C, 1, none⟩ (.int .u16 0)).setCell ⟨C, 2, none⟩ (.int .u16 0)).setCell ⟨C, 3, none⟩ (.int .u32 0)) C 4 _ _ _ q3
      have q5 : ((((((w1.setCell ⟨C, 0, none⟩ (.int .u8 0)).setCell ⟨C, 1, none⟩ (.int .u16 0)).setCell ⟨C, 2, none⟩ (.int .u16 0)).setCell ⟨C, 3, none⟩ (.int .u32 0)).setCell ⟨C, 4, none⟩ (.int .u32 0)).setCell ⟨C, 5, none⟩ (.bool false)).heap[C]? = some (.cells #[.int .u8 0, .int .u16 0, .int .u16 0, .int .u32 0, .int .u32 0, .bool false, .string ⟨#[]⟩, .int .u64 0] 40 (0, 0)) := heap_setCell_same (((((w1.setCell ⟨C, 0, none⟩ (.int .u8 0)).setCell ⟨C, 1, none⟩ (.int .u16 0)).setCell ⟨C, 2, none⟩ (.int .u16 0)).setCell ⟨C, 3, none⟩ (.int .u32 0)).setCell ⟨C, 4, none⟩ (.int .u32 0)) C 5 _ _ _ q4
      have q6 : (((((((w1.setCell ⟨C, 0, none⟩ (.int .u8 0)).setCell ⟨C, 1, none⟩ (.int .u16 0)).setCell ⟨C, 2, none⟩ (.int .u16 0)).setCell ⟨C, 3, none⟩ (.int .u32 0)).setCell ⟨C, 4, none⟩ (.int .u32 0)).setCell ⟨C, 5, none⟩ (.bool false)).setCell ⟨C, 6, none⟩ (.string ⟨#[]⟩)).heap[C]? = some (.cells #[.int .u8 0, .int .u16 0, .int .u16 0, .int .u32 0, .int .u32 0, .bool false, .string ⟨#[]⟩, .int .u64 0] 40 (0, 0)) := heap_setCell_same ((((((w1.setCell ⟨C, 0, none⟩ (.int .u8 0)).setCell ⟨C, 1, none⟩ (.int .u16 0)).setCell ⟨C, 2, none⟩ (.int .u16 0)).setCell ⟨C, 3, none⟩ (.int .u32 0)).setCell ⟨C, 4, none⟩ (.int .u32 0)).setCell ⟨C, 5, none⟩ (.bool false)) C 6 _ _ _ q5
      have q7 : ((((((((w1.setCell ⟨C, 0, none⟩ (.int .u8 0)).setCell ⟨C, 1, none⟩ (.int .u16 0)).setCell ⟨C, 2, none⟩ (.int .u16 0)).setCell ⟨C, 3, none⟩ (.int .u32 0)).setCell ⟨C, 4, none⟩ (.int .u32 0)).setCell ⟨C, 5, none⟩ (.bool false)).setCell ⟨C, 6, none⟩ (.string ⟨#[]⟩)).setCell ⟨C, 7, none⟩ (.int .u64 0)).heap[C]? = some (.cells #[.int .u8 0, .int .u16 0, .int .u16 0, .int .u32 0, .int .u32 0, .bool false, .string ⟨#[]⟩, .int .u64 0] 40 (0, 0)) := heap_setCell_same (((((((w1.setCell ⟨C, 0, none⟩ (.int .u8 0)).setCell ⟨C, 1, none⟩ (.int .u16 0)).setCell ⟨C, 2, none⟩ (.int .u16 0)).setCell ⟨C, 3, none⟩ (.int .u32 0)).setCell ⟨C, 4, none⟩ (.int .u32 0)).setCell ⟨C, 5, none⟩ (.bool false)).setCell ⟨C, 6, none⟩ (.string ⟨#[]⟩)) C 7 _ _ _ q6
      exact ⟨_, rfl, q7, ((((((((HB1.out.setCell (p := ⟨C, 0, none⟩) hle.out (.int .u8 0)).setCell (p := ⟨C, 1, none⟩) hle.out (.int .u16 0)).setCell (p := ⟨C, 2, none⟩) hle.out (.int .u16 0)).setCell (p := ⟨C, 3, none⟩) hle.out (.int .u32 0)).setCell (p := ⟨C, 4, none⟩) hle.out (.int .u32 0)).setCell (p := ⟨C, 5, none⟩) hle.out (.bool false)).setCell (p := ⟨C, 6, none⟩) hle.out (.string ⟨#[]⟩)).setCell (p := ⟨C, 7, none⟩) hle.out (.int .u64 0))⟩
    rw [hV]
    obtain ⟨u0, u1, u2, u3, u4, u5, u6, u7, uf⟩ := val_cells ky
    have HKB := hide kb
    clear hV ky kb
    exact bodyPost_ret (v := .tuple #[.agg #[.int .u8 0, .int .u16 0, .int .u16 0, .int .u32 0, .int .u32 0, .bool false, .string ⟨#[]⟩, .int .u64 0], .bool false]) (by simp [results, Try.results52, go_sem, *]) rfl ⟨rfl, HKB.out⟩
  · rw [h3, h4]
    have H1 := hide h1
    have H2 := hide (TIn.keep (NK.of_below HB.out (Nat.le_refl _)) h2)
    clear hT h ha h1 h2 h3 h4
    go_enter Try.func52, Try.ntmps52
    go_upto_region 1 with (fail)
    rw [HE.out.1]
    try rw [HE.out.2.1]
    try rw [HE.out.2.2]
    clear HE
    go_wp2_with fail
    refine HF.out.mono ?_
    rintro e w1 ⟨rfl, b1⟩
    have HB1 := hide (HB.out.trans (b1.mono HB.out.size))
    have HY1 := hide (below_block b1 HY.out (Nat.le_refl _))
    rw [H1.out]
    have HT1 := TIn.keep (NK.of_below b1 (Nat.le_refl _)) H2.out
    obtain ⟨_, _, _, c1, c1a, c1b, c1c, c1d, c1e, c1f, c1g, _, _, _, cf⟩ := five_cells HT1.2.1
    obtain ⟨y0, y1, y2, y3, y4, y5, y6, y7, yf⟩ := val_cells HY1.out
    rw [show ad (.node b 0 a l r) = some ⟨b, 0, none⟩ from rfl]
    clear HF b1 x0 x1 x2 xf HB HY HT1 H2
    go_wp2_with fail
    obtain ⟨V, hV, ky, kb⟩ : ∃ V, ((((((((w1.setCell ⟨C, 0, none⟩ (.int .u8 a.2.p)).setCell ⟨C, 1, none⟩ (.int .u16 a.2.x)).setCell ⟨C, 2, none⟩ (.int .u16 a.2.t)).setCell ⟨C, 3, none⟩ (.int .u32 a.2.r)).setCell ⟨C, 4, none⟩ (.int .u32 a.2.h)).setCell ⟨C, 5, none⟩ (.bool a.2.en)).setCell ⟨C, 6, none⟩ (.string a.2.ws)).setCell ⟨C, 7, none⟩ (.int .u64 a.2.e)) = V ∧ V.heap[C]? = some (.cells #[.int .u8 a.2.p, .int .u16 a.2.x, .int .u16 a.2.t, .int .u32 a.2.r, .int .u32 a.2.h, .bool a.2.en, .string a.2.ws, .int .u64 a.2.e] 40 (0, 0)) ∧ Below w.heap.size w V := by
      have q0 : (w1.setCell ⟨C, 0, none⟩ (.int .u8 a.2.p)).heap[C]? = some (.cells #[.int .u8 a.2.p, .int .u16 0, .int .u16 0, .int .u32 0, .int .u32 0, .bool false, .string ⟨#[]⟩, .int .u64 0] 40 (0, 0)) := heap_setCell_same w1 C 0 _ _ _ HY1.out
      have q1 : ((w1.setCell ⟨C, 0, none⟩ (.int .u8 a.2.p)).setCell ⟨C, 1, none⟩ (.int .u16 a.2.x)).heap[C]? = some (.cells #[.int .u8 a.2.p, .int .u16 a.2.x, .int .u16 0, .int .u32 0, .int .u32 0, .bool false, .string ⟨#[]⟩, .int .u64 0] 40 (0, 0)) := heap_setCell_same (w1.setCell ⟨C, 0, none⟩ (.int .u8 a.2.p)) C 1 _ _ _ q0
      have q2 : (((w1.setCell ⟨C, 0, none⟩ (.int .u8 a.2.p)).setCell ⟨C, 1, none⟩ (.int .u16 a.2.x)).setCell ⟨C, 2, none⟩ (.int .u16 a.2.t)).heap[C]? = some (.cells #[.int .u8 a.2.p, .int .u16 a.2.x, .int .u16 a.2.t, .int .u32 0, .int .u32 0, .bool false, .string ⟨#[]⟩, .int .u64 0] 40 (0, 0)) := heap_setCell_same ((w1.setCell ⟨C, 0, none⟩ (.int .u8 a.2.p)).setCell ⟨C, 1, none⟩ (.int .u16 a.2.x)) C 2 _ _ _ q1
      have q3 : ((((w1.setCell ⟨C, 0, none⟩ (.int .u8 a.2.p)).setCell ⟨C, 1, none⟩ (.int .u16 a.2.x)).setCell ⟨C, 2, none⟩ (.int .u16 a.2.t)).setCell ⟨C, 3, none⟩ (.int .u32 a.2.r)).heap[C]? = some (.cells #[.int .u8 a.2.p, .int .u16 a.2.x, .int .u16 a.2.t, .int .u32 a.2.r, .int .u32 0, .bool false, .string ⟨#[]⟩, .int .u64 0] 40 (0, 0)) := heap_setCell_same (((w1.setCell ⟨C, 0, none⟩ (.int .u8 a.2.p)).setCell ⟨C, 1, none⟩ (.int .u16 a.2.x)).setCell ⟨C, 2, none⟩ (.int .u16 a.2.t)) C 3 _ _ _ q2
      have q4 : (((((w1.setCell ⟨C, 0, none⟩ (.int .u8 a.2.p)).setCell ⟨C, 1, none⟩ (.int .u16 a.2.x)).setCell ⟨C, 2, none⟩ (.int .u16 a.2.t)).setCell ⟨C, 3, none⟩ (.int .u32 a.2.r)).setCell ⟨C, 4, none⟩ (.int .u32 a.2.h)).heap[C]? = some (.cells #[.int .u8 a.2.p, .int .u16 a.2.x, .int .u16 a.2.t, .int .u32 a.2.r, .int .u32 a.2.h, .bool false, .string ⟨#[]⟩, .int .u64 0] 40 (0, 0)) := heap_setCell_same ((((w1.setCell ⟨C, 0, none⟩ (.int .u8 a.2.p)).setCell ⟨C, 1, none⟩ (.int .u16 a.2.x)).setCell ⟨C, 2, none⟩ (.int .u16 a.2.t)).setCell ⟨C, 3, none⟩ (.int .u32 a.2.r)) C 4 _ _ _ q3
      have q5 : ((((((w1.setCell ⟨C, 0, none⟩ (.int .u8 a.2.p)).setCell ⟨C, 1, none⟩ (.int .u16 a.2.x)).setCell ⟨C, 2, none⟩ (.int .u16 a.2.t)).setCell ⟨C, 3, none⟩ (.int .u32 a.2.r)).setCell ⟨C, 4, none⟩ (.int .u32 a.2.h)).setCell ⟨C, 5, none⟩ (.bool a.2.en)).heap[C]? = some (.cells #[.int .u8 a.2.p, .int .u16 a.2.x, .int .u16 a.2.t, .int .u32 a.2.r, .int .u32 a.2.h, .bool a.2.en, .string ⟨#[]⟩, .int .u64 0] 40 (0, 0)) := heap_setCell_same (((((w1.setCell ⟨C, 0, none⟩ (.int .u8 a.2.p)).setCell ⟨C, 1, none⟩ (.int .u16 a.2.x)).setCell ⟨C, 2, none⟩ (.int .u16 a.2.t)).setCell ⟨C, 3, none⟩ (.int .u32 a.2.r)).setCell ⟨C, 4, none⟩ (.int .u32 a.2.h)) C 5 _ _ _ q4
      have q6 : (((((((w1.setCell ⟨C, 0, none⟩ (.int .u8 a.2.p)).setCell ⟨C, 1, none⟩ (.int .u16 a.2.x)).setCell ⟨C, 2, none⟩ (.int .u16 a.2.t)).setCell ⟨C, 3, none⟩ (.int .u32 a.2.r)).setCell ⟨C, 4, none⟩ (.int .u32 a.2.h)).setCell ⟨C, 5, none⟩ (.bool a.2.en)).setCell ⟨C, 6, none⟩ (.string a.2.ws)).heap[C]? = some (.cells #[.int .u8 a.2.p, .int .u16 a.2.x, .int .u16 a.2.t, .int .u32 a.2.r, .int .u32 a.2.h, .bool a.2.en, .string a.2.ws, .int .u64 0] 40 (0, 0)) := heap_setCell_same ((((((w1.setCell ⟨C, 0, none⟩ (.int .u8 a.2.p)).setCell ⟨C, 1, none⟩ (.int .u16 a.2.x)).setCell ⟨C, 2, none⟩ (.int .u16 a.2.t)).setCell ⟨C, 3, none⟩ (.int .u32 a.2.r)).setCell ⟨C, 4, none⟩ (.int .u32 a.2.h)).setCell ⟨C, 5, none⟩ (.bool a.2.en)) C 6 _ _ _ q5
      have q7 : ((((((((w1.setCell ⟨C, 0, none⟩ (.int .u8 a.2.p)).setCell ⟨C, 1, none⟩ (.int .u16 a.2.x)).setCell ⟨C, 2, none⟩ (.int .u16 a.2.t)).setCell ⟨C, 3, none⟩ (.int .u32 a.2.r)).setCell ⟨C, 4, none⟩ (.int .u32 a.2.h)).setCell ⟨C, 5, none⟩ (.bool a.2.en)).setCell ⟨C, 6, none⟩ (.string a.2.ws)).setCell ⟨C, 7, none⟩ (.int .u64 a.2.e)).heap[C]? = some (.cells #[.int .u8 a.2.p, .int .u16 a.2.x, .int .u16 a.2.t, .int .u32 a.2.r, .int .u32 a.2.h, .bool a.2.en, .string a.2.ws, .int .u64 a.2.e] 40 (0, 0)) := heap_setCell_same (((((((w1.setCell ⟨C, 0, none⟩ (.int .u8 a.2.p)).setCell ⟨C, 1, none⟩ (.int .u16 a.2.x)).setCell ⟨C, 2, none⟩ (.int .u16 a.2.t)).setCell ⟨C, 3, none⟩ (.int .u32 a.2.r)).setCell ⟨C, 4, none⟩ (.int .u32 a.2.h)).setCell ⟨C, 5, none⟩ (.bool a.2.en)).setCell ⟨C, 6, none⟩ (.string a.2.ws)) C 7 _ _ _ q6
      exact ⟨_, rfl, q7, ((((((((HB1.out.setCell (p := ⟨C, 0, none⟩) hle.out (.int .u8 a.2.p)).setCell (p := ⟨C, 1, none⟩) hle.out (.int .u16 a.2.x)).setCell (p := ⟨C, 2, none⟩) hle.out (.int .u16 a.2.t)).setCell (p := ⟨C, 3, none⟩) hle.out (.int .u32 a.2.r)).setCell (p := ⟨C, 4, none⟩) hle.out (.int .u32 a.2.h)).setCell (p := ⟨C, 5, none⟩) hle.out (.bool a.2.en)).setCell (p := ⟨C, 6, none⟩) hle.out (.string a.2.ws)).setCell (p := ⟨C, 7, none⟩) hle.out (.int .u64 a.2.e))⟩
    rw [hV]
    obtain ⟨u0, u1, u2, u3, u4, u5, u6, u7, uf⟩ := val_cells ky
    have HKB := hide kb
    clear hV ky kb
    exact bodyPost_ret (v := .tuple #[.agg #[.int .u8 a.2.p, .int .u16 a.2.x, .int .u16 a.2.t, .int .u32 a.2.r, .int .u32 a.2.h, .bool a.2.en, .string a.2.ws, .int .u64 a.2.e], .bool true]) (by simp [results, Try.results52, go_sem, *]) rfl ⟨rfl, HKB.out⟩
end Go.Proofs.Ytijjgnkfddklgaa.C
