/- Tables: At: [hearth/maps.key, hearth/api.Entry]. -/
import Derived.Test.YtijjgnkfddklgaaCL
namespace Go.Proofs.Ytijjgnkfddklgaa.C
open Go.RowKit Go.Deep
open Go.Proofs.Ytijjgnkfddklgaa
set_option linter.unusedVariables false
set_option linter.unusedSimpArgs false
set_option maxRecDepth 100000
/-- What At answers. -/
def AtAns (L : List KV) (i : Int) (w : World) (e : Ending) (w' : World) : Prop := ((∃ x, L[i.toNat]? = some x ∧ 0 ≤ i ∧ e = .returned (.tuple #[.agg #[.int .u8 x.1.p, .int .u16 x.1.x, .int .u32 x.1.r], .agg #[.int .u8 x.2.p, .int .u16 x.2.x, .int .u16 x.2.t, .int .u32 x.2.r, .int .u32 x.2.h, .bool x.2.en, .string x.2.ws, .int .u64 x.2.e], .bool true])) ∨ ((i < 0 ∨ (L.length : Int) ≤ i) ∧ e = .returned (.tuple #[.agg #[.int .u8 0, .int .u16 0, .int .u32 0], .agg #[.int .u8 0, .int .u16 0, .int .u16 0, .int .u32 0, .int .u32 0, .bool false, .string ⟨#[]⟩, .int .u64 0], .bool false]))) ∧ Below w.heap.size w w'
set_option maxHeartbeats 1600000 in
theorem At_any (t : Nat) (most : Int) (fv : Value) (T : BT KV) (i : Int) (w : World) (hT : TabAt w t most fv (ad T)) (h : TIn w T) (hn : nsz T ≤ 1000000) (hi0 : -9223372036854775808 ≤ i) (hi1 : i ≤ 9223372036854775807) :
    Calls Try.prog 89 #[.pointer (some ⟨t, 0, none⟩), .int .i64 i] w (AtAns (toL T) i w) := by
  obtain ⟨W, hW, hb, hx, hy⟩ : ∃ W, (w.alloc (.cells #[.int .u8 0, .int .u16 0, .int .u32 0] 76)).alloc (.cells #[.int .u8 0, .int .u16 0, .int .u16 0, .int .u32 0, .int .u32 0, .bool false, .string ⟨#[]⟩, .int .u64 0] 40) = W ∧ Below w.heap.size w W ∧ W.heap[w.heap.size]? = some (.cells #[.int .u8 0, .int .u16 0, .int .u32 0] 76 (0, 0)) ∧ W.heap[w.heap.size + 1]? = some (.cells #[.int .u8 0, .int .u16 0, .int .u16 0, .int .u32 0, .int .u32 0, .bool false, .string ⟨#[]⟩, .int .u64 0] 40 (0, 0)) := by
    refine ⟨_, rfl, ((Below.refl _ _).alloc (Nat.le_refl _) _).alloc (by simp) _, below_block ((Below.refl _ _).alloc (Nat.le_refl _) _) (heap_alloc_new w _) (Nat.le_refl _), ?_⟩
    have h1 := heap_alloc_new (w.alloc (.cells #[.int .u8 0, .int .u16 0, .int .u32 0] 76)) (.cells #[.int .u8 0, .int .u16 0, .int .u16 0, .int .u32 0, .int .u32 0, .bool false, .string ⟨#[]⟩, .int .u64 0] 40)
    rw [show (w.alloc (.cells #[.int .u8 0, .int .u16 0, .int .u32 0] 76)).heap.size = w.heap.size + 1 by simp] at h1
    exact h1
  obtain ⟨B, hB⟩ : ∃ B, w.heap.size = B := ⟨_, rfl⟩
  obtain ⟨C, hC⟩ : ∃ C, w.heap.size + 1 = C := ⟨_, rfl⟩
  rw [hB] at hx
  rw [hC] at hy
  have hBC : B ≠ C := by omega
  have HE := hide (And.intro hW (And.intro hC hB))
  have hle : Hid (w.heap.size ≤ B ∧ w.heap.size ≤ C) := hide ⟨by omega, by omega⟩
  have HB := hide hb
  have HX := hide hx
  have HY := hide hy
  clear hW hB hC hb hx hy
  have HTT := hide (hT.below HB.out)
  have HT := hide (TIn.keep (NK.of_below HB.out (Nat.le_refl _)) h)
  obtain ⟨t0, t1, t2, tf⟩ := three_cells HTT.out
  have HA := hide (at_any T i W HT.out hn hi0 hi1)
  rcases atT_spec i HT.out with ⟨e1, e2⟩ | ⟨b, a, l, r, e1, e2, e3, e4⟩
  · have H1 := hide e1
    have H2 := hide e2
    obtain ⟨x0, x1, x2, xf⟩ := key_cells HX.out
    obtain ⟨y0, y1, y2, y3, y4, y5, y6, y7, yf⟩ := val_cells HY.out
    clear hT h t0 t1 tf e1 e2
    go_enter Try.func89, Try.ntmps89
    go_upto_region 1 with (fail)
    rw [HE.out.1]
    try rw [HE.out.2.1]
    try rw [HE.out.2.2]
    go_wp2_with fail
    refine HA.out.mono ?_
    rintro e w1 ⟨rfl, rfl⟩
    rw [H1.out, show ad .nil = none from rfl]
    clear HA t2
    go_wp2_with fail
    go_region
    obtain ⟨V1, eV1⟩ : ∃ V, W.setCell ⟨B, 0, none⟩ (.int .u8 0) = V := ⟨_, rfl⟩
    have qV1 : V1.heap[B]? = some (.cells #[.int .u8 0, .int .u16 0, .int .u32 0] 76 (0, 0)) := by rw [← eV1]; exact heap_setCell_same W B 0 _ _ _ HX.out
    have rV1 : V1.heap[C]? = some (.cells #[.int .u8 0, .int .u16 0, .int .u16 0, .int .u32 0, .int .u32 0, .bool false, .string ⟨#[]⟩, .int .u64 0] 40 (0, 0)) := by rw [← eV1]; exact (heap_setCell_other _ _ _ _ hBC.symm).trans HY.out
    have bV1 : Below w.heap.size w V1 := by rw [← eV1]; exact HB.out.setCell (p := ⟨B, 0, none⟩) hle.out.1 (.int .u8 0)
    rw [eV1]
    obtain ⟨V2, eV2⟩ : ∃ V, V1.setCell ⟨B, 1, none⟩ (.int .u16 0) = V := ⟨_, rfl⟩
    have qV2 : V2.heap[B]? = some (.cells #[.int .u8 0, .int .u16 0, .int .u32 0] 76 (0, 0)) := by rw [← eV2]; exact heap_setCell_same V1 B 1 _ _ _ qV1
    have rV2 : V2.heap[C]? = some (.cells #[.int .u8 0, .int .u16 0, .int .u16 0, .int .u32 0, .int .u32 0, .bool false, .string ⟨#[]⟩, .int .u64 0] 40 (0, 0)) := by rw [← eV2]; exact (heap_setCell_other _ _ _ _ hBC.symm).trans rV1
    have bV2 : Below w.heap.size w V2 := by rw [← eV2]; exact bV1.setCell (p := ⟨B, 1, none⟩) hle.out.1 (.int .u16 0)
    rw [eV2]
    obtain ⟨V3, eV3⟩ : ∃ V, V2.setCell ⟨B, 2, none⟩ (.int .u32 0) = V := ⟨_, rfl⟩
    have qV3 : V3.heap[B]? = some (.cells #[.int .u8 0, .int .u16 0, .int .u32 0] 76 (0, 0)) := by rw [← eV3]; exact heap_setCell_same V2 B 2 _ _ _ qV2
    have rV3 : V3.heap[C]? = some (.cells #[.int .u8 0, .int .u16 0, .int .u16 0, .int .u32 0, .int .u32 0, .bool false, .string ⟨#[]⟩, .int .u64 0] 40 (0, 0)) := by rw [← eV3]; exact (heap_setCell_other _ _ _ _ hBC.symm).trans rV2
    have bV3 : Below w.heap.size w V3 := by rw [← eV3]; exact bV2.setCell (p := ⟨B, 2, none⟩) hle.out.1 (.int .u32 0)
    rw [eV3]
    obtain ⟨V4, eV4⟩ : ∃ V, V3.setCell ⟨C, 0, none⟩ (.int .u8 0) = V := ⟨_, rfl⟩
    have qV4 : V4.heap[C]? = some (.cells #[.int .u8 0, .int .u16 0, .int .u16 0, .int .u32 0, .int .u32 0, .bool false, .string ⟨#[]⟩, .int .u64 0] 40 (0, 0)) := by rw [← eV4]; exact heap_setCell_same V3 C 0 _ _ _ rV3
    have rV4 : V4.heap[B]? = some (.cells #[.int .u8 0, .int .u16 0, .int .u32 0] 76 (0, 0)) := by rw [← eV4]; exact (heap_setCell_other _ _ _ _ hBC).trans qV3
    have bV4 : Below w.heap.size w V4 := by rw [← eV4]; exact bV3.setCell (p := ⟨C, 0, none⟩) hle.out.2 (.int .u8 0)
    rw [eV4]
    obtain ⟨V5, eV5⟩ : ∃ V, V4.setCell ⟨C, 1, none⟩ (.int .u16 0) = V := ⟨_, rfl⟩
    have qV5 : V5.heap[C]? = some (.cells #[.int .u8 0, .int .u16 0, .int .u16 0, .int .u32 0, .int .u32 0, .bool false, .string ⟨#[]⟩, .int .u64 0] 40 (0, 0)) := by rw [← eV5]; exact heap_setCell_same V4 C 1 _ _ _ qV4
    have rV5 : V5.heap[B]? = some (.cells #[.int .u8 0, .int .u16 0, .int .u32 0] 76 (0, 0)) := by rw [← eV5]; exact (heap_setCell_other _ _ _ _ hBC).trans rV4
    have bV5 : Below w.heap.size w V5 := by rw [← eV5]; exact bV4.setCell (p := ⟨C, 1, none⟩) hle.out.2 (.int .u16 0)
    rw [eV5]
    obtain ⟨V6, eV6⟩ : ∃ V, V5.setCell ⟨C, 2, none⟩ (.int .u16 0) = V := ⟨_, rfl⟩
    have qV6 : V6.heap[C]? = some (.cells #[.int .u8 0, .int .u16 0, .int .u16 0, .int .u32 0, .int .u32 0, .bool false, .string ⟨#[]⟩, .int .u64 0] 40 (0, 0)) := by rw [← eV6]; exact heap_setCell_same V5 C 2 _ _ _ qV5
    have rV6 : V6.heap[B]? = some (.cells #[.int .u8 0, .int .u16 0, .int .u32 0] 76 (0, 0)) := by rw [← eV6]; exact (heap_setCell_other _ _ _ _ hBC).trans rV5
    have bV6 : Below w.heap.size w V6 := by rw [← eV6]; exact bV5.setCell (p := ⟨C, 2, none⟩) hle.out.2 (.int .u16 0)
    rw [eV6]
    obtain ⟨V7, eV7⟩ : ∃ V, V6.setCell ⟨C, 3, none⟩ (.int .u32 0) = V := ⟨_, rfl⟩
    have qV7 : V7.heap[C]? = some (.cells #[.int .u8 0, .int .u16 0, .int .u16 0, .int .u32 0, .int .u32 0, .bool false, .string ⟨#[]⟩, .int .u64 0] 40 (0, 0)) := by rw [← eV7]; exact heap_setCell_same V6 C 3 _ _ _ qV6
    have rV7 : V7.heap[B]? = some (.cells #[.int .u8 0, .int .u16 0, .int .u32 0] 76 (0, 0)) := by rw [← eV7]; exact (heap_setCell_other _ _ _ _ hBC).trans rV6
    have bV7 : Below w.heap.size w V7 := by rw [← eV7]; exact bV6.setCell (p := ⟨C, 3, none⟩) hle.out.2 (.int .u32 0)
    rw [eV7]
    obtain ⟨V8, eV8⟩ : ∃ V, V7.setCell ⟨C, 4, none⟩ (.int .u32 0) = V := ⟨_, rfl⟩
    have qV8 : V8.heap[C]? = some (.cells #[.int .u8 0, .int .u16 0, .int .u16 0, .int .u32 0, .int .u32 0, .bool false, .string ⟨#[]⟩, .int .u64 0] 40 (0, 0)) := by rw [← eV8]; exact heap_setCell_same V7 C 4 _ _ _ qV7
    have rV8 : V8.heap[B]? = some (.cells #[.int .u8 0, .int .u16 0, .int .u32 0] 76 (0, 0)) := by rw [← eV8]; exact (heap_setCell_other _ _ _ _ hBC).trans rV7
    have bV8 : Below w.heap.size w V8 := by rw [← eV8]; exact bV7.setCell (p := ⟨C, 4, none⟩) hle.out.2 (.int .u32 0)
    rw [eV8]
    obtain ⟨V9, eV9⟩ : ∃ V, V8.setCell ⟨C, 5, none⟩ (.bool false) = V := ⟨_, rfl⟩
    have qV9 : V9.heap[C]? = some (.cells #[.int .u8 0, .int .u16 0, .int .u16 0, .int .u32 0, .int .u32 0, .bool false, .string ⟨#[]⟩, .int .u64 0] 40 (0, 0)) := by rw [← eV9]; exact heap_setCell_same V8 C 5 _ _ _ qV8
    have rV9 : V9.heap[B]? = some (.cells #[.int .u8 0, .int .u16 0, .int .u32 0] 76 (0, 0)) := by rw [← eV9]; exact (heap_setCell_other _ _ _ _ hBC).trans rV8
    have bV9 : Below w.heap.size w V9 := by rw [← eV9]; exact bV8.setCell (p := ⟨C, 5, none⟩) hle.out.2 (.bool false)
    rw [eV9]
    obtain ⟨V10, eV10⟩ : ∃ V, V9.setCell ⟨C, 6, none⟩ (.string ⟨#[]⟩) = V := ⟨_, rfl⟩
    have qV10 : V10.heap[C]? = some (.cells #[.int .u8 0, .int .u16 0, .int .u16 0, .int .u32 0, .int .u32 0, .bool false, .string ⟨#[]⟩, .int .u64 0] 40 (0, 0)) := by rw [← eV10]; exact heap_setCell_same V9 C 6 _ _ _ qV9
    have rV10 : V10.heap[B]? = some (.cells #[.int .u8 0, .int .u16 0, .int .u32 0] 76 (0, 0)) := by rw [← eV10]; exact (heap_setCell_other _ _ _ _ hBC).trans rV9
    have bV10 : Below w.heap.size w V10 := by rw [← eV10]; exact bV9.setCell (p := ⟨C, 6, none⟩) hle.out.2 (.string ⟨#[]⟩)
    rw [eV10]
    obtain ⟨V11, eV11⟩ : ∃ V, V10.setCell ⟨C, 7, none⟩ (.int .u64 0) = V := ⟨_, rfl⟩
    have qV11 : V11.heap[C]? = some (.cells #[.int .u8 0, .int .u16 0, .int .u16 0, .int .u32 0, .int .u32 0, .bool false, .string ⟨#[]⟩, .int .u64 0] 40 (0, 0)) := by rw [← eV11]; exact heap_setCell_same V10 C 7 _ _ _ qV10
    have rV11 : V11.heap[B]? = some (.cells #[.int .u8 0, .int .u16 0, .int .u32 0] 76 (0, 0)) := by rw [← eV11]; exact (heap_setCell_other _ _ _ _ hBC).trans rV10
    have bV11 : Below w.heap.size w V11 := by rw [← eV11]; exact bV10.setCell (p := ⟨C, 7, none⟩) hle.out.2 (.int .u64 0)
    rw [eV11]
    obtain ⟨V, hV, kx, ky, kb⟩ : ∃ V, V11.drew = V ∧ V.heap[B]? = some (.cells #[.int .u8 0, .int .u16 0, .int .u32 0] 76 (0, 0)) ∧ V.heap[C]? = some (.cells #[.int .u8 0, .int .u16 0, .int .u16 0, .int .u32 0, .int .u32 0, .bool false, .string ⟨#[]⟩, .int .u64 0] 40 (0, 0)) ∧ Below w.heap.size w V := ⟨_, rfl, rV11, qV11, bV11.drew⟩
    try rw [hV]
    obtain ⟨k0, k1, k2, kf⟩ := key_cells kx
    obtain ⟨u0, u1, u2, u3, u4, u5, u6, u7, uf⟩ := val_cells ky
    clear eV1 qV1 rV1 bV1 eV2 qV2 rV2 bV2 eV3 qV3 rV3 bV3 eV4 qV4 rV4 bV4 eV5 qV5 rV5 bV5 eV6 qV6 rV6 bV6 eV7 qV7 rV7 bV7 eV8 qV8 rV8 bV8 eV9 qV9 rV9 bV9 eV10 qV10 rV10 bV10 eV11 qV11 rV11 bV11
    have HKB := hide kb
    clear hV kx kb x0 x1 x2 xf y0 y1 y2 y3 y4 y5 y6 y7 yf HX HB HE HTT HT hle hBC
    go_wp2_with fail
    exact bodyPost_ret (v := .tuple #[.agg #[.int .u8 0, .int .u16 0, .int .u32 0], .agg #[.int .u8 0, .int .u16 0, .int .u16 0, .int .u32 0, .int .u32 0, .bool false, .string ⟨#[]⟩, .int .u64 0], .bool false]) (by simp [results, Try.results89, go_sem, *]) rfl ⟨.inr ⟨H2.out, rfl⟩, HKB.out⟩
  · have H1 := hide e1
    have H2 := hide e4
    have H3 := hide e3
    obtain ⟨x0, x1, x2, xf⟩ := key_cells HX.out
    obtain ⟨y0, y1, y2, y3, y4, y5, y6, y7, yf⟩ := val_cells HY.out
    obtain ⟨c0, c0a, c0b, c1, c1a, c1b, c1c, c1d, c1e, c1f, c1g, _, _, _, cf⟩ := five_cells e2.2.1
    have HND := hide e2.2.1
    clear hT h t0 t1 tf e1 e2 e3 e4
    go_enter Try.func89, Try.ntmps89
    go_upto_region 1 with (fail)
    rw [HE.out.1]
    try rw [HE.out.2.1]
    try rw [HE.out.2.2]
    go_wp2_with fail
    refine HA.out.mono ?_
    rintro e w1 ⟨rfl, rfl⟩
    rw [H1.out, show ad (.node b 0 a l r) = some ⟨b, 0, none⟩ from rfl]
    clear HA t2
    go_wp2_with fail
    go_region
    obtain ⟨V1, eV1⟩ : ∃ V, W.setCell ⟨B, 0, none⟩ (.int .u8 a.1.p) = V := ⟨_, rfl⟩
    have qV1 : V1.heap[B]? = some (.cells #[.int .u8 a.1.p, .int .u16 0, .int .u32 0] 76 (0, 0)) := by rw [← eV1]; exact heap_setCell_same W B 0 _ _ _ HX.out
    have rV1 : V1.heap[C]? = some (.cells #[.int .u8 0, .int .u16 0, .int .u16 0, .int .u32 0, .int .u32 0, .bool false, .string ⟨#[]⟩, .int .u64 0] 40 (0, 0)) := by rw [← eV1]; exact (heap_setCell_other _ _ _ _ hBC.symm).trans HY.out
    have bV1 : Below w.heap.size w V1 := by rw [← eV1]; exact HB.out.setCell (p := ⟨B, 0, none⟩) hle.out.1 (.int .u8 a.1.p)
    rw [eV1]
    obtain ⟨V2, eV2⟩ : ∃ V, V1.setCell ⟨B, 1, none⟩ (.int .u16 a.1.x) = V := ⟨_, rfl⟩
    have qV2 : V2.heap[B]? = some (.cells #[.int .u8 a.1.p, .int .u16 a.1.x, .int .u32 0] 76 (0, 0)) := by rw [← eV2]; exact heap_setCell_same V1 B 1 _ _ _ qV1
    have rV2 : V2.heap[C]? = some (.cells #[.int .u8 0, .int .u16 0, .int .u16 0, .int .u32 0, .int .u32 0, .bool false, .string ⟨#[]⟩, .int .u64 0] 40 (0, 0)) := by rw [← eV2]; exact (heap_setCell_other _ _ _ _ hBC.symm).trans rV1
    have bV2 : Below w.heap.size w V2 := by rw [← eV2]; exact bV1.setCell (p := ⟨B, 1, none⟩) hle.out.1 (.int .u16 a.1.x)
    rw [eV2]
    obtain ⟨V3, eV3⟩ : ∃ V, V2.setCell ⟨B, 2, none⟩ (.int .u32 a.1.r) = V := ⟨_, rfl⟩
    have qV3 : V3.heap[B]? = some (.cells #[.int .u8 a.1.p, .int .u16 a.1.x, .int .u32 a.1.r] 76 (0, 0)) := by rw [← eV3]; exact heap_setCell_same V2 B 2 _ _ _ qV2
    have rV3 : V3.heap[C]? = some (.cells #[.int .u8 0, .int .u16 0, .int .u16 0, .int .u32 0, .int .u32 0, .bool false, .string ⟨#[]⟩, .int .u64 0] 40 (0, 0)) := by rw [← eV3]; exact (heap_setCell_other _ _ _ _ hBC.symm).trans rV2
    have bV3 : Below w.heap.size w V3 := by rw [← eV3]; exact bV2.setCell (p := ⟨B, 2, none⟩) hle.out.1 (.int .u32 a.1.r)
    rw [eV3]
    obtain ⟨V4, eV4⟩ : ∃ V, V3.setCell ⟨C, 0, none⟩ (.int .u8 a.2.p) = V := ⟨_, rfl⟩
    have qV4 : V4.heap[C]? = some (.cells #[.int .u8 a.2.p, .int .u16 0, .int .u16 0, .int .u32 0, .int .u32 0, .bool false, .string ⟨#[]⟩, .int .u64 0] 40 (0, 0)) := by rw [← eV4]; exact heap_setCell_same V3 C 0 _ _ _ rV3
    have rV4 : V4.heap[B]? = some (.cells #[.int .u8 a.1.p, .int .u16 a.1.x, .int .u32 a.1.r] 76 (0, 0)) := by rw [← eV4]; exact (heap_setCell_other _ _ _ _ hBC).trans qV3
    have bV4 : Below w.heap.size w V4 := by rw [← eV4]; exact bV3.setCell (p := ⟨C, 0, none⟩) hle.out.2 (.int .u8 a.2.p)
    rw [eV4]
    obtain ⟨V5, eV5⟩ : ∃ V, V4.setCell ⟨C, 1, none⟩ (.int .u16 a.2.x) = V := ⟨_, rfl⟩
    have qV5 : V5.heap[C]? = some (.cells #[.int .u8 a.2.p, .int .u16 a.2.x, .int .u16 0, .int .u32 0, .int .u32 0, .bool false, .string ⟨#[]⟩, .int .u64 0] 40 (0, 0)) := by rw [← eV5]; exact heap_setCell_same V4 C 1 _ _ _ qV4
    have rV5 : V5.heap[B]? = some (.cells #[.int .u8 a.1.p, .int .u16 a.1.x, .int .u32 a.1.r] 76 (0, 0)) := by rw [← eV5]; exact (heap_setCell_other _ _ _ _ hBC).trans rV4
    have bV5 : Below w.heap.size w V5 := by rw [← eV5]; exact bV4.setCell (p := ⟨C, 1, none⟩) hle.out.2 (.int .u16 a.2.x)
    rw [eV5]
    obtain ⟨V6, eV6⟩ : ∃ V, V5.setCell ⟨C, 2, none⟩ (.int .u16 a.2.t) = V := ⟨_, rfl⟩
    have qV6 : V6.heap[C]? = some (.cells #[.int .u8 a.2.p, .int .u16 a.2.x, .int .u16 a.2.t, .int .u32 0, .int .u32 0, .bool false, .string ⟨#[]⟩, .int .u64 0] 40 (0, 0)) := by rw [← eV6]; exact heap_setCell_same V5 C 2 _ _ _ qV5
    have rV6 : V6.heap[B]? = some (.cells #[.int .u8 a.1.p, .int .u16 a.1.x, .int .u32 a.1.r] 76 (0, 0)) := by rw [← eV6]; exact (heap_setCell_other _ _ _ _ hBC).trans rV5
    have bV6 : Below w.heap.size w V6 := by rw [← eV6]; exact bV5.setCell (p := ⟨C, 2, none⟩) hle.out.2 (.int .u16 a.2.t)
    rw [eV6]
    obtain ⟨V7, eV7⟩ : ∃ V, V6.setCell ⟨C, 3, none⟩ (.int .u32 a.2.r) = V := ⟨_, rfl⟩
    have qV7 : V7.heap[C]? = some (.cells #[.int .u8 a.2.p, .int .u16 a.2.x, .int .u16 a.2.t, .int .u32 a.2.r, .int .u32 0, .bool false, .string ⟨#[]⟩, .int .u64 0] 40 (0, 0)) := by rw [← eV7]; exact heap_setCell_same V6 C 3 _ _ _ qV6
    have rV7 : V7.heap[B]? = some (.cells #[.int .u8 a.1.p, .int .u16 a.1.x, .int .u32 a.1.r] 76 (0, 0)) := by rw [← eV7]; exact (heap_setCell_other _ _ _ _ hBC).trans rV6
    have bV7 : Below w.heap.size w V7 := by rw [← eV7]; exact bV6.setCell (p := ⟨C, 3, none⟩) hle.out.2 (.int .u32 a.2.r)
    rw [eV7]
    obtain ⟨V8, eV8⟩ : ∃ V, V7.setCell ⟨C, 4, none⟩ (.int .u32 a.2.h) = V := ⟨_, rfl⟩
    have qV8 : V8.heap[C]? = some (.cells #[.int .u8 a.2.p, .int .u16 a.2.x, .int .u16 a.2.t, .int .u32 a.2.r, .int .u32 a.2.h, .bool false, .string ⟨#[]⟩, .int .u64 0] 40 (0, 0)) := by rw [← eV8]; exact heap_setCell_same V7 C 4 _ _ _ qV7
    have rV8 : V8.heap[B]? = some (.cells #[.int .u8 a.1.p, .int .u16 a.1.x, .int .u32 a.1.r] 76 (0, 0)) := by rw [← eV8]; exact (heap_setCell_other _ _ _ _ hBC).trans rV7
    have bV8 : Below w.heap.size w V8 := by rw [← eV8]; exact bV7.setCell (p := ⟨C, 4, none⟩) hle.out.2 (.int .u32 a.2.h)
    rw [eV8]
    obtain ⟨V9, eV9⟩ : ∃ V, V8.setCell ⟨C, 5, none⟩ (.bool a.2.en) = V := ⟨_, rfl⟩
    have qV9 : V9.heap[C]? = some (.cells #[.int .u8 a.2.p, .int .u16 a.2.x, .int .u16 a.2.t, .int .u32 a.2.r, .int .u32 a.2.h, .bool a.2.en, .string ⟨#[]⟩, .int .u64 0] 40 (0, 0)) := by rw [← eV9]; exact heap_setCell_same V8 C 5 _ _ _ qV8
    have rV9 : V9.heap[B]? = some (.cells #[.int .u8 a.1.p, .int .u16 a.1.x, .int .u32 a.1.r] 76 (0, 0)) := by rw [← eV9]; exact (heap_setCell_other _ _ _ _ hBC).trans rV8
    have bV9 : Below w.heap.size w V9 := by rw [← eV9]; exact bV8.setCell (p := ⟨C, 5, none⟩) hle.out.2 (.bool a.2.en)
    rw [eV9]
    obtain ⟨V10, eV10⟩ : ∃ V, V9.setCell ⟨C, 6, none⟩ (.string a.2.ws) = V := ⟨_, rfl⟩
    have qV10 : V10.heap[C]? = some (.cells #[.int .u8 a.2.p, .int .u16 a.2.x, .int .u16 a.2.t, .int .u32 a.2.r, .int .u32 a.2.h, .bool a.2.en, .string a.2.ws, .int .u64 0] 40 (0, 0)) := by rw [← eV10]; exact heap_setCell_same V9 C 6 _ _ _ qV9
    have rV10 : V10.heap[B]? = some (.cells #[.int .u8 a.1.p, .int .u16 a.1.x, .int .u32 a.1.r] 76 (0, 0)) := by rw [← eV10]; exact (heap_setCell_other _ _ _ _ hBC).trans rV9
    have bV10 : Below w.heap.size w V10 := by rw [← eV10]; exact bV9.setCell (p := ⟨C, 6, none⟩) hle.out.2 (.string a.2.ws)
    rw [eV10]
    obtain ⟨V11, eV11⟩ : ∃ V, V10.setCell ⟨C, 7, none⟩ (.int .u64 a.2.e) = V := ⟨_, rfl⟩
    have qV11 : V11.heap[C]? = some (.cells #[.int .u8 a.2.p, .int .u16 a.2.x, .int .u16 a.2.t, .int .u32 a.2.r, .int .u32 a.2.h, .bool a.2.en, .string a.2.ws, .int .u64 a.2.e] 40 (0, 0)) := by rw [← eV11]; exact heap_setCell_same V10 C 7 _ _ _ qV10
    have rV11 : V11.heap[B]? = some (.cells #[.int .u8 a.1.p, .int .u16 a.1.x, .int .u32 a.1.r] 76 (0, 0)) := by rw [← eV11]; exact (heap_setCell_other _ _ _ _ hBC).trans rV10
    have bV11 : Below w.heap.size w V11 := by rw [← eV11]; exact bV10.setCell (p := ⟨C, 7, none⟩) hle.out.2 (.int .u64 a.2.e)
    rw [eV11]
    obtain ⟨V, hV, kx, ky, kb⟩ : ∃ V, V11.drew = V ∧ V.heap[B]? = some (.cells #[.int .u8 a.1.p, .int .u16 a.1.x, .int .u32 a.1.r] 76 (0, 0)) ∧ V.heap[C]? = some (.cells #[.int .u8 a.2.p, .int .u16 a.2.x, .int .u16 a.2.t, .int .u32 a.2.r, .int .u32 a.2.h, .bool a.2.en, .string a.2.ws, .int .u64 a.2.e] 40 (0, 0)) ∧ Below w.heap.size w V := ⟨_, rfl, rV11, qV11, bV11.drew⟩
    try rw [hV]
    obtain ⟨k0, k1, k2, kf⟩ := key_cells kx
    obtain ⟨u0, u1, u2, u3, u4, u5, u6, u7, uf⟩ := val_cells ky
    clear eV1 qV1 rV1 bV1 eV2 qV2 rV2 bV2 eV3 qV3 rV3 bV3 eV4 qV4 rV4 bV4 eV5 qV5 rV5 bV5 eV6 qV6 rV6 bV6 eV7 qV7 rV7 bV7 eV8 qV8 rV8 bV8 eV9 qV9 rV9 bV9 eV10 qV10 rV10 bV10 eV11 qV11 rV11 bV11
    have HKB := hide kb
    clear hV kx kb x0 x1 x2 xf y0 y1 y2 y3 y4 y5 y6 y7 yf HX HB HE HTT HT hle hBC
    go_wp2_with fail
    exact bodyPost_ret (v := .tuple #[.agg #[.int .u8 a.1.p, .int .u16 a.1.x, .int .u32 a.1.r], .agg #[.int .u8 a.2.p, .int .u16 a.2.x, .int .u16 a.2.t, .int .u32 a.2.r, .int .u32 a.2.h, .bool a.2.en, .string a.2.ws, .int .u64 a.2.e], .bool true]) (by simp [results, Try.results89, go_sem, *]) rfl ⟨.inl ⟨a, H2.out, H3.out, rfl⟩, HKB.out⟩
theorem AtL {w : World} {t : Nat} {most : Int} {fv : Value} {τ : MK → Int} {L : List KV} (h : Tab w t most fv τ L) (i : Int) (hn : L.length ≤ 600000) (hi0 : -9223372036854775808 ≤ i) (hi1 : i ≤ 9223372036854775807) :
    Calls Try.prog 89 #[.pointer (some ⟨t, 0, none⟩), .int .i64 i] w (AtAns L i w) := by
  obtain ⟨T, h1, h2, rfl, h4⟩ := h
  exact At_any t most fv T i w h1 h2 (by rw [← nsz_toL]; omega) hi0 hi1
end Go.Proofs.Ytijjgnkfddklgaa.C
