/- Tables: At: [hearth/api.Addr, hearth/neigh.host]. -/
import Derived.Test.YtbibobjkclgogaaDL
namespace Go.Proofs.Ytbibobjkclgogaa.D
open Go.RowKit Go.Deep
open Go.Proofs.Ytbibobjkclgogaa
set_option linter.unusedVariables false
set_option linter.unusedSimpArgs false
set_option maxRecDepth 100000
/-- What At answers. -/
def AtAns (L : List KV) (i : Int) (w : World) (e : Ending) (w' : World) : Prop := ((∃ x, L[i.toNat]? = some x ∧ 0 ≤ i ∧ e = .returned (.tuple #[.int .u32 x.1, .agg #[.int .u8 x.2.m0, .int .u8 x.2.m1, .int .u8 x.2.m2, .int .u8 x.2.m3, .int .u8 x.2.m4, .int .u8 x.2.m5, .int .u64 x.2.e], .bool true])) ∨ ((i < 0 ∨ (L.length : Int) ≤ i) ∧ e = .returned (.tuple #[.int .u32 0, .agg #[.int .u8 0, .int .u8 0, .int .u8 0, .int .u8 0, .int .u8 0, .int .u8 0, .int .u64 0], .bool false]))) ∧ Below w.heap.size w w'
set_option maxHeartbeats 1600000 in
theorem At_any (t : Nat) (most : Int) (fv : Value) (T : BT KV) (i : Int) (w : World) (hT : TabAt w t most fv (ad T)) (h : TIn w T) (hn : nsz T ≤ 1000000) (hi0 : -9223372036854775808 ≤ i) (hi1 : i ≤ 9223372036854775807) :
    Calls Try.prog 55 #[.pointer (some ⟨t, 0, none⟩), .int .i64 i] w (AtAns (toL T) i w) := by
  obtain ⟨W, hW, hb, hy⟩ : ∃ W, w.alloc (.cells #[.int .u8 0, .int .u8 0, .int .u8 0, .int .u8 0, .int .u8 0, .int .u8 0, .int .u64 0] 68) = W ∧ Below w.heap.size w W ∧ W.heap[w.heap.size]? = some (.cells #[.int .u8 0, .int .u8 0, .int .u8 0, .int .u8 0, .int .u8 0, .int .u8 0, .int .u64 0] 68 (0, 0)) := ⟨_, rfl, (Below.refl _ _).alloc (Nat.le_refl _) _, heap_alloc_new _ _⟩
  obtain ⟨C, hC⟩ : ∃ C, w.heap.size = C := ⟨_, rfl⟩
  rw [hC] at hy
  have HE := hide (And.intro hW hC)
  have hle : Hid (w.heap.size ≤ C) := hide (by omega)
  have HB := hide hb
  have HY := hide hy
  clear hW hC hb hy
  have HTT := hide (hT.below HB.out)
  have HT := hide (TIn.keep (NK.of_below HB.out (Nat.le_refl _)) h)
  obtain ⟨t0, t1, t2, tf⟩ := three_cells HTT.out
  have HA := hide (at_any T i W HT.out hn hi0 hi1)
  rcases atT_spec i HT.out with ⟨e1, e2⟩ | ⟨b, a, l, r, e1, e2, e3, e4⟩
  · have H1 := hide e1
    have H2 := hide e2
    obtain ⟨y0, y1, y2, y3, y4, y5, y6, yf⟩ := val_cells HY.out
    clear hT h t0 t1 tf e1 e2
    go_enter Try.func55, Try.ntmps55
    go_upto_region 1 with (fail)
    rw [HE.out.1]
    try rw [HE.out.2]
    go_wp2_with fail
    refine HA.out.mono ?_
    rintro e w1 ⟨rfl, rfl⟩
    rw [H1.out, show ad .nil = none from rfl]
    clear HA t2
    go_wp2_with fail
    go_region
    obtain ⟨V1, eV1⟩ : ∃ V, W.setCell ⟨C, 0, none⟩ (.int .u8 0) = V := ⟨_, rfl⟩
    have qV1 : V1.heap[C]? = some (.cells #[.int .u8 0, .int .u8 0, .int .u8 0, .int .u8 0, .int .u8 0, .int .u8 0, .int .u64 0] 68 (0, 0)) := by rw [← eV1]; exact heap_setCell_same W C 0 _ _ _ HY.out
    have bV1 : Below w.heap.size w V1 := by rw [← eV1]; exact HB.out.setCell (p := ⟨C, 0, none⟩) hle.out (.int .u8 0)
    rw [eV1]
    obtain ⟨V2, eV2⟩ : ∃ V, V1.setCell ⟨C, 1, none⟩ (.int .u8 0) = V := ⟨_, rfl⟩
    have qV2 : V2.heap[C]? = some (.cells #[.int .u8 0, .int .u8 0, .int .u8 0, .int .u8 0, .int .u8 0, .int .u8 0, .int .u64 0] 68 (0, 0)) := by rw [← eV2]; exact heap_setCell_same V1 C 1 _ _ _ qV1
    have bV2 : Below w.heap.size w V2 := by rw [← eV2]; exact bV1.setCell (p := ⟨C, 1, none⟩) hle.out (.int .u8 0)
    rw [eV2]
    obtain ⟨V3, eV3⟩ : ∃ V, V2.setCell ⟨C, 2, none⟩ (.int .u8 0) = V := ⟨_, rfl⟩
    have qV3 : V3.heap[C]? = some (.cells #[.int .u8 0, .int .u8 0, .int .u8 0, .int .u8 0, .int .u8 0, .int .u8 0, .int .u64 0] 68 (0, 0)) := by rw [← eV3]; exact heap_setCell_same V2 C 2 _ _ _ qV2
    have bV3 : Below w.heap.size w V3 := by rw [← eV3]; exact bV2.setCell (p := ⟨C, 2, none⟩) hle.out (.int .u8 0)
    rw [eV3]
    obtain ⟨V4, eV4⟩ : ∃ V, V3.setCell ⟨C, 3, none⟩ (.int .u8 0) = V := ⟨_, rfl⟩
    have qV4 : V4.heap[C]? = some (.cells #[.int .u8 0, .int .u8 0, .int .u8 0, .int .u8 0, .int .u8 0, .int .u8 0, .int .u64 0] 68 (0, 0)) := by rw [← eV4]; exact heap_setCell_same V3 C 3 _ _ _ qV3
    have bV4 : Below w.heap.size w V4 := by rw [← eV4]; exact bV3.setCell (p := ⟨C, 3, none⟩) hle.out (.int .u8 0)
    rw [eV4]
    obtain ⟨V5, eV5⟩ : ∃ V, V4.setCell ⟨C, 4, none⟩ (.int .u8 0) = V := ⟨_, rfl⟩
    have qV5 : V5.heap[C]? = some (.cells #[.int .u8 0, .int .u8 0, .int .u8 0, .int .u8 0, .int .u8 0, .int .u8 0, .int .u64 0] 68 (0, 0)) := by rw [← eV5]; exact heap_setCell_same V4 C 4 _ _ _ qV4
    have bV5 : Below w.heap.size w V5 := by rw [← eV5]; exact bV4.setCell (p := ⟨C, 4, none⟩) hle.out (.int .u8 0)
    rw [eV5]
    obtain ⟨V6, eV6⟩ : ∃ V, V5.setCell ⟨C, 5, none⟩ (.int .u8 0) = V := ⟨_, rfl⟩
    have qV6 : V6.heap[C]? = some (.cells #[.int .u8 0, .int .u8 0, .int .u8 0, .int .u8 0, .int .u8 0, .int .u8 0, .int .u64 0] 68 (0, 0)) := by rw [← eV6]; exact heap_setCell_same V5 C 5 _ _ _ qV5
    have bV6 : Below w.heap.size w V6 := by rw [← eV6]; exact bV5.setCell (p := ⟨C, 5, none⟩) hle.out (.int .u8 0)
    rw [eV6]
    obtain ⟨V7, eV7⟩ : ∃ V, V6.setCell ⟨C, 6, none⟩ (.int .u64 0) = V := ⟨_, rfl⟩
    have qV7 : V7.heap[C]? = some (.cells #[.int .u8 0, .int .u8 0, .int .u8 0, .int .u8 0, .int .u8 0, .int .u8 0, .int .u64 0] 68 (0, 0)) := by rw [← eV7]; exact heap_setCell_same V6 C 6 _ _ _ qV6
    have bV7 : Below w.heap.size w V7 := by rw [← eV7]; exact bV6.setCell (p := ⟨C, 6, none⟩) hle.out (.int .u64 0)
    rw [eV7]
    obtain ⟨V, hV, ky, kb⟩ : ∃ V, V7.drew = V ∧ V.heap[C]? = some (.cells #[.int .u8 0, .int .u8 0, .int .u8 0, .int .u8 0, .int .u8 0, .int .u8 0, .int .u64 0] 68 (0, 0)) ∧ Below w.heap.size w V := ⟨_, rfl, qV7, bV7.drew⟩
    try rw [hV]
    obtain ⟨u0, u1, u2, u3, u4, u5, u6, uf⟩ := val_cells ky
    clear eV1 qV1 bV1 eV2 qV2 bV2 eV3 qV3 bV3 eV4 qV4 bV4 eV5 qV5 bV5 eV6 qV6 bV6 eV7 qV7 bV7
    have HKB := hide kb
    clear hV ky kb y0 y1 y2 y3 y4 y5 y6 yf HY HB HE HTT HT hle
    go_wp2_with fail
    exact bodyPost_ret (v := .tuple #[.int .u32 0, .agg #[.int .u8 0, .int .u8 0, .int .u8 0, .int .u8 0, .int .u8 0, .int .u8 0, .int .u64 0], .bool false]) (by simp [results, Try.results55, go_sem, *]) rfl ⟨.inr ⟨H2.out, rfl⟩, HKB.out⟩
  · have H1 := hide e1
    have H2 := hide e4
    have H3 := hide e3
    obtain ⟨y0, y1, y2, y3, y4, y5, y6, yf⟩ := val_cells HY.out
    obtain ⟨c0, c1, c1a, c1b, c1c, c1d, c1e, c1f, _, _, _, cf⟩ := five_cells e2.2.1
    clear hT h t0 t1 tf e1 e2 e3 e4
    go_enter Try.func55, Try.ntmps55
    go_upto_region 1 with (fail)
    rw [HE.out.1]
    try rw [HE.out.2]
    go_wp2_with fail
    refine HA.out.mono ?_
    rintro e w1 ⟨rfl, rfl⟩
    rw [H1.out, show ad (.node b 0 a l r) = some ⟨b, 0, none⟩ from rfl]
    clear HA t2
    go_wp2_with fail
    go_region
    obtain ⟨V1, eV1⟩ : ∃ V, W.setCell ⟨C, 0, none⟩ (.int .u8 a.2.m0) = V := ⟨_, rfl⟩
    have qV1 : V1.heap[C]? = some (.cells #[.int .u8 a.2.m0, .int .u8 0, .int .u8 0, .int .u8 0, .int .u8 0, .int .u8 0, .int .u64 0] 68 (0, 0)) := by rw [← eV1]; exact heap_setCell_same W C 0 _ _ _ HY.out
    have bV1 : Below w.heap.size w V1 := by rw [← eV1]; exact HB.out.setCell (p := ⟨C, 0, none⟩) hle.out (.int .u8 a.2.m0)
    rw [eV1]
    obtain ⟨V2, eV2⟩ : ∃ V, V1.setCell ⟨C, 1, none⟩ (.int .u8 a.2.m1) = V := ⟨_, rfl⟩
    have qV2 : V2.heap[C]? = some (.cells #[.int .u8 a.2.m0, .int .u8 a.2.m1, .int .u8 0, .int .u8 0, .int .u8 0, .int .u8 0, .int .u64 0] 68 (0, 0)) := by rw [← eV2]; exact heap_setCell_same V1 C 1 _ _ _ qV1
    have bV2 : Below w.heap.size w V2 := by rw [← eV2]; exact bV1.setCell (p := ⟨C, 1, none⟩) hle.out (.int .u8 a.2.m1)
    rw [eV2]
    obtain ⟨V3, eV3⟩ : ∃ V, V2.setCell ⟨C, 2, none⟩ (.int .u8 a.2.m2) = V := ⟨_, rfl⟩
    have qV3 : V3.heap[C]? = some (.cells #[.int .u8 a.2.m0, .int .u8 a.2.m1, .int .u8 a.2.m2, .int .u8 0, .int .u8 0, .int .u8 0, .int .u64 0] 68 (0, 0)) := by rw [← eV3]; exact heap_setCell_same V2 C 2 _ _ _ qV2
    have bV3 : Below w.heap.size w V3 := by rw [← eV3]; exact bV2.setCell (p := ⟨C, 2, none⟩) hle.out (.int .u8 a.2.m2)
    rw [eV3]
    obtain ⟨V4, eV4⟩ : ∃ V, V3.setCell ⟨C, 3, none⟩ (.int .u8 a.2.m3) = V := ⟨_, rfl⟩
    have qV4 : V4.heap[C]? = some (.cells #[.int .u8 a.2.m0, .int .u8 a.2.m1, .int .u8 a.2.m2, .int .u8 a.2.m3, .int .u8 0, .int .u8 0, .int .u64 0] 68 (0, 0)) := by rw [← eV4]; exact heap_setCell_same V3 C 3 _ _ _ qV3
    have bV4 : Below w.heap.size w V4 := by rw [← eV4]; exact bV3.setCell (p := ⟨C, 3, none⟩) hle.out (.int .u8 a.2.m3)
    rw [eV4]
    obtain ⟨V5, eV5⟩ : ∃ V, V4.setCell ⟨C, 4, none⟩ (.int .u8 a.2.m4) = V := ⟨_, rfl⟩
    have qV5 : V5.heap[C]? = some (.cells #[.int .u8 a.2.m0, .int .u8 a.2.m1, .int .u8 a.2.m2, .int .u8 a.2.m3, .int .u8 a.2.m4, .int .u8 0, .int .u64 0] 68 (0, 0)) := by rw [← eV5]; exact heap_setCell_same V4 C 4 _ _ _ qV4
    have bV5 : Below w.heap.size w V5 := by rw [← eV5]; exact bV4.setCell (p := ⟨C, 4, none⟩) hle.out (.int .u8 a.2.m4)
    rw [eV5]
    obtain ⟨V6, eV6⟩ : ∃ V, V5.setCell ⟨C, 5, none⟩ (.int .u8 a.2.m5) = V := ⟨_, rfl⟩
    have qV6 : V6.heap[C]? = some (.cells #[.int .u8 a.2.m0, .int .u8 a.2.m1, .int .u8 a.2.m2, .int .u8 a.2.m3, .int .u8 a.2.m4, .int .u8 a.2.m5, .int .u64 0] 68 (0, 0)) := by rw [← eV6]; exact heap_setCell_same V5 C 5 _ _ _ qV5
    have bV6 : Below w.heap.size w V6 := by rw [← eV6]; exact bV5.setCell (p := ⟨C, 5, none⟩) hle.out (.int .u8 a.2.m5)
    rw [eV6]
    obtain ⟨V7, eV7⟩ : ∃ V, V6.setCell ⟨C, 6, none⟩ (.int .u64 a.2.e) = V := ⟨_, rfl⟩
    have qV7 : V7.heap[C]? = some (.cells #[.int .u8 a.2.m0, .int .u8 a.2.m1, .int .u8 a.2.m2, .int .u8 a.2.m3, .int .u8 a.2.m4, .int .u8 a.2.m5, .int .u64 a.2.e] 68 (0, 0)) := by rw [← eV7]; exact heap_setCell_same V6 C 6 _ _ _ qV6
    have bV7 : Below w.heap.size w V7 := by rw [← eV7]; exact bV6.setCell (p := ⟨C, 6, none⟩) hle.out (.int .u64 a.2.e)
    rw [eV7]
    obtain ⟨V, hV, ky, kb⟩ : ∃ V, V7.drew = V ∧ V.heap[C]? = some (.cells #[.int .u8 a.2.m0, .int .u8 a.2.m1, .int .u8 a.2.m2, .int .u8 a.2.m3, .int .u8 a.2.m4, .int .u8 a.2.m5, .int .u64 a.2.e] 68 (0, 0)) ∧ Below w.heap.size w V := ⟨_, rfl, qV7, bV7.drew⟩
    try rw [hV]
    obtain ⟨u0, u1, u2, u3, u4, u5, u6, uf⟩ := val_cells ky
    clear eV1 qV1 bV1 eV2 qV2 bV2 eV3 qV3 bV3 eV4 qV4 bV4 eV5 qV5 bV5 eV6 qV6 bV6 eV7 qV7 bV7
    have HKB := hide kb
    clear hV ky kb y0 y1 y2 y3 y4 y5 y6 yf HY HB HE HTT HT hle
    go_wp2_with fail
    exact bodyPost_ret (v := .tuple #[.int .u32 a.1, .agg #[.int .u8 a.2.m0, .int .u8 a.2.m1, .int .u8 a.2.m2, .int .u8 a.2.m3, .int .u8 a.2.m4, .int .u8 a.2.m5, .int .u64 a.2.e], .bool true]) (by simp [results, Try.results55, go_sem, *]) rfl ⟨.inl ⟨a, H2.out, H3.out, rfl⟩, HKB.out⟩
theorem AtL {w : World} {t : Nat} {most : Int} {fv : Value} {τ : Int → Int} {L : List KV} (h : Tab w t most fv τ L) (i : Int) (hn : L.length ≤ 600000) (hi0 : -9223372036854775808 ≤ i) (hi1 : i ≤ 9223372036854775807) :
    Calls Try.prog 55 #[.pointer (some ⟨t, 0, none⟩), .int .i64 i] w (AtAns L i w) := by
  obtain ⟨T, h1, h2, rfl, h4⟩ := h
  exact At_any t most fv T i w h1 h2 (by rw [← nsz_toL]; omega) hi0 hi1
end Go.Proofs.Ytbibobjkclgogaa.D
