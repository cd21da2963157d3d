/- Tables: At: [hearth/wheel.end[int], struct{}]. -/
import Derived.Test.YtdjkoomgapflcaaBL
namespace Go.Proofs.Ytdjkoomgapflcaa.B
open Go.RowKit Go.Deep
open Go.Proofs.Ytdjkoomgapflcaa
set_option linter.unusedVariables false
set_option linter.unusedSimpArgs false
set_option maxRecDepth 100000
/-- What At answers. -/
def AtAns (L : List KV) (i : Int) (w : World) (e : Ending) (w' : World) : Prop := ((∃ x, L[i.toNat]? = some x ∧ 0 ≤ i ∧ e = .returned (.tuple #[.agg #[.int .u64 x.1.s, .int .i64 x.1.k], .agg #[], .bool true])) ∨ ((i < 0 ∨ (L.length : Int) ≤ i) ∧ e = .returned (.tuple #[.agg #[.int .u64 0, .int .i64 0], .agg #[], .bool false]))) ∧ Below w.heap.size w w'
set_option maxHeartbeats 1600000 in
theorem At_any (t : Nat) (most : Int) (fv : Value) (T : BT KV) (i : Int) (w : World) (hT : TabAt w t most fv (ad T)) (h : TIn w T) (hn : nsz T ≤ 1000000) (hi0 : -9223372036854775808 ≤ i) (hi1 : i ≤ 9223372036854775807) :
    Calls Try.prog 30 #[.pointer (some ⟨t, 0, none⟩), .int .i64 i] w (AtAns (toL T) i w) := by
  obtain ⟨W, hW, hb, hx, hy⟩ : ∃ W, (w.alloc (.cells #[.int .u64 0, .int .i64 0] 52)).alloc (.cells #[] 53) = W ∧ Below w.heap.size w W ∧ W.heap[w.heap.size]? = some (.cells #[.int .u64 0, .int .i64 0] 52 (0, 0)) ∧ W.heap[w.heap.size + 1]? = some (.cells #[] 53 (0, 0)) := by
    refine ⟨_, rfl, ((Below.refl _ _).alloc (Nat.le_refl _) _).alloc (by simp) _, below_block ((Below.refl _ _).alloc (Nat.le_refl _) _) (heap_alloc_new w _) (Nat.le_refl _), ?_⟩
    have h1 := heap_alloc_new (w.alloc (.cells #[.int .u64 0, .int .i64 0] 52)) (.cells #[] 53)
    rw [show (w.alloc (.cells #[.int .u64 0, .int .i64 0] 52)).heap.size = w.heap.size + 1 by simp] at h1
    exact h1
  obtain ⟨B, hB⟩ : ∃ B, w.heap.size = B := ⟨_, rfl⟩
  obtain ⟨C, hC⟩ : ∃ C, w.heap.size + 1 = C := ⟨_, rfl⟩
  rw [hB] at hx
  rw [hC] at hy
  have hBC : B ≠ C := by omega
  have HE := hide (And.intro hW (And.intro hC hB))
  have hle : Hid (w.heap.size ≤ B ∧ w.heap.size ≤ C) := hide ⟨by omega, by omega⟩
  have HB := hide hb
  have HX := hide hx
  have HY := hide hy
  clear hW hB hC hb hx hy
  have HTT := hide (hT.below HB.out)
  have HT := hide (TIn.keep (NK.of_below HB.out (Nat.le_refl _)) h)
  obtain ⟨t0, t1, t2, tf⟩ := three_cells HTT.out
  have HA := hide (at_any T i W HT.out hn hi0 hi1)
  rcases atT_spec i HT.out with ⟨e1, e2⟩ | ⟨b, a, l, r, e1, e2, e3, e4⟩
  · have H1 := hide e1
    have H2 := hide e2
    obtain ⟨x0, x1, xf⟩ := key_cells HX.out
    clear hT h t0 t1 tf e1 e2
    go_enter Try.func30, Try.ntmps30
    go_upto_region 1 with (fail)
    rw [HE.out.1]
    try rw [HE.out.2.1]
    try rw [HE.out.2.2]
    go_wp2_with fail
    refine HA.out.mono ?_
    rintro e w1 ⟨rfl, rfl⟩
    rw [H1.out, show ad .nil = none from rfl]
    clear HA t2
    go_wp2_with fail
    go_region
    obtain ⟨V, hV, kx, ky, kb⟩ : ∃ V, ((W.setCell ⟨B, 0, none⟩ (.int .u64 0)).setCell ⟨B, 1, none⟩ (.int .i64 0)).drew = V ∧ V.heap[B]? = some (.cells #[.int .u64 0, .int .i64 0] 52 (0, 0)) ∧ V.heap[C]? = some (.cells #[] 53 (0, 0)) ∧ Below w.heap.size w V := by
      have q0 : (W.setCell ⟨B, 0, none⟩ (.int .u64 0)).heap[B]? = some (.cells #[.int .u64 0, .int .i64 0] 52 (0, 0)) := heap_setCell_same W B 0 _ _ _ HX.out
      have r0 : (W.setCell ⟨B, 0, none⟩ (.int .u64 0)).heap[C]? = some (.cells #[] 53 (0, 0)) := (heap_setCell_other _ _ _ _ hBC.symm).trans HY.out
      have q1 : ((W.setCell ⟨B, 0, none⟩ (.int .u64 0)).setCell ⟨B, 1, none⟩ (.int .i64 0)).heap[B]? = some (.cells #[.int .u64 0, .int .i64 0] 52 (0, 0)) := heap_setCell_same (W.setCell ⟨B, 0, none⟩ (.int .u64 0)) B 1 _ _ _ q0
      have r1 : ((W.setCell ⟨B, 0, none⟩ (.int .u64 0)).setCell ⟨B, 1, none⟩ (.int .i64 0)).heap[C]? = some (.cells #[] 53 (0, 0)) := (heap_setCell_other _ _ _ _ hBC.symm).trans r0
      exact ⟨_, rfl, q1, r1, ((HB.out.setCell (p := ⟨B, 0, none⟩) hle.out.1 (.int .u64 0)).setCell (p := ⟨B, 1, none⟩) hle.out.1 (.int .i64 0)).drew⟩
    rw [hV]
    obtain ⟨k0, k1, kf⟩ := key_cells kx
    have HKB := hide kb
    clear hV kx kb x0 x1 xf HX HB HE HTT HT hle hBC
    go_wp2_with fail
    exact bodyPost_ret (v := .tuple #[.agg #[.int .u64 0, .int .i64 0], .agg #[], .bool false]) (by simp [results, Try.results30, go_sem, *]) rfl ⟨.inr ⟨H2.out, rfl⟩, HKB.out⟩
  · have H1 := hide e1
    have H2 := hide e4
    have H3 := hide e3
    obtain ⟨x0, x1, xf⟩ := key_cells HX.out
    obtain ⟨c0, c0a, _, _, _, cf⟩ := five_cells e2.2.1
    have HND := hide e2.2.1
    clear hT h t0 t1 tf e1 e2 e3 e4
    go_enter Try.func30, Try.ntmps30
    go_upto_region 1 with (fail)
    rw [HE.out.1]
    try rw [HE.out.2.1]
    try rw [HE.out.2.2]
    go_wp2_with fail
    refine HA.out.mono ?_
    rintro e w1 ⟨rfl, rfl⟩
    rw [H1.out, show ad (.node b 0 a l r) = some ⟨b, 0, none⟩ from rfl]
    clear HA t2
    go_wp2_with fail
    have hpa := part_at W.drew b _ _ _ _ _ HND.out
    have hbB : b ≠ B := by
      intro e; have hq := HX.out; rw [← e, HND.out] at hq; injection hq with hq; injection hq with _ hq _; exact absurd hq (by decide)
    have hpb := part_at (((W.setCell ⟨B, 0, none⟩ (Value.int .u64 a.1.s)).setCell ⟨B, 1, none⟩ (Value.int .i64 a.1.k))).drew b _ _ _ _ _ ((heap_setCell_other _ _ _ _ hbB).trans ((heap_setCell_other _ _ _ _ hbB).trans (HND.out)))
    clear hbB
    go_region
    obtain ⟨V, hV, kx, ky, kb⟩ : ∃ V, ((W.setCell ⟨B, 0, none⟩ (.int .u64 a.1.s)).setCell ⟨B, 1, none⟩ (.int .i64 a.1.k)).drew = V ∧ V.heap[B]? = some (.cells #[.int .u64 a.1.s, .int .i64 a.1.k] 52 (0, 0)) ∧ V.heap[C]? = some (.cells #[] 53 (0, 0)) ∧ Below w.heap.size w V := by
      have q0 : (W.setCell ⟨B, 0, none⟩ (.int .u64 a.1.s)).heap[B]? = some (.cells #[.int .u64 a.1.s, .int .i64 0] 52 (0, 0)) := heap_setCell_same W B 0 _ _ _ HX.out
      have r0 : (W.setCell ⟨B, 0, none⟩ (.int .u64 a.1.s)).heap[C]? = some (.cells #[] 53 (0, 0)) := (heap_setCell_other _ _ _ _ hBC.symm).trans HY.out
      have q1 : ((W.setCell ⟨B, 0, none⟩ (.int .u64 a.1.s)).setCell ⟨B, 1, none⟩ (.int .i64 a.1.k)).heap[B]? = some (.cells #[.int .u64 a.1.s, .int .i64 a.1.k] 52 (0, 0)) := heap_setCell_same (W.setCell ⟨B, 0, none⟩ (.int .u64 a.1.s)) B 1 _ _ _ q0
      have r1 : ((W.setCell ⟨B, 0, none⟩ (.int .u64 a.1.s)).setCell ⟨B, 1, none⟩ (.int .i64 a.1.k)).heap[C]? = some (.cells #[] 53 (0, 0)) := (heap_setCell_other _ _ _ _ hBC.symm).trans r0
      exact ⟨_, rfl, q1, r1, ((HB.out.setCell (p := ⟨B, 0, none⟩) hle.out.1 (.int .u64 a.1.s)).setCell (p := ⟨B, 1, none⟩) hle.out.1 (.int .i64 a.1.k)).drew⟩
    rw [hV]
    obtain ⟨k0, k1, kf⟩ := key_cells kx
    have HKB := hide kb
    clear hV kx kb x0 x1 xf HX HB HE HTT HT hle hBC
    go_wp2_with fail
    exact bodyPost_ret (v := .tuple #[.agg #[.int .u64 a.1.s, .int .i64 a.1.k], .agg #[], .bool true]) (by simp [results, Try.results30, go_sem, *]) rfl ⟨.inl ⟨a, H2.out, H3.out, rfl⟩, HKB.out⟩
theorem AtL {w : World} {t : Nat} {most : Int} {fv : Value} {τ : EK → Int} {L : List KV} (h : Tab w t most fv τ L) (i : Int) (hn : L.length ≤ 600000) (hi0 : -9223372036854775808 ≤ i) (hi1 : i ≤ 9223372036854775807) :
    Calls Try.prog 30 #[.pointer (some ⟨t, 0, none⟩), .int .i64 i] w (AtAns L i w) := by
  obtain ⟨T, h1, h2, rfl, h4⟩ := h
  exact At_any t most fv T i w h1 h2 (by rw [← nsz_toL]; omega) hi0 hi1
end Go.Proofs.Ytdjkoomgapflcaa.B
