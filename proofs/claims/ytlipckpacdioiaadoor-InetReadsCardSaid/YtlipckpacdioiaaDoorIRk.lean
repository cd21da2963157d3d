/- inet: what the document's Read answers of a right packet. -/
import Derived.Test.YtlipckpacdioiaaDoorIRr
import Derived.Deep.RegionHeld3
namespace Go.Proofs.YtlipckpacdioiaaDoor
open Go.RowKit
set_option linter.unusedVariables false
set_option linter.unusedSimpArgs false
set_option maxRecDepth 100000
theorem owns_nil2 (w : World) : (w.alloc (.cells #[] 5)).ownsRow w.heap.size 5 1 (.slice (some ⟨w.heap.size, 0, none⟩) 0 0) 0 [] := World.ownsRow_lit w #[] 0 (Nat.le_refl _) (by unfold maxLen; omega) rfl
theorem heap_set {w : World} {S : Nat} {T : TypeId} {cs cs' : Array Value} (h : w.heap[S]? = some (.cells cs T (0, 0))) (i : Nat) (v : Value) (hu : cs.setIfInBounds i v = cs') : (w.setCell ⟨S, i, none⟩ v).heap[S]? = some (.cells cs' T (0, 0)) := by
  rw [← hu]; exact heap_setCell_same w S i cs T v h
theorem set6 {w : World} {S : Nat} {T : TypeId} {a0 a1 a2 a3 a4 a5 : Value} (h0 : w.heap[S]? = some (.cells #[a0, a1, a2, a3, a4, a5] T (0, 0))) (v0 v1 v2 v3 v4 v5 : Value) :
    ((((((w.setCell ⟨S, 0, none⟩ v0).setCell ⟨S, 1, none⟩ v1).setCell ⟨S, 2, none⟩ v2).setCell ⟨S, 3, none⟩ v3).setCell ⟨S, 4, none⟩ v4).setCell ⟨S, 5, none⟩ v5).heap[S]? = some (.cells #[v0, v1, v2, v3, v4, v5] T (0, 0)) := by
  have h1 : (w.setCell ⟨S, 0, none⟩ v0).heap[S]? = some (.cells #[v0, a1, a2, a3, a4, a5] T (0, 0)) := heap_set h0 0 v0 (by simp)
  have h2 : ((w.setCell ⟨S, 0, none⟩ v0).setCell ⟨S, 1, none⟩ v1).heap[S]? = some (.cells #[v0, v1, a2, a3, a4, a5] T (0, 0)) := heap_set h1 1 v1 (by simp)
  have h3 : (((w.setCell ⟨S, 0, none⟩ v0).setCell ⟨S, 1, none⟩ v1).setCell ⟨S, 2, none⟩ v2).heap[S]? = some (.cells #[v0, v1, v2, a3, a4, a5] T (0, 0)) := heap_set h2 2 v2 (by simp)
  have h4 : ((((w.setCell ⟨S, 0, none⟩ v0).setCell ⟨S, 1, none⟩ v1).setCell ⟨S, 2, none⟩ v2).setCell ⟨S, 3, none⟩ v3).heap[S]? = some (.cells #[v0, v1, v2, v3, a4, a5] T (0, 0)) := heap_set h3 3 v3 (by simp)
  have h5 : (((((w.setCell ⟨S, 0, none⟩ v0).setCell ⟨S, 1, none⟩ v1).setCell ⟨S, 2, none⟩ v2).setCell ⟨S, 3, none⟩ v3).setCell ⟨S, 4, none⟩ v4).heap[S]? = some (.cells #[v0, v1, v2, v3, v4, a5] T (0, 0)) := heap_set h4 4 v4 (by simp)
  have h6 : ((((((w.setCell ⟨S, 0, none⟩ v0).setCell ⟨S, 1, none⟩ v1).setCell ⟨S, 2, none⟩ v2).setCell ⟨S, 3, none⟩ v3).setCell ⟨S, 4, none⟩ v4).setCell ⟨S, 5, none⟩ v5).heap[S]? = some (.cells #[v0, v1, v2, v3, v4, v5] T (0, 0)) := heap_set h5 5 v5 (by simp)
  exact h6
set_option maxHeartbeats 2000000 in
theorem rrd_ok (w : World) (a : Option Addr) (xs : List Int) (n cap x x2 x3 x6 x7 s : Nat) (hr : Row .u8 w a xs) (hl : xs.length = n) (hnc : n ≤ cap) (hb : ∀ x ∈ xs, 0 ≤ x ∧ x ≤ 255) (h20 : 20 ≤ n) (hn : n ≤ 4000) (hh : Hd5 xs x x2 x3 x6 x7) (hs : 256 * x2 + x3 = s) (h1 : x = 69) (h0 : 20 ≤ s) (h2 : s ≤ n) (h3 : s ≤ 1500) (hC : csum (xs.take 20) = 0) (hM0 : (256 * x6 + x7) % 16384 = 0) (tt P x4 x5 id sr ds : Nat) (hno : a = none → cap = 0) (hcm : cap ≤ 9223372036854775807) (g8 : xs[8]?.getD 0 = (tt : Int)) (g9 : xs[9]?.getD 0 = (P : Int)) (g4 : xs[4]?.getD 0 = (x4 : Int)) (g5 : xs[5]?.getD 0 = (x5 : Int)) (hid : 256 * x4 + x5 = id) (b4 : x4 ≤ 255) (b5 : x5 ≤ 255) (hsr : fld xs 12 4 = sr) (hds : fld xs 16 4 = ds) (hsl : sr ≤ 4294967295) (hdl : ds ≤ 4294967295) :
    Calls Tryd.prog 14 #[.slice a n cap] w (RdOk tt P id sr ds ((xs.take s).drop 20) (s - 20) w) := by
  obtain ⟨wq, hqq, hbel, hnew⟩ : ∃ V, w.alloc (.cells #[.int .u8 0, .int .u8 0, .int .u16 0, .int .u32 0, .int .u32 0, .slice none 0 0] 27) = V ∧ Below w.heap.size w V ∧ V.heap[w.heap.size]? = some (.cells #[.int .u8 0, .int .u8 0, .int .u16 0, .int .u32 0, .int .u32 0, .slice none 0 0] 27 (0, 0)) := ⟨_, rfl, (Below.refl _ _).alloc (Nat.le_refl _) _, heap_alloc_new _ _⟩
  have HR0 := hide hr
  have HR0L := hide (show ∀ b o, a = some ⟨b, o, none⟩ → b < w.heap.size from fun b o e => by obtain ⟨b2, o2, e2, h2, _⟩ := hr.at (i := 0) (by omega); rw [e] at e2; cases e2; exact h2)
  have hrq := hr.below hbel (Nat.le_refl _)
  obtain ⟨b, off, rfl, hlt, hc⟩ := hrq.at (i := 0) (by omega)
  have c0 := hc 0 (by omega)
  have c2 := hc 2 (by omega)
  have c3 := hc 3 (by omega)
  have c6 := hc 6 (by omega)
  have c7 := hc 7 (by omega)
  rw [hh.h0] at c0
  rw [hh.h2] at c2
  rw [hh.h3] at c3
  rw [hh.h6] at c6
  rw [hh.h7] at c7
  rw [Nat.add_zero] at c0
  have i0 : (0 : Int) < (n : Int) := by omega
  have i2 : (2 : Int) < (n : Int) := by omega
  have i3 : (3 : Int) < (n : Int) := by omega
  have i6 : (6 : Int) < (n : Int) := by omega
  have i7 : (7 : Int) < (n : Int) := by omega
  have hb0 := hh.b0
  have hb2 := hh.b2
  have hb3 := hh.b3
  have hb6 := hh.b6
  have hb7 := hh.b7
  have HQ := hide hqq
  have HB := hide hbel
  have HN := hide hnew
  have HR := hide hrq
  have HL := hide hl
  have HH := hide hh
  have HXB := hide hb
  have HNO := hide hno
  have hG := hide (And.intro (And.intro g8 g9) (And.intro g4 g5))
  have HD := hide (And.intro hsr hds)
  have hn20 : ¬ ((n : Int) < 20) := by omega
  have HSU := hide (fun (W : World) (hW : Row .u8 W (some ⟨b, off, none⟩) xs) => by
    have := refSum_any (some ⟨b, off, none⟩) (xs.take 20) cap W (row_take hW 20) (fun y hy => hb y (List.mem_of_mem_take hy)) (by rw [List.length_take]; omega)
    rw [show (xs.take 20).length = 20 by rw [List.length_take]; omega] at this
    exact this)
  have hc20 : (20 : Int) ≤ (cap : Int) := by omega
  rw [hC] at HSU
  have m2 : IntKind.i64.wrap (256 * (x2 : Int)) = 256 * (x2 : Int) := IntWalk.i64_in _ (by omega)
  have m3 : IntKind.i64.wrap (256 * (x2 : Int) + (x3 : Int)) = (s : Int) := by rw [IntWalk.i64_in _ (by omega)]; omega
  clear hqq hbel hnew hrq hr hl hc hb hh hlt g8 g9 g4 g5 hsr hds hno
  go_enter Tryd.func14, Tryd.ntmps14
  go_upto_region 1 with (fail)
  rw [HQ.out]
  clear HQ
  go_wp2_with fail
  go_quiet (fail)
  obtain ⟨w1, hw1, hb1⟩ : ∃ V, wq.drewN nq = V ∧ Below wq.heap.size wq V := ⟨_, rfl, bdrewN (Below.refl _ _) _⟩
  rw [hw1]
  have HN1 := hide (below_block hb1 HN.out (Nat.le_refl _))
  have HB1 := hide (HB.out.trans (hb1.mono HB.out.size))
  have HR1 := hide (HR.out.below hb1 (Nat.le_refl _))
  clear hw1 hb1 m2 m3
  go_wp2_with fail
  refine (HSU.out w1 HR1.out).mono ?_
  rintro e w2 ⟨rfl, b2⟩
  have HN2 := hide (below_block b2 HN1.out (Nat.le_refl _))
  have HB2 := hide (HB1.out.trans (b2.mono HB1.out.size))
  have HR2 := hide (HR1.out.below b2 (Nat.le_refl _))
  clear b2 HSU
  obtain ⟨b', off', hbe, hlt, hc⟩ := HR2.out.at (i := 0) (by have := HL.out; omega)
  cases hbe
  have e6 := hc 6 (by have := HL.out; omega)
  have e7 := hc 7 (by have := HL.out; omega)
  rw [HH.out.h6] at e6
  rw [HH.out.h7] at e7
  clear hc hlt c0 c2 c3 c6 c7
  have m6 : IntKind.i64.wrap (256 * (x6 : Int)) = 256 * (x6 : Int) := IntWalk.i64_in _ (by omega)
  have m7 : IntKind.i64.wrap (256 * (x6 : Int) + (x7 : Int)) = 256 * (x6 : Int) + (x7 : Int) := IntWalk.i64_in _ (by omega)
  have hM : 0 ≤ 256 * (x6 : Int) + (x7 : Int) := by omega
  go_wp2_with fail
  go_quiet (fail)
  obtain ⟨w3, hw3, hb3⟩ : ∃ V, w2.drewN nq = V ∧ Below w2.heap.size w2 V := ⟨_, rfl, bdrewN (Below.refl _ _) _⟩
  rw [hw3]
  have HN3 := hide (below_block hb3 HN2.out (Nat.le_refl _))
  have HB3 := hide (HB2.out.trans (hb3.mono HB2.out.size))
  have HR3 := hide (HR2.out.below hb3 (Nat.le_refl _))
  clear hw3 hb3 m6 m7 e6 e7
  obtain ⟨w4, hw4, hb4, hn4⟩ : ∃ V, w3.alloc (.cells #[.slice (some ⟨b, off, none⟩) n cap, .int .i64 12, .bool false] 63) = V ∧ Below w3.heap.size w3 V ∧ V.heap[w3.heap.size]? = some (.cells #[.slice (some ⟨b, off, none⟩) n cap, .int .i64 12, .bool false] 63 (0, 0)) := ⟨_, rfl, (Below.refl _ _).alloc (Nat.le_refl _) _, heap_alloc_new _ _⟩
  obtain ⟨E, hE⟩ : ∃ E, w3.heap.size = E := ⟨_, rfl⟩
  rw [hE] at hn4
  have HY4 := hide (show REye w4 E (some ⟨b, off, none⟩) n cap 12 false from hn4)
  have HN4 := hide (below_block hb4 HN3.out (Nat.le_refl _))
  have HB4 := hide (HB3.out.trans (hb4.mono HB3.out.size))
  have HR4 := hide (HR3.out.below hb4 (Nat.le_refl _))
  have HEw := hide (show w.heap.size ≤ E by have := HB3.out.size; omega)
  have HSE := hide (show w.heap.size < E by have := lt_of_block HN3.out; omega)
  have HQ4 := hide (And.intro hw4 hE)
  clear hw4 hb4 hn4 hE HN3 HB3 HR3
  go_upto_region 17 with (fail)
  rw [HQ4.out.1]
  try rw [HQ4.out.2]
  clear HQ4
  have HN1 := hide (rEye_at E 12 4 (some ⟨b, off, none⟩) xs n cap w4 HY4.out HR4.out HXB.out HL.out hnc hcm (fun h => nomatch h) (by omega) (by omega) (by omega))
  rw [HD.out.1] at HN1
  go_wp2_with fail
  refine HN1.out.mono ?_
  rintro e w5 ⟨rfl, hy5, hg5⟩
  have HY5 := hide hy5
  have HN5 := hide (gb_block hg5 HN4.out (by have := HSE.out; omega))
  have HB5 := hide (HB4.out.trans (grownBy_below hg5 HEw.out HB4.out.size))
  have HR5 := hide (HR0.out.below HB5.out (Nat.le_refl _))
  clear hy5 hg5 HN1 HY4 HN4 HB4 HR4
  have hw5 : IntKind.u32.wrap (sr : Int) = (sr : Int) := by rw [IntKind.wrap_u32]; omega
  have hw6 : IntKind.u32.wrap (ds : Int) = (ds : Int) := by rw [IntKind.wrap_u32]; omega
  have HN2 := hide (rEye_at E 16 4 (some ⟨b, off, none⟩) xs n cap w5 HY5.out HR5.out HXB.out HL.out hnc hcm (fun h => nomatch h) (by omega) (by omega) (by omega))
  rw [HD.out.2] at HN2
  go_wp2_with fail
  refine HN2.out.mono ?_
  rintro e w6 ⟨rfl, hy6, hg6⟩
  have HN6 := hide (gb_block hg6 HN5.out (by have := HSE.out; omega))
  have HB6 := hide (HB5.out.trans (grownBy_below hg6 HEw.out HB5.out.size))
  have HR6 := hide (HR0.out.below HB6.out (Nat.le_refl _))
  clear hy6 hg6 HN2 HY5 HN5 HB5 HR5
  go_upto_region 19 with (fail)
  obtain ⟨b', off', hbe, hlt6, hc⟩ := HR6.out.at (i := 0) (by have := HL.out; omega)
  cases hbe
  have k8 := hc 8 (by have := HL.out; omega)
  have k9 := hc 9 (by have := HL.out; omega)
  have k4 := hc 4 (by have := HL.out; omega)
  have k5 := hc 5 (by have := HL.out; omega)
  rw [hG.out.1.1] at k8
  rw [hG.out.1.2] at k9
  rw [hG.out.2.1] at k4
  rw [hG.out.2.2] at k5
  clear hc
  have u4 : IntKind.u16.wrap (x4 : Int) = (x4 : Int) := wraps_u16 _ (by omega) (by omega)
  have u5 : IntKind.u16.wrap (x5 : Int) = (x5 : Int) := wraps_u16 _ (by omega) (by omega)
  have v4 : IntKind.u16.wrap (256 * (x4 : Int)) = 256 * (x4 : Int) := wraps_u16 _ (by omega) (by omega)
  have v5 : IntKind.u16.wrap (256 * (x4 : Int) + (x5 : Int)) = (id : Int) := by rw [wraps_u16 _ (by omega) (by omega)]; omega
  have i8 : (8 : Int) < (n : Int) := by omega
  have i9 : (9 : Int) < (n : Int) := by omega
  have i4 : (4 : Int) < (n : Int) := by omega
  have i5 : (5 : Int) < (n : Int) := by omega
  have j1 : (20 : Int) ≤ (s : Int) := by omega
  have j2 : (s : Int) ≤ (cap : Int) := by omega
  obtain ⟨A1, hs1, hrA1, hnA1⟩ := cut_run (some ⟨b, off, none⟩) xs n cap 20 (s - 20) w6 HR6.out HL.out hnc (fun h => nomatch h) (by omega)
  rw [show ((20 : Nat) : Int) = 20 from rfl, show (20 : Int) + ((s - 20 : Nat) : Int) = (s : Int) by omega] at hs1
  have hal : Below w6.heap.size w6 (w6.alloc (.cells #[] 5)).drew := Below.drew ((Below.refl _ _).alloc (Nat.le_refl _) _)
  obtain ⟨v8, w8, hrun, o8, bq8⟩ := app_own (w6.alloc (.cells #[] 5)).drew w6.heap.size _ 0 [] (owns_nil2 w6).drew A1 ((xs.drop 20).take (s - 20)) (s - 20) (cap - 20) (hrA1.below hal (Nat.le_refl _)) (by rw [List.length_take, List.length_drop, HL.out]; omega) hnA1 (by omega) hal.size
  obtain ⟨a8, c8, rfl⟩ := slice_form o8
  simp only [Nat.zero_add, List.nil_append] at o8 hrun
  have hb8 := hal.trans bq8
  have HN8 := hide (below_block hb8 HN6.out (Nat.le_refl _))
  have HB8 := hide (HB6.out.trans (hb8.mono HB6.out.size))
  have HZ6 := hide HB6.out.size
  have e8 := (bcell hb8 b (off + 8) hlt6).trans k8
  have e9 := (bcell hb8 b (off + 9) hlt6).trans k9
  have e4 := (bcell hb8 b (off + 4) hlt6).trans k4
  have e5 := (bcell hb8 b (off + 5) hlt6).trans k5
  have hlS := hide (lt_of_block HN6.out)
  have HO8 := hide (owns_mono o8 HB6.out.size)
  have HO9 := hide o8
  have hx : ∃ v' w', (Builtin.append_ #[25, 25] 25 #[.slice (some ⟨w6.heap.size, 0, none⟩) 0 0, .slice A1 (s - 20) (cap - 20)]).run Tryd.prog (w6.alloc (.cells #[] 5)).drew = .ok v' w' ∧ (v' = .slice a8 (s - 20) c8 ∧ w' = w8) := ⟨_, _, hrun, rfl, rfl⟩
  have HRN := hide hx
  have z0 := cell_at HN8.out 0 rfl
  have z1 := cell_at HN8.out 1 rfl
  have z2 := cell_at HN8.out 2 rfl
  have z3 := cell_at HN8.out 3 rfl
  have z4 := cell_at HN8.out 4 rfl
  have z5 := cell_at HN8.out 5 rfl
  have zf := free_at HN8.out
  have hne : ¬ b = w.heap.size := by have := HR0L.out b off rfl; omega
  have hne2 : ¬ w.heap.size = b := by omega
  clear hx hrun o8 bq8 hb8 hal hrA1 hw5 hw6
  go_region_held3 (fun w' => w'.cell? ⟨b, off + 8, none⟩ = some (.int .u8 (tt : Int)) ∧ w'.cell? ⟨b, off + 9, none⟩ = some (.int .u8 (P : Int)) ∧ w'.cell? ⟨b, off + 4, none⟩ = some (.int .u8 (x4 : Int)) ∧ w'.cell? ⟨b, off + 5, none⟩ = some (.int .u8 (x5 : Int))) (go_keep) (first
    | (refine step_append_ex rfl (.tmp 98) (.tmp 101) 25 25 rfl _ _ rfl rfl _ HRN.out ?_; rintro v9 w9 ⟨rfl, rfl⟩)
    | fail)
  all_goals
    go_wp2_with fail
    have hset := set6 HN8.out (.int .u8 (tt : Int)) (.int .u8 (P : Int)) (.int .u16 (id : Int)) (.int .u32 (sr : Int)) (.int .u32 (ds : Int)) (.slice a8 (s - 20) c8)
    have hdt : (xs.take s).drop 20 = (xs.drop 20).take (s - 20) := List.drop_take ..
    rw [hdt]
    exact bodyPost_ret (v := .tuple #[.agg #[.int .u8 (tt : Int), .int .u8 (P : Int), .int .u16 (id : Int), .int .u32 (sr : Int), .int .u32 (ds : Int), .slice a8 (s - 20) c8], .int .i64 0]) (results_cell_tmp Tryd.results14 _ _ w.heap.size _ _ _ _ rfl hset Tryd.underlying27 rfl (by kernel_rfl) _ rfl) rfl ⟨a8, c8, rfl, owns_mono (base := w6.heap.size) (owns_set (owns_set (owns_set (owns_set (owns_set (owns_set HO9.out hlS.out) hlS.out) hlS.out) hlS.out) hlS.out) hlS.out) HZ6.out, (((((HB8.out.setCell (Nat.le_refl _) _).setCell (Nat.le_refl _) _).setCell (Nat.le_refl _) _).setCell (Nat.le_refl _) _).setCell (Nat.le_refl _) _).setCell (Nat.le_refl _) _⟩
end Go.Proofs.YtlipckpacdioiaaDoor
