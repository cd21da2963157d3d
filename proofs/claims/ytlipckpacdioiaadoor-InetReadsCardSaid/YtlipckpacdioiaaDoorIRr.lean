/- inet: what the document's Read answers. -/
import Derived.Test.YtlipckpacdioiaaDoorIWr
import Derived.Test.YtlipckpacdioiaaDoorRRTcp
namespace Go.Proofs.YtlipckpacdioiaaDoor
open Go.RowKit
set_option linter.unusedVariables false
set_option linter.unusedSimpArgs false
set_option maxRecDepth 100000
theorem rrd_short (w : World) (a : Option Addr) (n cap : Nat) (h : n < 20) :
    Calls Tryd.prog 14 #[.slice a n cap] w (RdNo 10 w) := by
  go_enter Tryd.func14, Tryd.ntmps14
  go_wp2
  refine bodyPost_ret (v := .tuple #[.agg #[.int .u8 0, .int .u8 0, .int .u16 0, .int .u32 0, .int .u32 0, .slice none 0 0], .int .i64 10]) (by simp [results, Tryd.results14, go_sem]) rfl ⟨rfl, ?_⟩
  repeat (first | exact Below.refl _ _ | refine Below.setCell ?_ (Nat.le_refl _) _ | exact Below.alloc (Below.refl _ _) (Nat.le_refl _) _)
/-- The bytes that the document's Read looks at first. -/
structure Hd5 (xs : List Int) (x x2 x3 x6 x7 : Nat) : Prop where
  h0 : xs[0]?.getD 0 = (x : Int)
  h2 : xs[2]?.getD 0 = (x2 : Int)
  h3 : xs[3]?.getD 0 = (x3 : Int)
  h6 : xs[6]?.getD 0 = (x6 : Int)
  h7 : xs[7]?.getD 0 = (x7 : Int)
  b0 : x ≤ 255
  b2 : x2 ≤ 255
  b3 : x3 ≤ 255
  b6 : x6 ≤ 255
  b7 : x7 ≤ 255
set_option maxHeartbeats 2000000 in
theorem rrd_b1 (w : World) (a : Option Addr) (xs : List Int) (n cap x x2 x3 x6 x7 s : Nat) (hr : Row .u8 w a xs) (hl : xs.length = n) (hnc : n ≤ cap) (hb : ∀ x ∈ xs, 0 ≤ x ∧ x ≤ 255) (h20 : 20 ≤ n) (hn : n ≤ 4000) (hh : Hd5 xs x x2 x3 x6 x7) (hs : 256 * x2 + x3 = s) (h1 : x / 16 ≠ 4) :
    Calls Tryd.prog 14 #[.slice a n cap] w (RdNo 11 w) := by
  obtain ⟨wq, hqq, hbel, hnew⟩ : ∃ V, w.alloc (.cells #[.int .u8 0, .int .u8 0, .int .u16 0, .int .u32 0, .int .u32 0, .slice none 0 0] 27) = V ∧ Below w.heap.size w V ∧ V.heap[w.heap.size]? = some (.cells #[.int .u8 0, .int .u8 0, .int .u16 0, .int .u32 0, .int .u32 0, .slice none 0 0] 27 (0, 0)) := ⟨_, rfl, (Below.refl _ _).alloc (Nat.le_refl _) _, heap_alloc_new _ _⟩
  have hrq := hr.below hbel (Nat.le_refl _)
  obtain ⟨b, off, rfl, hlt, hc⟩ := hrq.at (i := 0) (by omega)
  have c0 := hc 0 (by omega)
  have c2 := hc 2 (by omega)
  have c3 := hc 3 (by omega)
  have c6 := hc 6 (by omega)
  have c7 := hc 7 (by omega)
  rw [hh.h0] at c0
  rw [hh.h2] at c2
  rw [hh.h3] at c3
  rw [hh.h6] at c6
  rw [hh.h7] at c7
  rw [Nat.add_zero] at c0
  have i0 : (0 : Int) < (n : Int) := by omega
  have i2 : (2 : Int) < (n : Int) := by omega
  have i3 : (3 : Int) < (n : Int) := by omega
  have i6 : (6 : Int) < (n : Int) := by omega
  have i7 : (7 : Int) < (n : Int) := by omega
  have hb0 := hh.b0
  have hb2 := hh.b2
  have hb3 := hh.b3
  have hb6 := hh.b6
  have hb7 := hh.b7
  have HQ := hide hqq
  have HB := hide hbel
  have HN := hide hnew
  have HR := hide hrq
  have HL := hide hl
  have hn20 : ¬ ((n : Int) < 20) := by omega
  clear hqq hbel hnew hrq hr hl hc hb hh hlt
  go_enter Tryd.func14, Tryd.ntmps14
  go_upto_region 1 with (fail)
  rw [HQ.out]
  clear HQ
  go_wp2_with (refine st_part (o := ⟨none, _, _, _, _, _⟩) 27 (.tmp 2) (.tmp 24) rfl (by rfl) w.heap.size 0 rfl #[.int .u8 0, .int .u8 0, .int .u16 0, .int .u32 0, .int .u32 0, .slice none 0 0] 27 #[.int .u8 0, .int .u8 0, .int .u16 0, .int .u32 0, .int .u32 0, .slice none 0 0] rfl HN.out rfl (by kernel_rfl) (by kernel_rfl) HB.out (Nat.le_refl _) ?_; rintro w9 w9h w9b w9o w9s; try simp only [Act.put, List.setIfInBounds_toArray, List.set_cons_zero, List.set_cons_succ])
  rw [upd_whole (by rfl)] at w9h
  refine bodyPost_ret (v := .tuple #[noP, .int .i64 11]) (results_cell_tmp Tryd.results14 _ w9 w.heap.size _ _ _ _ rfl w9h Tryd.underlying27 rfl (by kernel_rfl) _ rfl) rfl ⟨rfl, w9b⟩
set_option maxHeartbeats 2000000 in
theorem rrd_b2 (w : World) (a : Option Addr) (xs : List Int) (n cap x x2 x3 x6 x7 s : Nat) (hr : Row .u8 w a xs) (hl : xs.length = n) (hnc : n ≤ cap) (hb : ∀ x ∈ xs, 0 ≤ x ∧ x ≤ 255) (h20 : 20 ≤ n) (hn : n ≤ 4000) (hh : Hd5 xs x x2 x3 x6 x7) (hs : 256 * x2 + x3 = s) (h1 : x / 16 = 4) (h2 : x % 16 < 5) :
    Calls Tryd.prog 14 #[.slice a n cap] w (RdNo 11 w) := by
  obtain ⟨wq, hqq, hbel, hnew⟩ : ∃ V, w.alloc (.cells #[.int .u8 0, .int .u8 0, .int .u16 0, .int .u32 0, .int .u32 0, .slice none 0 0] 27) = V ∧ Below w.heap.size w V ∧ V.heap[w.heap.size]? = some (.cells #[.int .u8 0, .int .u8 0, .int .u16 0, .int .u32 0, .int .u32 0, .slice none 0 0] 27 (0, 0)) := ⟨_, rfl, (Below.refl _ _).alloc (Nat.le_refl _) _, heap_alloc_new _ _⟩
  have hrq := hr.below hbel (Nat.le_refl _)
  obtain ⟨b, off, rfl, hlt, hc⟩ := hrq.at (i := 0) (by omega)
  have c0 := hc 0 (by omega)
  have c2 := hc 2 (by omega)
  have c3 := hc 3 (by omega)
  have c6 := hc 6 (by omega)
  have c7 := hc 7 (by omega)
  rw [hh.h0] at c0
  rw [hh.h2] at c2
  rw [hh.h3] at c3
  rw [hh.h6] at c6
  rw [hh.h7] at c7
  rw [Nat.add_zero] at c0
  have i0 : (0 : Int) < (n : Int) := by omega
  have i2 : (2 : Int) < (n : Int) := by omega
  have i3 : (3 : Int) < (n : Int) := by omega
  have i6 : (6 : Int) < (n : Int) := by omega
  have i7 : (7 : Int) < (n : Int) := by omega
  have hb0 := hh.b0
  have hb2 := hh.b2
  have hb3 := hh.b3
  have hb6 := hh.b6
  have hb7 := hh.b7
  have HQ := hide hqq
  have HB := hide hbel
  have HN := hide hnew
  have HR := hide hrq
  have HL := hide hl
  have hn20 : ¬ ((n : Int) < 20) := by omega
  clear hqq hbel hnew hrq hr hl hc hb hh hlt
  go_enter Tryd.func14, Tryd.ntmps14
  go_upto_region 1 with (fail)
  rw [HQ.out]
  clear HQ
  go_wp2_with (refine st_part (o := ⟨none, _, _, _, _, _⟩) 27 (.tmp 2) (.tmp 24) rfl (by rfl) w.heap.size 0 rfl #[.int .u8 0, .int .u8 0, .int .u16 0, .int .u32 0, .int .u32 0, .slice none 0 0] 27 #[.int .u8 0, .int .u8 0, .int .u16 0, .int .u32 0, .int .u32 0, .slice none 0 0] rfl HN.out rfl (by kernel_rfl) (by kernel_rfl) HB.out (Nat.le_refl _) ?_; rintro w9 w9h w9b w9o w9s; try simp only [Act.put, List.setIfInBounds_toArray, List.set_cons_zero, List.set_cons_succ])
  rw [upd_whole (by rfl)] at w9h
  refine bodyPost_ret (v := .tuple #[noP, .int .i64 11]) (results_cell_tmp Tryd.results14 _ w9 w.heap.size _ _ _ _ rfl w9h Tryd.underlying27 rfl (by kernel_rfl) _ rfl) rfl ⟨rfl, w9b⟩
set_option maxHeartbeats 2000000 in
theorem rrd_b3 (w : World) (a : Option Addr) (xs : List Int) (n cap x x2 x3 x6 x7 s : Nat) (hr : Row .u8 w a xs) (hl : xs.length = n) (hnc : n ≤ cap) (hb : ∀ x ∈ xs, 0 ≤ x ∧ x ≤ 255) (h20 : 20 ≤ n) (hn : n ≤ 4000) (hh : Hd5 xs x x2 x3 x6 x7) (hs : 256 * x2 + x3 = s) (h1 : x / 16 = 4) (h2 : 5 < x % 16) :
    Calls Tryd.prog 14 #[.slice a n cap] w (RdNo 13 w) := by
  obtain ⟨wq, hqq, hbel, hnew⟩ : ∃ V, w.alloc (.cells #[.int .u8 0, .int .u8 0, .int .u16 0, .int .u32 0, .int .u32 0, .slice none 0 0] 27) = V ∧ Below w.heap.size w V ∧ V.heap[w.heap.size]? = some (.cells #[.int .u8 0, .int .u8 0, .int .u16 0, .int .u32 0, .int .u32 0, .slice none 0 0] 27 (0, 0)) := ⟨_, rfl, (Below.refl _ _).alloc (Nat.le_refl _) _, heap_alloc_new _ _⟩
  have hrq := hr.below hbel (Nat.le_refl _)
  obtain ⟨b, off, rfl, hlt, hc⟩ := hrq.at (i := 0) (by omega)
  have c0 := hc 0 (by omega)
  have c2 := hc 2 (by omega)
  have c3 := hc 3 (by omega)
  have c6 := hc 6 (by omega)
  have c7 := hc 7 (by omega)
  rw [hh.h0] at c0
  rw [hh.h2] at c2
  rw [hh.h3] at c3
  rw [hh.h6] at c6
  rw [hh.h7] at c7
  rw [Nat.add_zero] at c0
  have i0 : (0 : Int) < (n : Int) := by omega
  have i2 : (2 : Int) < (n : Int) := by omega
  have i3 : (3 : Int) < (n : Int) := by omega
  have i6 : (6 : Int) < (n : Int) := by omega
  have i7 : (7 : Int) < (n : Int) := by omega
  have hb0 := hh.b0
  have hb2 := hh.b2
  have hb3 := hh.b3
  have hb6 := hh.b6
  have hb7 := hh.b7
  have HQ := hide hqq
  have HB := hide hbel
  have HN := hide hnew
  have HR := hide hrq
  have HL := hide hl
  have hn20 : ¬ ((n : Int) < 20) := by omega
  clear hqq hbel hnew hrq hr hl hc hb hh hlt
  go_enter Tryd.func14, Tryd.ntmps14
  go_upto_region 1 with (fail)
  rw [HQ.out]
  clear HQ
  go_wp2_with (refine st_part (o := ⟨none, _, _, _, _, _⟩) 27 (.tmp 2) (.tmp 30) rfl (by rfl) w.heap.size 0 rfl #[.int .u8 0, .int .u8 0, .int .u16 0, .int .u32 0, .int .u32 0, .slice none 0 0] 27 #[.int .u8 0, .int .u8 0, .int .u16 0, .int .u32 0, .int .u32 0, .slice none 0 0] rfl HN.out rfl (by kernel_rfl) (by kernel_rfl) HB.out (Nat.le_refl _) ?_; rintro w9 w9h w9b w9o w9s; try simp only [Act.put, List.setIfInBounds_toArray, List.set_cons_zero, List.set_cons_succ])
  rw [upd_whole (by rfl)] at w9h
  refine bodyPost_ret (v := .tuple #[noP, .int .i64 13]) (results_cell_tmp Tryd.results14 _ w9 w.heap.size _ _ _ _ rfl w9h Tryd.underlying27 rfl (by kernel_rfl) _ rfl) rfl ⟨rfl, w9b⟩
set_option maxHeartbeats 2000000 in
theorem rrd_b4 (w : World) (a : Option Addr) (xs : List Int) (n cap x x2 x3 x6 x7 s : Nat) (hr : Row .u8 w a xs) (hl : xs.length = n) (hnc : n ≤ cap) (hb : ∀ x ∈ xs, 0 ≤ x ∧ x ≤ 255) (h20 : 20 ≤ n) (hn : n ≤ 4000) (hh : Hd5 xs x x2 x3 x6 x7) (hs : 256 * x2 + x3 = s) (h1 : x = 69) (h2 : s < 20) :
    Calls Tryd.prog 14 #[.slice a n cap] w (RdNo 10 w) := by
  obtain ⟨wq, hqq, hbel, hnew⟩ : ∃ V, w.alloc (.cells #[.int .u8 0, .int .u8 0, .int .u16 0, .int .u32 0, .int .u32 0, .slice none 0 0] 27) = V ∧ Below w.heap.size w V ∧ V.heap[w.heap.size]? = some (.cells #[.int .u8 0, .int .u8 0, .int .u16 0, .int .u32 0, .int .u32 0, .slice none 0 0] 27 (0, 0)) := ⟨_, rfl, (Below.refl _ _).alloc (Nat.le_refl _) _, heap_alloc_new _ _⟩
  have hrq := hr.below hbel (Nat.le_refl _)
  obtain ⟨b, off, rfl, hlt, hc⟩ := hrq.at (i := 0) (by omega)
  have c0 := hc 0 (by omega)
  have c2 := hc 2 (by omega)
  have c3 := hc 3 (by omega)
  have c6 := hc 6 (by omega)
  have c7 := hc 7 (by omega)
  rw [hh.h0] at c0
  rw [hh.h2] at c2
  rw [hh.h3] at c3
  rw [hh.h6] at c6
  rw [hh.h7] at c7
  rw [Nat.add_zero] at c0
  have i0 : (0 : Int) < (n : Int) := by omega
  have i2 : (2 : Int) < (n : Int) := by omega
  have i3 : (3 : Int) < (n : Int) := by omega
  have i6 : (6 : Int) < (n : Int) := by omega
  have i7 : (7 : Int) < (n : Int) := by omega
  have hb0 := hh.b0
  have hb2 := hh.b2
  have hb3 := hh.b3
  have hb6 := hh.b6
  have hb7 := hh.b7
  have HQ := hide hqq
  have HB := hide hbel
  have HN := hide hnew
  have HR := hide hrq
  have HL := hide hl
  have hn20 : ¬ ((n : Int) < 20) := by omega
  have m2 : IntKind.i64.wrap (256 * (x2 : Int)) = 256 * (x2 : Int) := IntWalk.i64_in _ (by omega)
  have m3 : IntKind.i64.wrap (256 * (x2 : Int) + (x3 : Int)) = (s : Int) := by rw [IntWalk.i64_in _ (by omega)]; omega
  clear hqq hbel hnew hrq hr hl hc hb hh hlt
  go_enter Tryd.func14, Tryd.ntmps14
  go_upto_region 1 with (fail)
  rw [HQ.out]
  clear HQ
  go_wp2_with fail
  go_quiet (fail)
  obtain ⟨w1, hw1, hb1⟩ : ∃ V, wq.drewN nq = V ∧ Below wq.heap.size wq V := ⟨_, rfl, bdrewN (Below.refl _ _) _⟩
  rw [hw1]
  have HN1 := hide (below_block hb1 HN.out (Nat.le_refl _))
  have HB1 := hide (HB.out.trans (hb1.mono HB.out.size))
  have HR1 := hide (HR.out.below hb1 (Nat.le_refl _))
  clear hw1 hb1 m2 m3
  go_wp2_with (refine st_part (o := ⟨none, _, _, _, _, _⟩) 27 (.tmp 2) (.tmp 49) rfl (by rfl) w.heap.size 0 rfl #[.int .u8 0, .int .u8 0, .int .u16 0, .int .u32 0, .int .u32 0, .slice none 0 0] 27 #[.int .u8 0, .int .u8 0, .int .u16 0, .int .u32 0, .int .u32 0, .slice none 0 0] rfl HN1.out rfl (by kernel_rfl) (by kernel_rfl) HB1.out (Nat.le_refl _) ?_; rintro w9 w9h w9b w9o w9s; try simp only [Act.put, List.setIfInBounds_toArray, List.set_cons_zero, List.set_cons_succ])
  rw [upd_whole (by rfl)] at w9h
  refine bodyPost_ret (v := .tuple #[noP, .int .i64 10]) (results_cell_tmp Tryd.results14 _ w9 w.heap.size _ _ _ _ rfl w9h Tryd.underlying27 rfl (by kernel_rfl) _ rfl) rfl ⟨rfl, w9b⟩
set_option maxHeartbeats 2000000 in
theorem rrd_b5 (w : World) (a : Option Addr) (xs : List Int) (n cap x x2 x3 x6 x7 s : Nat) (hr : Row .u8 w a xs) (hl : xs.length = n) (hnc : n ≤ cap) (hb : ∀ x ∈ xs, 0 ≤ x ∧ x ≤ 255) (h20 : 20 ≤ n) (hn : n ≤ 4000) (hh : Hd5 xs x x2 x3 x6 x7) (hs : 256 * x2 + x3 = s) (h1 : x = 69) (h0 : 20 ≤ s) (h2 : n < s) :
    Calls Tryd.prog 14 #[.slice a n cap] w (RdNo 10 w) := by
  obtain ⟨wq, hqq, hbel, hnew⟩ : ∃ V, w.alloc (.cells #[.int .u8 0, .int .u8 0, .int .u16 0, .int .u32 0, .int .u32 0, .slice none 0 0] 27) = V ∧ Below w.heap.size w V ∧ V.heap[w.heap.size]? = some (.cells #[.int .u8 0, .int .u8 0, .int .u16 0, .int .u32 0, .int .u32 0, .slice none 0 0] 27 (0, 0)) := ⟨_, rfl, (Below.refl _ _).alloc (Nat.le_refl _) _, heap_alloc_new _ _⟩
  have hrq := hr.below hbel (Nat.le_refl _)
  obtain ⟨b, off, rfl, hlt, hc⟩ := hrq.at (i := 0) (by omega)
  have c0 := hc 0 (by omega)
  have c2 := hc 2 (by omega)
  have c3 := hc 3 (by omega)
  have c6 := hc 6 (by omega)
  have c7 := hc 7 (by omega)
  rw [hh.h0] at c0
  rw [hh.h2] at c2
  rw [hh.h3] at c3
  rw [hh.h6] at c6
  rw [hh.h7] at c7
  rw [Nat.add_zero] at c0
  have i0 : (0 : Int) < (n : Int) := by omega
  have i2 : (2 : Int) < (n : Int) := by omega
  have i3 : (3 : Int) < (n : Int) := by omega
  have i6 : (6 : Int) < (n : Int) := by omega
  have i7 : (7 : Int) < (n : Int) := by omega
  have hb0 := hh.b0
  have hb2 := hh.b2
  have hb3 := hh.b3
  have hb6 := hh.b6
  have hb7 := hh.b7
  have HQ := hide hqq
  have HB := hide hbel
  have HN := hide hnew
  have HR := hide hrq
  have HL := hide hl
  have hn20 : ¬ ((n : Int) < 20) := by omega
  have m2 : IntKind.i64.wrap (256 * (x2 : Int)) = 256 * (x2 : Int) := IntWalk.i64_in _ (by omega)
  have m3 : IntKind.i64.wrap (256 * (x2 : Int) + (x3 : Int)) = (s : Int) := by rw [IntWalk.i64_in _ (by omega)]; omega
  clear hqq hbel hnew hrq hr hl hc hb hh hlt
  go_enter Tryd.func14, Tryd.ntmps14
  go_upto_region 1 with (fail)
  rw [HQ.out]
  clear HQ
  go_wp2_with fail
  go_quiet (fail)
  obtain ⟨w1, hw1, hb1⟩ : ∃ V, wq.drewN nq = V ∧ Below wq.heap.size wq V := ⟨_, rfl, bdrewN (Below.refl _ _) _⟩
  rw [hw1]
  have HN1 := hide (below_block hb1 HN.out (Nat.le_refl _))
  have HB1 := hide (HB.out.trans (hb1.mono HB.out.size))
  have HR1 := hide (HR.out.below hb1 (Nat.le_refl _))
  clear hw1 hb1 m2 m3
  go_wp2_with (refine st_part (o := ⟨none, _, _, _, _, _⟩) 27 (.tmp 2) (.tmp 49) rfl (by rfl) w.heap.size 0 rfl #[.int .u8 0, .int .u8 0, .int .u16 0, .int .u32 0, .int .u32 0, .slice none 0 0] 27 #[.int .u8 0, .int .u8 0, .int .u16 0, .int .u32 0, .int .u32 0, .slice none 0 0] rfl HN1.out rfl (by kernel_rfl) (by kernel_rfl) HB1.out (Nat.le_refl _) ?_; rintro w9 w9h w9b w9o w9s; try simp only [Act.put, List.setIfInBounds_toArray, List.set_cons_zero, List.set_cons_succ])
  rw [upd_whole (by rfl)] at w9h
  refine bodyPost_ret (v := .tuple #[noP, .int .i64 10]) (results_cell_tmp Tryd.results14 _ w9 w.heap.size _ _ _ _ rfl w9h Tryd.underlying27 rfl (by kernel_rfl) _ rfl) rfl ⟨rfl, w9b⟩
set_option maxHeartbeats 2000000 in
theorem rrd_b6 (w : World) (a : Option Addr) (xs : List Int) (n cap x x2 x3 x6 x7 s : Nat) (hr : Row .u8 w a xs) (hl : xs.length = n) (hnc : n ≤ cap) (hb : ∀ x ∈ xs, 0 ≤ x ∧ x ≤ 255) (h20 : 20 ≤ n) (hn : n ≤ 4000) (hh : Hd5 xs x x2 x3 x6 x7) (hs : 256 * x2 + x3 = s) (h1 : x = 69) (h0 : 20 ≤ s) (h2 : s ≤ n) (h3 : 1500 < s) :
    Calls Tryd.prog 14 #[.slice a n cap] w (RdNo 14 w) := by
  obtain ⟨wq, hqq, hbel, hnew⟩ : ∃ V, w.alloc (.cells #[.int .u8 0, .int .u8 0, .int .u16 0, .int .u32 0, .int .u32 0, .slice none 0 0] 27) = V ∧ Below w.heap.size w V ∧ V.heap[w.heap.size]? = some (.cells #[.int .u8 0, .int .u8 0, .int .u16 0, .int .u32 0, .int .u32 0, .slice none 0 0] 27 (0, 0)) := ⟨_, rfl, (Below.refl _ _).alloc (Nat.le_refl _) _, heap_alloc_new _ _⟩
  have hrq := hr.below hbel (Nat.le_refl _)
  obtain ⟨b, off, rfl, hlt, hc⟩ := hrq.at (i := 0) (by omega)
  have c0 := hc 0 (by omega)
  have c2 := hc 2 (by omega)
  have c3 := hc 3 (by omega)
  have c6 := hc 6 (by omega)
  have c7 := hc 7 (by omega)
  rw [hh.h0] at c0
  rw [hh.h2] at c2
  rw [hh.h3] at c3
  rw [hh.h6] at c6
  rw [hh.h7] at c7
  rw [Nat.add_zero] at c0
  have i0 : (0 : Int) < (n : Int) := by omega
  have i2 : (2 : Int) < (n : Int) := by omega
  have i3 : (3 : Int) < (n : Int) := by omega
  have i6 : (6 : Int) < (n : Int) := by omega
  have i7 : (7 : Int) < (n : Int) := by omega
  have hb0 := hh.b0
  have hb2 := hh.b2
  have hb3 := hh.b3
  have hb6 := hh.b6
  have hb7 := hh.b7
  have HQ := hide hqq
  have HB := hide hbel
  have HN := hide hnew
  have HR := hide hrq
  have HL := hide hl
  have hn20 : ¬ ((n : Int) < 20) := by omega
  have m2 : IntKind.i64.wrap (256 * (x2 : Int)) = 256 * (x2 : Int) := IntWalk.i64_in _ (by omega)
  have m3 : IntKind.i64.wrap (256 * (x2 : Int) + (x3 : Int)) = (s : Int) := by rw [IntWalk.i64_in _ (by omega)]; omega
  clear hqq hbel hnew hrq hr hl hc hb hh hlt
  go_enter Tryd.func14, Tryd.ntmps14
  go_upto_region 1 with (fail)
  rw [HQ.out]
  clear HQ
  go_wp2_with fail
  go_quiet (fail)
  obtain ⟨w1, hw1, hb1⟩ : ∃ V, wq.drewN nq = V ∧ Below wq.heap.size wq V := ⟨_, rfl, bdrewN (Below.refl _ _) _⟩
  rw [hw1]
  have HN1 := hide (below_block hb1 HN.out (Nat.le_refl _))
  have HB1 := hide (HB.out.trans (hb1.mono HB.out.size))
  have HR1 := hide (HR.out.below hb1 (Nat.le_refl _))
  clear hw1 hb1 m2 m3
  go_wp2_with (refine st_part (o := ⟨none, _, _, _, _, _⟩) 27 (.tmp 2) (.tmp 52) rfl (by rfl) w.heap.size 0 rfl #[.int .u8 0, .int .u8 0, .int .u16 0, .int .u32 0, .int .u32 0, .slice none 0 0] 27 #[.int .u8 0, .int .u8 0, .int .u16 0, .int .u32 0, .int .u32 0, .slice none 0 0] rfl HN1.out rfl (by kernel_rfl) (by kernel_rfl) HB1.out (Nat.le_refl _) ?_; rintro w9 w9h w9b w9o w9s; try simp only [Act.put, List.setIfInBounds_toArray, List.set_cons_zero, List.set_cons_succ])
  rw [upd_whole (by rfl)] at w9h
  refine bodyPost_ret (v := .tuple #[noP, .int .i64 14]) (results_cell_tmp Tryd.results14 _ w9 w.heap.size _ _ _ _ rfl w9h Tryd.underlying27 rfl (by kernel_rfl) _ rfl) rfl ⟨rfl, w9b⟩
set_option maxHeartbeats 2000000 in
theorem rrd_b7 (w : World) (a : Option Addr) (xs : List Int) (n cap x x2 x3 x6 x7 s : Nat) (hr : Row .u8 w a xs) (hl : xs.length = n) (hnc : n ≤ cap) (hb : ∀ x ∈ xs, 0 ≤ x ∧ x ≤ 255) (h20 : 20 ≤ n) (hn : n ≤ 4000) (hh : Hd5 xs x x2 x3 x6 x7) (hs : 256 * x2 + x3 = s) (h1 : x = 69) (h0 : 20 ≤ s) (h2 : s ≤ n) (h3 : s ≤ 1500) (hC : csum (xs.take 20) ≠ 0) :
    Calls Tryd.prog 14 #[.slice a n cap] w (RdNo 12 w) := by
  obtain ⟨wq, hqq, hbel, hnew⟩ : ∃ V, w.alloc (.cells #[.int .u8 0, .int .u8 0, .int .u16 0, .int .u32 0, .int .u32 0, .slice none 0 0] 27) = V ∧ Below w.heap.size w V ∧ V.heap[w.heap.size]? = some (.cells #[.int .u8 0, .int .u8 0, .int .u16 0, .int .u32 0, .int .u32 0, .slice none 0 0] 27 (0, 0)) := ⟨_, rfl, (Below.refl _ _).alloc (Nat.le_refl _) _, heap_alloc_new _ _⟩
  have hrq := hr.below hbel (Nat.le_refl _)
  obtain ⟨b, off, rfl, hlt, hc⟩ := hrq.at (i := 0) (by omega)
  have c0 := hc 0 (by omega)
  have c2 := hc 2 (by omega)
  have c3 := hc 3 (by omega)
  have c6 := hc 6 (by omega)
  have c7 := hc 7 (by omega)
  rw [hh.h0] at c0
  rw [hh.h2] at c2
  rw [hh.h3] at c3
  rw [hh.h6] at c6
  rw [hh.h7] at c7
  rw [Nat.add_zero] at c0
  have i0 : (0 : Int) < (n : Int) := by omega
  have i2 : (2 : Int) < (n : Int) := by omega
  have i3 : (3 : Int) < (n : Int) := by omega
  have i6 : (6 : Int) < (n : Int) := by omega
  have i7 : (7 : Int) < (n : Int) := by omega
  have hb0 := hh.b0
  have hb2 := hh.b2
  have hb3 := hh.b3
  have hb6 := hh.b6
  have hb7 := hh.b7
  have HQ := hide hqq
  have HB := hide hbel
  have HN := hide hnew
  have HR := hide hrq
  have HL := hide hl
  have hn20 : ¬ ((n : Int) < 20) := by omega
  have HSU := hide (fun (W : World) (hW : Row .u8 W (some ⟨b, off, none⟩) xs) => by
    have := refSum_any (some ⟨b, off, none⟩) (xs.take 20) cap W (row_take hW 20) (fun y hy => hb y (List.mem_of_mem_take hy)) (by rw [List.length_take]; omega)
    rw [show (xs.take 20).length = 20 by rw [List.length_take]; omega] at this
    exact this)
  have hc20 : (20 : Int) ≤ (cap : Int) := by omega
  have t12 : (csum (xs.take 20) != 0) = true := by simpa using hC
  generalize csum (xs.take 20) = CC at *
  have m2 : IntKind.i64.wrap (256 * (x2 : Int)) = 256 * (x2 : Int) := IntWalk.i64_in _ (by omega)
  have m3 : IntKind.i64.wrap (256 * (x2 : Int) + (x3 : Int)) = (s : Int) := by rw [IntWalk.i64_in _ (by omega)]; omega
  clear hqq hbel hnew hrq hr hl hc hb hh hlt
  go_enter Tryd.func14, Tryd.ntmps14
  go_upto_region 1 with (fail)
  rw [HQ.out]
  clear HQ
  go_wp2_with fail
  go_quiet (fail)
  obtain ⟨w1, hw1, hb1⟩ : ∃ V, wq.drewN nq = V ∧ Below wq.heap.size wq V := ⟨_, rfl, bdrewN (Below.refl _ _) _⟩
  rw [hw1]
  have HN1 := hide (below_block hb1 HN.out (Nat.le_refl _))
  have HB1 := hide (HB.out.trans (hb1.mono HB.out.size))
  have HR1 := hide (HR.out.below hb1 (Nat.le_refl _))
  clear hw1 hb1 m2 m3
  go_wp2_with fail
  refine (HSU.out w1 HR1.out).mono ?_
  rintro e w2 ⟨rfl, b2⟩
  have HN2 := hide (below_block b2 HN1.out (Nat.le_refl _))
  have HB2 := hide (HB1.out.trans (b2.mono HB1.out.size))
  have HR2 := hide (HR1.out.below b2 (Nat.le_refl _))
  clear b2 HSU
  go_wp2_with (refine st_part (o := ⟨none, _, _, _, _, _⟩) 27 (.tmp 2) (.tmp 57) rfl (by rfl) w.heap.size 0 rfl #[.int .u8 0, .int .u8 0, .int .u16 0, .int .u32 0, .int .u32 0, .slice none 0 0] 27 #[.int .u8 0, .int .u8 0, .int .u16 0, .int .u32 0, .int .u32 0, .slice none 0 0] rfl HN2.out rfl (by kernel_rfl) (by kernel_rfl) HB2.out (Nat.le_refl _) ?_; rintro w9 w9h w9b w9o w9s; try simp only [Act.put, List.setIfInBounds_toArray, List.set_cons_zero, List.set_cons_succ])
  rw [upd_whole (by rfl)] at w9h
  refine bodyPost_ret (v := .tuple #[noP, .int .i64 12]) (results_cell_tmp Tryd.results14 _ w9 w.heap.size _ _ _ _ rfl w9h Tryd.underlying27 rfl (by kernel_rfl) _ rfl) rfl ⟨rfl, w9b⟩
set_option maxHeartbeats 2000000 in
theorem rrd_b8 (w : World) (a : Option Addr) (xs : List Int) (n cap x x2 x3 x6 x7 s : Nat) (hr : Row .u8 w a xs) (hl : xs.length = n) (hnc : n ≤ cap) (hb : ∀ x ∈ xs, 0 ≤ x ∧ x ≤ 255) (h20 : 20 ≤ n) (hn : n ≤ 4000) (hh : Hd5 xs x x2 x3 x6 x7) (hs : 256 * x2 + x3 = s) (h1 : x = 69) (h0 : 20 ≤ s) (h2 : s ≤ n) (h3 : s ≤ 1500) (hC : csum (xs.take 20) = 0) (hM0 : (256 * x6 + x7) % 16384 ≠ 0) :
    Calls Tryd.prog 14 #[.slice a n cap] w (RdNo 13 w) := by
  obtain ⟨wq, hqq, hbel, hnew⟩ : ∃ V, w.alloc (.cells #[.int .u8 0, .int .u8 0, .int .u16 0, .int .u32 0, .int .u32 0, .slice none 0 0] 27) = V ∧ Below w.heap.size w V ∧ V.heap[w.heap.size]? = some (.cells #[.int .u8 0, .int .u8 0, .int .u16 0, .int .u32 0, .int .u32 0, .slice none 0 0] 27 (0, 0)) := ⟨_, rfl, (Below.refl _ _).alloc (Nat.le_refl _) _, heap_alloc_new _ _⟩
  have hrq := hr.below hbel (Nat.le_refl _)
  obtain ⟨b, off, rfl, hlt, hc⟩ := hrq.at (i := 0) (by omega)
  have c0 := hc 0 (by omega)
  have c2 := hc 2 (by omega)
  have c3 := hc 3 (by omega)
  have c6 := hc 6 (by omega)
  have c7 := hc 7 (by omega)
  rw [hh.h0] at c0
  rw [hh.h2] at c2
  rw [hh.h3] at c3
  rw [hh.h6] at c6
  rw [hh.h7] at c7
  rw [Nat.add_zero] at c0
  have i0 : (0 : Int) < (n : Int) := by omega
  have i2 : (2 : Int) < (n : Int) := by omega
  have i3 : (3 : Int) < (n : Int) := by omega
  have i6 : (6 : Int) < (n : Int) := by omega
  have i7 : (7 : Int) < (n : Int) := by omega
  have hb0 := hh.b0
  have hb2 := hh.b2
  have hb3 := hh.b3
  have hb6 := hh.b6
  have hb7 := hh.b7
  have HQ := hide hqq
  have HB := hide hbel
  have HN := hide hnew
  have HR := hide hrq
  have HL := hide hl
  have HH := hide hh
  have hn20 : ¬ ((n : Int) < 20) := by omega
  have HSU := hide (fun (W : World) (hW : Row .u8 W (some ⟨b, off, none⟩) xs) => by
    have := refSum_any (some ⟨b, off, none⟩) (xs.take 20) cap W (row_take hW 20) (fun y hy => hb y (List.mem_of_mem_take hy)) (by rw [List.length_take]; omega)
    rw [show (xs.take 20).length = 20 by rw [List.length_take]; omega] at this
    exact this)
  have hc20 : (20 : Int) ≤ (cap : Int) := by omega
  rw [hC] at HSU
  have m2 : IntKind.i64.wrap (256 * (x2 : Int)) = 256 * (x2 : Int) := IntWalk.i64_in _ (by omega)
  have m3 : IntKind.i64.wrap (256 * (x2 : Int) + (x3 : Int)) = (s : Int) := by rw [IntWalk.i64_in _ (by omega)]; omega
  clear hqq hbel hnew hrq hr hl hc hb hh hlt
  go_enter Tryd.func14, Tryd.ntmps14
  go_upto_region 1 with (fail)
  rw [HQ.out]
  clear HQ
  go_wp2_with fail
  go_quiet (fail)
  obtain ⟨w1, hw1, hb1⟩ : ∃ V, wq.drewN nq = V ∧ Below wq.heap.size wq V := ⟨_, rfl, bdrewN (Below.refl _ _) _⟩
  rw [hw1]
  have HN1 := hide (below_block hb1 HN.out (Nat.le_refl _))
  have HB1 := hide (HB.out.trans (hb1.mono HB.out.size))
  have HR1 := hide (HR.out.below hb1 (Nat.le_refl _))
  clear hw1 hb1 m2 m3
  go_wp2_with fail
  refine (HSU.out w1 HR1.out).mono ?_
  rintro e w2 ⟨rfl, b2⟩
  have HN2 := hide (below_block b2 HN1.out (Nat.le_refl _))
  have HB2 := hide (HB1.out.trans (b2.mono HB1.out.size))
  have HR2 := hide (HR1.out.below b2 (Nat.le_refl _))
  clear b2 HSU
  obtain ⟨b', off', hbe, hlt, hc⟩ := HR2.out.at (i := 0) (by have := HL.out; omega)
  cases hbe
  have e6 := hc 6 (by have := HL.out; omega)
  have e7 := hc 7 (by have := HL.out; omega)
  rw [HH.out.h6] at e6
  rw [HH.out.h7] at e7
  clear hc hlt c0 c2 c3 c6 c7
  have m6 : IntKind.i64.wrap (256 * (x6 : Int)) = 256 * (x6 : Int) := IntWalk.i64_in _ (by omega)
  have m7 : IntKind.i64.wrap (256 * (x6 : Int) + (x7 : Int)) = 256 * (x6 : Int) + (x7 : Int) := IntWalk.i64_in _ (by omega)
  have hM : 0 ≤ 256 * (x6 : Int) + (x7 : Int) := by omega
  go_wp2_with fail
  go_quiet (fail)
  obtain ⟨w3, hw3, hb3⟩ : ∃ V, w2.drewN nq = V ∧ Below w2.heap.size w2 V := ⟨_, rfl, bdrewN (Below.refl _ _) _⟩
  rw [hw3]
  have HN3 := hide (below_block hb3 HN2.out (Nat.le_refl _))
  have HB3 := hide (HB2.out.trans (hb3.mono HB2.out.size))
  clear hw3 hb3 m6 m7 e6 e7
  go_wp2_with (refine st_part (o := ⟨none, _, _, _, _, _⟩) 27 (.tmp 2) (.tmp 70) rfl (by rfl) w.heap.size 0 rfl #[.int .u8 0, .int .u8 0, .int .u16 0, .int .u32 0, .int .u32 0, .slice none 0 0] 27 #[.int .u8 0, .int .u8 0, .int .u16 0, .int .u32 0, .int .u32 0, .slice none 0 0] rfl HN3.out rfl (by kernel_rfl) (by kernel_rfl) HB3.out (Nat.le_refl _) ?_; rintro w9 w9h w9b w9o w9s; try simp only [Act.put, List.setIfInBounds_toArray, List.set_cons_zero, List.set_cons_succ])
  rw [upd_whole (by rfl)] at w9h
  refine bodyPost_ret (v := .tuple #[noP, .int .i64 13]) (results_cell_tmp Tryd.results14 _ w9 w.heap.size _ _ _ _ rfl w9h Tryd.underlying27 rfl (by kernel_rfl) _ rfl) rfl ⟨rfl, w9b⟩
end Go.Proofs.YtlipckpacdioiaaDoor
