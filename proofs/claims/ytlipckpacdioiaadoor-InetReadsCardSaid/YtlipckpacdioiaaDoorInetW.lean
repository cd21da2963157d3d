/- What inet.Write answers. -/
import Derived.Test.YtlipckpacdioiaaDoorFlRw
namespace Go.Proofs.YtlipckpacdioiaaDoor
open Go.RowKit
set_option linter.unusedVariables false
set_option linter.unusedSimpArgs false
set_option maxRecDepth 100000
theorem lit4_row {V w' : World} {x y z u : Int} (h : Below (V.alloc (.cells #[.int .u8 x, .int .u8 y, .int .u8 z, .int .u8 u] 5)).heap.size (V.alloc (.cells #[.int .u8 x, .int .u8 y, .int .u8 z, .int .u8 u] 5)) w') : Row .u8 w' (some ⟨V.heap.size, 0, none⟩) [x, y, z, u] :=
  (Row.of_owns (k := .u8) (xs := [x, y, z, u]) (base := V.heap.size) (e := 5) (n := 4) (cap := 4) (World.ownsRow_lit V #[.int .u8 x, .int .u8 y, .int .u8 z, .int .u8 u] 4 (Nat.le_refl _) (by unfold maxLen; omega) rfl)).below h (Nat.le_refl _)
theorem lit4_rowS {V w' : World} {o : Obj} {x y z u : Int} (h : Below ((V.alloc o).alloc (.cells #[.int .u8 x, .int .u8 y, .int .u8 z, .int .u8 u] 5)).heap.size ((V.alloc o).alloc (.cells #[.int .u8 x, .int .u8 y, .int .u8 z, .int .u8 u] 5)) w') : Row .u8 w' (some ⟨V.heap.size + 1, 0, none⟩) [x, y, z, u] := by
  have h1 := lit4_row h
  rw [show (V.alloc o).heap.size = V.heap.size + 1 by simp] at h1
  exact h1
theorem lit_rowS {V w' : World} {o : Obj} {x y : Int} (h : Below ((V.alloc o).alloc (.cells #[.int .u8 x, .int .u8 y] 5)).heap.size ((V.alloc o).alloc (.cells #[.int .u8 x, .int .u8 y] 5)) w') : Row .u8 w' (some ⟨V.heap.size + 1, 0, none⟩) [x, y] := by
  have h1 := lit_row h
  rw [show (V.alloc o).heap.size = V.heap.size + 1 by simp] at h1
  exact h1
theorem numh_any (n : Nat) (w : World) (hn : n ≤ 100000) :
    Calls Tryd.prog 21 #[.int .i64 2, .int .u64 (20 + (n : Int))] w fun e w' => e = .returned (.slice (some ⟨w.heap.size, 0, none⟩) 2 2) ∧ w'.ownsRow w.heap.size 5 1 (.slice (some ⟨w.heap.size, 0, none⟩) 2 2) 2 ((numB 2 (20 + n)).map (Value.int .u8)) ∧ Below w.heap.size w w' := by
  have h := num2_any (20 + n) w (by omega)
  rw [show ((20 + n : Nat) : Int) = 20 + (n : Int) by omega] at h
  exact h
def ipFr (tt P id n : Nat) : List Int := [69, 0] ++ (numB 2 (20 + n) ++ (numB 2 id ++ [64, 0, (tt : Int), (P : Int)]))
def ipEn (s d : Nat) : List Int := numB 4 s ++ numB 4 d
theorem ipFr_len (tt P id n : Nat) : (ipFr tt P id n).length = 10 := by simp [ipFr, numB_len]
theorem ipEn_len (s d : Nat) : (ipEn s d).length = 8 := by simp [ipEn, numB_len]
theorem ipH_split (tt P id s d n k : Nat) : ipH tt P id s d n k = ipFr tt P id n ++ (numB 2 k ++ ipEn s d) := by simp [ipH, ipFr, ipEn]
theorem ipEn_rng (s d : Nat) : ∀ x ∈ ipEn s d, 0 ≤ x ∧ x ≤ 255 := by
  intro x hx
  rcases List.mem_append.1 hx with h | h
  · exact numB_rng _ _ x h
  · exact numB_rng _ _ x h
theorem ipFr_rng (tt P id n : Nat) (ht : tt ≤ 255) (hP : P ≤ 255) : ∀ x ∈ ipFr tt P id n, 0 ≤ x ∧ x ≤ 255 := fun x hx => ipH_rng tt P id 0 0 n 0 ht hP x (by rw [ipH_split]; exact List.mem_append_left _ hx)
theorem ipK_split (tt P id s d n : Nat) : csum (ipFr tt P id n ++ ipEn s d) = ((ipK tt P id s d n : Nat) : Int) := by
  have h1 : csum (ipH tt P id s d n 0) = csum (ipFr tt P id n ++ ipEn s d) := by
    unfold csum
    rw [ipH_split, psum_append _ _ (by rw [ipFr_len]), psum_append _ _ (by rw [numB_len]), psum_append _ _ (by rw [ipFr_len]), show numB 2 0 = [0, 0] from rfl, psum_pair]
    simp
  have h2 := csum_rng (ipH tt P id s d n 0)
  rw [← h1]
  unfold ipK
  omega
theorem wip_long (w : World) (tt P id s d : Int) (da : Option Addr) (n dc : Nat) (h : 1480 < n) :
    Calls Tryd.prog 10 #[.agg #[.int .u8 tt, .int .u8 P, .int .u16 id, .int .u32 s, .int .u32 d, .slice da n dc]] w fun e w' => e = .returned (.tuple #[.slice none 0 0, .int .i64 14]) ∧ Below w.heap.size w w' := by
  go_enter Tryd.func10, Tryd.ntmps10
  go_wp2
  go_ret2
  exact ⟨rfl, (Below.refl _ _).alloc (Nat.le_refl _) _⟩
set_option maxHeartbeats 4000000 in
theorem wip_ok (w : World) (tt P id s d : Nat) (da : Option Addr) (xs : List Int) (n dc : Nat) (hr : Row .u8 w da xs) (hn : da = none → dc = 0) (hl : xs.length = n) (h1 : n ≤ 1480) (ht : tt ≤ 255) (hP : P ≤ 255) (hid : id ≤ 65535) (hs : s ≤ 4294967295) (hd : d ≤ 4294967295) :
    Calls Tryd.prog 10 #[.agg #[.int .u8 (tt : Int), .int .u8 (P : Int), .int .u16 (id : Int), .int .u32 (s : Int), .int .u32 (d : Int), .slice da n dc]] w fun e w' => ∃ a c,
      e = .returned (.tuple #[.slice a (20 + n) c, .int .i64 0]) ∧ w'.ownsRow w.heap.size 5 1 (.slice a (20 + n) c) (20 + n) ((ipG tt P id s d xs).map (Value.int .u8)) ∧ Below w.heap.size w w' := by
  have HR := hide hr
  have HN := hide hn
  have HL := hide hl
  have hd0 : decide ((1480 : Int) < (n : Int)) = false := by simp; omega
  have hw1 : IntKind.i64.wrap (20 + (n : Int)) = 20 + (n : Int) := IntWalk.i64_in _ (by omega)
  have hw2 : IntKind.u64.wrap (20 + (n : Int)) = 20 + (n : Int) := wraps_u64 _ (by omega) (by omega)
  have hw3 : IntKind.u64.wrap (id : Int) = (id : Int) := wraps_u64 _ (by omega) (by omega)
  have hw4 : IntKind.u64.wrap (s : Int) = (s : Int) := wraps_u64 _ (by omega) (by omega)
  have hw5 : IntKind.u64.wrap (d : Int) = (d : Int) := wraps_u64 _ (by omega) (by omega)
  clear hr hn hl
  go_enter Tryd.func10, Tryd.ntmps10
  go_upto_region 1 with (fail)
  obtain ⟨B0, w0, hB, hqq, hl0, hbel, hheap⟩ : ∃ B0 wq, w.heap.size = B0 ∧ w.alloc (.cells #[.int .u8 (tt : Int), .int .u8 (P : Int), .int .u16 (id : Int), .int .u32 (s : Int), .int .u32 (d : Int), .slice da n dc] 27) = wq ∧ B0 < wq.heap.size ∧ Below w.heap.size w wq ∧
      wq.heap[B0]? = some (.cells #[.int .u8 (tt : Int), .int .u8 (P : Int), .int .u16 (id : Int), .int .u32 (s : Int), .int .u32 (d : Int), .slice da n dc] 27 (0, 0)) := ⟨_, _, rfl, rfl, by simp, (Below.refl _ _).alloc (Nat.le_refl _) _, heap_alloc_new _ _⟩
  try rw [hqq]
  try rw [hB]
  have HB := hide hB
  have k0_0 : w0.cell? ⟨B0, 0, none⟩ = some (.int .u8 (tt : Int)) := cell_at hheap 0 rfl
  have k0_1 : w0.cell? ⟨B0, 1, none⟩ = some (.int .u8 (P : Int)) := cell_at hheap 1 rfl
  have k0_2 : w0.cell? ⟨B0, 2, none⟩ = some (.int .u16 (id : Int)) := cell_at hheap 2 rfl
  have k0_3 : w0.cell? ⟨B0, 3, none⟩ = some (.int .u32 (s : Int)) := cell_at hheap 3 rfl
  have k0_4 : w0.cell? ⟨B0, 4, none⟩ = some (.int .u32 (d : Int)) := cell_at hheap 4 rfl
  have k0_5 : w0.cell? ⟨B0, 5, none⟩ = some (.slice da n dc) := cell_at hheap 5 rfl
  have RS := hide (HR.out.below hbel (Nat.le_refl _))
  have BE := hide hbel
  have BW := hide (Below.refl w0.heap.size w0)
  clear hqq hB hheap hbel
  go_upto_region 3 with (fail)
  go_cut [4] (fun bv wx => ∃ a c, bv = .slice a 10 c ∧ Hid (wx.ownsRow w0.heap.size 5 1 (.slice a 10 c) 10 ((ipFr tt P id n).map (Value.int .u8))) ∧ Hid (Below w0.heap.size w0 wx))
  case first =>
    go_region_held3 (fun w' => w'.cell? ⟨B0, 0, none⟩ = some (.int .u8 (tt : Int)) ∧ w'.cell? ⟨B0, 1, none⟩ = some (.int .u8 (P : Int)) ∧ w'.cell? ⟨B0, 2, none⟩ = some (.int .u16 (id : Int)) ∧ w'.cell? ⟨B0, 3, none⟩ = some (.int .u32 (s : Int)) ∧ w'.cell? ⟨B0, 4, none⟩ = some (.int .u32 (d : Int)) ∧ w'.cell? ⟨B0, 5, none⟩ = some (.slice da n dc)) (go_keep) (first
      | (go_at_call 21; (with_reducible refine (numh_any n _ ?_).mono ?_); (omega); rintro e w1 ⟨rfl, o, b⟩; (try replace b := below_of_drew b); have B1 : Below w0.heap.size w0 w1 := (by first | exact b | exact bel_lit b | exact bel_lit (bel_lit b)); have k1_0 : w1.cell? ⟨B0, 0, none⟩ = some (.int .u8 (tt : Int)) := (bcell B1 B0 0 hl0).trans k0_0; have k1_1 : w1.cell? ⟨B0, 1, none⟩ = some (.int .u8 (P : Int)) := (bcell B1 B0 1 hl0).trans k0_1; have k1_2 : w1.cell? ⟨B0, 2, none⟩ = some (.int .u16 (id : Int)) := (bcell B1 B0 2 hl0).trans k0_2; have k1_3 : w1.cell? ⟨B0, 3, none⟩ = some (.int .u32 (s : Int)) := (bcell B1 B0 3 hl0).trans k0_3; have k1_4 : w1.cell? ⟨B0, 4, none⟩ = some (.int .u32 (d : Int)) := (bcell B1 B0 4 hl0).trans k0_4; have k1_5 : w1.cell? ⟨B0, 5, none⟩ = some (.slice da n dc) := (bcell B1 B0 5 hl0).trans k0_5; have hl1 : B0 < w1.heap.size := Nat.lt_of_lt_of_le hl0 B1.size; have R1 := hide (Row.of_owns o); have RS := hide (RS.out.below B1 (Nat.le_refl _)); have BW := hide (BW.out.trans (B1.mono BW.out.size)); (try have RA := hide (RA.out.below B1 (Nat.le_refl _))); (try have RZ := hide (RZ.out.below B1 (Nat.le_refl _))); (first | (have RA := hide (lit_row (bel_lit b)); have RZ := hide (lit4_rowS b)) | (have RZ := hide (lit4_row (bel_lit b)); have RA := hide (lit_rowS b)) | (have RA := hide (lit_row b)) | (have RZ := hide (lit4_row b)) | skip); clear o b B1 k0_0 k0_1 k0_2 k0_3 k0_4 k0_5)
      | (go_at_call 21; (with_reducible refine (num2_any id _ ?_).mono ?_); (omega); rintro e w2 ⟨rfl, o, b⟩; (try replace b := below_of_drew b); have B2 : Below w1.heap.size w1 w2 := (by first | exact b | exact bel_lit b | exact bel_lit (bel_lit b)); have k2_0 : w2.cell? ⟨B0, 0, none⟩ = some (.int .u8 (tt : Int)) := (bcell B2 B0 0 hl1).trans k1_0; have k2_1 : w2.cell? ⟨B0, 1, none⟩ = some (.int .u8 (P : Int)) := (bcell B2 B0 1 hl1).trans k1_1; have k2_2 : w2.cell? ⟨B0, 2, none⟩ = some (.int .u16 (id : Int)) := (bcell B2 B0 2 hl1).trans k1_2; have k2_3 : w2.cell? ⟨B0, 3, none⟩ = some (.int .u32 (s : Int)) := (bcell B2 B0 3 hl1).trans k1_3; have k2_4 : w2.cell? ⟨B0, 4, none⟩ = some (.int .u32 (d : Int)) := (bcell B2 B0 4 hl1).trans k1_4; have k2_5 : w2.cell? ⟨B0, 5, none⟩ = some (.slice da n dc) := (bcell B2 B0 5 hl1).trans k1_5; have hl2 : B0 < w2.heap.size := Nat.lt_of_lt_of_le hl1 B2.size; have R1 := hide (R1.out.below B2 (Nat.le_refl _)); have R2 := hide (Row.of_owns o); have RS := hide (RS.out.below B2 (Nat.le_refl _)); have BW := hide (BW.out.trans (B2.mono BW.out.size)); (try have RA := hide (RA.out.below B2 (Nat.le_refl _))); (try have RZ := hide (RZ.out.below B2 (Nat.le_refl _))); (first | (have RA := hide (lit_row (bel_lit b)); have RZ := hide (lit4_rowS b)) | (have RZ := hide (lit4_row (bel_lit b)); have RA := hide (lit_rowS b)) | (have RA := hide (lit_row b)) | (have RZ := hide (lit4_row b)) | skip); clear o b B2 k1_0 k1_1 k1_2 k1_3 k1_4 k1_5)
      | (go_at_call 20; have hrows := hide (rows_some (c := 2) RA.out (rows_some (c := 2) R1.out (rows_some (c := 2) R2.out (rows_some (c := 4) RZ.out (rows_nil _))))); (with_reducible refine (joinL w2 _ _ 4 10 _ ?_ rfl (by simp [Part.v, numB_len]) hrows.out (by simp [flat, numB_len]) (by omega) (by omega)).mono ?_); (rfl); rintro e wj ⟨aj, cj, rfl, oj, bj⟩; have OJ := hide (owns_mono oj BW.out.size); have BJ := hide bj; have kj_0 : wj.cell? ⟨B0, 0, none⟩ = some (.int .u8 (tt : Int)) := (bcell BJ.out B0 0 hl2).trans k2_0; have kj_1 : wj.cell? ⟨B0, 1, none⟩ = some (.int .u8 (P : Int)) := (bcell BJ.out B0 1 hl2).trans k2_1; have kj_2 : wj.cell? ⟨B0, 2, none⟩ = some (.int .u16 (id : Int)) := (bcell BJ.out B0 2 hl2).trans k2_2; have kj_3 : wj.cell? ⟨B0, 3, none⟩ = some (.int .u32 (s : Int)) := (bcell BJ.out B0 3 hl2).trans k2_3; have kj_4 : wj.cell? ⟨B0, 4, none⟩ = some (.int .u32 (d : Int)) := (bcell BJ.out B0 4 hl2).trans k2_4; have kj_5 : wj.cell? ⟨B0, 5, none⟩ = some (.slice da n dc) := (bcell BJ.out B0 5 hl2).trans k2_5; clear oj bj)
      | (go_at_call 20; have BA : Below w2.heap.size w2 (w2.alloc (.cells #[.int .u8 69, .int .u8 0] 5)) := (Below.refl _ _).alloc (Nat.le_refl _) _; have hrows := hide (rows_some (c := 2) (lit_row (Below.refl _ _)) (rows_some (c := 2) (Row.below (R1.out) BA (Nat.le_refl _)) (rows_some (c := 2) (Row.below (R2.out) BA (Nat.le_refl _)) (rows_some (c := 4) (Row.below (RZ.out) BA (Nat.le_refl _)) (rows_nil _))))); (with_reducible refine (joinL (w2.alloc (.cells #[.int .u8 69, .int .u8 0] 5)) _ _ 4 10 _ ?_ rfl (by simp [Part.v, numB_len]) hrows.out (by simp [flat, numB_len]) (by omega) (by omega)).mono ?_); (simp); rintro e wj ⟨aj, cj, rfl, oj, bj⟩; have OJ := hide (owns_mono oj (Nat.le_trans BW.out.size BA.size)); have BJ := hide (BA.trans (bj.mono BA.size)); have kj_0 : wj.cell? ⟨B0, 0, none⟩ = some (.int .u8 (tt : Int)) := (bcell BJ.out B0 0 hl2).trans k2_0; have kj_1 : wj.cell? ⟨B0, 1, none⟩ = some (.int .u8 (P : Int)) := (bcell BJ.out B0 1 hl2).trans k2_1; have kj_2 : wj.cell? ⟨B0, 2, none⟩ = some (.int .u16 (id : Int)) := (bcell BJ.out B0 2 hl2).trans k2_2; have kj_3 : wj.cell? ⟨B0, 3, none⟩ = some (.int .u32 (s : Int)) := (bcell BJ.out B0 3 hl2).trans k2_3; have kj_4 : wj.cell? ⟨B0, 4, none⟩ = some (.int .u32 (d : Int)) := (bcell BJ.out B0 4 hl2).trans k2_4; have kj_5 : wj.cell? ⟨B0, 5, none⟩ = some (.slice da n dc) := (bcell BJ.out B0 5 hl2).trans k2_5; clear oj bj)
      | (go_at_call 20; have BA : Below w2.heap.size w2 (w2.alloc (.cells #[.int .u8 64, .int .u8 0, .int .u8 (tt : Int), .int .u8 (P : Int)] 5)) := (Below.refl _ _).alloc (Nat.le_refl _) _; have hrows := hide (rows_some (c := 2) (Row.below (RA.out) BA (Nat.le_refl _)) (rows_some (c := 2) (Row.below (R1.out) BA (Nat.le_refl _)) (rows_some (c := 2) (Row.below (R2.out) BA (Nat.le_refl _)) (rows_some (c := 4) (lit4_row (Below.refl _ _)) (rows_nil _))))); (with_reducible refine (joinL (w2.alloc (.cells #[.int .u8 64, .int .u8 0, .int .u8 (tt : Int), .int .u8 (P : Int)] 5)) _ _ 4 10 _ ?_ rfl (by simp [Part.v, numB_len]) hrows.out (by simp [flat, numB_len]) (by omega) (by omega)).mono ?_); (simp); rintro e wj ⟨aj, cj, rfl, oj, bj⟩; have OJ := hide (owns_mono oj (Nat.le_trans BW.out.size BA.size)); have BJ := hide (BA.trans (bj.mono BA.size)); have kj_0 : wj.cell? ⟨B0, 0, none⟩ = some (.int .u8 (tt : Int)) := (bcell BJ.out B0 0 hl2).trans k2_0; have kj_1 : wj.cell? ⟨B0, 1, none⟩ = some (.int .u8 (P : Int)) := (bcell BJ.out B0 1 hl2).trans k2_1; have kj_2 : wj.cell? ⟨B0, 2, none⟩ = some (.int .u16 (id : Int)) := (bcell BJ.out B0 2 hl2).trans k2_2; have kj_3 : wj.cell? ⟨B0, 3, none⟩ = some (.int .u32 (s : Int)) := (bcell BJ.out B0 3 hl2).trans k2_3; have kj_4 : wj.cell? ⟨B0, 4, none⟩ = some (.int .u32 (d : Int)) := (bcell BJ.out B0 4 hl2).trans k2_4; have kj_5 : wj.cell? ⟨B0, 5, none⟩ = some (.slice da n dc) := (bcell BJ.out B0 5 hl2).trans k2_5; clear oj bj)
      | (go_at_call 20; have BA : Below w2.heap.size w2 ((w2.alloc (.cells #[.int .u8 69, .int .u8 0] 5)).alloc (.cells #[.int .u8 64, .int .u8 0, .int .u8 (tt : Int), .int .u8 (P : Int)] 5)) := ((Below.refl _ _).alloc (Nat.le_refl _) _).alloc (by simp) _; have hrows := hide (rows_some (c := 2) (lit_row (bel_lit (Below.refl _ _))) (rows_some (c := 2) (Row.below (R1.out) BA (Nat.le_refl _)) (rows_some (c := 2) (Row.below (R2.out) BA (Nat.le_refl _)) (rows_some (c := 4) (lit4_rowS (Below.refl _ _)) (rows_nil _))))); (with_reducible refine (joinL ((w2.alloc (.cells #[.int .u8 69, .int .u8 0] 5)).alloc (.cells #[.int .u8 64, .int .u8 0, .int .u8 (tt : Int), .int .u8 (P : Int)] 5)) _ _ 4 10 _ ?_ rfl (by simp [Part.v, numB_len]) hrows.out (by simp [flat, numB_len]) (by omega) (by omega)).mono ?_); (simp); rintro e wj ⟨aj, cj, rfl, oj, bj⟩; have OJ := hide (owns_mono oj (Nat.le_trans BW.out.size BA.size)); have BJ := hide (BA.trans (bj.mono BA.size)); have kj_0 : wj.cell? ⟨B0, 0, none⟩ = some (.int .u8 (tt : Int)) := (bcell BJ.out B0 0 hl2).trans k2_0; have kj_1 : wj.cell? ⟨B0, 1, none⟩ = some (.int .u8 (P : Int)) := (bcell BJ.out B0 1 hl2).trans k2_1; have kj_2 : wj.cell? ⟨B0, 2, none⟩ = some (.int .u16 (id : Int)) := (bcell BJ.out B0 2 hl2).trans k2_2; have kj_3 : wj.cell? ⟨B0, 3, none⟩ = some (.int .u32 (s : Int)) := (bcell BJ.out B0 3 hl2).trans k2_3; have kj_4 : wj.cell? ⟨B0, 4, none⟩ = some (.int .u32 (d : Int)) := (bcell BJ.out B0 4 hl2).trans k2_4; have kj_5 : wj.cell? ⟨B0, 5, none⟩ = some (.slice da n dc) := (bcell BJ.out B0 5 hl2).trans k2_5; clear oj bj)
      | (go_at_call 20; have BA : Below w2.heap.size w2 ((w2.alloc (.cells #[.int .u8 64, .int .u8 0, .int .u8 (tt : Int), .int .u8 (P : Int)] 5)).alloc (.cells #[.int .u8 69, .int .u8 0] 5)) := ((Below.refl _ _).alloc (Nat.le_refl _) _).alloc (by simp) _; have hrows := hide (rows_some (c := 2) (lit_rowS (Below.refl _ _)) (rows_some (c := 2) (Row.below (R1.out) BA (Nat.le_refl _)) (rows_some (c := 2) (Row.below (R2.out) BA (Nat.le_refl _)) (rows_some (c := 4) (lit4_row (bel_lit (Below.refl _ _))) (rows_nil _))))); (with_reducible refine (joinL ((w2.alloc (.cells #[.int .u8 64, .int .u8 0, .int .u8 (tt : Int), .int .u8 (P : Int)] 5)).alloc (.cells #[.int .u8 69, .int .u8 0] 5)) _ _ 4 10 _ ?_ rfl (by simp [Part.v, numB_len]) hrows.out (by simp [flat, numB_len]) (by omega) (by omega)).mono ?_); (simp); rintro e wj ⟨aj, cj, rfl, oj, bj⟩; have OJ := hide (owns_mono oj (Nat.le_trans BW.out.size BA.size)); have BJ := hide (BA.trans (bj.mono BA.size)); have kj_0 : wj.cell? ⟨B0, 0, none⟩ = some (.int .u8 (tt : Int)) := (bcell BJ.out B0 0 hl2).trans k2_0; have kj_1 : wj.cell? ⟨B0, 1, none⟩ = some (.int .u8 (P : Int)) := (bcell BJ.out B0 1 hl2).trans k2_1; have kj_2 : wj.cell? ⟨B0, 2, none⟩ = some (.int .u16 (id : Int)) := (bcell BJ.out B0 2 hl2).trans k2_2; have kj_3 : wj.cell? ⟨B0, 3, none⟩ = some (.int .u32 (s : Int)) := (bcell BJ.out B0 3 hl2).trans k2_3; have kj_4 : wj.cell? ⟨B0, 4, none⟩ = some (.int .u32 (d : Int)) := (bcell BJ.out B0 4 hl2).trans k2_4; have kj_5 : wj.cell? ⟨B0, 5, none⟩ = some (.slice da n dc) := (bcell BJ.out B0 5 hl2).trans k2_5; clear oj bj)
      | fail)
    all_goals
      have hfz : ∀ (A B C D : Option Addr), flat [(A, [69, 0], 2), (B, numB 2 (20 + n), 2), (C, numB 2 id, 2), (D, [64, 0, (tt : Int), (P : Int)], 4)] = ipFr tt P id n := fun _ _ _ _ => by simp [flat, ipFr]
      have hz := OJ.out
      rw [hfz] at hz
      have OZ := hide hz
      have BZ := hide (BW.out.trans (BJ.out.mono BW.out.size))
      clear hz hfz
      try go_wp2_with fail
      go_meet
      exact ⟨aj, cj, rfl, OZ, BZ⟩
  case rest =>
  obtain ⟨a1, c1, rfl, O1, B1⟩ := hcut
  obtain ⟨wy, rfl⟩ : ∃ wz, wz = wc := ⟨_, rfl⟩
  have m0_3 := (bcell B1.out B0 3 hl0).trans k0_3
  have m0_4 := (bcell B1.out B0 4 hl0).trans k0_4
  have hm0 : B0 < wy.heap.size := Nat.lt_of_lt_of_le hl0 B1.out.size
  have BY := hide (Below.refl wy.heap.size wy)
  go_upto_region 4 with (fail)
  go_cut [5] (fun bv wx => ∃ a c, bv = .slice a 8 c ∧ Hid (wx.ownsRow wy.heap.size 5 1 (.slice a 8 c) 8 ((ipEn s d).map (Value.int .u8))) ∧ Hid (Below wy.heap.size wy wx))
  case first =>
    go_region_held3 (fun w' => w'.cell? ⟨B0, 3, none⟩ = some (.int .u32 (s : Int)) ∧ w'.cell? ⟨B0, 4, none⟩ = some (.int .u32 (d : Int))) (go_keep) (first
      | (go_at_call 21; (with_reducible refine (num4_any s _ ?_).mono ?_); (omega); rintro e v1 ⟨rfl, o, b⟩; (try replace b := below_of_drew b); have m1_3 : v1.cell? ⟨B0, 3, none⟩ = some (.int .u32 (s : Int)) := (bcell b B0 3 hm0).trans m0_3; have m1_4 : v1.cell? ⟨B0, 4, none⟩ = some (.int .u32 (d : Int)) := (bcell b B0 4 hm0).trans m0_4; have hm1 : B0 < v1.heap.size := Nat.lt_of_lt_of_le hm0 b.size; have R1 := hide (Row.of_owns o); have BY := hide (BY.out.trans (b.mono BY.out.size)); clear o b m0_3 m0_4)
      | (go_at_call 21; (with_reducible refine (num4_any d _ ?_).mono ?_); (omega); rintro e v2 ⟨rfl, o, b⟩; (try replace b := below_of_drew b); have m2_3 : v2.cell? ⟨B0, 3, none⟩ = some (.int .u32 (s : Int)) := (bcell b B0 3 hm1).trans m1_3; have m2_4 : v2.cell? ⟨B0, 4, none⟩ = some (.int .u32 (d : Int)) := (bcell b B0 4 hm1).trans m1_4; have hm2 : B0 < v2.heap.size := Nat.lt_of_lt_of_le hm1 b.size; have R1 := hide (R1.out.below b (Nat.le_refl _)); have R2 := hide (Row.of_owns o); have BY := hide (BY.out.trans (b.mono BY.out.size)); clear o b m1_3 m1_4)
      | (go_at_call 20; have hrows := hide (rows_some (c := 4) R1.out (rows_some (c := 4) R2.out (rows_nil _))); (with_reducible refine (joinL v2 _ _ 2 8 _ rfl rfl (by simp [Part.v, numB_len]) hrows.out (by simp [flat, numB_len]) (by omega) (by omega)).mono ?_); rintro e vj ⟨aj, cj, rfl, oj, bj⟩; have OJ := hide (owns_mono oj BY.out.size); have BJ := hide bj; have mj_3 : vj.cell? ⟨B0, 3, none⟩ = some (.int .u32 (s : Int)) := (bcell BJ.out B0 3 hm2).trans m2_3; have mj_4 : vj.cell? ⟨B0, 4, none⟩ = some (.int .u32 (d : Int)) := (bcell BJ.out B0 4 hm2).trans m2_4; clear oj bj)
      | fail)
    all_goals
      have hfz : ∀ (A B : Option Addr), flat [(A, numB 4 s, 4), (B, numB 4 d, 4)] = ipEn s d := fun _ _ => by simp [flat, ipEn]
      have hz := OJ.out
      rw [hfz] at hz
      have OZ := hide hz
      have BZ := hide (BY.out.trans (BJ.out.mono BY.out.size))
      clear hz hfz
      try go_wp2_with fail
      go_meet
      exact ⟨aj, cj, rfl, OZ, BZ⟩
  case rest =>
  obtain ⟨a2, c2, rfl, O2, B2⟩ := hcut
  obtain ⟨wz, rfl⟩ : ∃ wz, wz = wc := ⟨_, rfl⟩
  have BZ := hide (B1.out.trans (B2.out.mono B1.out.size))
  have RF := hide (Row.below (Row.of_owns O1.out) B2.out (Nat.le_refl _))
  have RE := hide (Row.of_owns O2.out)
  have NF := hide (none_cap O1.out)
  have NE := hide (none_cap O2.out)
  have RSZ := hide (RS.out.below BZ.out (Nat.le_refl _))
  clear m0_3 m0_4 BY B2 B1 O1 O2
  have hrow5 := hide (rows_cons (c := c1) RF.out NF.out (rows_cons (c := c2) RE.out NE.out (rows_nil wz)))
  have hfl : flat [(a1, ipFr tt P id n, c1), (a2, ipEn s d, c2)] = ipFr tt P id n ++ ipEn s d := by simp [flat]
  have hsm := sumL wz [(a1, ipFr tt P id n, c1), (a2, ipEn s d, c2)] #[.slice a1 10 c1, .slice a2 8 c2] 2 _ rfl rfl (by simp [Part.v, ipFr_len, ipEn_len]) hrow5.out (by rw [hfl, List.length_append, ipFr_len, ipEn_len]; omega) (by rw [hfl]; intro x hx; rcases List.mem_append.1 hx with h | h; exact ipFr_rng _ _ _ _ ht hP x h; exact ipEn_rng _ _ x h) (by omega)
  rw [hfl, ipK_split] at hsm
  have HSM := hide hsm
  have hkl : ipK tt P id s d n ≤ 65535 := by have := csum_rng (ipH tt P id s d n 0); unfold ipK; omega
  obtain ⟨K, hK⟩ : ∃ K, ipK tt P id s d n = K := ⟨_, rfl⟩
  rw [hK] at HSM hkl
  have HK := hide hK
  have hwK : IntKind.u64.wrap (K : Int) = (K : Int) := wraps_u64 _ (by omega) (by omega)
  clear hsm hfl hrow5 hK
  go_wp2_with fail
  refine HSM.out.mono ?_
  rintro e w6 ⟨rfl, b6⟩
  have RF6 := hide (RF.out.below b6 (Nat.le_refl _))
  have RE6 := hide (RE.out.below b6 (Nat.le_refl _))
  have RS6 := hide (RSZ.out.below b6 (Nat.le_refl _))
  have BZ6 := hide (BZ.out.trans (b6.mono BZ.out.size))
  clear b6 HSM RF RE RSZ BZ
  go_wp2_with fail
  refine (num2_any K w6 (by omega)).mono ?_
  rintro e w7 ⟨rfl, o7, b7⟩
  have RK7 := hide (Row.of_owns o7)
  have RF7 := hide (RF6.out.below b7 (Nat.le_refl _))
  have RE7 := hide (RE6.out.below b7 (Nat.le_refl _))
  have RS7 := hide (RS6.out.below b7 (Nat.le_refl _))
  have BZ7 := hide (BZ6.out.trans (b7.mono BZ6.out.size))
  clear o7 b7 RF6 RE6 RS6 BZ6
  have k7 := (bcell BZ7.out B0 5 hl0).trans k0_5
  clear k0_0 k0_1 k0_2 k0_3 k0_4 k0_5
  have hrow7 := hide (rows_cons (c := c1) RF7.out NF.out (rows_some (c := 2) RK7.out (rows_cons (c := c2) RE7.out NE.out (rows_cons (c := dc) RS7.out HN.out (rows_nil _)))))
  go_wp2_with fail
  refine (joinL w7 _ _ 4 (20 + n) _ rfl rfl (by simp [Part.v, numB_len, ipFr_len, ipEn_len, HL.out]) hrow7.out (by simp [flat, numB_len, ipFr_len, ipEn_len, HL.out]; omega) (by omega) (by omega)).mono ?_
  rintro e w8 ⟨a, c, rfl, o8, b8⟩
  have hfz : flat [(a1, ipFr tt P id n, c1), (some ⟨w6.heap.size, 0, none⟩, numB 2 K, 2), (a2, ipEn s d, c2), (da, xs, dc)] = ipG tt P id s d xs := by
    unfold ipG
    rw [HL.out, HK.out, ipH_split]
    simp [flat]
  rw [hfz] at o8
  have O8 := hide (owns_mono o8 (Nat.le_trans BE.out.size BZ7.out.size))
  have B8 := hide (BE.out.trans ((BZ7.out.trans (b8.mono BZ7.out.size)).mono BE.out.size))
  clear o8 b8 hfz hrow7 k7
  go_wp2
  go_ret2
  exact ⟨a, c, rfl, O8.out, B8.out⟩
end Go.Proofs.YtlipckpacdioiaaDoor
