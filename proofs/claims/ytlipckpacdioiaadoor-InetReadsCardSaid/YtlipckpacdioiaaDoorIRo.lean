/- inet: what inet.Read answers of a packet's bytes. -/
import Derived.Test.YtlipckpacdioiaaDoorIMem
namespace Go.Proofs.YtlipckpacdioiaaDoor
open Go.RowKit
set_option linter.unusedVariables false
set_option linter.unusedSimpArgs false
set_option maxRecDepth 100000
theorem fld_cut (xs : List Int) (m k j : Nat) (h : k + j ≤ m) : fld ((xs.drop 4).take m) k j = fld xs (4 + k) j := by
  unfold fld
  rw [List.drop_take, List.drop_drop, List.take_take, Nat.min_eq_left (by omega)]
theorem cells_set {w : World} {b i : Nat} {cs : Array Value} {z : Value} {t : TypeId} (h : w.heap[b]? = some (.cells cs t (0, 0))) : (w.setCell ⟨b, i, none⟩ z).heap[b]? = some (.cells (cs.setIfInBounds i z) t (0, 0)) := by
  have hlt := lt_of_block h
  have h' : w.heap[b] = .cells cs t (0, 0) := by simpa [Array.getElem?_eq_getElem hlt] using h
  show (w.heap.modify b _)[b]? = _
  rw [Array.getElem?_eq_getElem (by simpa using hlt), Array.getElem_modify_self, h']
  rfl
/-- While a packet is read: the Eye, the packet's variable, the answer's variable. -/
def RS (w wi : World) (E F R : Nat) (ys : List Int) (k : Nat) (cs : Array Value) : Prop :=
  EyeAt wi E E (ys.drop k) false ∧ wi.heap[F]? = some (.cells cs 27 (0, 0)) ∧ wi.heap[R]? = some (.cells #[.int .u8 0, .int .u8 0, .int .u16 0, .int .u32 0, .int .u32 0, .slice none 0 0] 27 (0, 0)) ∧ Below w.heap.size w wi ∧ w.heap.size ≤ R ∧ R < E ∧ E < F
theorem RS.grow {w wi w' : World} {E F R k k' : Nat} {ys : List Int} {cs : Array Value} (h : RS w wi E F R ys k cs) (he : EyeAt w' E E (ys.drop k') false) (hg : wi.grownBy w' (some E)) : RS w w' E F R ys k' cs := by
  obtain ⟨h1, h2, h3, h4, h5, h6, h7⟩ := h
  exact ⟨he, gb_block hg h2 (by omega), gb_block hg h3 (by omega), h4.trans (grownBy_below hg (show w.heap.size ≤ E by omega) h4.size), h5, h6, h7⟩
theorem RS.store {w wi : World} {E F R k : Nat} {ys : List Int} {cs : Array Value} (h : RS w wi E F R ys k cs) (i : Nat) (v : Value) : RS w (wi.setCell ⟨F, i, none⟩ v) E F R ys k (cs.setIfInBounds i v) := by
  obtain ⟨h1, h2, h3, h4, h5, h6, h7⟩ := h
  refine ⟨h1.set (by omega) (by omega), cells_set h2, ?_, h4.setCell (show w.heap.size ≤ F by omega) v, h5, h6, h7⟩
  rw [Below.heap_setCell wi ⟨F, i, none⟩ v R (show R ≠ F by omega)]
  exact h3
theorem RS.num {w wi : World} {E F R : Nat} {ys : List Int} {k : Nat} {cs : Array Value} (h : RS w wi E F R ys k cs) (j : Nat) (hb : ∀ x ∈ ys, 0 ≤ x ∧ x ≤ 255) (hl : ys.length ≤ 1099511627776) (hj : j ≤ 8) (hk : k + j ≤ ys.length) :
    Calls Tryd.prog 27 #[.pointer (some ⟨E, 0, none⟩), .int .i64 j] wi fun e w' => e = .returned (.int .u64 (fld ys k j)) ∧ RS w w' E F R ys (k + j) cs :=
  (eyeNum_at E E k j ys wi h.1 hb hl hj hk).mono fun e w' ⟨he, h1, hg⟩ => ⟨he, h.grow h1 hg⟩
theorem RS.free {w wi : World} {E F R : Nat} {ys : List Int} {k : Nat} {cs : Array Value} (h : RS w wi E F R ys k cs) : ∀ i, wi.frozen? ⟨F, i, none⟩ = false := free_at h.2.1
theorem RS.cell {w wi : World} {E F R : Nat} {ys : List Int} {k : Nat} {cs : Array Value} (h : RS w wi E F R ys k cs) (i : Nat) {v : Value} (hv : cs[i]? = some v) : wi.cell? ⟨F, i, none⟩ = some v := cell_at h.2.1 i hv
set_option maxHeartbeats 3200000 in
theorem rd_ok (w : World) (a : Option Addr) (xs : List Int) (n cap x s tt P id sr ds : Nat) (hr : Row .u8 w a xs) (hl : xs.length = n) (hnc : n ≤ cap) (hno : a = none → cap = 0) (hb : ∀ x ∈ xs, 0 ≤ x ∧ x ≤ 255) (h20 : 20 ≤ n) (hx : xs[0]? = some (x : Int))
    (hF : faultI x (fld xs 2 2) n (csum (xs.take 20) == 0) (fld xs 6 2) = 0) (hs : fld xs 2 2 = s) (hs1 : 20 ≤ s) (hs2 : s ≤ n) (hn : n ≤ 1099511627776)
    (hid : fld xs 4 2 = id) (htt : fld xs 8 1 = tt) (hP : fld xs 9 1 = P) (hsr : fld xs 12 4 = sr) (hds : fld xs 16 4 = ds) :
    Calls Tryd.prog 13 #[.slice a n cap] w fun e w' => ∃ a' c, e = .returned (.tuple #[.agg #[.int .u8 (tt : Int), .int .u8 (P : Int), .int .u16 (id : Int), .int .u32 (sr : Int), .int .u32 (ds : Int), .slice a' (s - 20) c], .int .i64 0]) ∧
      w'.ownsRow w.heap.size 5 1 (.slice a' (s - 20) c) (s - 20) (((xs.take s).drop 20).map (Value.int .u8)) ∧ Below w.heap.size w w' := by
  have HNU := hide (fun (W : World) (h : Row .u8 W a xs) => number_any a xs n cap 2 W h hl hnc hno hb (by omega) (by omega))
  have hM : fld xs 2 2 < 65536 := fld_lt xs 2 2 hb
  have HFT := hide (fun (W : World) (h : Row .u8 W a xs) => fault_any a xs n cap x (fld xs 2 2) W h hl hnc hno hb h20 (by omega) hx)
  rw [hF] at HFT
  have HCUT := hide (fun (W : World) (h : Row .u8 W a xs) => cut_run a xs n cap 4 (s - 4) W h hl hnc hno (by omega))
  have b1 : fld xs 4 2 < 65536 := fld_lt xs 4 2 hb
  have b2 : fld xs 8 1 < 256 := fld_lt xs 8 1 hb
  have b3 : fld xs 9 1 < 256 := fld_lt xs 9 1 hb
  have b4 : fld xs 12 4 < 4294967296 := fld_lt xs 12 4 hb
  have b5 : fld xs 16 4 < 4294967296 := fld_lt xs 16 4 hb
  obtain ⟨ys, hys⟩ : ∃ ys, (xs.drop 4).take (s - 4) = ys := ⟨_, rfl⟩
  have hyl : ys.length = s - 4 := by rw [← hys, List.length_take, List.length_drop]; omega
  have hyb : ∀ x ∈ ys, 0 ≤ x ∧ x ≤ 255 := fun x h => hb x (List.mem_of_mem_drop (List.mem_of_mem_take (hys ▸ h)))
  have f1 : fld ys 0 2 = id := by rw [← hys, fld_cut _ _ _ _ (by omega)]; exact hid
  have f2 : fld ys 4 1 = tt := by rw [← hys, fld_cut _ _ _ _ (by omega)]; exact htt
  have f3 : fld ys 5 1 = P := by rw [← hys, fld_cut _ _ _ _ (by omega)]; exact hP
  have f4 : fld ys 8 4 = sr := by rw [← hys, fld_cut _ _ _ _ (by omega)]; exact hsr
  have f5 : fld ys 12 4 = ds := by rw [← hys, fld_cut _ _ _ _ (by omega)]; exact hds
  have HYD := hide (show (ys.drop 16).take (s - 20) = (xs.take s).drop 20 from by
    rw [← hys, List.drop_take, List.drop_drop, List.drop_take, List.take_take, Nat.min_eq_left (by omega)])
  rw [hys] at HCUT
  rw [hs] at HNU HFT hM
  rw [hid] at b1
  rw [htt] at b2
  rw [hP] at b3
  rw [hsr] at b4
  rw [hds] at b5
  have HR := hide hr
  have HYL := hide hyl
  have HYB := hide hyb
  have HF := hide (show fld ys 0 2 = id ∧ fld ys 4 1 = tt ∧ fld ys 5 1 = P ∧ fld ys 8 4 = sr ∧ fld ys 12 4 = ds from ⟨f1, f2, f3, f4, f5⟩)
  clear hr hb hx hF hl hno hs hys hyl hyb hid htt hP hsr hds f1 f2 f3 f4 f5
  have hws : wrap64 (s : Int) = (s : Int) := by unfold wrap64; omega
  have hw4 : (4 : Int) + ((s - 4 : Nat) : Int) = (s : Int) := by omega
  have hwid : IntKind.u16.wrap (id : Int) = (id : Int) := by rw [IntKind.wrap_u16]; omega
  have hwt : IntKind.u8.wrap (tt : Int) = (tt : Int) := by rw [IntKind.wrap_u8]; omega
  have hwP : IntKind.u8.wrap (P : Int) = (P : Int) := by rw [IntKind.wrap_u8]; omega
  have hwsr : IntKind.u32.wrap (sr : Int) = (sr : Int) := by rw [IntKind.wrap_u32]; omega
  have hwds : IntKind.u32.wrap (ds : Int) = (ds : Int) := by rw [IntKind.wrap_u32]; omega
  clear b1 b2 b3 b4 b5
  go_enter Tryd.func13, Tryd.ntmps13
  go_wp2_with fail
  obtain ⟨R, wq, hR, hq1, hRs, hbel, hRh⟩ : ∃ R wq, w.heap.size = R ∧ w.alloc (.cells #[.int .u8 0, .int .u8 0, .int .u16 0, .int .u32 0, .int .u32 0, .slice none 0 0] 27) = wq ∧ wq.heap.size = R + 1 ∧ Below w.heap.size w wq ∧ wq.heap[R]? = some (.cells #[.int .u8 0, .int .u8 0, .int .u16 0, .int .u32 0, .int .u32 0, .slice none 0 0] 27 (0, 0)) :=
    ⟨_, _, rfl, rfl, by simp, (Below.refl _ _).alloc (Nat.le_refl _) _, heap_alloc_new w _⟩
  rw [hq1, hR]
  have HRW := hide hR
  have HRq := hide (HR.out.below hbel (Nat.le_refl _))
  have HBq := hide hbel
  have HRh := hide hRh
  clear hq1 hR hRs hbel hRh
  refine (HNU.out wq HRq.out).mono ?_
  rintro e w1 ⟨rfl, b1⟩
  have HR1 := hide (HRq.out.below b1 (Nat.le_refl _))
  have HRh1 := hide (below_block b1 HRh.out (Nat.le_refl _))
  have HB1 := hide (HBq.out.trans (b1.mono HBq.out.size))
  clear b1
  go_wp2_with fail
  refine (HFT.out w1 HR1.out).mono ?_
  rintro e w2 ⟨rfl, b2⟩
  have HRh2 := hide (below_block b2 HRh1.out (Nat.le_refl _))
  have HR2 := hide (HR1.out.below b2 (Nat.le_refl _))
  have HB2 := hide (HB1.out.trans (b2.mono HB1.out.size))
  obtain ⟨A, hrun, hrow, hA⟩ := HCUT.out w2 HR2.out
  rw [show ((4 : Nat) : Int) + ((s - 4 : Nat) : Int) = (s : Int) by omega] at hrun
  have hne := newEye_any A ys (cap - 4) w2 hrow (by have := HYL.out; omega)
  rw [HYL.out] at hne
  have HNE := hide hne
  have hrun2 : ∀ W, (Instr.slice 25 (.slice a n cap) (some (.int .i64 4)) (some (.int .i64 (s : Int))) none).run Tryd.prog W = .ok (.slice A (s - 4) (cap - 4)) W := fun W => hrun W
  clear b2 hrun hrow hne HRh HRh1 HR1 HB1 HRq HBq HNU HFT HCUT
  go_wp2_with fail
  refine HNE.out.mono ?_
  rintro e w3 ⟨E, rfl, hE, heye, b3⟩
  have HE3 := hide (show EyeAt w3 E E (ys.drop 0) false by simpa using heye)
  have HRh3 := hide (below_block b3 HRh2.out (Nat.le_refl _))
  have HB3 := hide (HB2.out.trans (b3.mono HB2.out.size))
  have HRE := hide (Nat.lt_of_lt_of_le (lt_of_block HRh2.out) hE)
  clear heye hE b3 HNE HRh2 HR2 HB2 hrun2 hA
  have HN1 := hide ((eyeNum_at E E 0 2 ys w3 HE3.out HYB.out (by have := HYL.out; omega) (by omega) (by have := HYL.out; omega)))
  rw [HF.out.1] at HN1
  go_wp2_with fail
  refine HN1.out.mono ?_
  rintro e w4 ⟨rfl, he4, hg4⟩
  have HE4 := hide he4
  have HRh4 := hide (gb_block hg4 HRh3.out (by have := HRE.out; omega))
  have HB4 := hide (HB3.out.trans (grownBy_below hg4 (show w.heap.size ≤ E by have := HRE.out; have := HRW.out; omega) HB3.out.size))
  clear he4 hg4 HN1 HE3 HRh3 HB3
  go_wp2_with fail
  obtain ⟨F, w5, hF, hq1, hbf, hFh⟩ : ∃ F wf, w4.heap.size = F ∧ w4.alloc (.cells #[.int .u8 0, .int .u8 0, .int .u16 (id : Int), .int .u32 0, .int .u32 0, .slice none 0 0] 27) = wf ∧ Below w4.heap.size w4 wf ∧ wf.heap[F]? = some (.cells #[.int .u8 0, .int .u8 0, .int .u16 (id : Int), .int .u32 0, .int .u32 0, .slice none 0 0] 27 (0, 0)) :=
    ⟨_, _, rfl, rfl, (Below.refl _ _).alloc (Nat.le_refl _) _, heap_alloc_new w4 _⟩
  rw [hq1, hF]
  have HS5 := hide (show RS w w5 E F R ys 2 _ from ⟨HE4.out.below hbf (Nat.le_refl _), hFh, below_block hbf HRh4.out (Nat.le_refl _), HB4.out.trans (hbf.mono HB4.out.size), by have := HRW.out; omega, HRE.out, by have := HE4.out.lt; omega⟩)
  clear hq1 hF hbf hFh HE4 HRh4 HB4
  refine (HS5.out.num 2 HYB.out (by have := HYL.out; omega) (by omega) (by have := HYL.out; omega)).mono ?_
  rintro e w6 ⟨rfl, hs6⟩
  have HS6 := hide hs6
  clear hs6 HS5
  have HN6 := hide (HS6.out.num 1 HYB.out (by have := HYL.out; omega) (by omega) (by have := HYL.out; omega))
  rw [HF.out.2.1] at HN6
  go_wp2_with fail
  refine HN6.out.mono ?_
  rintro e w7 ⟨rfl, hs7⟩
  have HS7 := hide hs7
  clear hs7 HN6 HS6
  have HN7 := hide (HS7.out.num 1 HYB.out (by have := HYL.out; omega) (by omega) (by have := HYL.out; omega))
  rw [HF.out.2.2.1] at HN7
  go_wp2_with fail
  refine HN7.out.mono ?_
  rintro e w8 ⟨rfl, hs8⟩
  have hfr := hs8.free
  have c0 := hs8.cell 0 rfl
  have c1 := hs8.cell 1 rfl
  have HS8 := hide ((hs8.store 0 (.int .u8 (tt : Int))).store 1 (.int .u8 (P : Int)))
  clear hs8 HN7 HS7
  go_wp2_with fail
  have HN8 := HS8.out.num 2 HYB.out (by have := HYL.out; omega) (by omega) (by have := HYL.out; omega)
  refine HN8.mono ?_
  rintro e w9 ⟨rfl, hs9⟩
  have HS9 := hide hs9
  clear hs9 HN8 HS8 hfr c0 c1
  have HN9 := hide (HS9.out.num 4 HYB.out (by have := HYL.out; omega) (by omega) (by have := HYL.out; omega))
  rw [HF.out.2.2.2.1] at HN9
  go_wp2_with fail
  refine HN9.out.mono ?_
  rintro e w10 ⟨rfl, hs10⟩
  have HS10 := hide hs10
  clear hs10 HN9 HS9
  have HN10 := hide (HS10.out.num 4 HYB.out (by have := HYL.out; omega) (by omega) (by have := HYL.out; omega))
  rw [HF.out.2.2.2.2] at HN10
  go_wp2_with fail
  refine HN10.out.mono ?_
  rintro e w11 ⟨rfl, hs11⟩
  have hfr := hs11.free
  have c0 := hs11.cell 3 rfl
  have c1 := hs11.cell 4 rfl
  have HS11 := hide ((hs11.store 3 (.int .u32 (sr : Int))).store 4 (.int .u32 (ds : Int)))
  clear hs11 HN10 HS10
  go_wp2_with fail
  obtain ⟨wz, hz⟩ : ∃ x, (w11.setCell ⟨F, 3, none⟩ (.int .u32 (sr : Int))).setCell ⟨F, 4, none⟩ (.int .u32 (ds : Int)) = x := ⟨_, rfl⟩
  rw [hz] at HS11
  rw [hz]
  clear hz hfr c0 c1
  have HLF := hide (left_at E E 16 ys (s - 4) wz HS11.out.1 HYL.out)
  rw [show s - 4 - 16 = s - 20 by omega] at HLF
  have hby := bytes_at E E 16 (s - 20) ys wz HS11.out.1 (by have := HYL.out; omega) (by have := HYL.out; omega)
  rw [HYD.out] at hby
  have HBY := hide hby
  clear hby
  refine HLF.out.mono ?_
  rintro e wl ⟨rfl, hwl⟩
  subst hwl
  clear HLF
  go_wp2_with fail
  refine HBY.out.mono ?_
  rintro e w13 ⟨a8, c8, rfl, o8, he8, hg8⟩
  have hs13 := HS11.out.grow he8 hg8
  have hfr := hs13.free 5
  have m5 := hs13.cell 5 rfl
  have HS14 := hide (hs13.store 5 (.slice a8 (s - 20) c8))
  have hbase : w.heap.size ≤ wz.heap.size := HS11.out.2.2.2.1.size
  have hFlt := lt_of_block HS11.out.2.1
  have hRlt := lt_of_block HS11.out.2.2.1
  have HO8 := hide (owns_mono (owns_set (g := F) (i := 5) (u := .slice a8 (s - 20) c8) o8 hFlt) hbase)
  have HOx := hide (And.intro hbase hRlt)
  have HO9 := hide (owns_set (g := F) (i := 5) (u := .slice a8 (s - 20) c8) o8 hFlt)
  clear o8 he8 hg8 hs13 HS11 HBY hFlt
  go_upto_region 14 with (fail)
  obtain ⟨w14, hw14⟩ : ∃ V, w13.setCell ⟨F, 5, none⟩ (.slice a8 (s - 20) c8) = V := ⟨_, rfl⟩
  rw [hw14] at HS14 HO8 HO9 ⊢
  clear hw14 hfr m5
  have HFh := hide HS14.out.2.1
  have HRh := hide HS14.out.2.2.1
  have HBw := hide HS14.out.2.2.2.1
  have HNR := hide HS14.out.2.2.2.2.1
  have HFh2 := hide (show w14.heap[F]? = some (.cells #[.int .u8 (tt : Int), .int .u8 (P : Int), .int .u16 (id : Int), .int .u32 (sr : Int), .int .u32 (ds : Int), .slice a8 (s - 20) c8] 27 (0, 0)) from HFh.out)
  have HOf := hide (show R ≠ F by have := HS14.out.2.2.2.2.2; omega)
  have HRl := hide (show w.heap.size ≤ R from HNR.out)
  clear HS14 HFh
  go_wp2_with (first
    | (refine ld_whole (o := ⟨some 55, _, _, _, _, _⟩) 27 (.tmp 7) rfl (by rfl) F rfl #[.int .u8 (tt : Int), .int .u8 (P : Int), .int .u16 (id : Int), .int .u32 (sr : Int), .int .u32 (ds : Int), .slice a8 (s - 20) c8] 27 HFh2.out Tryd.underlying27 (by kernel_rfl) ?_; try simp only [Act.put, List.setIfInBounds_toArray, List.set_cons_zero, List.set_cons_succ])
    | (refine st_part (o := ⟨none, _, _, _, _, _⟩) 27 (.tmp 2) (.tmp 55) rfl (by rfl) R 0 rfl #[.int .u8 0, .int .u8 0, .int .u16 0, .int .u32 0, .int .u32 0, .slice none 0 0] 27 #[.int .u8 (tt : Int), .int .u8 (P : Int), .int .u16 (id : Int), .int .u32 (sr : Int), .int .u32 (ds : Int), .slice a8 (s - 20) c8] rfl HRh.out rfl (by kernel_rfl) (by kernel_rfl) HBw.out HRl.out ?_; rintro w9 w9h w9b w9o w9s; try simp only [Act.put, List.setIfInBounds_toArray, List.set_cons_zero, List.set_cons_succ]))
  rw [upd_whole (by rfl)] at w9h
  refine bodyPost_ret (v := .tuple #[.agg #[.int .u8 (tt : Int), .int .u8 (P : Int), .int .u16 (id : Int), .int .u32 (sr : Int), .int .u32 (ds : Int), .slice a8 (s - 20) c8], .int .i64 0]) (results_cell_tmp Tryd.results13 _ w9 R _ _ _ _ rfl w9h Tryd.underlying27 rfl (by kernel_rfl) _ rfl) rfl ⟨a8, c8, rfl, ?_, w9b⟩
  have h8 := owns_blk HO8.out HO9.out w9o HOx.out.1 HOx.out.2
  simpa [List.map_drop, List.map_take] using h8
end Go.Proofs.YtlipckpacdioiaaDoor
