/- Flows: an error tells of its packet as it was in another flow: the document. -/
import Derived.Test.YtgggcapgaikbeaaPk22
import Derived.Deep.RegionHeld3
namespace Go.Proofs.Ytgggcapgaikbeaa
open Go.RowKit
set_option linter.unusedVariables false
set_option linter.unusedSimpArgs false
set_option maxRecDepth 100000
set_option maxHeartbeats 800000 in
theorem dlay_any (base n c at' : Nat) (g : Nat) (xs : List Int) (v : Nat) (w : World) (hown : w.ownsRow base 5 1 (.slice (some ⟨g, 0, none⟩) n c) n (xs.map (Value.int .u8))) (hat : at' + 2 ≤ n) (hn : n ≤ 1000000) (hv : v ≤ 65535) :
    Calls Try.prog 64 #[.slice (some ⟨g, 0, none⟩) n c, .int .i64 at', .int .u16 v] w fun e w' => e = .returned (.tuple #[]) ∧
      w'.ownsRow base 5 1 (.slice (some ⟨g, 0, none⟩) n c) n ((spl xs at' (numB 2 v)).map (Value.int .u8)) ∧ w.grownBy w' (some g) := by
  have hxl : xs.length = n := by have := hown.1; simpa using this
  have ho1 := owns_store (v := ((v / 256 : Nat) : Int)) hown (show at' < n by omega)
  have ho2 := owns_store (v := ((v % 256 : Nat) : Int)) ho1 (show at' + 1 < n by omega)
  rw [spl2 _ _ _ _ (by omega), ← numB2 v hv] at ho2
  have c0 := hown.cellAt at' (by omega)
  have c1 := ho1.cellAt (at' + 1) (by omega)
  have fr : ∀ (W : World) (ys : List Int), W.ownsRow base 5 1 (.slice (some ⟨g, 0, none⟩) n c) n (ys.map (Value.int .u8)) → ∀ i, W.frozen? ⟨g, i, none⟩ = false := fun W ys h i => by
    rcases h.2 with ⟨h0, _⟩ | ⟨r, cap, cur, hv, hr, hh, _⟩
    · cases h0
    · obtain ⟨rfl, rfl⟩ : g = r ∧ c = cap := by simpa using hv
      simp [World.frozen?, hh]
  have f0 := fr _ _ hown at'
  have f1 := fr _ _ ho1 (at' + 1)
  have hd1 : (v : Int) / 256 = ((v / 256 : Nat) : Int) := by omega
  have hd2 : (v : Int) % 256 = ((v % 256 : Nat) : Int) := by omega
  have hq : IntKind.u8.wrap ((v / 256 : Nat) : Int) = ((v / 256 : Nat) : Int) := by rw [IntKind.wrap_u8]; omega
  have hq2 : IntKind.u8.wrap ((v % 256 : Nat) : Int) = ((v % 256 : Nat) : Int) := by rw [IntKind.wrap_u8]; omega
  obtain ⟨y0, hy0⟩ : ∃ y0, (xs.map (Value.int .u8))[at']? = some y0 := ⟨_, List.getElem?_eq_getElem (by simp; omega)⟩
  rw [hy0] at c0
  obtain ⟨y1, hy1⟩ : ∃ y1, ((xs.set at' ((v / 256 : Nat) : Int)).map (Value.int .u8))[at' + 1]? = some y1 := ⟨_, List.getElem?_eq_getElem (by simp; omega)⟩
  rw [hy1] at c1
  have HO := hide ho2
  clear hown ho1 ho2 fr hxl hy0 hy1
  have ha : IntKind.i64.wrap ((at' : Int) + 1) = (at' : Int) + 1 := IntWalk.i64_in _ (by omega)
  have hb0 : (0 : Int) ≤ (at' : Int) := by omega
  have hb1 : (at' : Int) < (n : Int) := by omega
  have hb2 : (at' : Int) + 1 < (n : Int) := by omega
  have hta : ((at' : Int) + 1).toNat = at' + 1 := by omega
  generalize v / 256 = v1 at *
  generalize v % 256 = v2 at *
  have hbl : w.grownBy ((w.setCell ⟨g, at', none⟩ (.int .u8 v1)).setCell ⟨g, at' + 1, none⟩ (.int .u8 v2)) (some g) := gb_put (gb_put (World.grownBy.refl w (some g)) g at' _ rfl) g (at' + 1) _ rfl
  have HB := hide hbl
  clear hbl
  go_enter Try.func64, Try.ntmps64
  go_wp2
  go_end0
  exact ⟨rfl, HO.out, HB.out⟩

theorem dupd_any (s x y : Int) (w : World) (h1 : 0 ≤ s) (h2 : s ≤ 65535) (h3 : 0 ≤ x) (h4 : x ≤ 65535) (h5 : 0 ≤ y) (h6 : y ≤ 65535) :
    Calls Try.prog 91 #[.int .u16 s, .int .u16 x, .int .u16 y] w fun e w' => e = .returned (.int .u16 (updS s (x, y))) ∧ w = w' := by
  have hu : updS s (x, y) = 65535 - f16 (f16 (65535 - s + (65535 - x)) + y) := by rw [f16_add _ _ (by omega) h5]; rfl
  have hf := f16_rng (65535 - s + (65535 - x))
  have hg := f16_rng (f16 (65535 - s + (65535 - x)) + y)
  rw [hu]
  have f1 := hf.1
  have f2 := hf.2
  have g1 := hg.1
  have g2 := hg.2
  clear hu hf hg
  go_enter Try.func91, Try.ntmps91
  go_wp2_with fail
  refine (refAdd_any (65535 - s) (65535 - x) _ (by omega) (by omega) (by omega) (by omega)).mono ?_
  rintro e w1 ⟨rfl, rfl⟩
  go_wp2_with fail
  refine (refAdd_any _ y _ f1 f2 h5 h6).mono ?_
  rintro e w1 ⟨rfl, rfl⟩
  go_wp2
  go_ret
  exact ⟨rfl, rfl⟩
set_option maxHeartbeats 800000 in
theorem dchange_any (base n c K g : Nat) (xs : List Int) (x y s : Nat) (w : World) (hown : w.ownsRow base 5 1 (.slice (some ⟨g, 0, none⟩) n c) n (xs.map (Value.int .u8))) (hb : ∀ x ∈ xs, 0 ≤ x ∧ x ≤ 255) (hK : K + 2 ≤ n) (hn : n ≤ 5000) (hx : x ≤ 65535) (hy : y ≤ 65535) (hs : fld xs K 2 = s) :
    Calls Try.prog 63 #[.slice (some ⟨g, 0, none⟩) n c, .int .i64 (K : Int), .int .u16 (x : Int), .int .u16 (y : Int)] w fun e w' => e = .returned (.tuple #[]) ∧
      w'.ownsRow base 5 1 (.slice (some ⟨g, 0, none⟩) n c) n ((spl xs K (numB 2 (updS (s : Int) ((x : Int), (y : Int))).toNat)).map (Value.int .u8)) ∧ w.grownBy w' (some g) := by
  have hxl : xs.length = n := by have := hown.1; simpa using this
  have hsl := fld2_le xs K hb
  rw [hs] at hsl
  have hu := updS_rng (s : Int) ((x : Int), (y : Int))
  obtain ⟨u, huu⟩ : ∃ u : Nat, updS (s : Int) ((x : Int), (y : Int)) = (u : Int) := ⟨(updS (s : Int) ((x : Int), (y : Int))).toNat, by omega⟩
  have hu9 : u ≤ 65535 := by omega
  have HUP := hide (fun (W : World) => dupd_any (s : Int) (x : Int) (y : Int) W (by omega) (by omega) (by omega) (by omega) (by omega) (by omega))
  have HWD := hide (word_any w (some ⟨g, 0, none⟩) xs n c K (Lies.of_owns hown) hxl hb hn hK)
  rw [huu] at HUP ⊢
  rw [Int.toNat_natCast]
  rw [hs] at HWD
  have HLY := hide (fun (W : World) (ho : W.ownsRow base 5 1 (.slice (some ⟨g, 0, none⟩) n c) n (xs.map (Value.int .u8))) => dlay_any base n c K g xs u W ho hK (by omega) hu9)
  have HO := hide hown
  clear hown hxl hsl hu huu hu9 hs hb
  go_enter Try.func63, Try.ntmps63
  go_wp2_with fail
  refine HWD.out.mono ?_
  rintro e w1 ⟨rfl, q, hq⟩
  obtain ⟨wb, ho1⟩ : w.grownBy w1 (some g) ∧ w1.ownsRow base 5 1 (.slice (some ⟨g, 0, none⟩) n c) n (xs.map (Value.int .u8)) := by
    rw [hq]
    exact ⟨gb_of_below (bdrewN (Below.refl w.heap.size _) _), owns_below HO.out (bdrewN (Below.refl w.heap.size _) _) (Nat.le_refl _)⟩
  have HB1 := hide wb
  have HO1 := hide ho1
  clear hq wb ho1 HWD HO
  go_wp2_with fail
  refine (HUP.out w1).mono ?_
  rintro e w2 ⟨rfl, rfl⟩
  go_wp2_with fail
  refine (HLY.out w1 HO1.out).mono ?_
  rintro e w3 ⟨rfl, o3, b3⟩
  have HO3 := hide o3
  have HB3 := hide (gb_trans HB1.out b3)
  clear o3 b3
  go_wp2_with fail
  go_end0
  exact ⟨rfl, HO3.out, HB3.out⟩
set_option maxHeartbeats 4000000 in
theorem retR_icmp (w : World) (da : Option Addr) (ds : List Int) (n dc : Nat) (P : Nat) (a : Nat → Nat) (fp fs fd ff ft id : Nat) (hLx : Lies w da ds n dc) (hl : ds.length = n) (hb : ∀ x ∈ ds, 0 ≤ x ∧ x ≤ 255) (hn0 : 28 ≤ n) (hn : n ≤ 5000) (hP : fld ds 9 1 = P) (ha : ∀ k, k < 6 → (P = 1 → k < 4) → fld ds (12 + 2 * k) 2 = a k) (hfs : fs ≤ 4294967295) (hfd : fd ≤ 4294967295) (hff : ff ≤ 65535) (hft : ft ≤ 65535) (hp : P = 1) (hid : (if fld ds 20 1 = 0 then ft else ff) = id) :
    Calls Try.prog 37 #[.slice da n dc, .agg #[.int .u8 (fp : Int), .int .u32 (fs : Int), .int .u32 (fd : Int), .int .u16 (ff : Int), .int .u16 (ft : Int)]] w fun e w' => ∃ g c', e = .returned (.slice (some ⟨g, 0, none⟩) n c') ∧ w'.ownsRow w.heap.size 5 1 (.slice (some ⟨g, 0, none⟩) n c') n ((dE ds P a (endF fs fd ff ft) id).map (Value.int .u8)) ∧ Below w.heap.size w w' := by
  obtain ⟨bb, hbb⟩ : ∃ f, endF fs fd ff ft = f := ⟨_, rfl⟩
  have hble : ∀ i, bb i ≤ 65535 := by rw [← hbb]; exact endF_le _ _ _ _ hfs hfd hff hft
  have hEN : enA bb = #[.int .u16 ((fs / 65536 : Nat) : Int), .int .u16 ((fs % 65536 : Nat) : Int), .int .u16 ((fd / 65536 : Nat) : Int), .int .u16 ((fd % 65536 : Nat) : Int), .int .u16 (ff : Int), .int .u16 (ft : Int)] := by rw [← hbb]; rfl
  have hb4 : bb 4 = ff ∧ bb 5 = ft := by rw [← hbb]; exact ⟨rfl, rfl⟩
  obtain ⟨e0, he0⟩ : ∃ e, fs / 65536 = e := ⟨_, rfl⟩
  obtain ⟨e1, he1⟩ : ∃ e, fs % 65536 = e := ⟨_, rfl⟩
  obtain ⟨e2, he2⟩ : ∃ e, fd / 65536 = e := ⟨_, rfl⟩
  obtain ⟨e3, he3⟩ : ∃ e, fd % 65536 = e := ⟨_, rfl⟩
  rw [he0, he1, he2, he3] at hEN
  rw [hbb]
  have d0 : (fs : Int) / 65536 = (e0 : Int) := by omega
  have d1 : (fs : Int) % 65536 = (e1 : Int) := by omega
  have d2 : (fd : Int) / 65536 = (e2 : Int) := by omega
  have d3 : (fd : Int) % 65536 = (e3 : Int) := by omega
  have w0 : IntKind.u16.wrap (e0 : Int) = (e0 : Int) := by rw [IntKind.wrap_u16]; omega
  have m0 : (e0 : Int) % 4294967296 = (e0 : Int) := by omega
  have m2 : (e2 : Int) % 4294967296 = (e2 : Int) := by omega
  have w1' : IntKind.u16.wrap (e1 : Int) = (e1 : Int) := by rw [IntKind.wrap_u16]; omega
  have w2' : IntKind.u16.wrap (e2 : Int) = (e2 : Int) := by rw [IntKind.wrap_u16]; omega
  have w3' : IntKind.u16.wrap (e3 : Int) = (e3 : Int) := by rw [IntKind.wrap_u16]; omega
  have HEN := hide hEN
  have HDS := hide (show (∀ x ∈ ds, 0 ≤ x ∧ x ≤ 255) ∧ 28 ≤ ds.length ∧ ds.length = n from ⟨hb, by omega, hl⟩)
  have HBL := hide hble
  have h9 := fld_oneZ ds 9 (by omega) hb
  have h20 := fld_oneZ ds 20 (by omega) hb
  rw [hP] at h9
  obtain ⟨kd, hkd⟩ : ∃ k, fld ds 20 1 = k := ⟨_, rfl⟩
  rw [hkd] at h20
  have H9 := hide h9
  have H20 := hide h20
  have HA := hide (show ∀ k, k < 6 → (P = 1 → k < 4) → fld ds (12 + 2 * k) 2 = a k ∧ a k ≤ 65535 from fun k h1 h2 => ⟨ha k h1 h2, by rw [← ha k h1 h2]; exact fld2_le _ _ hb⟩)
  clear hbb hble hEN he0 he1 he2 he3 h9 h20 hb ha hl hP hfs hfd hff hft
  have p1 : ((P : Int) == 1) = true := by simp; omega
  have p17 : ((P : Int) == 17) = false := by simp; omega
  have p6 : ((P : Int) == 6) = false := by simp; omega
  have HPP := hide hp
  have HPB := hide (And.intro p1 (And.intro p17 p6))
  have hmx : n ≤ 5000 := hn
  rw [hkd] at hid
  have HID := hide hid
  have HKD := hide hkd
  clear hid
  clear hkd hp p1 p17 p6
  obtain ⟨V1, hV1⟩ : ∃ V, w.alloc (.cells #[.int .u8 (fp : Int), .int .u32 (fs : Int), .int .u32 (fd : Int), .int .u16 (ff : Int), .int .u16 (ft : Int)] 29) = V := ⟨_, rfl⟩
  have hz1 : V1.heap.size = w.heap.size + 1 := by rw [← hV1]; simp
  have hb1 : Below w.heap.size w V1 := by rw [← hV1]; exact (Below.refl _ _).alloc (Nat.le_refl _) _
  have hp1_1 : V1.heap[w.heap.size]? = some (.cells #[.int .u8 (fp : Int), .int .u32 (fs : Int), .int .u32 (fd : Int), .int .u16 (ff : Int), .int .u16 (ft : Int)] 29 (0, 0)) := by rw [← hV1]; exact heap_alloc_new _ _
  obtain ⟨BF, hBF⟩ : ∃ B, w.heap.size = B := ⟨_, rfl⟩
  have hw0 : w.heap.size ≤ BF := by omega
  have HF := hide (show V1.heap[BF]? = some (.cells #[.int .u8 (fp : Int), .int .u32 (fs : Int), .int .u32 (fd : Int), .int .u16 (ff : Int), .int .u16 (ft : Int)] 29 (0, 0)) by rw [← hBF]; exact hp1_1)
  have NF : Hid (w.heap.size ≤ BF) := hide hw0
  have AP := hide hLx
  have RP := hide (hLx.below hb1 (Nat.le_refl _))
  have HB := hide hb1
  have HE := hide (And.intro (And.intro trivial trivial) (And.intro hV1 (And.intro hBF (trivial))))
  clear hw0 hV1 hz1 hb1  hp1_1 hBF hLx
  go_enter Try.func37, Try.ntmps37
  go_upto_region 1 with (fail)
  rw [HE.out.2.1]
  try rw [HE.out.2.2.1]
  clear HE
  obtain ⟨vq, v1, hrun, oq, bq, _⟩ := app_own2 (V1.alloc (.cells #[] 5)) V1.heap.size (.slice (some ⟨V1.heap.size, 0, none⟩) 0 0) 0 [] (World.ownsRow_lit V1 #[] 0 (Nat.le_refl _) (by unfold maxLen; omega) rfl) da ds n dc (RP.out.row.below ((Below.refl V1.heap.size V1).alloc (Nat.le_refl _) _) (Nat.le_refl _)) HDS.out.2.2 RP.out.no (by omega) (by simp)
  rw [show 0 + n = n by omega, List.nil_append] at oq
  obtain ⟨aB, cB, rfl⟩ := slice_form oq
  obtain ⟨g, rfl⟩ := slice_someT oq (by omega)
  have HRUN := hide hrun
  have bz := ((Below.refl V1.heap.size V1).alloc (Nat.le_refl _) (.cells #[] 5)).trans bq
  obtain ⟨B0, hB0⟩ : ∃ B, V1.heap.size = B := ⟨_, rfl⟩
  have HB0 := hide (show w.heap.size ≤ B0 by rw [← hB0]; exact HB.out.size)
  have hgF := hide (show BF ≠ g from fun e => by have h1 := (oq.lt g rfl).1; have h2 := lt_of_block HF.out; omega)
  have OG := hide oq
  rw [hB0] at OG
  have HGW := hide (show w.heap.size ≤ g by have := (OG.out.lt g rfl).1; have := HB0.out; omega)
  clear hrun oq bq hB0
  replace HF := hide (below_block bz HF.out (Nat.le_refl _))
  replace RP := hide (RP.out.below bz (Nat.le_refl _))
  replace HB := hide (HB.out.trans (bz.mono HB.out.size))
  clear bz RP AP
  go_upto_region 2 with (at_builtin; refine Lib.wpList_append_run _ rfl _ _ _ _ rfl _ _ rfl rfl _ _ HRUN.out ?_)
  clear HRUN
  have qF_1 : v1.cell? ⟨BF, 1, none⟩ = some (.int .u32 (fs : Int)) := cell_at HF.out 1 rfl
  have qF_2 : v1.cell? ⟨BF, 2, none⟩ = some (.int .u32 (fd : Int)) := cell_at HF.out 2 rfl
  have qF_3 : v1.cell? ⟨BF, 3, none⟩ = some (.int .u16 (ff : Int)) := cell_at HF.out 3 rfl
  have qF_4 : v1.cell? ⟨BF, 4, none⟩ = some (.int .u16 (ft : Int)) := cell_at HF.out 4 rfl
  obtain ⟨v2, hwn, wb, HN1⟩ : ∃ W, v1.alloc (.cells #[.int .u16 (e0 : Int), .int .u16 (e1 : Int), .int .u16 (e2 : Int), .int .u16 (e3 : Int), .int .u16 (ff : Int), .int .u16 (ft : Int)] 22) = W ∧ Below v1.heap.size v1 W ∧ Hid (W.heap[v1.heap.size]? = some (.cells #[.int .u16 (e0 : Int), .int .u16 (e1 : Int), .int .u16 (e2 : Int), .int .u16 (e3 : Int), .int .u16 (ff : Int), .int .u16 (ft : Int)] 22 (0, 0))) := ⟨_, rfl, (Below.refl v1.heap.size v1).alloc (Nat.le_refl _) _, hide (heap_alloc_new v1 _)⟩
  obtain ⟨BE, hBn⟩ : ∃ B, v1.heap.size = B := ⟨_, rfl⟩
  rw [hBn] at HN1
  have HW := hide (And.intro hwn hBn)
  have neE := hide (show BE ≠ g from fun e => by have := (OG.out.lt g rfl).2; omega)
  clear hwn hBn
  have HBo := HB
  replace OG := hide (owns_below OG.out wb (Nat.le_refl _))
  have HFn := hide (below_block wb HF.out (Nat.le_refl _))
  have HBn := hide (HB.out.trans (wb.mono HB.out.size))
  have HE := hide (show v2.heap[BE]? = some (.cells (enA bb) 22 (0, 0)) by rw [HEN.out]; exact HN1.out)
  clear wb HN1 HBo HEN
  go_upto_region 3 with (fail)
  rw [HW.out.1]
  try rw [HW.out.2]
  clear HW d0 d1 d2 d3 w0 w1' w2' w3' m0 m2
  clear qF_1 qF_2 qF_3 qF_4
  replace HF := HFn
  replace HB := HBn
  clear HFn HBn
  obtain ⟨p1, p17, p6⟩ := HPB.out
  have c9 : v2.cell? ⟨g, 9, none⟩ = some (.int .u8 (P : Int)) := by rw [World.ownsRow.cellAt OG.out 9 (by omega), List.getElem?_map, H9.out]; rfl
  go_wp2_with fail
  clear c9 p1 p17 p6
  have HO := hide (show v2.ownsRow B0 5 1 (.slice (some ⟨g, 0, none⟩) n cB) n ((dM ds a bb (min 0 4)).map (Value.int .u8)) by rw [Nat.zero_min, dM_zero ds a bb HDS.out.2.1 HDS.out.1]; exact OG.out)
  have HG0 := hide (World.grownBy.refl v2 (some g))
  clear OG
  have HF0 := HF
  have HE0 := HE
  clear HF HE
  go_loopw [8] (fun i wr => ∃ (k : Nat), k ≤ 6 ∧ i = .int .i64 k ∧ Hid (wr.ownsRow B0 5 1 (.slice (some ⟨g, 0, none⟩) n cB) n ((dM ds a bb (min k 4)).map (Value.int .u8))) ∧ Hid (v2.grownBy wr (some g))) (fun i _ => 6 - (intOf i).toNat)
  case atStart => exact ⟨0, Nat.zero_le _, rfl, HO, HG0⟩
  case round =>
    clear HO HG0
    obtain ⟨k, hk, rfl, HO, HG⟩ := hrel
    have HF := hide (gb_other HG.out HF0.out hgF.out)
    have HE := hide (gb_other HG.out HE0.out neE.out)
    obtain ⟨p1, p17, p6⟩ := HPB.out
    by_cases hlt : k < 6
    · by_cases h4 : k < 4
      ·
        have hk3 : decide ((3 : Int) < (k : Int)) = false := by simp; omega
        have hk3b : decide (3 < k) = false := by simp; omega
        have hk4b : decide (k < 4) = true := by simp; omega
        have hk4c : decide ((k : Int) < 4) = true := by simp; omega
        rw [Nat.min_eq_left (show k ≤ 4 by omega)] at HO
        have hak := HA.out k hlt (by have := HPP.out; omega)
        have hlen : (dM ds a bb k).length = n := (dM_len ds a bb k HDS.out.2.1 (by omega)).trans HDS.out.2.2
        have hrg : ∀ x ∈ dM ds a bb k, 0 ≤ x ∧ x ≤ 255 := dM_rng ds a bb k HDS.out.1
        have hfk : fld (dM ds a bb k) (12 + 2 * k) 2 = a k := (dM_fld ds a bb k (12 + 2 * k) 2 HDS.out.2.1 (by omega) (by omega)).trans hak.1
        obtain ⟨K, hK⟩ : ∃ K : Nat, 12 + 2 * k = K := ⟨_, rfl⟩
        have hw1 : IntKind.i64.wrap (2 * (k : Int)) = 2 * (k : Int) := IntWalk.i64_in _ (by omega)
        have hw2 : IntKind.i64.wrap (12 + 2 * (k : Int)) = (K : Int) := by rw [IntKind.wrap_i64]; omega
        have q2 : wr.cell? ⟨BE, k, none⟩ = some (.int .u16 (bb k : Int)) := en_cell HE.out k hlt
        have hbk := HBL.out k
        have HWD := hide (word_any wr (some ⟨g, 0, none⟩) (dM ds a bb k) n cB (12 + 2 * k) (Lies.of_owns HO.out) hlen hrg hmx (by omega))
        rw [hfk, hK] at HWD
        obtain ⟨x, hx⟩ : ∃ x, a k = x := ⟨_, rfl⟩
        obtain ⟨y, hy⟩ : ∃ y, bb k = y := ⟨_, rfl⟩
        have HXY := hide (And.intro hx (And.intro hy hK))
        have hx9 : x ≤ 65535 := by rw [← hx]; exact hak.2
        have hy9 : y ≤ 65535 := by rw [← hy]; exact hbk
        rw [hx] at HWD
        rw [hy] at q2
        have HFIN := hide (show spl (spl (dM ds a bb k) 10 (numB 2 (dX ds a bb 10 (k + 1)))) K (numB 2 y) = dM ds a bb (k + 1) by rw [← hK, ← hy]; exact (dM_lo ds a bb k HDS.out.2.1 HDS.out.1 (by omega)).2)
        have HF0 := hide (show fld (dM ds a bb k) 10 2 = dX ds a bb 10 k ∧ dX ds a bb 10 (k + 1) = (updS (dX ds a bb 10 k : Nat) ((x : Int), (y : Int))).toNat from ⟨(dM_lo ds a bb k HDS.out.2.1 HDS.out.1 (by omega)).1, by rw [← hx, ← hy]; exact dX_step ds a bb 10 k HDS.out.1 hlt⟩)
        clear hak hlen hrg hfk hx hy hK hbk
        go_wp2_with fail
        refine HWD.out.mono ?_
        rintro e y0 ⟨rfl, q, hq⟩
        have wb : Below wr.heap.size wr y0 := by rw [hq]; exact bdrewN (Below.refl _ _) _
        clear hq HWD q2
        replace HO := hide (owns_below HO.out wb (Nat.le_refl _))
        replace HE := hide (below_block wb HE.out (Nat.le_refl _))
        replace HG := hide (gb_trans HG.out (gb_of_below (r := some g) wb))
        clear wb
        have q2 : y0.cell? ⟨BE, k, none⟩ = some (.int .u16 (y : Int)) := by rw [← HXY.out.2.1]; exact en_cell HE.out k hlt
        go_wp2_with fail
        refine (dchange_any B0 n cB 10 g (dM ds a bb k) x y (dX ds a bb 10 k) _ HO.out (dM_rng ds a bb k HDS.out.1) (by omega) hmx hx9 hy9 HF0.out.1).mono ?_
        rintro e y1 ⟨rfl, o, gg⟩
        rw [← HF0.out.2] at o
        replace HO := hide o
        replace HE := hide (gb_other gg HE.out neE.out)
        replace HG := hide (gb_trans HG.out gg)
        clear o gg q2 HF0
        have q2 : y1.cell? ⟨BE, k, none⟩ = some (.int .u16 (y : Int)) := by rw [← HXY.out.2.1]; exact en_cell HE.out k hlt
        go_wp2_with fail
        refine (dlay_any B0 n cB K g (spl (dM ds a bb k) 10 (numB 2 (dX ds a bb 10 (k + 1)))) y _ HO.out (by have := HXY.out.2.2; omega) (by omega) hy9).mono ?_
        rintro e y9 ⟨rfl, o, gg⟩
        rw [HFIN.out] at o
        replace HO := hide o
        replace HG := hide (gb_trans HG.out gg)
        clear o gg q2
        go_wp2_with fail
        go_roundw
        case rel => exact ⟨k + 1, by omega, by go_num, by rw [Nat.min_eq_left (show k + 1 ≤ 4 by omega)]; exact HO, HG⟩
        case measure => simp [intOf]; omega
      ·
        have hk3 : decide ((3 : Int) < (k : Int)) = true := by simp; omega
        have hk3b : decide (3 < k) = true := by simp; omega
        have hk4b : decide (k < 4) = false := by simp; omega
        have hk4c : decide ((k : Int) < 4) = false := by simp; omega
        rw [Nat.min_eq_right (show 4 ≤ k by omega)] at HO
        have h9k : (dM ds a bb 4)[9]? = some (P : Int) := by rcases dM_at ds a bb 4 9 HDS.out.2.1 (by omega) (by omega) with h | h; (rw [h]; exact H9.out); omega
        have c9 : wr.cell? ⟨g, 9, none⟩ = some (.int .u8 (P : Int)) := by rw [World.ownsRow.cellAt HO.out 9 (by omega), List.getElem?_map, h9k]; rfl
        clear h9k
        go_wp2_with fail
        go_roundw
        case rel => exact ⟨k + 1, by omega, by go_num, by rw [Nat.min_eq_right (show 4 ≤ k + 1 by omega)]; exact HO, HG⟩
        case measure => simp [intOf]; omega
    · obtain rfl : k = 6 := by omega
      rw [show min 6 4 = 4 from rfl] at HO
      have h9k : (dM ds a bb 4)[9]? = some (P : Int) := by rcases dM_at ds a bb 4 9 HDS.out.2.1 (by omega) (by omega) with h | h; (rw [h]; exact H9.out); omega
      have c9 : wr.cell? ⟨g, 9, none⟩ = some (.int .u8 (P : Int)) := by rw [World.ownsRow.cellAt HO.out 9 (by omega), List.getElem?_map, h9k]; rfl
      clear h9k
      have h20k : (dM ds a bb 4)[20]? = some (kd : Int) := by rcases dM_at ds a bb 4 20 HDS.out.2.1 (by omega) (by omega) with h | h; (rw [h]; exact H20.out); omega
      have c20 : wr.cell? ⟨g, 20, none⟩ = some (.int .u8 (kd : Int)) := by rw [World.ownsRow.cellAt HO.out 20 (by omega), List.getElem?_map, h20k]; rfl
      clear h20k
      have qF3 : wr.cell? ⟨BF, 3, none⟩ = some (.int .u16 (ff : Int)) := cell_at HF.out 3 rfl
      have qF4 : wr.cell? ⟨BF, 4, none⟩ = some (.int .u16 (ft : Int)) := cell_at HF.out 4 rfl
      have hidb : id ≤ 65535 := by rw [← HID.out]; have h4 := HBL.out 4; have h5 := HBL.out 5; have hh := hb4; split <;> omega
      have hlen : (dM ds a bb 4).length = n := (dM_len ds a bb 4 HDS.out.2.1 (by omega)).trans HDS.out.2.2
      have hrg : ∀ x ∈ dM ds a bb 4, 0 ≤ x ∧ x ≤ 255 := dM_rng ds a bb 4 HDS.out.1
      have HWD := hide (word_any wr (some ⟨g, 0, none⟩) (dM ds a bb 4) n cB 24 (Lies.of_owns HO.out) hlen hrg hmx (by omega))
      rw [dM_fld ds a bb 4 24 2 HDS.out.2.1 (by omega) (by omega)] at HWD
      have h22 := dM_fld ds a bb 4 22 2 HDS.out.2.1 (by omega) (by omega)
      obtain ⟨x, hx⟩ : ∃ x, fld ds 24 2 = x := ⟨_, rfl⟩
      have hx9 : x ≤ 65535 := by rw [← hx]; exact fld2_le _ _ HDS.out.1
      have HX := hide hx
      rw [hx] at HWD
      have H22 := hide h22
      clear hx h22 hlen hrg
      by_cases hk0 : kd = 0
      ·
        have hid9 : id = ft := by rw [← HID.out, if_pos hk0]
        have hkb : ((kd : Int) == 0) = true := by simp; omega
        have HI9 := hide hid9
        clear hid9 hk0
        go_wp2_with fail
        refine HWD.out.mono ?_
        rintro e y0 ⟨rfl, q, hq⟩
        have wb : Below wr.heap.size wr y0 := by rw [hq]; exact bdrewN (Below.refl _ _) _
        clear hq HWD c9 c20 qF3 qF4 hkb
        replace HO := hide (owns_below HO.out wb (Nat.le_refl _))
        replace HG := hide (gb_trans HG.out (gb_of_below (r := some g) wb))
        clear wb
        have hv9 : ft ≤ 65535 := by rw [← HI9.out]; exact hidb
        go_wp2_with fail
        refine (dchange_any B0 n cB 22 g (dM ds a bb 4) x ft (fld ds 22 2) _ HO.out (dM_rng ds a bb 4 HDS.out.1) (by omega) hmx hx9 hv9 H22.out).mono ?_
        rintro e y1 ⟨rfl, o, gg⟩
        replace HO := hide o
        replace HG := hide (gb_trans HG.out gg)
        clear o gg
        go_wp2_with fail
        refine (dlay_any B0 n cB 24 g _ ft _ HO.out (by omega) (by omega) hv9).mono ?_
        rintro e y2 ⟨rfl, o, gg⟩
        replace HO := hide o
        replace HG := hide (gb_trans HG.out gg)
        clear o gg
        go_wp2_with fail
        go_ret
        have hfin : spl (spl (dM ds a bb 4) 22 (numB 2 (updS (fld ds 22 2 : Nat) ((x : Int), (ft : Int))).toNat)) 24 (numB 2 ft) = dE ds P a bb id := by
          unfold dE
          rw [if_pos HPP.out, HX.out, HI9.out]
        rw [hfin] at HO
        exact ⟨g, cB, rfl, owns_mono HO.out HB0.out, HB.out.grown HG.out HB.out.size (fun k e => by cases e; exact HGW.out)⟩
      ·
        have hid9 : id = ff := by rw [← HID.out, if_neg hk0]
        have hkb : ((kd : Int) == 0) = false := by simp; omega
        have HI9 := hide hid9
        clear hid9 hk0
        go_wp2_with fail
        refine HWD.out.mono ?_
        rintro e y0 ⟨rfl, q, hq⟩
        have wb : Below wr.heap.size wr y0 := by rw [hq]; exact bdrewN (Below.refl _ _) _
        clear hq HWD c9 c20 qF3 qF4 hkb
        replace HO := hide (owns_below HO.out wb (Nat.le_refl _))
        replace HG := hide (gb_trans HG.out (gb_of_below (r := some g) wb))
        clear wb
        have hv9 : ff ≤ 65535 := by rw [← HI9.out]; exact hidb
        go_wp2_with fail
        refine (dchange_any B0 n cB 22 g (dM ds a bb 4) x ff (fld ds 22 2) _ HO.out (dM_rng ds a bb 4 HDS.out.1) (by omega) hmx hx9 hv9 H22.out).mono ?_
        rintro e y1 ⟨rfl, o, gg⟩
        replace HO := hide o
        replace HG := hide (gb_trans HG.out gg)
        clear o gg
        go_wp2_with fail
        refine (dlay_any B0 n cB 24 g _ ff _ HO.out (by omega) (by omega) hv9).mono ?_
        rintro e y2 ⟨rfl, o, gg⟩
        replace HO := hide o
        replace HG := hide (gb_trans HG.out gg)
        clear o gg
        go_wp2_with fail
        go_ret
        have hfin : spl (spl (dM ds a bb 4) 22 (numB 2 (updS (fld ds 22 2 : Nat) ((x : Int), (ff : Int))).toNat)) 24 (numB 2 ff) = dE ds P a bb id := by
          unfold dE
          rw [if_pos HPP.out, HX.out, HI9.out]
        rw [hfin] at HO
        exact ⟨g, cB, rfl, owns_mono HO.out HB0.out, HB.out.grown HG.out HB.out.size (fun k e => by cases e; exact HGW.out)⟩
set_option maxHeartbeats 4000000 in
theorem retR_udp0 (w : World) (da : Option Addr) (ds : List Int) (n dc : Nat) (P : Nat) (a : Nat → Nat) (fp fs fd ff ft id : Nat) (hLx : Lies w da ds n dc) (hl : ds.length = n) (hb : ∀ x ∈ ds, 0 ≤ x ∧ x ≤ 255) (hn0 : 28 ≤ n) (hn : n ≤ 5000) (hP : fld ds 9 1 = P) (ha : ∀ k, k < 6 → (P = 1 → k < 4) → fld ds (12 + 2 * k) 2 = a k) (hfs : fs ≤ 4294967295) (hfd : fd ≤ 4294967295) (hff : ff ≤ 65535) (hft : ft ≤ 65535) (hp : P = 17) (hz : fld ds 26 2 = 0) :
    Calls Try.prog 37 #[.slice da n dc, .agg #[.int .u8 (fp : Int), .int .u32 (fs : Int), .int .u32 (fd : Int), .int .u16 (ff : Int), .int .u16 (ft : Int)]] w fun e w' => ∃ g c', e = .returned (.slice (some ⟨g, 0, none⟩) n c') ∧ w'.ownsRow w.heap.size 5 1 (.slice (some ⟨g, 0, none⟩) n c') n ((dE ds P a (endF fs fd ff ft) id).map (Value.int .u8)) ∧ Below w.heap.size w w' := by
  obtain ⟨bb, hbb⟩ : ∃ f, endF fs fd ff ft = f := ⟨_, rfl⟩
  have hble : ∀ i, bb i ≤ 65535 := by rw [← hbb]; exact endF_le _ _ _ _ hfs hfd hff hft
  have hEN : enA bb = #[.int .u16 ((fs / 65536 : Nat) : Int), .int .u16 ((fs % 65536 : Nat) : Int), .int .u16 ((fd / 65536 : Nat) : Int), .int .u16 ((fd % 65536 : Nat) : Int), .int .u16 (ff : Int), .int .u16 (ft : Int)] := by rw [← hbb]; rfl
  have hb4 : bb 4 = ff ∧ bb 5 = ft := by rw [← hbb]; exact ⟨rfl, rfl⟩
  obtain ⟨e0, he0⟩ : ∃ e, fs / 65536 = e := ⟨_, rfl⟩
  obtain ⟨e1, he1⟩ : ∃ e, fs % 65536 = e := ⟨_, rfl⟩
  obtain ⟨e2, he2⟩ : ∃ e, fd / 65536 = e := ⟨_, rfl⟩
  obtain ⟨e3, he3⟩ : ∃ e, fd % 65536 = e := ⟨_, rfl⟩
  rw [he0, he1, he2, he3] at hEN
  rw [hbb]
  have d0 : (fs : Int) / 65536 = (e0 : Int) := by omega
  have d1 : (fs : Int) % 65536 = (e1 : Int) := by omega
  have d2 : (fd : Int) / 65536 = (e2 : Int) := by omega
  have d3 : (fd : Int) % 65536 = (e3 : Int) := by omega
  have w0 : IntKind.u16.wrap (e0 : Int) = (e0 : Int) := by rw [IntKind.wrap_u16]; omega
  have m0 : (e0 : Int) % 4294967296 = (e0 : Int) := by omega
  have m2 : (e2 : Int) % 4294967296 = (e2 : Int) := by omega
  have w1' : IntKind.u16.wrap (e1 : Int) = (e1 : Int) := by rw [IntKind.wrap_u16]; omega
  have w2' : IntKind.u16.wrap (e2 : Int) = (e2 : Int) := by rw [IntKind.wrap_u16]; omega
  have w3' : IntKind.u16.wrap (e3 : Int) = (e3 : Int) := by rw [IntKind.wrap_u16]; omega
  have HEN := hide hEN
  have HDS := hide (show (∀ x ∈ ds, 0 ≤ x ∧ x ≤ 255) ∧ 28 ≤ ds.length ∧ ds.length = n from ⟨hb, by omega, hl⟩)
  have HBL := hide hble
  have h9 := fld_oneZ ds 9 (by omega) hb
  have h20 := fld_oneZ ds 20 (by omega) hb
  rw [hP] at h9
  obtain ⟨kd, hkd⟩ : ∃ k, fld ds 20 1 = k := ⟨_, rfl⟩
  rw [hkd] at h20
  have H9 := hide h9
  have H20 := hide h20
  have HA := hide (show ∀ k, k < 6 → (P = 1 → k < 4) → fld ds (12 + 2 * k) 2 = a k ∧ a k ≤ 65535 from fun k h1 h2 => ⟨ha k h1 h2, by rw [← ha k h1 h2]; exact fld2_le _ _ hb⟩)
  clear hbb hble hEN he0 he1 he2 he3 h9 h20 hb ha hl hP hfs hfd hff hft
  have p1 : ((P : Int) == 1) = false := by simp; omega
  have p17 : ((P : Int) == 17) = true := by simp; omega
  have p6 : ((P : Int) == 6) = false := by simp; omega
  have HPP := hide hp
  have HPB := hide (And.intro p1 (And.intro p17 p6))
  have hmx : n ≤ 5000 := hn
  have HZ := hide hz
  clear hz
  clear hkd hp p1 p17 p6
  obtain ⟨V1, hV1⟩ : ∃ V, w.alloc (.cells #[.int .u8 (fp : Int), .int .u32 (fs : Int), .int .u32 (fd : Int), .int .u16 (ff : Int), .int .u16 (ft : Int)] 29) = V := ⟨_, rfl⟩
  have hz1 : V1.heap.size = w.heap.size + 1 := by rw [← hV1]; simp
  have hb1 : Below w.heap.size w V1 := by rw [← hV1]; exact (Below.refl _ _).alloc (Nat.le_refl _) _
  have hp1_1 : V1.heap[w.heap.size]? = some (.cells #[.int .u8 (fp : Int), .int .u32 (fs : Int), .int .u32 (fd : Int), .int .u16 (ff : Int), .int .u16 (ft : Int)] 29 (0, 0)) := by rw [← hV1]; exact heap_alloc_new _ _
  obtain ⟨BF, hBF⟩ : ∃ B, w.heap.size = B := ⟨_, rfl⟩
  have hw0 : w.heap.size ≤ BF := by omega
  have HF := hide (show V1.heap[BF]? = some (.cells #[.int .u8 (fp : Int), .int .u32 (fs : Int), .int .u32 (fd : Int), .int .u16 (ff : Int), .int .u16 (ft : Int)] 29 (0, 0)) by rw [← hBF]; exact hp1_1)
  have NF : Hid (w.heap.size ≤ BF) := hide hw0
  have AP := hide hLx
  have RP := hide (hLx.below hb1 (Nat.le_refl _))
  have HB := hide hb1
  have HE := hide (And.intro (And.intro trivial trivial) (And.intro hV1 (And.intro hBF (trivial))))
  clear hw0 hV1 hz1 hb1  hp1_1 hBF hLx
  go_enter Try.func37, Try.ntmps37
  go_upto_region 1 with (fail)
  rw [HE.out.2.1]
  try rw [HE.out.2.2.1]
  clear HE
  obtain ⟨vq, v1, hrun, oq, bq, _⟩ := app_own2 (V1.alloc (.cells #[] 5)) V1.heap.size (.slice (some ⟨V1.heap.size, 0, none⟩) 0 0) 0 [] (World.ownsRow_lit V1 #[] 0 (Nat.le_refl _) (by unfold maxLen; omega) rfl) da ds n dc (RP.out.row.below ((Below.refl V1.heap.size V1).alloc (Nat.le_refl _) _) (Nat.le_refl _)) HDS.out.2.2 RP.out.no (by omega) (by simp)
  rw [show 0 + n = n by omega, List.nil_append] at oq
  obtain ⟨aB, cB, rfl⟩ := slice_form oq
  obtain ⟨g, rfl⟩ := slice_someT oq (by omega)
  have HRUN := hide hrun
  have bz := ((Below.refl V1.heap.size V1).alloc (Nat.le_refl _) (.cells #[] 5)).trans bq
  obtain ⟨B0, hB0⟩ : ∃ B, V1.heap.size = B := ⟨_, rfl⟩
  have HB0 := hide (show w.heap.size ≤ B0 by rw [← hB0]; exact HB.out.size)
  have hgF := hide (show BF ≠ g from fun e => by have h1 := (oq.lt g rfl).1; have h2 := lt_of_block HF.out; omega)
  have OG := hide oq
  rw [hB0] at OG
  have HGW := hide (show w.heap.size ≤ g by have := (OG.out.lt g rfl).1; have := HB0.out; omega)
  clear hrun oq bq hB0
  replace HF := hide (below_block bz HF.out (Nat.le_refl _))
  replace RP := hide (RP.out.below bz (Nat.le_refl _))
  replace HB := hide (HB.out.trans (bz.mono HB.out.size))
  clear bz RP AP
  go_upto_region 2 with (at_builtin; refine Lib.wpList_append_run _ rfl _ _ _ _ rfl _ _ rfl rfl _ _ HRUN.out ?_)
  clear HRUN
  have qF_1 : v1.cell? ⟨BF, 1, none⟩ = some (.int .u32 (fs : Int)) := cell_at HF.out 1 rfl
  have qF_2 : v1.cell? ⟨BF, 2, none⟩ = some (.int .u32 (fd : Int)) := cell_at HF.out 2 rfl
  have qF_3 : v1.cell? ⟨BF, 3, none⟩ = some (.int .u16 (ff : Int)) := cell_at HF.out 3 rfl
  have qF_4 : v1.cell? ⟨BF, 4, none⟩ = some (.int .u16 (ft : Int)) := cell_at HF.out 4 rfl
  obtain ⟨v2, hwn, wb, HN1⟩ : ∃ W, v1.alloc (.cells #[.int .u16 (e0 : Int), .int .u16 (e1 : Int), .int .u16 (e2 : Int), .int .u16 (e3 : Int), .int .u16 (ff : Int), .int .u16 (ft : Int)] 22) = W ∧ Below v1.heap.size v1 W ∧ Hid (W.heap[v1.heap.size]? = some (.cells #[.int .u16 (e0 : Int), .int .u16 (e1 : Int), .int .u16 (e2 : Int), .int .u16 (e3 : Int), .int .u16 (ff : Int), .int .u16 (ft : Int)] 22 (0, 0))) := ⟨_, rfl, (Below.refl v1.heap.size v1).alloc (Nat.le_refl _) _, hide (heap_alloc_new v1 _)⟩
  obtain ⟨BE, hBn⟩ : ∃ B, v1.heap.size = B := ⟨_, rfl⟩
  rw [hBn] at HN1
  have HW := hide (And.intro hwn hBn)
  have neE := hide (show BE ≠ g from fun e => by have := (OG.out.lt g rfl).2; omega)
  clear hwn hBn
  have HBo := HB
  replace OG := hide (owns_below OG.out wb (Nat.le_refl _))
  have HFn := hide (below_block wb HF.out (Nat.le_refl _))
  have HBn := hide (HB.out.trans (wb.mono HB.out.size))
  have HE := hide (show v2.heap[BE]? = some (.cells (enA bb) 22 (0, 0)) by rw [HEN.out]; exact HN1.out)
  clear wb HN1 HBo HEN
  go_upto_region 3 with (fail)
  rw [HW.out.1]
  try rw [HW.out.2]
  clear HW d0 d1 d2 d3 w0 w1' w2' w3' m0 m2
  clear qF_1 qF_2 qF_3 qF_4
  replace HF := HFn
  replace HB := HBn
  clear HFn HBn
  obtain ⟨p1, p17, p6⟩ := HPB.out
  have c9 : v2.cell? ⟨g, 9, none⟩ = some (.int .u8 (P : Int)) := by rw [World.ownsRow.cellAt OG.out 9 (by omega), List.getElem?_map, H9.out]; rfl
  have HWD := hide (word_any v2 (some ⟨g, 0, none⟩) ds n cB 26 (Lies.of_owns OG.out) HDS.out.2.2 HDS.out.1 hmx (by omega))
  rw [HZ.out, show ((0 : Nat) : Int) = 0 from rfl] at HWD
  go_wp2_with fail
  refine HWD.out.mono ?_
  rintro e v3 ⟨rfl, q, hq⟩
  have wb : Below v2.heap.size v2 v3 := by rw [hq]; exact bdrewN (Below.refl _ _) _
  clear hq HWD c9
  replace OG := hide (owns_below OG.out wb (Nat.le_refl _))
  replace HE := hide (below_block wb HE.out (Nat.le_refl _))
  replace HF := hide (below_block wb HF.out (Nat.le_refl _))
  replace HB := hide (HB.out.trans (wb.mono HB.out.size))
  clear wb
  have c9 : v3.cell? ⟨g, 9, none⟩ = some (.int .u8 (P : Int)) := by rw [World.ownsRow.cellAt OG.out 9 (by omega), List.getElem?_map, H9.out]; rfl
  go_wp2_with fail
  clear c9 p1 p17 p6
  have HO := hide (show v3.ownsRow B0 5 1 (.slice (some ⟨g, 0, none⟩) n cB) n ((dM ds a bb 0).map (Value.int .u8)) by rw [dM_zero ds a bb HDS.out.2.1 HDS.out.1]; exact OG.out)
  have HG0 := hide (World.grownBy.refl v3 (some g))
  clear OG
  have HF0 := HF
  have HE0 := HE
  clear HF HE
  go_loopw [8] (fun i wr => ∃ (k : Nat), k ≤ 6 ∧ i = .int .i64 k ∧ Hid (wr.ownsRow B0 5 1 (.slice (some ⟨g, 0, none⟩) n cB) n ((dM ds a bb k).map (Value.int .u8))) ∧ Hid (v3.grownBy wr (some g))) (fun i _ => 6 - (intOf i).toNat)
  case atStart => exact ⟨0, Nat.zero_le _, rfl, HO, HG0⟩
  case round =>
    clear HO HG0
    obtain ⟨k, hk, rfl, HO, HG⟩ := hrel
    have HF := hide (gb_other HG.out HF0.out hgF.out)
    have HE := hide (gb_other HG.out HE0.out neE.out)
    obtain ⟨p1, p17, p6⟩ := HPB.out
    by_cases hlt : k < 6
    · by_cases h4 : k < 4
      ·
        have hk3 : decide ((3 : Int) < (k : Int)) = false := by simp; omega
        have hk3b : decide (3 < k) = false := by simp; omega
        have hk4b : decide (k < 4) = true := by simp; omega
        have hk4c : decide ((k : Int) < 4) = true := by simp; omega
        have hak := HA.out k hlt (by have := HPP.out; omega)
        have hlen : (dM ds a bb k).length = n := (dM_len ds a bb k HDS.out.2.1 (by omega)).trans HDS.out.2.2
        have hrg : ∀ x ∈ dM ds a bb k, 0 ≤ x ∧ x ≤ 255 := dM_rng ds a bb k HDS.out.1
        have hfk : fld (dM ds a bb k) (12 + 2 * k) 2 = a k := (dM_fld ds a bb k (12 + 2 * k) 2 HDS.out.2.1 (by omega) (by omega)).trans hak.1
        obtain ⟨K, hK⟩ : ∃ K : Nat, 12 + 2 * k = K := ⟨_, rfl⟩
        have hw1 : IntKind.i64.wrap (2 * (k : Int)) = 2 * (k : Int) := IntWalk.i64_in _ (by omega)
        have hw2 : IntKind.i64.wrap (12 + 2 * (k : Int)) = (K : Int) := by rw [IntKind.wrap_i64]; omega
        have q2 : wr.cell? ⟨BE, k, none⟩ = some (.int .u16 (bb k : Int)) := en_cell HE.out k hlt
        have hbk := HBL.out k
        have HWD := hide (word_any wr (some ⟨g, 0, none⟩) (dM ds a bb k) n cB (12 + 2 * k) (Lies.of_owns HO.out) hlen hrg hmx (by omega))
        rw [hfk, hK] at HWD
        obtain ⟨x, hx⟩ : ∃ x, a k = x := ⟨_, rfl⟩
        obtain ⟨y, hy⟩ : ∃ y, bb k = y := ⟨_, rfl⟩
        have HXY := hide (And.intro hx (And.intro hy hK))
        have hx9 : x ≤ 65535 := by rw [← hx]; exact hak.2
        have hy9 : y ≤ 65535 := by rw [← hy]; exact hbk
        rw [hx] at HWD
        rw [hy] at q2
        have HFIN := hide (show spl (spl (dM ds a bb k) 10 (numB 2 (dX ds a bb 10 (k + 1)))) K (numB 2 y) = dM ds a bb (k + 1) by rw [← hK, ← hy]; exact (dM_lo ds a bb k HDS.out.2.1 HDS.out.1 (by omega)).2)
        have HF0 := hide (show fld (dM ds a bb k) 10 2 = dX ds a bb 10 k ∧ dX ds a bb 10 (k + 1) = (updS (dX ds a bb 10 k : Nat) ((x : Int), (y : Int))).toNat from ⟨(dM_lo ds a bb k HDS.out.2.1 HDS.out.1 (by omega)).1, by rw [← hx, ← hy]; exact dX_step ds a bb 10 k HDS.out.1 hlt⟩)
        clear hak hlen hrg hfk hx hy hK hbk
        go_wp2_with fail
        refine HWD.out.mono ?_
        rintro e y0 ⟨rfl, q, hq⟩
        have wb : Below wr.heap.size wr y0 := by rw [hq]; exact bdrewN (Below.refl _ _) _
        clear hq HWD q2
        replace HO := hide (owns_below HO.out wb (Nat.le_refl _))
        replace HE := hide (below_block wb HE.out (Nat.le_refl _))
        replace HG := hide (gb_trans HG.out (gb_of_below (r := some g) wb))
        clear wb
        have q2 : y0.cell? ⟨BE, k, none⟩ = some (.int .u16 (y : Int)) := by rw [← HXY.out.2.1]; exact en_cell HE.out k hlt
        go_wp2_with fail
        refine (dchange_any B0 n cB 10 g (dM ds a bb k) x y (dX ds a bb 10 k) _ HO.out (dM_rng ds a bb k HDS.out.1) (by omega) hmx hx9 hy9 HF0.out.1).mono ?_
        rintro e y1 ⟨rfl, o, gg⟩
        rw [← HF0.out.2] at o
        replace HO := hide o
        replace HE := hide (gb_other gg HE.out neE.out)
        replace HG := hide (gb_trans HG.out gg)
        clear o gg q2 HF0
        have q2 : y1.cell? ⟨BE, k, none⟩ = some (.int .u16 (y : Int)) := by rw [← HXY.out.2.1]; exact en_cell HE.out k hlt
        go_wp2_with fail
        refine (dlay_any B0 n cB K g (spl (dM ds a bb k) 10 (numB 2 (dX ds a bb 10 (k + 1)))) y _ HO.out (by have := HXY.out.2.2; omega) (by omega) hy9).mono ?_
        rintro e y9 ⟨rfl, o, gg⟩
        rw [HFIN.out] at o
        replace HO := hide o
        replace HG := hide (gb_trans HG.out gg)
        clear o gg q2
        go_wp2_with fail
        go_roundw
        case rel => exact ⟨k + 1, by omega, by go_num, HO, HG⟩
        case measure => simp [intOf]; omega
      ·
        have hk3 : decide ((3 : Int) < (k : Int)) = true := by simp; omega
        have hk3b : decide (3 < k) = true := by simp; omega
        have hk4b : decide (k < 4) = false := by simp; omega
        have hk4c : decide ((k : Int) < 4) = false := by simp; omega
        have h9k : (dM ds a bb k)[9]? = some (P : Int) := by rcases dM_at ds a bb k 9 HDS.out.2.1 (by omega) (by omega) with h | h; (rw [h]; exact H9.out); omega
        have c9 : wr.cell? ⟨g, 9, none⟩ = some (.int .u8 (P : Int)) := by rw [World.ownsRow.cellAt HO.out 9 (by omega), List.getElem?_map, h9k]; rfl
        clear h9k
        have hak := HA.out k hlt (by have := HPP.out; omega)
        have hlen : (dM ds a bb k).length = n := (dM_len ds a bb k HDS.out.2.1 (by omega)).trans HDS.out.2.2
        have hrg : ∀ x ∈ dM ds a bb k, 0 ≤ x ∧ x ≤ 255 := dM_rng ds a bb k HDS.out.1
        have hfk : fld (dM ds a bb k) (12 + 2 * k) 2 = a k := (dM_fld ds a bb k (12 + 2 * k) 2 HDS.out.2.1 (by omega) (by omega)).trans hak.1
        obtain ⟨K, hK⟩ : ∃ K : Nat, 12 + 2 * k = K := ⟨_, rfl⟩
        have hw1 : IntKind.i64.wrap (2 * (k : Int)) = 2 * (k : Int) := IntWalk.i64_in _ (by omega)
        have hw2 : IntKind.i64.wrap (12 + 2 * (k : Int)) = (K : Int) := by rw [IntKind.wrap_i64]; omega
        have q2 : wr.cell? ⟨BE, k, none⟩ = some (.int .u16 (bb k : Int)) := en_cell HE.out k hlt
        have hbk := HBL.out k
        have HWD := hide (word_any wr (some ⟨g, 0, none⟩) (dM ds a bb k) n cB (12 + 2 * k) (Lies.of_owns HO.out) hlen hrg hmx (by omega))
        rw [hfk, hK] at HWD
        obtain ⟨x, hx⟩ : ∃ x, a k = x := ⟨_, rfl⟩
        obtain ⟨y, hy⟩ : ∃ y, bb k = y := ⟨_, rfl⟩
        have HXY := hide (And.intro hx (And.intro hy hK))
        have hx9 : x ≤ 65535 := by rw [← hx]; exact hak.2
        have hy9 : y ≤ 65535 := by rw [← hy]; exact hbk
        rw [hx] at HWD
        rw [hy] at q2
        have HFIN := hide (show spl (dM ds a bb k) K (numB 2 y) = dM ds a bb (k + 1) by rw [← hK, ← hy]; exact dM_hi ds a bb k HDS.out.2.1 (by omega) (by omega))
        clear hak hlen hrg hfk hx hy hK hbk
        go_wp2_with fail
        refine HWD.out.mono ?_
        rintro e y0 ⟨rfl, q, hq⟩
        have wb : Below wr.heap.size wr y0 := by rw [hq]; exact bdrewN (Below.refl _ _) _
        clear hq HWD q2 c9
        replace HO := hide (owns_below HO.out wb (Nat.le_refl _))
        replace HE := hide (below_block wb HE.out (Nat.le_refl _))
        replace HG := hide (gb_trans HG.out (gb_of_below (r := some g) wb))
        clear wb
        have q2 : y0.cell? ⟨BE, k, none⟩ = some (.int .u16 (y : Int)) := by rw [← HXY.out.2.1]; exact en_cell HE.out k hlt
        go_wp2_with fail
        refine (dlay_any B0 n cB K g (dM ds a bb k) y _ HO.out (by have := HXY.out.2.2; omega) (by omega) hy9).mono ?_
        rintro e y9 ⟨rfl, o, gg⟩
        rw [HFIN.out] at o
        replace HO := hide o
        replace HG := hide (gb_trans HG.out gg)
        clear o gg q2
        go_wp2_with fail
        go_roundw
        case rel => exact ⟨k + 1, by omega, by go_num, HO, HG⟩
        case measure => simp [intOf]; omega
    · obtain rfl : k = 6 := by omega
      have h9k : (dM ds a bb 6)[9]? = some (P : Int) := by rcases dM_at ds a bb 6 9 HDS.out.2.1 (by omega) (by omega) with h | h; (rw [h]; exact H9.out); omega
      have c9 : wr.cell? ⟨g, 9, none⟩ = some (.int .u8 (P : Int)) := by rw [World.ownsRow.cellAt HO.out 9 (by omega), List.getElem?_map, h9k]; rfl
      clear h9k
      go_wp2_with fail
      go_ret
      have hfin : dM ds a bb 6 = dE ds P a bb id := by
        unfold dE
        rw [if_neg (by have := HPP.out; omega), if_pos HPP.out, if_pos HZ.out]
      rw [hfin] at HO
      exact ⟨g, cB, rfl, owns_mono HO.out HB0.out, HB.out.grown HG.out HB.out.size (fun k e => by cases e; exact HGW.out)⟩
set_option maxHeartbeats 4000000 in
theorem retR_udp1 (w : World) (da : Option Addr) (ds : List Int) (n dc : Nat) (P : Nat) (a : Nat → Nat) (fp fs fd ff ft id : Nat) (hLx : Lies w da ds n dc) (hl : ds.length = n) (hb : ∀ x ∈ ds, 0 ≤ x ∧ x ≤ 255) (hn0 : 28 ≤ n) (hn : n ≤ 5000) (hP : fld ds 9 1 = P) (ha : ∀ k, k < 6 → (P = 1 → k < 4) → fld ds (12 + 2 * k) 2 = a k) (hfs : fs ≤ 4294967295) (hfd : fd ≤ 4294967295) (hff : ff ≤ 65535) (hft : ft ≤ 65535) (hp : P = 17) (hz : fld ds 26 2 ≠ 0) (hz2 : dX ds a (endF fs fd ff ft) 26 6 ≠ 0) :
    Calls Try.prog 37 #[.slice da n dc, .agg #[.int .u8 (fp : Int), .int .u32 (fs : Int), .int .u32 (fd : Int), .int .u16 (ff : Int), .int .u16 (ft : Int)]] w fun e w' => ∃ g c', e = .returned (.slice (some ⟨g, 0, none⟩) n c') ∧ w'.ownsRow w.heap.size 5 1 (.slice (some ⟨g, 0, none⟩) n c') n ((dE ds P a (endF fs fd ff ft) id).map (Value.int .u8)) ∧ Below w.heap.size w w' := by
  obtain ⟨bb, hbb⟩ : ∃ f, endF fs fd ff ft = f := ⟨_, rfl⟩
  have hble : ∀ i, bb i ≤ 65535 := by rw [← hbb]; exact endF_le _ _ _ _ hfs hfd hff hft
  have hEN : enA bb = #[.int .u16 ((fs / 65536 : Nat) : Int), .int .u16 ((fs % 65536 : Nat) : Int), .int .u16 ((fd / 65536 : Nat) : Int), .int .u16 ((fd % 65536 : Nat) : Int), .int .u16 (ff : Int), .int .u16 (ft : Int)] := by rw [← hbb]; rfl
  have hb4 : bb 4 = ff ∧ bb 5 = ft := by rw [← hbb]; exact ⟨rfl, rfl⟩
  obtain ⟨e0, he0⟩ : ∃ e, fs / 65536 = e := ⟨_, rfl⟩
  obtain ⟨e1, he1⟩ : ∃ e, fs % 65536 = e := ⟨_, rfl⟩
  obtain ⟨e2, he2⟩ : ∃ e, fd / 65536 = e := ⟨_, rfl⟩
  obtain ⟨e3, he3⟩ : ∃ e, fd % 65536 = e := ⟨_, rfl⟩
  rw [he0, he1, he2, he3] at hEN
  rw [hbb]
  rw [hbb] at hz2
  have d0 : (fs : Int) / 65536 = (e0 : Int) := by omega
  have d1 : (fs : Int) % 65536 = (e1 : Int) := by omega
  have d2 : (fd : Int) / 65536 = (e2 : Int) := by omega
  have d3 : (fd : Int) % 65536 = (e3 : Int) := by omega
  have w0 : IntKind.u16.wrap (e0 : Int) = (e0 : Int) := by rw [IntKind.wrap_u16]; omega
  have m0 : (e0 : Int) % 4294967296 = (e0 : Int) := by omega
  have m2 : (e2 : Int) % 4294967296 = (e2 : Int) := by omega
  have w1' : IntKind.u16.wrap (e1 : Int) = (e1 : Int) := by rw [IntKind.wrap_u16]; omega
  have w2' : IntKind.u16.wrap (e2 : Int) = (e2 : Int) := by rw [IntKind.wrap_u16]; omega
  have w3' : IntKind.u16.wrap (e3 : Int) = (e3 : Int) := by rw [IntKind.wrap_u16]; omega
  have HEN := hide hEN
  have HDS := hide (show (∀ x ∈ ds, 0 ≤ x ∧ x ≤ 255) ∧ 28 ≤ ds.length ∧ ds.length = n from ⟨hb, by omega, hl⟩)
  have HBL := hide hble
  have h9 := fld_oneZ ds 9 (by omega) hb
  have h20 := fld_oneZ ds 20 (by omega) hb
  rw [hP] at h9
  obtain ⟨kd, hkd⟩ : ∃ k, fld ds 20 1 = k := ⟨_, rfl⟩
  rw [hkd] at h20
  have H9 := hide h9
  have H20 := hide h20
  have HA := hide (show ∀ k, k < 6 → (P = 1 → k < 4) → fld ds (12 + 2 * k) 2 = a k ∧ a k ≤ 65535 from fun k h1 h2 => ⟨ha k h1 h2, by rw [← ha k h1 h2]; exact fld2_le _ _ hb⟩)
  clear hbb hble hEN he0 he1 he2 he3 h9 h20 hb ha hl hP hfs hfd hff hft
  have p1 : ((P : Int) == 1) = false := by simp; omega
  have p17 : ((P : Int) == 17) = true := by simp; omega
  have p6 : ((P : Int) == 6) = false := by simp; omega
  have HPP := hide hp
  have HPB := hide (And.intro p1 (And.intro p17 p6))
  have hmx : n ≤ 5000 := hn
  have HZ := hide hz
  clear hz
  have HZ2 := hide hz2
  clear hz2
  clear hkd hp p1 p17 p6
  obtain ⟨V1, hV1⟩ : ∃ V, w.alloc (.cells #[.int .u8 (fp : Int), .int .u32 (fs : Int), .int .u32 (fd : Int), .int .u16 (ff : Int), .int .u16 (ft : Int)] 29) = V := ⟨_, rfl⟩
  have hz1 : V1.heap.size = w.heap.size + 1 := by rw [← hV1]; simp
  have hb1 : Below w.heap.size w V1 := by rw [← hV1]; exact (Below.refl _ _).alloc (Nat.le_refl _) _
  have hp1_1 : V1.heap[w.heap.size]? = some (.cells #[.int .u8 (fp : Int), .int .u32 (fs : Int), .int .u32 (fd : Int), .int .u16 (ff : Int), .int .u16 (ft : Int)] 29 (0, 0)) := by rw [← hV1]; exact heap_alloc_new _ _
  obtain ⟨BF, hBF⟩ : ∃ B, w.heap.size = B := ⟨_, rfl⟩
  have hw0 : w.heap.size ≤ BF := by omega
  have HF := hide (show V1.heap[BF]? = some (.cells #[.int .u8 (fp : Int), .int .u32 (fs : Int), .int .u32 (fd : Int), .int .u16 (ff : Int), .int .u16 (ft : Int)] 29 (0, 0)) by rw [← hBF]; exact hp1_1)
  have NF : Hid (w.heap.size ≤ BF) := hide hw0
  have AP := hide hLx
  have RP := hide (hLx.below hb1 (Nat.le_refl _))
  have HB := hide hb1
  have HE := hide (And.intro (And.intro trivial trivial) (And.intro hV1 (And.intro hBF (trivial))))
  clear hw0 hV1 hz1 hb1  hp1_1 hBF hLx
  go_enter Try.func37, Try.ntmps37
  go_upto_region 1 with (fail)
  rw [HE.out.2.1]
  try rw [HE.out.2.2.1]
  clear HE
  obtain ⟨vq, v1, hrun, oq, bq, _⟩ := app_own2 (V1.alloc (.cells #[] 5)) V1.heap.size (.slice (some ⟨V1.heap.size, 0, none⟩) 0 0) 0 [] (World.ownsRow_lit V1 #[] 0 (Nat.le_refl _) (by unfold maxLen; omega) rfl) da ds n dc (RP.out.row.below ((Below.refl V1.heap.size V1).alloc (Nat.le_refl _) _) (Nat.le_refl _)) HDS.out.2.2 RP.out.no (by omega) (by simp)
  rw [show 0 + n = n by omega, List.nil_append] at oq
  obtain ⟨aB, cB, rfl⟩ := slice_form oq
  obtain ⟨g, rfl⟩ := slice_someT oq (by omega)
  have HRUN := hide hrun
  have bz := ((Below.refl V1.heap.size V1).alloc (Nat.le_refl _) (.cells #[] 5)).trans bq
  obtain ⟨B0, hB0⟩ : ∃ B, V1.heap.size = B := ⟨_, rfl⟩
  have HB0 := hide (show w.heap.size ≤ B0 by rw [← hB0]; exact HB.out.size)
  have hgF := hide (show BF ≠ g from fun e => by have h1 := (oq.lt g rfl).1; have h2 := lt_of_block HF.out; omega)
  have OG := hide oq
  rw [hB0] at OG
  have HGW := hide (show w.heap.size ≤ g by have := (OG.out.lt g rfl).1; have := HB0.out; omega)
  clear hrun oq bq hB0
  replace HF := hide (below_block bz HF.out (Nat.le_refl _))
  replace RP := hide (RP.out.below bz (Nat.le_refl _))
  replace HB := hide (HB.out.trans (bz.mono HB.out.size))
  clear bz RP AP
  go_upto_region 2 with (at_builtin; refine Lib.wpList_append_run _ rfl _ _ _ _ rfl _ _ rfl rfl _ _ HRUN.out ?_)
  clear HRUN
  have qF_1 : v1.cell? ⟨BF, 1, none⟩ = some (.int .u32 (fs : Int)) := cell_at HF.out 1 rfl
  have qF_2 : v1.cell? ⟨BF, 2, none⟩ = some (.int .u32 (fd : Int)) := cell_at HF.out 2 rfl
  have qF_3 : v1.cell? ⟨BF, 3, none⟩ = some (.int .u16 (ff : Int)) := cell_at HF.out 3 rfl
  have qF_4 : v1.cell? ⟨BF, 4, none⟩ = some (.int .u16 (ft : Int)) := cell_at HF.out 4 rfl
  obtain ⟨v2, hwn, wb, HN1⟩ : ∃ W, v1.alloc (.cells #[.int .u16 (e0 : Int), .int .u16 (e1 : Int), .int .u16 (e2 : Int), .int .u16 (e3 : Int), .int .u16 (ff : Int), .int .u16 (ft : Int)] 22) = W ∧ Below v1.heap.size v1 W ∧ Hid (W.heap[v1.heap.size]? = some (.cells #[.int .u16 (e0 : Int), .int .u16 (e1 : Int), .int .u16 (e2 : Int), .int .u16 (e3 : Int), .int .u16 (ff : Int), .int .u16 (ft : Int)] 22 (0, 0))) := ⟨_, rfl, (Below.refl v1.heap.size v1).alloc (Nat.le_refl _) _, hide (heap_alloc_new v1 _)⟩
  obtain ⟨BE, hBn⟩ : ∃ B, v1.heap.size = B := ⟨_, rfl⟩
  rw [hBn] at HN1
  have HW := hide (And.intro hwn hBn)
  have neE := hide (show BE ≠ g from fun e => by have := (OG.out.lt g rfl).2; omega)
  clear hwn hBn
  have HBo := HB
  replace OG := hide (owns_below OG.out wb (Nat.le_refl _))
  have HFn := hide (below_block wb HF.out (Nat.le_refl _))
  have HBn := hide (HB.out.trans (wb.mono HB.out.size))
  have HE := hide (show v2.heap[BE]? = some (.cells (enA bb) 22 (0, 0)) by rw [HEN.out]; exact HN1.out)
  clear wb HN1 HBo HEN
  go_upto_region 3 with (fail)
  rw [HW.out.1]
  try rw [HW.out.2]
  clear HW d0 d1 d2 d3 w0 w1' w2' w3' m0 m2
  clear qF_1 qF_2 qF_3 qF_4
  replace HF := HFn
  replace HB := HBn
  clear HFn HBn
  obtain ⟨p1, p17, p6⟩ := HPB.out
  have c9 : v2.cell? ⟨g, 9, none⟩ = some (.int .u8 (P : Int)) := by rw [World.ownsRow.cellAt OG.out 9 (by omega), List.getElem?_map, H9.out]; rfl
  have HWD := hide (word_any v2 (some ⟨g, 0, none⟩) ds n cB 26 (Lies.of_owns OG.out) HDS.out.2.2 HDS.out.1 hmx (by omega))
  obtain ⟨z, hz⟩ : ∃ z, fld ds 26 2 = z := ⟨_, rfl⟩
  have hzb : ((z : Int) != 0) = true := (ne_dec2 z 0).trans (by rw [← hz]; simpa using HZ.out)
  rw [hz] at HWD
  clear hz
  go_wp2_with fail
  refine HWD.out.mono ?_
  rintro e v3 ⟨rfl, q, hq⟩
  have wb : Below v2.heap.size v2 v3 := by rw [hq]; exact bdrewN (Below.refl _ _) _
  clear hq HWD c9
  replace OG := hide (owns_below OG.out wb (Nat.le_refl _))
  replace HE := hide (below_block wb HE.out (Nat.le_refl _))
  replace HF := hide (below_block wb HF.out (Nat.le_refl _))
  replace HB := hide (HB.out.trans (wb.mono HB.out.size))
  clear wb
  have c9 : v3.cell? ⟨g, 9, none⟩ = some (.int .u8 (P : Int)) := by rw [World.ownsRow.cellAt OG.out 9 (by omega), List.getElem?_map, H9.out]; rfl
  go_wp2_with fail
  clear c9 p1 p17 p6 hzb
  have HO := hide (show v3.ownsRow B0 5 1 (.slice (some ⟨g, 0, none⟩) n cB) n ((dD ds a bb 26 0).map (Value.int .u8)) by rw [dD_zero ds a bb 26 HDS.out.2.1 HDS.out.1 (by have := HDS.out.2.2; omega)]; exact OG.out)
  have HG0 := hide (World.grownBy.refl v3 (some g))
  clear OG
  have HF0 := HF
  have HE0 := HE
  clear HF HE
  go_loopw [8] (fun i wr => ∃ (k : Nat), k ≤ 6 ∧ i = .int .i64 k ∧ Hid (wr.ownsRow B0 5 1 (.slice (some ⟨g, 0, none⟩) n cB) n ((dD ds a bb 26 k).map (Value.int .u8))) ∧ Hid (v3.grownBy wr (some g))) (fun i _ => 6 - (intOf i).toNat)
  case atStart => exact ⟨0, Nat.zero_le _, rfl, HO, HG0⟩
  case round =>
    clear HO HG0
    obtain ⟨k, hk, rfl, HO, HG⟩ := hrel
    have HF := hide (gb_other HG.out HF0.out hgF.out)
    have HE := hide (gb_other HG.out HE0.out neE.out)
    obtain ⟨p1, p17, p6⟩ := HPB.out
    by_cases hlt : k < 6
    · by_cases h4 : k < 4
      ·
        have hk3 : decide ((3 : Int) < (k : Int)) = false := by simp; omega
        have hk3b : decide (3 < k) = false := by simp; omega
        have hk4b : decide (k < 4) = true := by simp; omega
        have hk4c : decide ((k : Int) < 4) = true := by simp; omega
        have hak := HA.out k hlt (by have := HPP.out; omega)
        have hlen : (dD ds a bb 26 k).length = n := (dD_len ds a bb 26 k HDS.out.2.1 (by omega) (by have := HDS.out.2.2; omega)).trans HDS.out.2.2
        have hrg : ∀ x ∈ dD ds a bb 26 k, 0 ≤ x ∧ x ≤ 255 := dD_rng ds a bb 26 k HDS.out.1
        have hfk : fld (dD ds a bb 26 k) (12 + 2 * k) 2 = a k := (dD_fld ds a bb 26 k (12 + 2 * k) 2 HDS.out.2.1 (by omega) (by have := HDS.out.2.2; omega) (by omega) (by omega)).trans hak.1
        obtain ⟨K, hK⟩ : ∃ K : Nat, 12 + 2 * k = K := ⟨_, rfl⟩
        have hw1 : IntKind.i64.wrap (2 * (k : Int)) = 2 * (k : Int) := IntWalk.i64_in _ (by omega)
        have hw2 : IntKind.i64.wrap (12 + 2 * (k : Int)) = (K : Int) := by rw [IntKind.wrap_i64]; omega
        have q2 : wr.cell? ⟨BE, k, none⟩ = some (.int .u16 (bb k : Int)) := en_cell HE.out k hlt
        have hbk := HBL.out k
        have HWD := hide (word_any wr (some ⟨g, 0, none⟩) (dD ds a bb 26 k) n cB (12 + 2 * k) (Lies.of_owns HO.out) hlen hrg hmx (by omega))
        rw [hfk, hK] at HWD
        obtain ⟨x, hx⟩ : ∃ x, a k = x := ⟨_, rfl⟩
        obtain ⟨y, hy⟩ : ∃ y, bb k = y := ⟨_, rfl⟩
        have HXY := hide (And.intro hx (And.intro hy hK))
        have hx9 : x ≤ 65535 := by rw [← hx]; exact hak.2
        have hy9 : y ≤ 65535 := by rw [← hy]; exact hbk
        rw [hx] at HWD
        rw [hy] at q2
        have HFIN := hide (show spl (spl (spl (dD ds a bb 26 k) 10 (numB 2 (dX ds a bb 10 (k + 1)))) 26 (numB 2 (dX ds a bb 26 (k + 1)))) K (numB 2 y) = dD ds a bb 26 (k + 1) by rw [← hK, ← hy]; exact (dD_lo ds a bb 26 k HDS.out.2.1 HDS.out.1 (by have := HDS.out.2.2; omega) (by omega) (by omega)).2)
        have HF0 := hide (show fld (dD ds a bb 26 k) 10 2 = dX ds a bb 10 k ∧ dX ds a bb 10 (k + 1) = (updS (dX ds a bb 10 k : Nat) ((x : Int), (y : Int))).toNat from ⟨dD_10 ds a bb 26 k HDS.out.2.1 HDS.out.1 (by have := HDS.out.2.2; omega) (by omega) (by omega), by rw [← hx, ← hy]; exact dX_step ds a bb 10 k HDS.out.1 hlt⟩)
        have HF1 := hide (show fld (spl (dD ds a bb 26 k) 10 (numB 2 (dX ds a bb 10 (k + 1)))) 26 2 = dX ds a bb 26 k ∧ dX ds a bb 26 (k + 1) = (updS (dX ds a bb 26 k : Nat) ((x : Int), (y : Int))).toNat from ⟨(dD_lo ds a bb 26 k HDS.out.2.1 HDS.out.1 (by have := HDS.out.2.2; omega) (by omega) (by omega)).1, by rw [← hx, ← hy]; exact dX_step ds a bb 26 k HDS.out.1 hlt⟩)
        clear hak hlen hrg hfk hx hy hK hbk
        go_wp2_with fail
        refine HWD.out.mono ?_
        rintro e y0 ⟨rfl, q, hq⟩
        have wb : Below wr.heap.size wr y0 := by rw [hq]; exact bdrewN (Below.refl _ _) _
        clear hq HWD q2
        replace HO := hide (owns_below HO.out wb (Nat.le_refl _))
        replace HE := hide (below_block wb HE.out (Nat.le_refl _))
        replace HG := hide (gb_trans HG.out (gb_of_below (r := some g) wb))
        clear wb
        have q2 : y0.cell? ⟨BE, k, none⟩ = some (.int .u16 (y : Int)) := by rw [← HXY.out.2.1]; exact en_cell HE.out k hlt
        go_wp2_with fail
        refine (dchange_any B0 n cB 10 g (dD ds a bb 26 k) x y (dX ds a bb 10 k) _ HO.out (dD_rng ds a bb 26 k HDS.out.1) (by omega) hmx hx9 hy9 HF0.out.1).mono ?_
        rintro e y1 ⟨rfl, o, gg⟩
        rw [← HF0.out.2] at o
        replace HO := hide o
        replace HE := hide (gb_other gg HE.out neE.out)
        replace HG := hide (gb_trans HG.out gg)
        clear o gg q2 HF0
        have q2 : y1.cell? ⟨BE, k, none⟩ = some (.int .u16 (y : Int)) := by rw [← HXY.out.2.1]; exact en_cell HE.out k hlt
        go_wp2_with fail
        refine (dchange_any B0 n cB 26 g (spl (dD ds a bb 26 k) 10 (numB 2 (dX ds a bb 10 (k + 1)))) x y (dX ds a bb 26 k) _ HO.out (spl_rng _ _ _ (dD_rng ds a bb 26 k HDS.out.1) (numB_rng _ _)) (by omega) hmx hx9 hy9 HF1.out.1).mono ?_
        rintro e y2 ⟨rfl, o, gg⟩
        rw [← HF1.out.2] at o
        replace HO := hide o
        replace HE := hide (gb_other gg HE.out neE.out)
        replace HG := hide (gb_trans HG.out gg)
        clear o gg q2 HF1
        have q2 : y2.cell? ⟨BE, k, none⟩ = some (.int .u16 (y : Int)) := by rw [← HXY.out.2.1]; exact en_cell HE.out k hlt
        go_wp2_with fail
        refine (dlay_any B0 n cB K g (spl (spl (dD ds a bb 26 k) 10 (numB 2 (dX ds a bb 10 (k + 1)))) 26 (numB 2 (dX ds a bb 26 (k + 1)))) y _ HO.out (by have := HXY.out.2.2; omega) (by omega) hy9).mono ?_
        rintro e y9 ⟨rfl, o, gg⟩
        rw [HFIN.out] at o
        replace HO := hide o
        replace HG := hide (gb_trans HG.out gg)
        clear o gg q2
        go_wp2_with fail
        go_roundw
        case rel => exact ⟨k + 1, by omega, by go_num, HO, HG⟩
        case measure => simp [intOf]; omega
      ·
        have hk3 : decide ((3 : Int) < (k : Int)) = true := by simp; omega
        have hk3b : decide (3 < k) = true := by simp; omega
        have hk4b : decide (k < 4) = false := by simp; omega
        have hk4c : decide ((k : Int) < 4) = false := by simp; omega
        have h9k : (dD ds a bb 26 k)[9]? = some (P : Int) := by unfold dD; rw [spl_at _ _ _ _ (by rw [numB_len, dM_len ds a bb _ HDS.out.2.1 (by omega)]; have := HDS.out.2.2; omega) (by omega)]; rcases dM_at ds a bb k 9 HDS.out.2.1 (by omega) (by omega) with h | h; (rw [h]; exact H9.out); omega
        have c9 : wr.cell? ⟨g, 9, none⟩ = some (.int .u8 (P : Int)) := by rw [World.ownsRow.cellAt HO.out 9 (by omega), List.getElem?_map, h9k]; rfl
        clear h9k
        have hak := HA.out k hlt (by have := HPP.out; omega)
        have hlen : (dD ds a bb 26 k).length = n := (dD_len ds a bb 26 k HDS.out.2.1 (by omega) (by have := HDS.out.2.2; omega)).trans HDS.out.2.2
        have hrg : ∀ x ∈ dD ds a bb 26 k, 0 ≤ x ∧ x ≤ 255 := dD_rng ds a bb 26 k HDS.out.1
        have hfk : fld (dD ds a bb 26 k) (12 + 2 * k) 2 = a k := (dD_fld ds a bb 26 k (12 + 2 * k) 2 HDS.out.2.1 (by omega) (by have := HDS.out.2.2; omega) (by omega) (by omega)).trans hak.1
        obtain ⟨K, hK⟩ : ∃ K : Nat, 12 + 2 * k = K := ⟨_, rfl⟩
        have hw1 : IntKind.i64.wrap (2 * (k : Int)) = 2 * (k : Int) := IntWalk.i64_in _ (by omega)
        have hw2 : IntKind.i64.wrap (12 + 2 * (k : Int)) = (K : Int) := by rw [IntKind.wrap_i64]; omega
        have q2 : wr.cell? ⟨BE, k, none⟩ = some (.int .u16 (bb k : Int)) := en_cell HE.out k hlt
        have hbk := HBL.out k
        have HWD := hide (word_any wr (some ⟨g, 0, none⟩) (dD ds a bb 26 k) n cB (12 + 2 * k) (Lies.of_owns HO.out) hlen hrg hmx (by omega))
        rw [hfk, hK] at HWD
        obtain ⟨x, hx⟩ : ∃ x, a k = x := ⟨_, rfl⟩
        obtain ⟨y, hy⟩ : ∃ y, bb k = y := ⟨_, rfl⟩
        have HXY := hide (And.intro hx (And.intro hy hK))
        have hx9 : x ≤ 65535 := by rw [← hx]; exact hak.2
        have hy9 : y ≤ 65535 := by rw [← hy]; exact hbk
        rw [hx] at HWD
        rw [hy] at q2
        have HFIN := hide (show spl (spl (dD ds a bb 26 k) 26 (numB 2 (dX ds a bb 26 (k + 1)))) K (numB 2 y) = dD ds a bb 26 (k + 1) by rw [← hK, ← hy]; exact (dD_hi ds a bb 26 k HDS.out.2.1 HDS.out.1 (by have := HDS.out.2.2; omega) (by omega) (by omega) (by omega)).2)
        have HF0 := hide (show fld (dD ds a bb 26 k) 26 2 = dX ds a bb 26 k ∧ dX ds a bb 26 (k + 1) = (updS (dX ds a bb 26 k : Nat) ((x : Int), (y : Int))).toNat from ⟨(dD_hi ds a bb 26 k HDS.out.2.1 HDS.out.1 (by have := HDS.out.2.2; omega) (by omega) (by omega) (by omega)).1, by rw [← hx, ← hy]; exact dX_step ds a bb 26 k HDS.out.1 hlt⟩)
        clear hak hlen hrg hfk hx hy hK hbk
        go_wp2_with fail
        refine HWD.out.mono ?_
        rintro e y0 ⟨rfl, q, hq⟩
        have wb : Below wr.heap.size wr y0 := by rw [hq]; exact bdrewN (Below.refl _ _) _
        clear hq HWD q2 c9
        replace HO := hide (owns_below HO.out wb (Nat.le_refl _))
        replace HE := hide (below_block wb HE.out (Nat.le_refl _))
        replace HG := hide (gb_trans HG.out (gb_of_below (r := some g) wb))
        clear wb
        have q2 : y0.cell? ⟨BE, k, none⟩ = some (.int .u16 (y : Int)) := by rw [← HXY.out.2.1]; exact en_cell HE.out k hlt
        go_wp2_with fail
        refine (dchange_any B0 n cB 26 g (dD ds a bb 26 k) x y (dX ds a bb 26 k) _ HO.out (dD_rng ds a bb 26 k HDS.out.1) (by omega) hmx hx9 hy9 HF0.out.1).mono ?_
        rintro e y1 ⟨rfl, o, gg⟩
        rw [← HF0.out.2] at o
        replace HO := hide o
        replace HE := hide (gb_other gg HE.out neE.out)
        replace HG := hide (gb_trans HG.out gg)
        clear o gg q2 HF0
        have q2 : y1.cell? ⟨BE, k, none⟩ = some (.int .u16 (y : Int)) := by rw [← HXY.out.2.1]; exact en_cell HE.out k hlt
        go_wp2_with fail
        refine (dlay_any B0 n cB K g (spl (dD ds a bb 26 k) 26 (numB 2 (dX ds a bb 26 (k + 1)))) y _ HO.out (by have := HXY.out.2.2; omega) (by omega) hy9).mono ?_
        rintro e y9 ⟨rfl, o, gg⟩
        rw [HFIN.out] at o
        replace HO := hide o
        replace HG := hide (gb_trans HG.out gg)
        clear o gg q2
        go_wp2_with fail
        go_roundw
        case rel => exact ⟨k + 1, by omega, by go_num, HO, HG⟩
        case measure => simp [intOf]; omega
    · obtain rfl : k = 6 := by omega
      have h9k : (dD ds a bb 26 6)[9]? = some (P : Int) := by unfold dD; rw [spl_at _ _ _ _ (by rw [numB_len, dM_len ds a bb _ HDS.out.2.1 (by omega)]; have := HDS.out.2.2; omega) (by omega)]; rcases dM_at ds a bb 6 9 HDS.out.2.1 (by omega) (by omega) with h | h; (rw [h]; exact H9.out); omega
      have c9 : wr.cell? ⟨g, 9, none⟩ = some (.int .u8 (P : Int)) := by rw [World.ownsRow.cellAt HO.out 9 (by omega), List.getElem?_map, h9k]; rfl
      clear h9k
      have HWD := hide (word_any wr (some ⟨g, 0, none⟩) (dD ds a bb 26 6) n cB 26 (Lies.of_owns HO.out) ((dD_len ds a bb 26 6 HDS.out.2.1 (by omega) (by have := HDS.out.2.2; omega)).trans HDS.out.2.2) (dD_rng ds a bb 26 6 HDS.out.1) hmx (by omega))
      have hf6 : fld (dD ds a bb 26 6) 26 2 = dX ds a bb 26 6 := dD_dp _ _ _ _ _ _ HDS.out.1 (by rw [dM_len ds a bb 6 HDS.out.2.1 (by omega)]; have := HDS.out.2.2; omega)
      rw [hf6] at HWD
      obtain ⟨zz, hzz⟩ : ∃ z, dX ds a bb 26 6 = z := ⟨_, rfl⟩
      rw [hzz] at HWD
      have hzb : ((zz : Int) == 0) = false := by have := HZ2.out; rw [hzz] at this; simp; omega
      have HZZ := hide hzz
      clear hf6 hzz
      go_wp2_with fail
      refine HWD.out.mono ?_
      rintro e y0 ⟨rfl, q, hq⟩
      have wb : Below wr.heap.size wr y0 := by rw [hq]; exact bdrewN (Below.refl _ _) _
      clear hq HWD c9
      replace HO := hide (owns_below HO.out wb (Nat.le_refl _))
      replace HG := hide (gb_trans HG.out (gb_of_below (r := some g) wb))
      clear wb
      go_wp2_with fail
      go_ret
      have hfin : dD ds a bb 26 6 = dE ds P a bb id := by
        unfold dE
        rw [if_neg (by have := HPP.out; omega), if_pos HPP.out, if_neg HZ.out, if_neg HZ2.out]
      rw [hfin] at HO
      exact ⟨g, cB, rfl, owns_mono HO.out HB0.out, HB.out.grown HG.out HB.out.size (fun k e => by cases e; exact HGW.out)⟩
set_option maxHeartbeats 4000000 in
theorem retR_udp2 (w : World) (da : Option Addr) (ds : List Int) (n dc : Nat) (P : Nat) (a : Nat → Nat) (fp fs fd ff ft id : Nat) (hLx : Lies w da ds n dc) (hl : ds.length = n) (hb : ∀ x ∈ ds, 0 ≤ x ∧ x ≤ 255) (hn0 : 28 ≤ n) (hn : n ≤ 5000) (hP : fld ds 9 1 = P) (ha : ∀ k, k < 6 → (P = 1 → k < 4) → fld ds (12 + 2 * k) 2 = a k) (hfs : fs ≤ 4294967295) (hfd : fd ≤ 4294967295) (hff : ff ≤ 65535) (hft : ft ≤ 65535) (hp : P = 17) (hz : fld ds 26 2 ≠ 0) (hz2 : dX ds a (endF fs fd ff ft) 26 6 = 0) :
    Calls Try.prog 37 #[.slice da n dc, .agg #[.int .u8 (fp : Int), .int .u32 (fs : Int), .int .u32 (fd : Int), .int .u16 (ff : Int), .int .u16 (ft : Int)]] w fun e w' => ∃ g c', e = .returned (.slice (some ⟨g, 0, none⟩) n c') ∧ w'.ownsRow w.heap.size 5 1 (.slice (some ⟨g, 0, none⟩) n c') n ((dE ds P a (endF fs fd ff ft) id).map (Value.int .u8)) ∧ Below w.heap.size w w' := by
  obtain ⟨bb, hbb⟩ : ∃ f, endF fs fd ff ft = f := ⟨_, rfl⟩
  have hble : ∀ i, bb i ≤ 65535 := by rw [← hbb]; exact endF_le _ _ _ _ hfs hfd hff hft
  have hEN : enA bb = #[.int .u16 ((fs / 65536 : Nat) : Int), .int .u16 ((fs % 65536 : Nat) : Int), .int .u16 ((fd / 65536 : Nat) : Int), .int .u16 ((fd % 65536 : Nat) : Int), .int .u16 (ff : Int), .int .u16 (ft : Int)] := by rw [← hbb]; rfl
  have hb4 : bb 4 = ff ∧ bb 5 = ft := by rw [← hbb]; exact ⟨rfl, rfl⟩
  obtain ⟨e0, he0⟩ : ∃ e, fs / 65536 = e := ⟨_, rfl⟩
  obtain ⟨e1, he1⟩ : ∃ e, fs % 65536 = e := ⟨_, rfl⟩
  obtain ⟨e2, he2⟩ : ∃ e, fd / 65536 = e := ⟨_, rfl⟩
  obtain ⟨e3, he3⟩ : ∃ e, fd % 65536 = e := ⟨_, rfl⟩
  rw [he0, he1, he2, he3] at hEN
  rw [hbb]
  rw [hbb] at hz2
  have d0 : (fs : Int) / 65536 = (e0 : Int) := by omega
  have d1 : (fs : Int) % 65536 = (e1 : Int) := by omega
  have d2 : (fd : Int) / 65536 = (e2 : Int) := by omega
  have d3 : (fd : Int) % 65536 = (e3 : Int) := by omega
  have w0 : IntKind.u16.wrap (e0 : Int) = (e0 : Int) := by rw [IntKind.wrap_u16]; omega
  have m0 : (e0 : Int) % 4294967296 = (e0 : Int) := by omega
  have m2 : (e2 : Int) % 4294967296 = (e2 : Int) := by omega
  have w1' : IntKind.u16.wrap (e1 : Int) = (e1 : Int) := by rw [IntKind.wrap_u16]; omega
  have w2' : IntKind.u16.wrap (e2 : Int) = (e2 : Int) := by rw [IntKind.wrap_u16]; omega
  have w3' : IntKind.u16.wrap (e3 : Int) = (e3 : Int) := by rw [IntKind.wrap_u16]; omega
  have HEN := hide hEN
  have HDS := hide (show (∀ x ∈ ds, 0 ≤ x ∧ x ≤ 255) ∧ 28 ≤ ds.length ∧ ds.length = n from ⟨hb, by omega, hl⟩)
  have HBL := hide hble
  have h9 := fld_oneZ ds 9 (by omega) hb
  have h20 := fld_oneZ ds 20 (by omega) hb
  rw [hP] at h9
  obtain ⟨kd, hkd⟩ : ∃ k, fld ds 20 1 = k := ⟨_, rfl⟩
  rw [hkd] at h20
  have H9 := hide h9
  have H20 := hide h20
  have HA := hide (show ∀ k, k < 6 → (P = 1 → k < 4) → fld ds (12 + 2 * k) 2 = a k ∧ a k ≤ 65535 from fun k h1 h2 => ⟨ha k h1 h2, by rw [← ha k h1 h2]; exact fld2_le _ _ hb⟩)
  clear hbb hble hEN he0 he1 he2 he3 h9 h20 hb ha hl hP hfs hfd hff hft
  have p1 : ((P : Int) == 1) = false := by simp; omega
  have p17 : ((P : Int) == 17) = true := by simp; omega
  have p6 : ((P : Int) == 6) = false := by simp; omega
  have HPP := hide hp
  have HPB := hide (And.intro p1 (And.intro p17 p6))
  have hmx : n ≤ 5000 := hn
  have HZ := hide hz
  clear hz
  have HZ2 := hide hz2
  clear hz2
  clear hkd hp p1 p17 p6
  obtain ⟨V1, hV1⟩ : ∃ V, w.alloc (.cells #[.int .u8 (fp : Int), .int .u32 (fs : Int), .int .u32 (fd : Int), .int .u16 (ff : Int), .int .u16 (ft : Int)] 29) = V := ⟨_, rfl⟩
  have hz1 : V1.heap.size = w.heap.size + 1 := by rw [← hV1]; simp
  have hb1 : Below w.heap.size w V1 := by rw [← hV1]; exact (Below.refl _ _).alloc (Nat.le_refl _) _
  have hp1_1 : V1.heap[w.heap.size]? = some (.cells #[.int .u8 (fp : Int), .int .u32 (fs : Int), .int .u32 (fd : Int), .int .u16 (ff : Int), .int .u16 (ft : Int)] 29 (0, 0)) := by rw [← hV1]; exact heap_alloc_new _ _
  obtain ⟨BF, hBF⟩ : ∃ B, w.heap.size = B := ⟨_, rfl⟩
  have hw0 : w.heap.size ≤ BF := by omega
  have HF := hide (show V1.heap[BF]? = some (.cells #[.int .u8 (fp : Int), .int .u32 (fs : Int), .int .u32 (fd : Int), .int .u16 (ff : Int), .int .u16 (ft : Int)] 29 (0, 0)) by rw [← hBF]; exact hp1_1)
  have NF : Hid (w.heap.size ≤ BF) := hide hw0
  have AP := hide hLx
  have RP := hide (hLx.below hb1 (Nat.le_refl _))
  have HB := hide hb1
  have HE := hide (And.intro (And.intro trivial trivial) (And.intro hV1 (And.intro hBF (trivial))))
  clear hw0 hV1 hz1 hb1  hp1_1 hBF hLx
  go_enter Try.func37, Try.ntmps37
  go_upto_region 1 with (fail)
  rw [HE.out.2.1]
  try rw [HE.out.2.2.1]
  clear HE
  obtain ⟨vq, v1, hrun, oq, bq, _⟩ := app_own2 (V1.alloc (.cells #[] 5)) V1.heap.size (.slice (some ⟨V1.heap.size, 0, none⟩) 0 0) 0 [] (World.ownsRow_lit V1 #[] 0 (Nat.le_refl _) (by unfold maxLen; omega) rfl) da ds n dc (RP.out.row.below ((Below.refl V1.heap.size V1).alloc (Nat.le_refl _) _) (Nat.le_refl _)) HDS.out.2.2 RP.out.no (by omega) (by simp)
  rw [show 0 + n = n by omega, List.nil_append] at oq
  obtain ⟨aB, cB, rfl⟩ := slice_form oq
  obtain ⟨g, rfl⟩ := slice_someT oq (by omega)
  have HRUN := hide hrun
  have bz := ((Below.refl V1.heap.size V1).alloc (Nat.le_refl _) (.cells #[] 5)).trans bq
  obtain ⟨B0, hB0⟩ : ∃ B, V1.heap.size = B := ⟨_, rfl⟩
  have HB0 := hide (show w.heap.size ≤ B0 by rw [← hB0]; exact HB.out.size)
  have hgF := hide (show BF ≠ g from fun e => by have h1 := (oq.lt g rfl).1; have h2 := lt_of_block HF.out; omega)
  have OG := hide oq
  rw [hB0] at OG
  have HGW := hide (show w.heap.size ≤ g by have := (OG.out.lt g rfl).1; have := HB0.out; omega)
  clear hrun oq bq hB0
  replace HF := hide (below_block bz HF.out (Nat.le_refl _))
  replace RP := hide (RP.out.below bz (Nat.le_refl _))
  replace HB := hide (HB.out.trans (bz.mono HB.out.size))
  clear bz RP AP
  go_upto_region 2 with (at_builtin; refine Lib.wpList_append_run _ rfl _ _ _ _ rfl _ _ rfl rfl _ _ HRUN.out ?_)
  clear HRUN
  have qF_1 : v1.cell? ⟨BF, 1, none⟩ = some (.int .u32 (fs : Int)) := cell_at HF.out 1 rfl
  have qF_2 : v1.cell? ⟨BF, 2, none⟩ = some (.int .u32 (fd : Int)) := cell_at HF.out 2 rfl
  have qF_3 : v1.cell? ⟨BF, 3, none⟩ = some (.int .u16 (ff : Int)) := cell_at HF.out 3 rfl
  have qF_4 : v1.cell? ⟨BF, 4, none⟩ = some (.int .u16 (ft : Int)) := cell_at HF.out 4 rfl
  obtain ⟨v2, hwn, wb, HN1⟩ : ∃ W, v1.alloc (.cells #[.int .u16 (e0 : Int), .int .u16 (e1 : Int), .int .u16 (e2 : Int), .int .u16 (e3 : Int), .int .u16 (ff : Int), .int .u16 (ft : Int)] 22) = W ∧ Below v1.heap.size v1 W ∧ Hid (W.heap[v1.heap.size]? = some (.cells #[.int .u16 (e0 : Int), .int .u16 (e1 : Int), .int .u16 (e2 : Int), .int .u16 (e3 : Int), .int .u16 (ff : Int), .int .u16 (ft : Int)] 22 (0, 0))) := ⟨_, rfl, (Below.refl v1.heap.size v1).alloc (Nat.le_refl _) _, hide (heap_alloc_new v1 _)⟩
  obtain ⟨BE, hBn⟩ : ∃ B, v1.heap.size = B := ⟨_, rfl⟩
  rw [hBn] at HN1
  have HW := hide (And.intro hwn hBn)
  have neE := hide (show BE ≠ g from fun e => by have := (OG.out.lt g rfl).2; omega)
  clear hwn hBn
  have HBo := HB
  replace OG := hide (owns_below OG.out wb (Nat.le_refl _))
  have HFn := hide (below_block wb HF.out (Nat.le_refl _))
  have HBn := hide (HB.out.trans (wb.mono HB.out.size))
  have HE := hide (show v2.heap[BE]? = some (.cells (enA bb) 22 (0, 0)) by rw [HEN.out]; exact HN1.out)
  clear wb HN1 HBo HEN
  go_upto_region 3 with (fail)
  rw [HW.out.1]
  try rw [HW.out.2]
  clear HW d0 d1 d2 d3 w0 w1' w2' w3' m0 m2
  clear qF_1 qF_2 qF_3 qF_4
  replace HF := HFn
  replace HB := HBn
  clear HFn HBn
  obtain ⟨p1, p17, p6⟩ := HPB.out
  have c9 : v2.cell? ⟨g, 9, none⟩ = some (.int .u8 (P : Int)) := by rw [World.ownsRow.cellAt OG.out 9 (by omega), List.getElem?_map, H9.out]; rfl
  have HWD := hide (word_any v2 (some ⟨g, 0, none⟩) ds n cB 26 (Lies.of_owns OG.out) HDS.out.2.2 HDS.out.1 hmx (by omega))
  obtain ⟨z, hz⟩ : ∃ z, fld ds 26 2 = z := ⟨_, rfl⟩
  have hzb : ((z : Int) != 0) = true := (ne_dec2 z 0).trans (by rw [← hz]; simpa using HZ.out)
  rw [hz] at HWD
  clear hz
  go_wp2_with fail
  refine HWD.out.mono ?_
  rintro e v3 ⟨rfl, q, hq⟩
  have wb : Below v2.heap.size v2 v3 := by rw [hq]; exact bdrewN (Below.refl _ _) _
  clear hq HWD c9
  replace OG := hide (owns_below OG.out wb (Nat.le_refl _))
  replace HE := hide (below_block wb HE.out (Nat.le_refl _))
  replace HF := hide (below_block wb HF.out (Nat.le_refl _))
  replace HB := hide (HB.out.trans (wb.mono HB.out.size))
  clear wb
  have c9 : v3.cell? ⟨g, 9, none⟩ = some (.int .u8 (P : Int)) := by rw [World.ownsRow.cellAt OG.out 9 (by omega), List.getElem?_map, H9.out]; rfl
  go_wp2_with fail
  clear c9 p1 p17 p6 hzb
  have HO := hide (show v3.ownsRow B0 5 1 (.slice (some ⟨g, 0, none⟩) n cB) n ((dD ds a bb 26 0).map (Value.int .u8)) by rw [dD_zero ds a bb 26 HDS.out.2.1 HDS.out.1 (by have := HDS.out.2.2; omega)]; exact OG.out)
  have HG0 := hide (World.grownBy.refl v3 (some g))
  clear OG
  have HF0 := HF
  have HE0 := HE
  clear HF HE
  go_loopw [8] (fun i wr => ∃ (k : Nat), k ≤ 6 ∧ i = .int .i64 k ∧ Hid (wr.ownsRow B0 5 1 (.slice (some ⟨g, 0, none⟩) n cB) n ((dD ds a bb 26 k).map (Value.int .u8))) ∧ Hid (v3.grownBy wr (some g))) (fun i _ => 6 - (intOf i).toNat)
  case atStart => exact ⟨0, Nat.zero_le _, rfl, HO, HG0⟩
  case round =>
    clear HO HG0
    obtain ⟨k, hk, rfl, HO, HG⟩ := hrel
    have HF := hide (gb_other HG.out HF0.out hgF.out)
    have HE := hide (gb_other HG.out HE0.out neE.out)
    obtain ⟨p1, p17, p6⟩ := HPB.out
    by_cases hlt : k < 6
    · by_cases h4 : k < 4
      ·
        have hk3 : decide ((3 : Int) < (k : Int)) = false := by simp; omega
        have hk3b : decide (3 < k) = false := by simp; omega
        have hk4b : decide (k < 4) = true := by simp; omega
        have hk4c : decide ((k : Int) < 4) = true := by simp; omega
        have hak := HA.out k hlt (by have := HPP.out; omega)
        have hlen : (dD ds a bb 26 k).length = n := (dD_len ds a bb 26 k HDS.out.2.1 (by omega) (by have := HDS.out.2.2; omega)).trans HDS.out.2.2
        have hrg : ∀ x ∈ dD ds a bb 26 k, 0 ≤ x ∧ x ≤ 255 := dD_rng ds a bb 26 k HDS.out.1
        have hfk : fld (dD ds a bb 26 k) (12 + 2 * k) 2 = a k := (dD_fld ds a bb 26 k (12 + 2 * k) 2 HDS.out.2.1 (by omega) (by have := HDS.out.2.2; omega) (by omega) (by omega)).trans hak.1
        obtain ⟨K, hK⟩ : ∃ K : Nat, 12 + 2 * k = K := ⟨_, rfl⟩
        have hw1 : IntKind.i64.wrap (2 * (k : Int)) = 2 * (k : Int) := IntWalk.i64_in _ (by omega)
        have hw2 : IntKind.i64.wrap (12 + 2 * (k : Int)) = (K : Int) := by rw [IntKind.wrap_i64]; omega
        have q2 : wr.cell? ⟨BE, k, none⟩ = some (.int .u16 (bb k : Int)) := en_cell HE.out k hlt
        have hbk := HBL.out k
        have HWD := hide (word_any wr (some ⟨g, 0, none⟩) (dD ds a bb 26 k) n cB (12 + 2 * k) (Lies.of_owns HO.out) hlen hrg hmx (by omega))
        rw [hfk, hK] at HWD
        obtain ⟨x, hx⟩ : ∃ x, a k = x := ⟨_, rfl⟩
        obtain ⟨y, hy⟩ : ∃ y, bb k = y := ⟨_, rfl⟩
        have HXY := hide (And.intro hx (And.intro hy hK))
        have hx9 : x ≤ 65535 := by rw [← hx]; exact hak.2
        have hy9 : y ≤ 65535 := by rw [← hy]; exact hbk
        rw [hx] at HWD
        rw [hy] at q2
        have HFIN := hide (show spl (spl (spl (dD ds a bb 26 k) 10 (numB 2 (dX ds a bb 10 (k + 1)))) 26 (numB 2 (dX ds a bb 26 (k + 1)))) K (numB 2 y) = dD ds a bb 26 (k + 1) by rw [← hK, ← hy]; exact (dD_lo ds a bb 26 k HDS.out.2.1 HDS.out.1 (by have := HDS.out.2.2; omega) (by omega) (by omega)).2)
        have HF0 := hide (show fld (dD ds a bb 26 k) 10 2 = dX ds a bb 10 k ∧ dX ds a bb 10 (k + 1) = (updS (dX ds a bb 10 k : Nat) ((x : Int), (y : Int))).toNat from ⟨dD_10 ds a bb 26 k HDS.out.2.1 HDS.out.1 (by have := HDS.out.2.2; omega) (by omega) (by omega), by rw [← hx, ← hy]; exact dX_step ds a bb 10 k HDS.out.1 hlt⟩)
        have HF1 := hide (show fld (spl (dD ds a bb 26 k) 10 (numB 2 (dX ds a bb 10 (k + 1)))) 26 2 = dX ds a bb 26 k ∧ dX ds a bb 26 (k + 1) = (updS (dX ds a bb 26 k : Nat) ((x : Int), (y : Int))).toNat from ⟨(dD_lo ds a bb 26 k HDS.out.2.1 HDS.out.1 (by have := HDS.out.2.2; omega) (by omega) (by omega)).1, by rw [← hx, ← hy]; exact dX_step ds a bb 26 k HDS.out.1 hlt⟩)
        clear hak hlen hrg hfk hx hy hK hbk
        go_wp2_with fail
        refine HWD.out.mono ?_
        rintro e y0 ⟨rfl, q, hq⟩
        have wb : Below wr.heap.size wr y0 := by rw [hq]; exact bdrewN (Below.refl _ _) _
        clear hq HWD q2
        replace HO := hide (owns_below HO.out wb (Nat.le_refl _))
        replace HE := hide (below_block wb HE.out (Nat.le_refl _))
        replace HG := hide (gb_trans HG.out (gb_of_below (r := some g) wb))
        clear wb
        have q2 : y0.cell? ⟨BE, k, none⟩ = some (.int .u16 (y : Int)) := by rw [← HXY.out.2.1]; exact en_cell HE.out k hlt
        go_wp2_with fail
        refine (dchange_any B0 n cB 10 g (dD ds a bb 26 k) x y (dX ds a bb 10 k) _ HO.out (dD_rng ds a bb 26 k HDS.out.1) (by omega) hmx hx9 hy9 HF0.out.1).mono ?_
        rintro e y1 ⟨rfl, o, gg⟩
        rw [← HF0.out.2] at o
        replace HO := hide o
        replace HE := hide (gb_other gg HE.out neE.out)
        replace HG := hide (gb_trans HG.out gg)
        clear o gg q2 HF0
        have q2 : y1.cell? ⟨BE, k, none⟩ = some (.int .u16 (y : Int)) := by rw [← HXY.out.2.1]; exact en_cell HE.out k hlt
        go_wp2_with fail
        refine (dchange_any B0 n cB 26 g (spl (dD ds a bb 26 k) 10 (numB 2 (dX ds a bb 10 (k + 1)))) x y (dX ds a bb 26 k) _ HO.out (spl_rng _ _ _ (dD_rng ds a bb 26 k HDS.out.1) (numB_rng _ _)) (by omega) hmx hx9 hy9 HF1.out.1).mono ?_
        rintro e y2 ⟨rfl, o, gg⟩
        rw [← HF1.out.2] at o
        replace HO := hide o
        replace HE := hide (gb_other gg HE.out neE.out)
        replace HG := hide (gb_trans HG.out gg)
        clear o gg q2 HF1
        have q2 : y2.cell? ⟨BE, k, none⟩ = some (.int .u16 (y : Int)) := by rw [← HXY.out.2.1]; exact en_cell HE.out k hlt
        go_wp2_with fail
        refine (dlay_any B0 n cB K g (spl (spl (dD ds a bb 26 k) 10 (numB 2 (dX ds a bb 10 (k + 1)))) 26 (numB 2 (dX ds a bb 26 (k + 1)))) y _ HO.out (by have := HXY.out.2.2; omega) (by omega) hy9).mono ?_
        rintro e y9 ⟨rfl, o, gg⟩
        rw [HFIN.out] at o
        replace HO := hide o
        replace HG := hide (gb_trans HG.out gg)
        clear o gg q2
        go_wp2_with fail
        go_roundw
        case rel => exact ⟨k + 1, by omega, by go_num, HO, HG⟩
        case measure => simp [intOf]; omega
      ·
        have hk3 : decide ((3 : Int) < (k : Int)) = true := by simp; omega
        have hk3b : decide (3 < k) = true := by simp; omega
        have hk4b : decide (k < 4) = false := by simp; omega
        have hk4c : decide ((k : Int) < 4) = false := by simp; omega
        have h9k : (dD ds a bb 26 k)[9]? = some (P : Int) := by unfold dD; rw [spl_at _ _ _ _ (by rw [numB_len, dM_len ds a bb _ HDS.out.2.1 (by omega)]; have := HDS.out.2.2; omega) (by omega)]; rcases dM_at ds a bb k 9 HDS.out.2.1 (by omega) (by omega) with h | h; (rw [h]; exact H9.out); omega
        have c9 : wr.cell? ⟨g, 9, none⟩ = some (.int .u8 (P : Int)) := by rw [World.ownsRow.cellAt HO.out 9 (by omega), List.getElem?_map, h9k]; rfl
        clear h9k
        have hak := HA.out k hlt (by have := HPP.out; omega)
        have hlen : (dD ds a bb 26 k).length = n := (dD_len ds a bb 26 k HDS.out.2.1 (by omega) (by have := HDS.out.2.2; omega)).trans HDS.out.2.2
        have hrg : ∀ x ∈ dD ds a bb 26 k, 0 ≤ x ∧ x ≤ 255 := dD_rng ds a bb 26 k HDS.out.1
        have hfk : fld (dD ds a bb 26 k) (12 + 2 * k) 2 = a k := (dD_fld ds a bb 26 k (12 + 2 * k) 2 HDS.out.2.1 (by omega) (by have := HDS.out.2.2; omega) (by omega) (by omega)).trans hak.1
        obtain ⟨K, hK⟩ : ∃ K : Nat, 12 + 2 * k = K := ⟨_, rfl⟩
        have hw1 : IntKind.i64.wrap (2 * (k : Int)) = 2 * (k : Int) := IntWalk.i64_in _ (by omega)
        have hw2 : IntKind.i64.wrap (12 + 2 * (k : Int)) = (K : Int) := by rw [IntKind.wrap_i64]; omega
        have q2 : wr.cell? ⟨BE, k, none⟩ = some (.int .u16 (bb k : Int)) := en_cell HE.out k hlt
        have hbk := HBL.out k
        have HWD := hide (word_any wr (some ⟨g, 0, none⟩) (dD ds a bb 26 k) n cB (12 + 2 * k) (Lies.of_owns HO.out) hlen hrg hmx (by omega))
        rw [hfk, hK] at HWD
        obtain ⟨x, hx⟩ : ∃ x, a k = x := ⟨_, rfl⟩
        obtain ⟨y, hy⟩ : ∃ y, bb k = y := ⟨_, rfl⟩
        have HXY := hide (And.intro hx (And.intro hy hK))
        have hx9 : x ≤ 65535 := by rw [← hx]; exact hak.2
        have hy9 : y ≤ 65535 := by rw [← hy]; exact hbk
        rw [hx] at HWD
        rw [hy] at q2
        have HFIN := hide (show spl (spl (dD ds a bb 26 k) 26 (numB 2 (dX ds a bb 26 (k + 1)))) K (numB 2 y) = dD ds a bb 26 (k + 1) by rw [← hK, ← hy]; exact (dD_hi ds a bb 26 k HDS.out.2.1 HDS.out.1 (by have := HDS.out.2.2; omega) (by omega) (by omega) (by omega)).2)
        have HF0 := hide (show fld (dD ds a bb 26 k) 26 2 = dX ds a bb 26 k ∧ dX ds a bb 26 (k + 1) = (updS (dX ds a bb 26 k : Nat) ((x : Int), (y : Int))).toNat from ⟨(dD_hi ds a bb 26 k HDS.out.2.1 HDS.out.1 (by have := HDS.out.2.2; omega) (by omega) (by omega) (by omega)).1, by rw [← hx, ← hy]; exact dX_step ds a bb 26 k HDS.out.1 hlt⟩)
        clear hak hlen hrg hfk hx hy hK hbk
        go_wp2_with fail
        refine HWD.out.mono ?_
        rintro e y0 ⟨rfl, q, hq⟩
        have wb : Below wr.heap.size wr y0 := by rw [hq]; exact bdrewN (Below.refl _ _) _
        clear hq HWD q2 c9
        replace HO := hide (owns_below HO.out wb (Nat.le_refl _))
        replace HE := hide (below_block wb HE.out (Nat.le_refl _))
        replace HG := hide (gb_trans HG.out (gb_of_below (r := some g) wb))
        clear wb
        have q2 : y0.cell? ⟨BE, k, none⟩ = some (.int .u16 (y : Int)) := by rw [← HXY.out.2.1]; exact en_cell HE.out k hlt
        go_wp2_with fail
        refine (dchange_any B0 n cB 26 g (dD ds a bb 26 k) x y (dX ds a bb 26 k) _ HO.out (dD_rng ds a bb 26 k HDS.out.1) (by omega) hmx hx9 hy9 HF0.out.1).mono ?_
        rintro e y1 ⟨rfl, o, gg⟩
        rw [← HF0.out.2] at o
        replace HO := hide o
        replace HE := hide (gb_other gg HE.out neE.out)
        replace HG := hide (gb_trans HG.out gg)
        clear o gg q2 HF0
        have q2 : y1.cell? ⟨BE, k, none⟩ = some (.int .u16 (y : Int)) := by rw [← HXY.out.2.1]; exact en_cell HE.out k hlt
        go_wp2_with fail
        refine (dlay_any B0 n cB K g (spl (dD ds a bb 26 k) 26 (numB 2 (dX ds a bb 26 (k + 1)))) y _ HO.out (by have := HXY.out.2.2; omega) (by omega) hy9).mono ?_
        rintro e y9 ⟨rfl, o, gg⟩
        rw [HFIN.out] at o
        replace HO := hide o
        replace HG := hide (gb_trans HG.out gg)
        clear o gg q2
        go_wp2_with fail
        go_roundw
        case rel => exact ⟨k + 1, by omega, by go_num, HO, HG⟩
        case measure => simp [intOf]; omega
    · obtain rfl : k = 6 := by omega
      have h9k : (dD ds a bb 26 6)[9]? = some (P : Int) := by unfold dD; rw [spl_at _ _ _ _ (by rw [numB_len, dM_len ds a bb _ HDS.out.2.1 (by omega)]; have := HDS.out.2.2; omega) (by omega)]; rcases dM_at ds a bb 6 9 HDS.out.2.1 (by omega) (by omega) with h | h; (rw [h]; exact H9.out); omega
      have c9 : wr.cell? ⟨g, 9, none⟩ = some (.int .u8 (P : Int)) := by rw [World.ownsRow.cellAt HO.out 9 (by omega), List.getElem?_map, h9k]; rfl
      clear h9k
      have HWD := hide (word_any wr (some ⟨g, 0, none⟩) (dD ds a bb 26 6) n cB 26 (Lies.of_owns HO.out) ((dD_len ds a bb 26 6 HDS.out.2.1 (by omega) (by have := HDS.out.2.2; omega)).trans HDS.out.2.2) (dD_rng ds a bb 26 6 HDS.out.1) hmx (by omega))
      have hf6 : fld (dD ds a bb 26 6) 26 2 = dX ds a bb 26 6 := dD_dp _ _ _ _ _ _ HDS.out.1 (by rw [dM_len ds a bb 6 HDS.out.2.1 (by omega)]; have := HDS.out.2.2; omega)
      rw [hf6] at HWD
      obtain ⟨zz, hzz⟩ : ∃ z, dX ds a bb 26 6 = z := ⟨_, rfl⟩
      rw [hzz] at HWD
      have hzb : ((zz : Int) == 0) = true := by have := HZ2.out; rw [hzz] at this; simp; omega
      have HZZ := hide hzz
      clear hf6 hzz
      go_wp2_with fail
      refine HWD.out.mono ?_
      rintro e y0 ⟨rfl, q, hq⟩
      have wb : Below wr.heap.size wr y0 := by rw [hq]; exact bdrewN (Below.refl _ _) _
      clear hq HWD c9
      replace HO := hide (owns_below HO.out wb (Nat.le_refl _))
      replace HG := hide (gb_trans HG.out (gb_of_below (r := some g) wb))
      clear wb
      go_wp2_with fail
      refine (dlay_any B0 n cB 26 g _ 65535 _ HO.out (by omega) (by omega) (by omega)).mono ?_
      rintro e y2 ⟨rfl, o, gg⟩
      replace HO := hide o
      replace HG := hide (gb_trans HG.out gg)
      clear o gg
      go_wp2_with fail
      go_ret
      have hfin : spl (dD ds a bb 26 6) 26 (numB 2 65535) = dE ds P a bb id := by
        unfold dE
        rw [if_neg (by have := HPP.out; omega), if_pos HPP.out, if_neg HZ.out, if_pos HZ2.out]
      rw [hfin] at HO
      exact ⟨g, cB, rfl, owns_mono HO.out HB0.out, HB.out.grown HG.out HB.out.size (fun k e => by cases e; exact HGW.out)⟩
set_option maxHeartbeats 4000000 in
theorem retR_tcp1 (w : World) (da : Option Addr) (ds : List Int) (n dc : Nat) (P : Nat) (a : Nat → Nat) (fp fs fd ff ft id : Nat) (hLx : Lies w da ds n dc) (hl : ds.length = n) (hb : ∀ x ∈ ds, 0 ≤ x ∧ x ≤ 255) (hn0 : 28 ≤ n) (hn : n ≤ 5000) (hP : fld ds 9 1 = P) (ha : ∀ k, k < 6 → (P = 1 → k < 4) → fld ds (12 + 2 * k) 2 = a k) (hfs : fs ≤ 4294967295) (hfd : fd ≤ 4294967295) (hff : ff ≤ 65535) (hft : ft ≤ 65535) (hp : P = 6) (h38 : 38 ≤ n) :
    Calls Try.prog 37 #[.slice da n dc, .agg #[.int .u8 (fp : Int), .int .u32 (fs : Int), .int .u32 (fd : Int), .int .u16 (ff : Int), .int .u16 (ft : Int)]] w fun e w' => ∃ g c', e = .returned (.slice (some ⟨g, 0, none⟩) n c') ∧ w'.ownsRow w.heap.size 5 1 (.slice (some ⟨g, 0, none⟩) n c') n ((dE ds P a (endF fs fd ff ft) id).map (Value.int .u8)) ∧ Below w.heap.size w w' := by
  obtain ⟨bb, hbb⟩ : ∃ f, endF fs fd ff ft = f := ⟨_, rfl⟩
  have hble : ∀ i, bb i ≤ 65535 := by rw [← hbb]; exact endF_le _ _ _ _ hfs hfd hff hft
  have hEN : enA bb = #[.int .u16 ((fs / 65536 : Nat) : Int), .int .u16 ((fs % 65536 : Nat) : Int), .int .u16 ((fd / 65536 : Nat) : Int), .int .u16 ((fd % 65536 : Nat) : Int), .int .u16 (ff : Int), .int .u16 (ft : Int)] := by rw [← hbb]; rfl
  have hb4 : bb 4 = ff ∧ bb 5 = ft := by rw [← hbb]; exact ⟨rfl, rfl⟩
  obtain ⟨e0, he0⟩ : ∃ e, fs / 65536 = e := ⟨_, rfl⟩
  obtain ⟨e1, he1⟩ : ∃ e, fs % 65536 = e := ⟨_, rfl⟩
  obtain ⟨e2, he2⟩ : ∃ e, fd / 65536 = e := ⟨_, rfl⟩
  obtain ⟨e3, he3⟩ : ∃ e, fd % 65536 = e := ⟨_, rfl⟩
  rw [he0, he1, he2, he3] at hEN
  rw [hbb]
  have d0 : (fs : Int) / 65536 = (e0 : Int) := by omega
  have d1 : (fs : Int) % 65536 = (e1 : Int) := by omega
  have d2 : (fd : Int) / 65536 = (e2 : Int) := by omega
  have d3 : (fd : Int) % 65536 = (e3 : Int) := by omega
  have w0 : IntKind.u16.wrap (e0 : Int) = (e0 : Int) := by rw [IntKind.wrap_u16]; omega
  have m0 : (e0 : Int) % 4294967296 = (e0 : Int) := by omega
  have m2 : (e2 : Int) % 4294967296 = (e2 : Int) := by omega
  have w1' : IntKind.u16.wrap (e1 : Int) = (e1 : Int) := by rw [IntKind.wrap_u16]; omega
  have w2' : IntKind.u16.wrap (e2 : Int) = (e2 : Int) := by rw [IntKind.wrap_u16]; omega
  have w3' : IntKind.u16.wrap (e3 : Int) = (e3 : Int) := by rw [IntKind.wrap_u16]; omega
  have HEN := hide hEN
  have HDS := hide (show (∀ x ∈ ds, 0 ≤ x ∧ x ≤ 255) ∧ 28 ≤ ds.length ∧ ds.length = n from ⟨hb, by omega, hl⟩)
  have HBL := hide hble
  have h9 := fld_oneZ ds 9 (by omega) hb
  have h20 := fld_oneZ ds 20 (by omega) hb
  rw [hP] at h9
  obtain ⟨kd, hkd⟩ : ∃ k, fld ds 20 1 = k := ⟨_, rfl⟩
  rw [hkd] at h20
  have H9 := hide h9
  have H20 := hide h20
  have HA := hide (show ∀ k, k < 6 → (P = 1 → k < 4) → fld ds (12 + 2 * k) 2 = a k ∧ a k ≤ 65535 from fun k h1 h2 => ⟨ha k h1 h2, by rw [← ha k h1 h2]; exact fld2_le _ _ hb⟩)
  clear hbb hble hEN he0 he1 he2 he3 h9 h20 hb ha hl hP hfs hfd hff hft
  have p1 : ((P : Int) == 1) = false := by simp; omega
  have p17 : ((P : Int) == 17) = false := by simp; omega
  have p6 : ((P : Int) == 6) = true := by simp; omega
  have l38 : decide ((38 : Int) ≤ (n : Int)) = true := by simp; omega
  have l38b : decide (38 ≤ n) = true := by simp; omega
  have HPP := hide hp
  have HPB := hide (And.intro p1 (And.intro p17 p6))
  have hmx : n ≤ 5000 := hn
  clear hkd hp p1 p17 p6
  obtain ⟨V1, hV1⟩ : ∃ V, w.alloc (.cells #[.int .u8 (fp : Int), .int .u32 (fs : Int), .int .u32 (fd : Int), .int .u16 (ff : Int), .int .u16 (ft : Int)] 29) = V := ⟨_, rfl⟩
  have hz1 : V1.heap.size = w.heap.size + 1 := by rw [← hV1]; simp
  have hb1 : Below w.heap.size w V1 := by rw [← hV1]; exact (Below.refl _ _).alloc (Nat.le_refl _) _
  have hp1_1 : V1.heap[w.heap.size]? = some (.cells #[.int .u8 (fp : Int), .int .u32 (fs : Int), .int .u32 (fd : Int), .int .u16 (ff : Int), .int .u16 (ft : Int)] 29 (0, 0)) := by rw [← hV1]; exact heap_alloc_new _ _
  obtain ⟨BF, hBF⟩ : ∃ B, w.heap.size = B := ⟨_, rfl⟩
  have hw0 : w.heap.size ≤ BF := by omega
  have HF := hide (show V1.heap[BF]? = some (.cells #[.int .u8 (fp : Int), .int .u32 (fs : Int), .int .u32 (fd : Int), .int .u16 (ff : Int), .int .u16 (ft : Int)] 29 (0, 0)) by rw [← hBF]; exact hp1_1)
  have NF : Hid (w.heap.size ≤ BF) := hide hw0
  have AP := hide hLx
  have RP := hide (hLx.below hb1 (Nat.le_refl _))
  have HB := hide hb1
  have HE := hide (And.intro (And.intro trivial trivial) (And.intro hV1 (And.intro hBF (trivial))))
  clear hw0 hV1 hz1 hb1  hp1_1 hBF hLx
  go_enter Try.func37, Try.ntmps37
  go_upto_region 1 with (fail)
  rw [HE.out.2.1]
  try rw [HE.out.2.2.1]
  clear HE
  obtain ⟨vq, v1, hrun, oq, bq, _⟩ := app_own2 (V1.alloc (.cells #[] 5)) V1.heap.size (.slice (some ⟨V1.heap.size, 0, none⟩) 0 0) 0 [] (World.ownsRow_lit V1 #[] 0 (Nat.le_refl _) (by unfold maxLen; omega) rfl) da ds n dc (RP.out.row.below ((Below.refl V1.heap.size V1).alloc (Nat.le_refl _) _) (Nat.le_refl _)) HDS.out.2.2 RP.out.no (by omega) (by simp)
  rw [show 0 + n = n by omega, List.nil_append] at oq
  obtain ⟨aB, cB, rfl⟩ := slice_form oq
  obtain ⟨g, rfl⟩ := slice_someT oq (by omega)
  have HRUN := hide hrun
  have bz := ((Below.refl V1.heap.size V1).alloc (Nat.le_refl _) (.cells #[] 5)).trans bq
  obtain ⟨B0, hB0⟩ : ∃ B, V1.heap.size = B := ⟨_, rfl⟩
  have HB0 := hide (show w.heap.size ≤ B0 by rw [← hB0]; exact HB.out.size)
  have hgF := hide (show BF ≠ g from fun e => by have h1 := (oq.lt g rfl).1; have h2 := lt_of_block HF.out; omega)
  have OG := hide oq
  rw [hB0] at OG
  have HGW := hide (show w.heap.size ≤ g by have := (OG.out.lt g rfl).1; have := HB0.out; omega)
  clear hrun oq bq hB0
  replace HF := hide (below_block bz HF.out (Nat.le_refl _))
  replace RP := hide (RP.out.below bz (Nat.le_refl _))
  replace HB := hide (HB.out.trans (bz.mono HB.out.size))
  clear bz RP AP
  go_upto_region 2 with (at_builtin; refine Lib.wpList_append_run _ rfl _ _ _ _ rfl _ _ rfl rfl _ _ HRUN.out ?_)
  clear HRUN
  have qF_1 : v1.cell? ⟨BF, 1, none⟩ = some (.int .u32 (fs : Int)) := cell_at HF.out 1 rfl
  have qF_2 : v1.cell? ⟨BF, 2, none⟩ = some (.int .u32 (fd : Int)) := cell_at HF.out 2 rfl
  have qF_3 : v1.cell? ⟨BF, 3, none⟩ = some (.int .u16 (ff : Int)) := cell_at HF.out 3 rfl
  have qF_4 : v1.cell? ⟨BF, 4, none⟩ = some (.int .u16 (ft : Int)) := cell_at HF.out 4 rfl
  obtain ⟨v2, hwn, wb, HN1⟩ : ∃ W, v1.alloc (.cells #[.int .u16 (e0 : Int), .int .u16 (e1 : Int), .int .u16 (e2 : Int), .int .u16 (e3 : Int), .int .u16 (ff : Int), .int .u16 (ft : Int)] 22) = W ∧ Below v1.heap.size v1 W ∧ Hid (W.heap[v1.heap.size]? = some (.cells #[.int .u16 (e0 : Int), .int .u16 (e1 : Int), .int .u16 (e2 : Int), .int .u16 (e3 : Int), .int .u16 (ff : Int), .int .u16 (ft : Int)] 22 (0, 0))) := ⟨_, rfl, (Below.refl v1.heap.size v1).alloc (Nat.le_refl _) _, hide (heap_alloc_new v1 _)⟩
  obtain ⟨BE, hBn⟩ : ∃ B, v1.heap.size = B := ⟨_, rfl⟩
  rw [hBn] at HN1
  have HW := hide (And.intro hwn hBn)
  have neE := hide (show BE ≠ g from fun e => by have := (OG.out.lt g rfl).2; omega)
  clear hwn hBn
  have HBo := HB
  replace OG := hide (owns_below OG.out wb (Nat.le_refl _))
  have HFn := hide (below_block wb HF.out (Nat.le_refl _))
  have HBn := hide (HB.out.trans (wb.mono HB.out.size))
  have HE := hide (show v2.heap[BE]? = some (.cells (enA bb) 22 (0, 0)) by rw [HEN.out]; exact HN1.out)
  clear wb HN1 HBo HEN
  go_upto_region 3 with (fail)
  rw [HW.out.1]
  try rw [HW.out.2]
  clear HW d0 d1 d2 d3 w0 w1' w2' w3' m0 m2
  clear qF_1 qF_2 qF_3 qF_4
  replace HF := HFn
  replace HB := HBn
  clear HFn HBn
  obtain ⟨p1, p17, p6⟩ := HPB.out
  have c9 : v2.cell? ⟨g, 9, none⟩ = some (.int .u8 (P : Int)) := by rw [World.ownsRow.cellAt OG.out 9 (by omega), List.getElem?_map, H9.out]; rfl
  go_wp2_with fail
  clear c9 p1 p17 p6 l38 l38b
  have HO := hide (show v2.ownsRow B0 5 1 (.slice (some ⟨g, 0, none⟩) n cB) n ((dD ds a bb 36 0).map (Value.int .u8)) by rw [dD_zero ds a bb 36 HDS.out.2.1 HDS.out.1 (by have := HDS.out.2.2; omega)]; exact OG.out)
  have HG0 := hide (World.grownBy.refl v2 (some g))
  clear OG
  have HF0 := HF
  have HE0 := HE
  clear HF HE
  go_loopw [8] (fun i wr => ∃ (k : Nat), k ≤ 6 ∧ i = .int .i64 k ∧ Hid (wr.ownsRow B0 5 1 (.slice (some ⟨g, 0, none⟩) n cB) n ((dD ds a bb 36 k).map (Value.int .u8))) ∧ Hid (v2.grownBy wr (some g))) (fun i _ => 6 - (intOf i).toNat)
  case atStart => exact ⟨0, Nat.zero_le _, rfl, HO, HG0⟩
  case round =>
    clear HO HG0
    obtain ⟨k, hk, rfl, HO, HG⟩ := hrel
    have HF := hide (gb_other HG.out HF0.out hgF.out)
    have HE := hide (gb_other HG.out HE0.out neE.out)
    obtain ⟨p1, p17, p6⟩ := HPB.out
    by_cases hlt : k < 6
    · by_cases h4 : k < 4
      ·
        have hk3 : decide ((3 : Int) < (k : Int)) = false := by simp; omega
        have hk3b : decide (3 < k) = false := by simp; omega
        have hk4b : decide (k < 4) = true := by simp; omega
        have hk4c : decide ((k : Int) < 4) = true := by simp; omega
        have hak := HA.out k hlt (by have := HPP.out; omega)
        have hlen : (dD ds a bb 36 k).length = n := (dD_len ds a bb 36 k HDS.out.2.1 (by omega) (by have := HDS.out.2.2; omega)).trans HDS.out.2.2
        have hrg : ∀ x ∈ dD ds a bb 36 k, 0 ≤ x ∧ x ≤ 255 := dD_rng ds a bb 36 k HDS.out.1
        have hfk : fld (dD ds a bb 36 k) (12 + 2 * k) 2 = a k := (dD_fld ds a bb 36 k (12 + 2 * k) 2 HDS.out.2.1 (by omega) (by have := HDS.out.2.2; omega) (by omega) (by omega)).trans hak.1
        obtain ⟨K, hK⟩ : ∃ K : Nat, 12 + 2 * k = K := ⟨_, rfl⟩
        have hw1 : IntKind.i64.wrap (2 * (k : Int)) = 2 * (k : Int) := IntWalk.i64_in _ (by omega)
        have hw2 : IntKind.i64.wrap (12 + 2 * (k : Int)) = (K : Int) := by rw [IntKind.wrap_i64]; omega
        have q2 : wr.cell? ⟨BE, k, none⟩ = some (.int .u16 (bb k : Int)) := en_cell HE.out k hlt
        have hbk := HBL.out k
        have HWD := hide (word_any wr (some ⟨g, 0, none⟩) (dD ds a bb 36 k) n cB (12 + 2 * k) (Lies.of_owns HO.out) hlen hrg hmx (by omega))
        rw [hfk, hK] at HWD
        obtain ⟨x, hx⟩ : ∃ x, a k = x := ⟨_, rfl⟩
        obtain ⟨y, hy⟩ : ∃ y, bb k = y := ⟨_, rfl⟩
        have HXY := hide (And.intro hx (And.intro hy hK))
        have hx9 : x ≤ 65535 := by rw [← hx]; exact hak.2
        have hy9 : y ≤ 65535 := by rw [← hy]; exact hbk
        rw [hx] at HWD
        rw [hy] at q2
        have HFIN := hide (show spl (spl (spl (dD ds a bb 36 k) 10 (numB 2 (dX ds a bb 10 (k + 1)))) 36 (numB 2 (dX ds a bb 36 (k + 1)))) K (numB 2 y) = dD ds a bb 36 (k + 1) by rw [← hK, ← hy]; exact (dD_lo ds a bb 36 k HDS.out.2.1 HDS.out.1 (by have := HDS.out.2.2; omega) (by omega) (by omega)).2)
        have HF0 := hide (show fld (dD ds a bb 36 k) 10 2 = dX ds a bb 10 k ∧ dX ds a bb 10 (k + 1) = (updS (dX ds a bb 10 k : Nat) ((x : Int), (y : Int))).toNat from ⟨dD_10 ds a bb 36 k HDS.out.2.1 HDS.out.1 (by have := HDS.out.2.2; omega) (by omega) (by omega), by rw [← hx, ← hy]; exact dX_step ds a bb 10 k HDS.out.1 hlt⟩)
        have HF1 := hide (show fld (spl (dD ds a bb 36 k) 10 (numB 2 (dX ds a bb 10 (k + 1)))) 36 2 = dX ds a bb 36 k ∧ dX ds a bb 36 (k + 1) = (updS (dX ds a bb 36 k : Nat) ((x : Int), (y : Int))).toNat from ⟨(dD_lo ds a bb 36 k HDS.out.2.1 HDS.out.1 (by have := HDS.out.2.2; omega) (by omega) (by omega)).1, by rw [← hx, ← hy]; exact dX_step ds a bb 36 k HDS.out.1 hlt⟩)
        clear hak hlen hrg hfk hx hy hK hbk
        go_wp2_with fail
        refine HWD.out.mono ?_
        rintro e y0 ⟨rfl, q, hq⟩
        have wb : Below wr.heap.size wr y0 := by rw [hq]; exact bdrewN (Below.refl _ _) _
        clear hq HWD q2
        replace HO := hide (owns_below HO.out wb (Nat.le_refl _))
        replace HE := hide (below_block wb HE.out (Nat.le_refl _))
        replace HG := hide (gb_trans HG.out (gb_of_below (r := some g) wb))
        clear wb
        have q2 : y0.cell? ⟨BE, k, none⟩ = some (.int .u16 (y : Int)) := by rw [← HXY.out.2.1]; exact en_cell HE.out k hlt
        go_wp2_with fail
        refine (dchange_any B0 n cB 10 g (dD ds a bb 36 k) x y (dX ds a bb 10 k) _ HO.out (dD_rng ds a bb 36 k HDS.out.1) (by omega) hmx hx9 hy9 HF0.out.1).mono ?_
        rintro e y1 ⟨rfl, o, gg⟩
        rw [← HF0.out.2] at o
        replace HO := hide o
        replace HE := hide (gb_other gg HE.out neE.out)
        replace HG := hide (gb_trans HG.out gg)
        clear o gg q2 HF0
        have q2 : y1.cell? ⟨BE, k, none⟩ = some (.int .u16 (y : Int)) := by rw [← HXY.out.2.1]; exact en_cell HE.out k hlt
        go_wp2_with fail
        refine (dchange_any B0 n cB 36 g (spl (dD ds a bb 36 k) 10 (numB 2 (dX ds a bb 10 (k + 1)))) x y (dX ds a bb 36 k) _ HO.out (spl_rng _ _ _ (dD_rng ds a bb 36 k HDS.out.1) (numB_rng _ _)) (by omega) hmx hx9 hy9 HF1.out.1).mono ?_
        rintro e y2 ⟨rfl, o, gg⟩
        rw [← HF1.out.2] at o
        replace HO := hide o
        replace HE := hide (gb_other gg HE.out neE.out)
        replace HG := hide (gb_trans HG.out gg)
        clear o gg q2 HF1
        have q2 : y2.cell? ⟨BE, k, none⟩ = some (.int .u16 (y : Int)) := by rw [← HXY.out.2.1]; exact en_cell HE.out k hlt
        go_wp2_with fail
        refine (dlay_any B0 n cB K g (spl (spl (dD ds a bb 36 k) 10 (numB 2 (dX ds a bb 10 (k + 1)))) 36 (numB 2 (dX ds a bb 36 (k + 1)))) y _ HO.out (by have := HXY.out.2.2; omega) (by omega) hy9).mono ?_
        rintro e y9 ⟨rfl, o, gg⟩
        rw [HFIN.out] at o
        replace HO := hide o
        replace HG := hide (gb_trans HG.out gg)
        clear o gg q2
        go_wp2_with fail
        go_roundw
        case rel => exact ⟨k + 1, by omega, by go_num, HO, HG⟩
        case measure => simp [intOf]; omega
      ·
        have hk3 : decide ((3 : Int) < (k : Int)) = true := by simp; omega
        have hk3b : decide (3 < k) = true := by simp; omega
        have hk4b : decide (k < 4) = false := by simp; omega
        have hk4c : decide ((k : Int) < 4) = false := by simp; omega
        have h9k : (dD ds a bb 36 k)[9]? = some (P : Int) := by unfold dD; rw [spl_at _ _ _ _ (by rw [numB_len, dM_len ds a bb _ HDS.out.2.1 (by omega)]; have := HDS.out.2.2; omega) (by omega)]; rcases dM_at ds a bb k 9 HDS.out.2.1 (by omega) (by omega) with h | h; (rw [h]; exact H9.out); omega
        have c9 : wr.cell? ⟨g, 9, none⟩ = some (.int .u8 (P : Int)) := by rw [World.ownsRow.cellAt HO.out 9 (by omega), List.getElem?_map, h9k]; rfl
        clear h9k
        have hak := HA.out k hlt (by have := HPP.out; omega)
        have hlen : (dD ds a bb 36 k).length = n := (dD_len ds a bb 36 k HDS.out.2.1 (by omega) (by have := HDS.out.2.2; omega)).trans HDS.out.2.2
        have hrg : ∀ x ∈ dD ds a bb 36 k, 0 ≤ x ∧ x ≤ 255 := dD_rng ds a bb 36 k HDS.out.1
        have hfk : fld (dD ds a bb 36 k) (12 + 2 * k) 2 = a k := (dD_fld ds a bb 36 k (12 + 2 * k) 2 HDS.out.2.1 (by omega) (by have := HDS.out.2.2; omega) (by omega) (by omega)).trans hak.1
        obtain ⟨K, hK⟩ : ∃ K : Nat, 12 + 2 * k = K := ⟨_, rfl⟩
        have hw1 : IntKind.i64.wrap (2 * (k : Int)) = 2 * (k : Int) := IntWalk.i64_in _ (by omega)
        have hw2 : IntKind.i64.wrap (12 + 2 * (k : Int)) = (K : Int) := by rw [IntKind.wrap_i64]; omega
        have q2 : wr.cell? ⟨BE, k, none⟩ = some (.int .u16 (bb k : Int)) := en_cell HE.out k hlt
        have hbk := HBL.out k
        have HWD := hide (word_any wr (some ⟨g, 0, none⟩) (dD ds a bb 36 k) n cB (12 + 2 * k) (Lies.of_owns HO.out) hlen hrg hmx (by omega))
        rw [hfk, hK] at HWD
        obtain ⟨x, hx⟩ : ∃ x, a k = x := ⟨_, rfl⟩
        obtain ⟨y, hy⟩ : ∃ y, bb k = y := ⟨_, rfl⟩
        have HXY := hide (And.intro hx (And.intro hy hK))
        have hx9 : x ≤ 65535 := by rw [← hx]; exact hak.2
        have hy9 : y ≤ 65535 := by rw [← hy]; exact hbk
        rw [hx] at HWD
        rw [hy] at q2
        have HFIN := hide (show spl (spl (dD ds a bb 36 k) 36 (numB 2 (dX ds a bb 36 (k + 1)))) K (numB 2 y) = dD ds a bb 36 (k + 1) by rw [← hK, ← hy]; exact (dD_hi ds a bb 36 k HDS.out.2.1 HDS.out.1 (by have := HDS.out.2.2; omega) (by omega) (by omega) (by omega)).2)
        have HF0 := hide (show fld (dD ds a bb 36 k) 36 2 = dX ds a bb 36 k ∧ dX ds a bb 36 (k + 1) = (updS (dX ds a bb 36 k : Nat) ((x : Int), (y : Int))).toNat from ⟨(dD_hi ds a bb 36 k HDS.out.2.1 HDS.out.1 (by have := HDS.out.2.2; omega) (by omega) (by omega) (by omega)).1, by rw [← hx, ← hy]; exact dX_step ds a bb 36 k HDS.out.1 hlt⟩)
        clear hak hlen hrg hfk hx hy hK hbk
        go_wp2_with fail
        refine HWD.out.mono ?_
        rintro e y0 ⟨rfl, q, hq⟩
        have wb : Below wr.heap.size wr y0 := by rw [hq]; exact bdrewN (Below.refl _ _) _
        clear hq HWD q2 c9
        replace HO := hide (owns_below HO.out wb (Nat.le_refl _))
        replace HE := hide (below_block wb HE.out (Nat.le_refl _))
        replace HG := hide (gb_trans HG.out (gb_of_below (r := some g) wb))
        clear wb
        have q2 : y0.cell? ⟨BE, k, none⟩ = some (.int .u16 (y : Int)) := by rw [← HXY.out.2.1]; exact en_cell HE.out k hlt
        go_wp2_with fail
        refine (dchange_any B0 n cB 36 g (dD ds a bb 36 k) x y (dX ds a bb 36 k) _ HO.out (dD_rng ds a bb 36 k HDS.out.1) (by omega) hmx hx9 hy9 HF0.out.1).mono ?_
        rintro e y1 ⟨rfl, o, gg⟩
        rw [← HF0.out.2] at o
        replace HO := hide o
        replace HE := hide (gb_other gg HE.out neE.out)
        replace HG := hide (gb_trans HG.out gg)
        clear o gg q2 HF0
        have q2 : y1.cell? ⟨BE, k, none⟩ = some (.int .u16 (y : Int)) := by rw [← HXY.out.2.1]; exact en_cell HE.out k hlt
        go_wp2_with fail
        refine (dlay_any B0 n cB K g (spl (dD ds a bb 36 k) 36 (numB 2 (dX ds a bb 36 (k + 1)))) y _ HO.out (by have := HXY.out.2.2; omega) (by omega) hy9).mono ?_
        rintro e y9 ⟨rfl, o, gg⟩
        rw [HFIN.out] at o
        replace HO := hide o
        replace HG := hide (gb_trans HG.out gg)
        clear o gg q2
        go_wp2_with fail
        go_roundw
        case rel => exact ⟨k + 1, by omega, by go_num, HO, HG⟩
        case measure => simp [intOf]; omega
    · obtain rfl : k = 6 := by omega
      have h9k : (dD ds a bb 36 6)[9]? = some (P : Int) := by unfold dD; rw [spl_at _ _ _ _ (by rw [numB_len, dM_len ds a bb _ HDS.out.2.1 (by omega)]; have := HDS.out.2.2; omega) (by omega)]; rcases dM_at ds a bb 6 9 HDS.out.2.1 (by omega) (by omega) with h | h; (rw [h]; exact H9.out); omega
      have c9 : wr.cell? ⟨g, 9, none⟩ = some (.int .u8 (P : Int)) := by rw [World.ownsRow.cellAt HO.out 9 (by omega), List.getElem?_map, h9k]; rfl
      clear h9k
      go_wp2_with fail
      go_ret
      have hfin : dD ds a bb 36 6 = dE ds P a bb id := by
        unfold dE
        rw [if_neg (by have := HPP.out; omega), if_neg (by have := HPP.out; omega), if_pos (by have := HDS.out.2.2; omega)]
      rw [hfin] at HO
      exact ⟨g, cB, rfl, owns_mono HO.out HB0.out, HB.out.grown HG.out HB.out.size (fun k e => by cases e; exact HGW.out)⟩
set_option maxHeartbeats 4000000 in
theorem retR_tcp0 (w : World) (da : Option Addr) (ds : List Int) (n dc : Nat) (P : Nat) (a : Nat → Nat) (fp fs fd ff ft id : Nat) (hLx : Lies w da ds n dc) (hl : ds.length = n) (hb : ∀ x ∈ ds, 0 ≤ x ∧ x ≤ 255) (hn0 : 28 ≤ n) (hn : n ≤ 5000) (hP : fld ds 9 1 = P) (ha : ∀ k, k < 6 → (P = 1 → k < 4) → fld ds (12 + 2 * k) 2 = a k) (hfs : fs ≤ 4294967295) (hfd : fd ≤ 4294967295) (hff : ff ≤ 65535) (hft : ft ≤ 65535) (hp : P = 6) (h38 : ¬ 38 ≤ n) :
    Calls Try.prog 37 #[.slice da n dc, .agg #[.int .u8 (fp : Int), .int .u32 (fs : Int), .int .u32 (fd : Int), .int .u16 (ff : Int), .int .u16 (ft : Int)]] w fun e w' => ∃ g c', e = .returned (.slice (some ⟨g, 0, none⟩) n c') ∧ w'.ownsRow w.heap.size 5 1 (.slice (some ⟨g, 0, none⟩) n c') n ((dE ds P a (endF fs fd ff ft) id).map (Value.int .u8)) ∧ Below w.heap.size w w' := by
  obtain ⟨bb, hbb⟩ : ∃ f, endF fs fd ff ft = f := ⟨_, rfl⟩
  have hble : ∀ i, bb i ≤ 65535 := by rw [← hbb]; exact endF_le _ _ _ _ hfs hfd hff hft
  have hEN : enA bb = #[.int .u16 ((fs / 65536 : Nat) : Int), .int .u16 ((fs % 65536 : Nat) : Int), .int .u16 ((fd / 65536 : Nat) : Int), .int .u16 ((fd % 65536 : Nat) : Int), .int .u16 (ff : Int), .int .u16 (ft : Int)] := by rw [← hbb]; rfl
  have hb4 : bb 4 = ff ∧ bb 5 = ft := by rw [← hbb]; exact ⟨rfl, rfl⟩
  obtain ⟨e0, he0⟩ : ∃ e, fs / 65536 = e := ⟨_, rfl⟩
  obtain ⟨e1, he1⟩ : ∃ e, fs % 65536 = e := ⟨_, rfl⟩
  obtain ⟨e2, he2⟩ : ∃ e, fd / 65536 = e := ⟨_, rfl⟩
  obtain ⟨e3, he3⟩ : ∃ e, fd % 65536 = e := ⟨_, rfl⟩
  rw [he0, he1, he2, he3] at hEN
  rw [hbb]
  have d0 : (fs : Int) / 65536 = (e0 : Int) := by omega
  have d1 : (fs : Int) % 65536 = (e1 : Int) := by omega
  have d2 : (fd : Int) / 65536 = (e2 : Int) := by omega
  have d3 : (fd : Int) % 65536 = (e3 : Int) := by omega
  have w0 : IntKind.u16.wrap (e0 : Int) = (e0 : Int) := by rw [IntKind.wrap_u16]; omega
  have m0 : (e0 : Int) % 4294967296 = (e0 : Int) := by omega
  have m2 : (e2 : Int) % 4294967296 = (e2 : Int) := by omega
  have w1' : IntKind.u16.wrap (e1 : Int) = (e1 : Int) := by rw [IntKind.wrap_u16]; omega
  have w2' : IntKind.u16.wrap (e2 : Int) = (e2 : Int) := by rw [IntKind.wrap_u16]; omega
  have w3' : IntKind.u16.wrap (e3 : Int) = (e3 : Int) := by rw [IntKind.wrap_u16]; omega
  have HEN := hide hEN
  have HDS := hide (show (∀ x ∈ ds, 0 ≤ x ∧ x ≤ 255) ∧ 28 ≤ ds.length ∧ ds.length = n from ⟨hb, by omega, hl⟩)
  have HBL := hide hble
  have h9 := fld_oneZ ds 9 (by omega) hb
  have h20 := fld_oneZ ds 20 (by omega) hb
  rw [hP] at h9
  obtain ⟨kd, hkd⟩ : ∃ k, fld ds 20 1 = k := ⟨_, rfl⟩
  rw [hkd] at h20
  have H9 := hide h9
  have H20 := hide h20
  have HA := hide (show ∀ k, k < 6 → (P = 1 → k < 4) → fld ds (12 + 2 * k) 2 = a k ∧ a k ≤ 65535 from fun k h1 h2 => ⟨ha k h1 h2, by rw [← ha k h1 h2]; exact fld2_le _ _ hb⟩)
  clear hbb hble hEN he0 he1 he2 he3 h9 h20 hb ha hl hP hfs hfd hff hft
  have p1 : ((P : Int) == 1) = false := by simp; omega
  have p17 : ((P : Int) == 17) = false := by simp; omega
  have p6 : ((P : Int) == 6) = true := by simp; omega
  have l38 : decide ((38 : Int) ≤ (n : Int)) = false := by simp; omega
  have l38b : decide (38 ≤ n) = false := by simp; omega
  have HPP := hide hp
  have HPB := hide (And.intro p1 (And.intro p17 p6))
  have hmx : n ≤ 5000 := hn
  clear hkd hp p1 p17 p6
  obtain ⟨V1, hV1⟩ : ∃ V, w.alloc (.cells #[.int .u8 (fp : Int), .int .u32 (fs : Int), .int .u32 (fd : Int), .int .u16 (ff : Int), .int .u16 (ft : Int)] 29) = V := ⟨_, rfl⟩
  have hz1 : V1.heap.size = w.heap.size + 1 := by rw [← hV1]; simp
  have hb1 : Below w.heap.size w V1 := by rw [← hV1]; exact (Below.refl _ _).alloc (Nat.le_refl _) _
  have hp1_1 : V1.heap[w.heap.size]? = some (.cells #[.int .u8 (fp : Int), .int .u32 (fs : Int), .int .u32 (fd : Int), .int .u16 (ff : Int), .int .u16 (ft : Int)] 29 (0, 0)) := by rw [← hV1]; exact heap_alloc_new _ _
  obtain ⟨BF, hBF⟩ : ∃ B, w.heap.size = B := ⟨_, rfl⟩
  have hw0 : w.heap.size ≤ BF := by omega
  have HF := hide (show V1.heap[BF]? = some (.cells #[.int .u8 (fp : Int), .int .u32 (fs : Int), .int .u32 (fd : Int), .int .u16 (ff : Int), .int .u16 (ft : Int)] 29 (0, 0)) by rw [← hBF]; exact hp1_1)
  have NF : Hid (w.heap.size ≤ BF) := hide hw0
  have AP := hide hLx
  have RP := hide (hLx.below hb1 (Nat.le_refl _))
  have HB := hide hb1
  have HE := hide (And.intro (And.intro trivial trivial) (And.intro hV1 (And.intro hBF (trivial))))
  clear hw0 hV1 hz1 hb1  hp1_1 hBF hLx
  go_enter Try.func37, Try.ntmps37
  go_upto_region 1 with (fail)
  rw [HE.out.2.1]
  try rw [HE.out.2.2.1]
  clear HE
  obtain ⟨vq, v1, hrun, oq, bq, _⟩ := app_own2 (V1.alloc (.cells #[] 5)) V1.heap.size (.slice (some ⟨V1.heap.size, 0, none⟩) 0 0) 0 [] (World.ownsRow_lit V1 #[] 0 (Nat.le_refl _) (by unfold maxLen; omega) rfl) da ds n dc (RP.out.row.below ((Below.refl V1.heap.size V1).alloc (Nat.le_refl _) _) (Nat.le_refl _)) HDS.out.2.2 RP.out.no (by omega) (by simp)
  rw [show 0 + n = n by omega, List.nil_append] at oq
  obtain ⟨aB, cB, rfl⟩ := slice_form oq
  obtain ⟨g, rfl⟩ := slice_someT oq (by omega)
  have HRUN := hide hrun
  have bz := ((Below.refl V1.heap.size V1).alloc (Nat.le_refl _) (.cells #[] 5)).trans bq
  obtain ⟨B0, hB0⟩ : ∃ B, V1.heap.size = B := ⟨_, rfl⟩
  have HB0 := hide (show w.heap.size ≤ B0 by rw [← hB0]; exact HB.out.size)
  have hgF := hide (show BF ≠ g from fun e => by have h1 := (oq.lt g rfl).1; have h2 := lt_of_block HF.out; omega)
  have OG := hide oq
  rw [hB0] at OG
  have HGW := hide (show w.heap.size ≤ g by have := (OG.out.lt g rfl).1; have := HB0.out; omega)
  clear hrun oq bq hB0
  replace HF := hide (below_block bz HF.out (Nat.le_refl _))
  replace RP := hide (RP.out.below bz (Nat.le_refl _))
  replace HB := hide (HB.out.trans (bz.mono HB.out.size))
  clear bz RP AP
  go_upto_region 2 with (at_builtin; refine Lib.wpList_append_run _ rfl _ _ _ _ rfl _ _ rfl rfl _ _ HRUN.out ?_)
  clear HRUN
  have qF_1 : v1.cell? ⟨BF, 1, none⟩ = some (.int .u32 (fs : Int)) := cell_at HF.out 1 rfl
  have qF_2 : v1.cell? ⟨BF, 2, none⟩ = some (.int .u32 (fd : Int)) := cell_at HF.out 2 rfl
  have qF_3 : v1.cell? ⟨BF, 3, none⟩ = some (.int .u16 (ff : Int)) := cell_at HF.out 3 rfl
  have qF_4 : v1.cell? ⟨BF, 4, none⟩ = some (.int .u16 (ft : Int)) := cell_at HF.out 4 rfl
  obtain ⟨v2, hwn, wb, HN1⟩ : ∃ W, v1.alloc (.cells #[.int .u16 (e0 : Int), .int .u16 (e1 : Int), .int .u16 (e2 : Int), .int .u16 (e3 : Int), .int .u16 (ff : Int), .int .u16 (ft : Int)] 22) = W ∧ Below v1.heap.size v1 W ∧ Hid (W.heap[v1.heap.size]? = some (.cells #[.int .u16 (e0 : Int), .int .u16 (e1 : Int), .int .u16 (e2 : Int), .int .u16 (e3 : Int), .int .u16 (ff : Int), .int .u16 (ft : Int)] 22 (0, 0))) := ⟨_, rfl, (Below.refl v1.heap.size v1).alloc (Nat.le_refl _) _, hide (heap_alloc_new v1 _)⟩
  obtain ⟨BE, hBn⟩ : ∃ B, v1.heap.size = B := ⟨_, rfl⟩
  rw [hBn] at HN1
  have HW := hide (And.intro hwn hBn)
  have neE := hide (show BE ≠ g from fun e => by have := (OG.out.lt g rfl).2; omega)
  clear hwn hBn
  have HBo := HB
  replace OG := hide (owns_below OG.out wb (Nat.le_refl _))
  have HFn := hide (below_block wb HF.out (Nat.le_refl _))
  have HBn := hide (HB.out.trans (wb.mono HB.out.size))
  have HE := hide (show v2.heap[BE]? = some (.cells (enA bb) 22 (0, 0)) by rw [HEN.out]; exact HN1.out)
  clear wb HN1 HBo HEN
  go_upto_region 3 with (fail)
  rw [HW.out.1]
  try rw [HW.out.2]
  clear HW d0 d1 d2 d3 w0 w1' w2' w3' m0 m2
  clear qF_1 qF_2 qF_3 qF_4
  replace HF := HFn
  replace HB := HBn
  clear HFn HBn
  obtain ⟨p1, p17, p6⟩ := HPB.out
  have c9 : v2.cell? ⟨g, 9, none⟩ = some (.int .u8 (P : Int)) := by rw [World.ownsRow.cellAt OG.out 9 (by omega), List.getElem?_map, H9.out]; rfl
  go_wp2_with fail
  clear c9 p1 p17 p6 l38 l38b
  have HO := hide (show v2.ownsRow B0 5 1 (.slice (some ⟨g, 0, none⟩) n cB) n ((dM ds a bb 0).map (Value.int .u8)) by rw [dM_zero ds a bb HDS.out.2.1 HDS.out.1]; exact OG.out)
  have HG0 := hide (World.grownBy.refl v2 (some g))
  clear OG
  have HF0 := HF
  have HE0 := HE
  clear HF HE
  go_loopw [8] (fun i wr => ∃ (k : Nat), k ≤ 6 ∧ i = .int .i64 k ∧ Hid (wr.ownsRow B0 5 1 (.slice (some ⟨g, 0, none⟩) n cB) n ((dM ds a bb k).map (Value.int .u8))) ∧ Hid (v2.grownBy wr (some g))) (fun i _ => 6 - (intOf i).toNat)
  case atStart => exact ⟨0, Nat.zero_le _, rfl, HO, HG0⟩
  case round =>
    clear HO HG0
    obtain ⟨k, hk, rfl, HO, HG⟩ := hrel
    have HF := hide (gb_other HG.out HF0.out hgF.out)
    have HE := hide (gb_other HG.out HE0.out neE.out)
    obtain ⟨p1, p17, p6⟩ := HPB.out
    by_cases hlt : k < 6
    · by_cases h4 : k < 4
      ·
        have hk3 : decide ((3 : Int) < (k : Int)) = false := by simp; omega
        have hk3b : decide (3 < k) = false := by simp; omega
        have hk4b : decide (k < 4) = true := by simp; omega
        have hk4c : decide ((k : Int) < 4) = true := by simp; omega
        have hak := HA.out k hlt (by have := HPP.out; omega)
        have hlen : (dM ds a bb k).length = n := (dM_len ds a bb k HDS.out.2.1 (by omega)).trans HDS.out.2.2
        have hrg : ∀ x ∈ dM ds a bb k, 0 ≤ x ∧ x ≤ 255 := dM_rng ds a bb k HDS.out.1
        have hfk : fld (dM ds a bb k) (12 + 2 * k) 2 = a k := (dM_fld ds a bb k (12 + 2 * k) 2 HDS.out.2.1 (by omega) (by omega)).trans hak.1
        obtain ⟨K, hK⟩ : ∃ K : Nat, 12 + 2 * k = K := ⟨_, rfl⟩
        have hw1 : IntKind.i64.wrap (2 * (k : Int)) = 2 * (k : Int) := IntWalk.i64_in _ (by omega)
        have hw2 : IntKind.i64.wrap (12 + 2 * (k : Int)) = (K : Int) := by rw [IntKind.wrap_i64]; omega
        have q2 : wr.cell? ⟨BE, k, none⟩ = some (.int .u16 (bb k : Int)) := en_cell HE.out k hlt
        have hbk := HBL.out k
        have HWD := hide (word_any wr (some ⟨g, 0, none⟩) (dM ds a bb k) n cB (12 + 2 * k) (Lies.of_owns HO.out) hlen hrg hmx (by omega))
        rw [hfk, hK] at HWD
        obtain ⟨x, hx⟩ : ∃ x, a k = x := ⟨_, rfl⟩
        obtain ⟨y, hy⟩ : ∃ y, bb k = y := ⟨_, rfl⟩
        have HXY := hide (And.intro hx (And.intro hy hK))
        have hx9 : x ≤ 65535 := by rw [← hx]; exact hak.2
        have hy9 : y ≤ 65535 := by rw [← hy]; exact hbk
        rw [hx] at HWD
        rw [hy] at q2
        have HFIN := hide (show spl (spl (dM ds a bb k) 10 (numB 2 (dX ds a bb 10 (k + 1)))) K (numB 2 y) = dM ds a bb (k + 1) by rw [← hK, ← hy]; exact (dM_lo ds a bb k HDS.out.2.1 HDS.out.1 (by omega)).2)
        have HF0 := hide (show fld (dM ds a bb k) 10 2 = dX ds a bb 10 k ∧ dX ds a bb 10 (k + 1) = (updS (dX ds a bb 10 k : Nat) ((x : Int), (y : Int))).toNat from ⟨(dM_lo ds a bb k HDS.out.2.1 HDS.out.1 (by omega)).1, by rw [← hx, ← hy]; exact dX_step ds a bb 10 k HDS.out.1 hlt⟩)
        clear hak hlen hrg hfk hx hy hK hbk
        go_wp2_with fail
        refine HWD.out.mono ?_
        rintro e y0 ⟨rfl, q, hq⟩
        have wb : Below wr.heap.size wr y0 := by rw [hq]; exact bdrewN (Below.refl _ _) _
        clear hq HWD q2
        replace HO := hide (owns_below HO.out wb (Nat.le_refl _))
        replace HE := hide (below_block wb HE.out (Nat.le_refl _))
        replace HG := hide (gb_trans HG.out (gb_of_below (r := some g) wb))
        clear wb
        have q2 : y0.cell? ⟨BE, k, none⟩ = some (.int .u16 (y : Int)) := by rw [← HXY.out.2.1]; exact en_cell HE.out k hlt
        go_wp2_with fail
        refine (dchange_any B0 n cB 10 g (dM ds a bb k) x y (dX ds a bb 10 k) _ HO.out (dM_rng ds a bb k HDS.out.1) (by omega) hmx hx9 hy9 HF0.out.1).mono ?_
        rintro e y1 ⟨rfl, o, gg⟩
        rw [← HF0.out.2] at o
        replace HO := hide o
        replace HE := hide (gb_other gg HE.out neE.out)
        replace HG := hide (gb_trans HG.out gg)
        clear o gg q2 HF0
        have q2 : y1.cell? ⟨BE, k, none⟩ = some (.int .u16 (y : Int)) := by rw [← HXY.out.2.1]; exact en_cell HE.out k hlt
        go_wp2_with fail
        refine (dlay_any B0 n cB K g (spl (dM ds a bb k) 10 (numB 2 (dX ds a bb 10 (k + 1)))) y _ HO.out (by have := HXY.out.2.2; omega) (by omega) hy9).mono ?_
        rintro e y9 ⟨rfl, o, gg⟩
        rw [HFIN.out] at o
        replace HO := hide o
        replace HG := hide (gb_trans HG.out gg)
        clear o gg q2
        go_wp2_with fail
        go_roundw
        case rel => exact ⟨k + 1, by omega, by go_num, HO, HG⟩
        case measure => simp [intOf]; omega
      ·
        have hk3 : decide ((3 : Int) < (k : Int)) = true := by simp; omega
        have hk3b : decide (3 < k) = true := by simp; omega
        have hk4b : decide (k < 4) = false := by simp; omega
        have hk4c : decide ((k : Int) < 4) = false := by simp; omega
        have h9k : (dM ds a bb k)[9]? = some (P : Int) := by rcases dM_at ds a bb k 9 HDS.out.2.1 (by omega) (by omega) with h | h; (rw [h]; exact H9.out); omega
        have c9 : wr.cell? ⟨g, 9, none⟩ = some (.int .u8 (P : Int)) := by rw [World.ownsRow.cellAt HO.out 9 (by omega), List.getElem?_map, h9k]; rfl
        clear h9k
        have hak := HA.out k hlt (by have := HPP.out; omega)
        have hlen : (dM ds a bb k).length = n := (dM_len ds a bb k HDS.out.2.1 (by omega)).trans HDS.out.2.2
        have hrg : ∀ x ∈ dM ds a bb k, 0 ≤ x ∧ x ≤ 255 := dM_rng ds a bb k HDS.out.1
        have hfk : fld (dM ds a bb k) (12 + 2 * k) 2 = a k := (dM_fld ds a bb k (12 + 2 * k) 2 HDS.out.2.1 (by omega) (by omega)).trans hak.1
        obtain ⟨K, hK⟩ : ∃ K : Nat, 12 + 2 * k = K := ⟨_, rfl⟩
        have hw1 : IntKind.i64.wrap (2 * (k : Int)) = 2 * (k : Int) := IntWalk.i64_in _ (by omega)
        have hw2 : IntKind.i64.wrap (12 + 2 * (k : Int)) = (K : Int) := by rw [IntKind.wrap_i64]; omega
        have q2 : wr.cell? ⟨BE, k, none⟩ = some (.int .u16 (bb k : Int)) := en_cell HE.out k hlt
        have hbk := HBL.out k
        have HWD := hide (word_any wr (some ⟨g, 0, none⟩) (dM ds a bb k) n cB (12 + 2 * k) (Lies.of_owns HO.out) hlen hrg hmx (by omega))
        rw [hfk, hK] at HWD
        obtain ⟨x, hx⟩ : ∃ x, a k = x := ⟨_, rfl⟩
        obtain ⟨y, hy⟩ : ∃ y, bb k = y := ⟨_, rfl⟩
        have HXY := hide (And.intro hx (And.intro hy hK))
        have hx9 : x ≤ 65535 := by rw [← hx]; exact hak.2
        have hy9 : y ≤ 65535 := by rw [← hy]; exact hbk
        rw [hx] at HWD
        rw [hy] at q2
        have HFIN := hide (show spl (dM ds a bb k) K (numB 2 y) = dM ds a bb (k + 1) by rw [← hK, ← hy]; exact dM_hi ds a bb k HDS.out.2.1 (by omega) (by omega))
        clear hak hlen hrg hfk hx hy hK hbk
        go_wp2_with fail
        refine HWD.out.mono ?_
        rintro e y0 ⟨rfl, q, hq⟩
        have wb : Below wr.heap.size wr y0 := by rw [hq]; exact bdrewN (Below.refl _ _) _
        clear hq HWD q2 c9
        replace HO := hide (owns_below HO.out wb (Nat.le_refl _))
        replace HE := hide (below_block wb HE.out (Nat.le_refl _))
        replace HG := hide (gb_trans HG.out (gb_of_below (r := some g) wb))
        clear wb
        have q2 : y0.cell? ⟨BE, k, none⟩ = some (.int .u16 (y : Int)) := by rw [← HXY.out.2.1]; exact en_cell HE.out k hlt
        go_wp2_with fail
        refine (dlay_any B0 n cB K g (dM ds a bb k) y _ HO.out (by have := HXY.out.2.2; omega) (by omega) hy9).mono ?_
        rintro e y9 ⟨rfl, o, gg⟩
        rw [HFIN.out] at o
        replace HO := hide o
        replace HG := hide (gb_trans HG.out gg)
        clear o gg q2
        go_wp2_with fail
        go_roundw
        case rel => exact ⟨k + 1, by omega, by go_num, HO, HG⟩
        case measure => simp [intOf]; omega
    · obtain rfl : k = 6 := by omega
      have h9k : (dM ds a bb 6)[9]? = some (P : Int) := by rcases dM_at ds a bb 6 9 HDS.out.2.1 (by omega) (by omega) with h | h; (rw [h]; exact H9.out); omega
      have c9 : wr.cell? ⟨g, 9, none⟩ = some (.int .u8 (P : Int)) := by rw [World.ownsRow.cellAt HO.out 9 (by omega), List.getElem?_map, h9k]; rfl
      clear h9k
      go_wp2_with fail
      go_ret
      have hfin : dM ds a bb 6 = dE ds P a bb id := by
        unfold dE
        rw [if_neg (by have := HPP.out; omega), if_neg (by have := HPP.out; omega), if_neg (by have := HDS.out.2.2; omega)]
      rw [hfin] at HO
      exact ⟨g, cB, rfl, owns_mono HO.out HB0.out, HB.out.grown HG.out HB.out.size (fun k e => by cases e; exact HGW.out)⟩
theorem retR_any (w : World) (da : Option Addr) (ds : List Int) (n dc fp fs fd ff ft : Nat) (hLx : Lies w da ds n dc) (hl : ds.length = n) (hb : ∀ x ∈ ds, 0 ≤ x ∧ x ≤ 255) (hn : n ≤ 5000) (ht : tok ds ds.length = true) (hfs : fs ≤ 4294967295) (hfd : fd ≤ 4294967295) (hff : ff ≤ 65535) (hft : ft ≤ 65535) :
    Calls Try.prog 37 #[.slice da n dc, .agg #[.int .u8 (fp : Int), .int .u32 (fs : Int), .int .u32 (fd : Int), .int .u16 (ff : Int), .int .u16 (ft : Int)]] w fun e w' => ∃ g c', e = .returned (.slice (some ⟨g, 0, none⟩) n c') ∧ w'.ownsRow w.heap.size 5 1 (.slice (some ⟨g, 0, none⟩) n c') n ((reT ds ⟨fp, fs, fd, ff, ft⟩).map (Value.int .u8)) ∧ Below w.heap.size w w' := by
  obtain ⟨g1, g2, g3⟩ := tok_p ds ds.length ht
  have hP : fld ds 9 1 = (tfl ds ds.length).p := by rw [g3]
  have hq : (tfl ds ds.length).p = 1 → fld ds 24 2 = (if fld ds 20 1 = 8 then (tfl ds ds.length).f else (tfl ds ds.length).t) := by
    intro h1
    rw [← hP] at h1
    have hi : tins ds = true := by unfold tok at ht; rw [Bool.and_eq_true] at ht; exact ht.2
    unfold tins at hi
    rw [if_neg (by omega), if_pos h1] at hi
    unfold qok at hi
    simp only [Bool.and_eq_true, Bool.or_eq_true, decide_eq_true_eq] at hi
    have n6 : ¬ (fld ds 9 1 = 6 ∨ fld ds 9 1 = 17) := by omega
    rw [g3]
    dsimp only
    unfold tfrom tto qfrom qto
    rw [if_neg n6, if_neg n6, if_pos h1, if_pos h1]
    by_cases h8 : fld ds 20 1 = 8
    · rw [if_pos h8, if_pos ⟨h8, hi.1⟩]
    · rw [if_neg h8, if_pos ⟨by omega, hi.1⟩]
  have e := dE_rtl ds (tfl ds ds.length).p (if fld ds 20 1 = 8 then (tfl ds ds.length).f else (tfl ds ds.length).t) (if fld ds 20 1 = 8 then ff else ft) (endF (tfl ds ds.length).s (tfl ds ds.length).d (tfl ds ds.length).f (tfl ds ds.length).t) (endF fs fd ff ft) g1 hb hq
  have e2 : reT ds ⟨fp, fs, fd, ff, ft⟩ = dE ds (tfl ds ds.length).p (endF (tfl ds ds.length).s (tfl ds ds.length).d (tfl ds ds.length).f (tfl ds ds.length).t) (endF fs fd ff ft) (if fld ds 20 1 = 8 then ff else ft) := by rw [e]; rfl
  rw [e2]
  have ha := fun k h1 h2 => ends_at ds ht hb k h1 h2
  rcases g2 with g | g | g
  · refine retR_icmp w da ds n dc _ _ fp fs fd ff ft _ hLx hl hb (by omega) hn hP ha hfs hfd hff hft g ?_
    have hi : tins ds = true := by unfold tok at ht; rw [Bool.and_eq_true] at ht; exact ht.2
    unfold tins at hi
    rw [if_neg (by omega), if_pos (by omega)] at hi
    unfold qok at hi
    simp only [Bool.and_eq_true, Bool.or_eq_true, decide_eq_true_eq] at hi
    by_cases h8 : fld ds 20 1 = 8
    · rw [if_pos h8, if_neg (by omega)]
    · rw [if_neg h8, if_pos (by omega)]
  · by_cases hz : fld ds 26 2 = 0
    · exact retR_udp0 w da ds n dc _ _ fp fs fd ff ft _ hLx hl hb (by omega) hn hP ha hfs hfd hff hft g hz
    · by_cases hz2 : dX ds (endF (tfl ds ds.length).s (tfl ds ds.length).d (tfl ds ds.length).f (tfl ds ds.length).t) (endF fs fd ff ft) 26 6 = 0
      · exact retR_udp2 w da ds n dc _ _ fp fs fd ff ft _ hLx hl hb (by omega) hn hP ha hfs hfd hff hft g hz hz2
      · exact retR_udp1 w da ds n dc _ _ fp fs fd ff ft _ hLx hl hb (by omega) hn hP ha hfs hfd hff hft g hz hz2
  · by_cases h : 38 ≤ n
    · exact retR_tcp1 w da ds n dc _ _ fp fs fd ff ft _ hLx hl hb (by omega) hn hP ha hfs hfd hff hft g h
    · exact retR_tcp0 w da ds n dc _ _ fp fs fd ff ft _ hLx hl hb (by omega) hn hP ha hfs hfd hff hft g h
end Go.Proofs.Ytgggcapgaikbeaa
