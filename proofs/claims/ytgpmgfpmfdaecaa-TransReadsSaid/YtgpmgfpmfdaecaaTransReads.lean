/- The law of the three readers, walked. -/
import Derived.Test.YtgpmgfpmfdaecaaTPairs
import Derived.Test.YtgpmgfpmfdaecaaTSpeaks
namespace Go.Proofs.Ytgpmgfpmfdaecaa
open Go.RowKit
set_option linter.unusedVariables false
set_option linter.unusedSimpArgs false
set_option maxRecDepth 100000
theorem Lies.of_owns {w : World} {base : Nat} {g : Option Addr} {xs : List Int} {n c : Nat} (h : w.ownsRow base 5 1 (.slice g n c) n (xs.map (Value.int .u8))) : Lies w g xs n c := by
  refine ⟨Row.of_owns h, ?_, ?_, ?_⟩ <;> rcases h.2 with ⟨h1, h0⟩ | ⟨G, c', cur, hv, hg, hh, hnc, hcm, _⟩
  · simp at h1; intro _; omega
  · obtain ⟨rfl, rfl⟩ : g = some ⟨G, 0, none⟩ ∧ c = c' := by simpa using hv
    intro h; cases h
  · simp at h1; omega
  · obtain ⟨rfl, rfl⟩ : g = some ⟨G, 0, none⟩ ∧ c = c' := by simpa using hv
    exact hnc
  · simp at h1; omega
  · obtain ⟨rfl, rfl⟩ : g = some ⟨G, 0, none⟩ ∧ c = c' := by simpa using hv
    unfold maxLen at hcm; omega
theorem Lies.below {w w' : World} {a : Option Addr} {xs : List Int} {n cap B : Nat} (h : Lies w a xs n cap) (hb : Below B w w') (hB : w.heap.size ≤ B) : Lies w' a xs n cap := ⟨h.row.below hb hB, h.no, h.le, h.max⟩

set_option maxHeartbeats 800000 in
theorem treads_long (w : World) (src dst : Nat) (a : Option Addr) (xs : List Int) (n cap : Nat) (hL : Lies w a xs n cap) (hl : xs.length = n) (hb : ∀ x ∈ xs, 0 ≤ x ∧ x ≤ 255) (hs : src ≤ 4294967295) (hd : dst ≤ 4294967295) (h : 4000 < n) :
    Calls Try.prog 5 #[.int .u32 src, .int .u32 dst, .slice a n cap] w fun e w' => e = .returned (.bool true) ∧ Below w.heap.size w w' := by
  go_enter Try.func5, Try.ntmps5
  go_wp2_with fail
  refine (speaks5_any _).mono ?_
  rintro e w1 ⟨rfl, b1⟩
  go_wp2
  go_ret
  exact ⟨rfl, b1⟩
set_option maxHeartbeats 1600000 in
theorem treads_main (w : World) (src dst : Nat) (a : Option Addr) (xs : List Int) (n cap : Nat) (hL : Lies w a xs n cap) (hl : xs.length = n) (hb : ∀ x ∈ xs, 0 ≤ x ∧ x ≤ 255) (hs : src ≤ 4294967295) (hd : dst ≤ 4294967295) (h : n ≤ 4000) :
    Calls Try.prog 5 #[.int .u32 src, .int .u32 dst, .slice a n cap] w fun e w' => e = .returned (.bool true) ∧ Below w.heap.size w w' := by
  obtain ⟨p, q, u, v, f, g, h', code, os, ds, m, k, hos, hds, hT1, hT2⟩ := tcp_pair src dst xs n hl hb hs hd
  obtain ⟨p2, q2, pl2, code2, ds2, m2, hds2, hU1, hU2⟩ := udp_pair src dst xs n hl hb hs hd
  obtain ⟨p3, q3, r3, code3, ds3, m3, hds3, hI1, hI2⟩ := icmp_pair xs n hl hb
  have HT1 := hide hT1
  have HT2 := hide hT2
  have HU1 := hide hU1
  have HU2 := hide hU2
  have HI1 := hide hI1
  have HI2 := hide hI2
  have HLS := hide (And.intro hos (And.intro hds (And.intro hds2 hds3)))
  have HA := hide hL
  have HL := hide hl
  clear hT1 hT2 hU1 hU2 hI1 hI2 hos hds hds2 hds3 hL hl hb
  go_enter Try.func5, Try.ntmps5
  go_wp2_with fail
  refine (speaks5_any _).mono ?_
  rintro e w1 ⟨rfl, b1⟩
  have hba := b1.alloc b1.size (.cells #[] 5)
  obtain ⟨v', w2, hrun, o2, b2⟩ := app_own (w1.alloc (.cells #[] 5)) w1.heap.size _ 0 [] (owns_nil2 w1) a xs n cap (HA.out.row.below hba (Nat.le_refl _)) HL.out HA.out.no (by omega) (by simp)
  simp only [Nat.zero_add, List.nil_append] at o2 hrun
  obtain ⟨G, c, rfl⟩ := slice_form o2
  have HRN := hide hrun
  have HO2 := hide o2
  have HB2 := hide (hba.trans (b2.mono b1.size))
  have HIN := hide (Lies.of_owns o2)
  have HG := hide (fun B (h : (Value.slice G n c).ownBlock = some B) => (o2.lt B h).2)
  have HG2 := hide (fun B (h : (Value.slice G n c).ownBlock = some B) => (o2.lt B h).1)
  have hz21 : w1.heap.size < w2.heap.size := by have := b2.size; simp at this; omega
  have hz10 : w.heap.size ≤ w1.heap.size := b1.size
  clear hrun o2 b2 hba b1
  go_wp2_with (at_builtin; refine Lib.wpList_append_run (o := ⟨some 28, _, _, _, _, _⟩) _ rfl _ _ _ _ rfl _ _ rfl rfl _ _ HRN.out ?_)
  refine (HT1.out w2 _ _ HIN.out).mono ?_
  rintro e w3 ⟨a1, c1, a2, c2, rfl, o31, o32, b3⟩
  have hb34 := HB2.out.trans (b3.mono HB2.out.size)
  have hz23 := b3.size
  obtain ⟨X, w4, hX, hw4, HX, HO1, HO2', HI4, HB4, hz24, hX2⟩ : ∃ X wt, w3.heap.size = X ∧ w3.alloc (.cells #[.int .u16 p, .int .u16 q, .int .u32 u, .int .u32 v, .int .u8 f, .int .u16 g, .int .u16 h', .slice a1 m c1, .slice a2 k c2] 51) = wt ∧ Hid (wt.heap[X]? = some (.cells #[.int .u16 p, .int .u16 q, .int .u32 u, .int .u32 v, .int .u8 f, .int .u16 g, .int .u16 h', .slice a1 m c1, .slice a2 k c2] 51 (0, 0))) ∧
      Hid (wt.ownsRow w2.heap.size 5 1 (.slice a1 m c1) m (os.map (Value.int .u8))) ∧ Hid (wt.ownsRow w2.heap.size 5 1 (.slice a2 k c2) k (ds.map (Value.int .u8))) ∧
      Hid (wt.ownsRow w1.heap.size 5 1 (.slice G n c) n (xs.map (Value.int .u8))) ∧ Hid (Below w.heap.size w wt) ∧ w2.heap.size ≤ wt.heap.size ∧ w2.heap.size ≤ X :=
    ⟨_, _, rfl, rfl, hide (heap_alloc_new w3 _), hide (o31.alloc _), hide (o32.alloc _), hide ((owns_below HO2.out b3 (Nat.le_refl _)).alloc _), hide (hb34.alloc hb34.size _), by simp; omega, hz23⟩
  clear o31 o32 b3 HRN HO2 HIN hb34
  go_wp2_with fail
  try rw [hw4]
  try rw [hX]
  clear hw4 hX
  refine (HU1.out w4 _ _ (Lies.of_owns HI4.out)).mono ?_
  rintro e w5 ⟨a3, c3, rfl, o5, b5⟩
  have hb56 := HB4.out.trans (b5.mono HB4.out.size)
  have hz45 := b5.size
  obtain ⟨Y, w6, hY, hw6, HY, HX, HO1, HO2, HO3, HI6, HB6, hz26, hY2⟩ : ∃ Y wt, w5.heap.size = Y ∧ w5.alloc (.cells #[.int .u16 p2, .int .u16 q2, .bool pl2, .slice a3 m2 c3] 55) = wt ∧ Hid (wt.heap[Y]? = some (.cells #[.int .u16 p2, .int .u16 q2, .bool pl2, .slice a3 m2 c3] 55 (0, 0))) ∧ Hid (wt.heap[X]? = some (.cells #[.int .u16 p, .int .u16 q, .int .u32 u, .int .u32 v, .int .u8 f, .int .u16 g, .int .u16 h', .slice a1 m c1, .slice a2 k c2] 51 (0, 0))) ∧
      Hid (wt.ownsRow w2.heap.size 5 1 (.slice a1 m c1) m (os.map (Value.int .u8))) ∧ Hid (wt.ownsRow w2.heap.size 5 1 (.slice a2 k c2) k (ds.map (Value.int .u8))) ∧ Hid (wt.ownsRow w2.heap.size 5 1 (.slice a3 m2 c3) m2 (ds2.map (Value.int .u8))) ∧
      Hid (wt.ownsRow w1.heap.size 5 1 (.slice G n c) n (xs.map (Value.int .u8))) ∧ Hid (Below w.heap.size w wt) ∧ w2.heap.size ≤ wt.heap.size ∧ w2.heap.size ≤ Y :=
    ⟨_, _, rfl, rfl, hide (heap_alloc_new w5 _), hide ((Below.heap_alloc _ _ _ (lt_of_block (below_block b5 HX.out (Nat.le_refl _)))).trans (below_block b5 HX.out (Nat.le_refl _))), hide ((owns_below HO1.out b5 (Nat.le_refl _)).alloc _), hide ((owns_below HO2'.out b5 (Nat.le_refl _)).alloc _), hide ((owns_mono o5 hz24).alloc _), hide ((owns_below HI4.out b5 (Nat.le_refl _)).alloc _), hide (hb56.alloc hb56.size _), by simp; omega, by omega⟩
  clear o5 b5 HO2' HI4 HB4 hb56
  go_wp2_with fail
  try rw [hw6]
  try rw [hY]
  clear hw6 hY
  refine (HI1.out w6 _ _ (Lies.of_owns HI6.out)).mono ?_
  rintro e w7 ⟨a4, c4, rfl, o7, b7⟩
  have hb78 := HB6.out.trans (b7.mono HB6.out.size)
  have hz67 := b7.size
  obtain ⟨Z, w8, hZ, hw8, HZ, HY, HX, HO1, HO2, HO3, HO4, HI8, HB8, hz28, hZ2⟩ : ∃ Z wt, w7.heap.size = Z ∧ w7.alloc (.cells #[.int .u8 p3, .int .u8 q3, .int .u32 r3, .slice a4 m3 c4] 59) = wt ∧ Hid (wt.heap[Z]? = some (.cells #[.int .u8 p3, .int .u8 q3, .int .u32 r3, .slice a4 m3 c4] 59 (0, 0))) ∧ Hid (wt.heap[Y]? = some (.cells #[.int .u16 p2, .int .u16 q2, .bool pl2, .slice a3 m2 c3] 55 (0, 0))) ∧ Hid (wt.heap[X]? = some (.cells #[.int .u16 p, .int .u16 q, .int .u32 u, .int .u32 v, .int .u8 f, .int .u16 g, .int .u16 h', .slice a1 m c1, .slice a2 k c2] 51 (0, 0))) ∧
      Hid (wt.ownsRow w2.heap.size 5 1 (.slice a1 m c1) m (os.map (Value.int .u8))) ∧ Hid (wt.ownsRow w2.heap.size 5 1 (.slice a2 k c2) k (ds.map (Value.int .u8))) ∧ Hid (wt.ownsRow w2.heap.size 5 1 (.slice a3 m2 c3) m2 (ds2.map (Value.int .u8))) ∧ Hid (wt.ownsRow w2.heap.size 5 1 (.slice a4 m3 c4) m3 (ds3.map (Value.int .u8))) ∧
      Hid (wt.ownsRow w1.heap.size 5 1 (.slice G n c) n (xs.map (Value.int .u8))) ∧ Hid (Below w.heap.size w wt) ∧ w2.heap.size ≤ wt.heap.size ∧ w2.heap.size ≤ Z :=
    ⟨_, _, rfl, rfl, hide (heap_alloc_new w7 _), hide ((Below.heap_alloc _ _ _ (lt_of_block (below_block b7 HY.out (Nat.le_refl _)))).trans (below_block b7 HY.out (Nat.le_refl _))), hide ((Below.heap_alloc _ _ _ (lt_of_block (below_block b7 HX.out (Nat.le_refl _)))).trans (below_block b7 HX.out (Nat.le_refl _))), hide ((owns_below HO1.out b7 (Nat.le_refl _)).alloc _), hide ((owns_below HO2.out b7 (Nat.le_refl _)).alloc _), hide ((owns_below HO3.out b7 (Nat.le_refl _)).alloc _), hide ((owns_mono o7 hz26).alloc _), hide ((owns_below HI6.out b7 (Nat.le_refl _)).alloc _), hide (hb78.alloc hb78.size _), by simp; omega, by omega⟩
  clear o7 b7 HI6 HB6 hb78
  -- the block of 'in'
  obtain ⟨G0, hG0, hG0a, hG0b⟩ : ∃ G0 : Nat, Hid (∀ B, G = some ⟨B, 0, none⟩ → B = G0) ∧ G0 < w2.heap.size ∧ w.heap.size ≤ G0 := by
    cases G with
    | none => exact ⟨w1.heap.size, hide (fun B h => by cases h), hz21, hz10⟩
    | some ad => exact ⟨ad.block, hide (fun B h => by cases h; rfl), HG.out ad.block rfl, Nat.le_trans hz10 (HG2.out ad.block rfl)⟩
  go_wp2_with fail
  try rw [hw8]
  try rw [hZ]
  clear hw8 hZ
  obtain ⟨HW, _⟩ : Hid (w8.grownBy w8 (some G0)) ∧ True := ⟨hide (World.grownBy.refl _ _), trivial⟩
  have HI8' := hide (show ∃ zs, w8.ownsRow w1.heap.size 5 1 (.slice G n c) n zs from ⟨_, HI8.out⟩)
  have hb8 := HB8.out
  clear HI8
  go_loopw [50] (fun i wz => ∃ j : Nat, j ≤ n ∧ i = .int .i64 j ∧ Hid (w8.grownBy wz (some G0)) ∧ Hid (∃ zs, wz.ownsRow w1.heap.size 5 1 (.slice G n c) n zs) ∧ Below w.heap.size w wz) (fun i _ => n - (intOf i).toNat)
  case atStart => exact ⟨0, Nat.zero_le _, rfl, HW, HI8', hb8⟩
  case round =>
    clear HW HI8' hb8
    obtain ⟨j, hj, rfl, HW, HO, hbz⟩ := hrel
    by_cases hlt : j < n
    · obtain ⟨zs, hoz⟩ := HO.out
      obtain ⟨G1, rfl⟩ : ∃ G1, G = some ⟨G1, 0, none⟩ := by
        rcases hoz.2 with ⟨h, h0⟩ | ⟨G1, cap', cur, hv, hg, _⟩
        · omega
        · exact ⟨G1, (by simpa using hv : G = some ⟨G1, 0, none⟩ ∧ c = cap').1⟩
      obtain rfl := hG0.out G1 rfl
      have hzl : zs.length = n := by have := hoz.1; omega
      have hcz := hoz.cellAt j (by omega)
      rw [List.getElem?_eq_getElem (show j < zs.length by omega)] at hcz
      have hfz := hoz.frozenAt j
      have HST := hide (hoz.stored j (.int .u8 238)).1
      have HW' := hide (gb_trans HW.out (gb_set wr G1 j (.int .u8 238)))
      generalize zs[j]'(by omega) = z at *
      clear hoz
      go_wp2
      go_roundw
      case rel => exact ⟨j + 1, by omega, by go_num, HW', hide ⟨_, HST.out⟩, hbz.setCell (p := ⟨G1, j, none⟩) hG0b _⟩
      case measure => simp [intOf]; omega
    · obtain ⟨wb, rfl⟩ : ∃ wb, wb = wr := ⟨_, rfl⟩
      have HX := hide (gb_block HW.out HX.out (by omega))
      have HY := hide (gb_block HW.out HY.out (by omega))
      have HZ := hide (gb_block HW.out HZ.out (by omega))
      have hown : ∀ (v : Value) (m : Nat) (zs : List Value), w8.ownsRow w2.heap.size 5 1 v m zs → wb.ownsRow w2.heap.size 5 1 v m zs := fun _ _ _ h => h.kept HW.out (.inr (fun e => by have := (h.lt G0 e).1; omega))
      have HO1 := hide (hown _ _ _ HO1.out)
      have HO2 := hide (hown _ _ _ HO2.out)
      have HO3 := hide (hown _ _ _ HO3.out)
      have HO4 := hide (hown _ _ _ HO4.out)
      have HBB := hide hbz
      have hz2b : w2.heap.size ≤ wb.heap.size := Nat.le_trans hz28 HW.out.size
      clear hown HW HO hbz HB8 hG0
      go_wp2_with fail
      refine (HT2.out wb a cap (HA.out.below HBB.out (Nat.le_refl _))).mono ?_
      rintro e w10 ⟨d1, f1, d2, f2, rfl, o101, o102, b10⟩
      obtain ⟨U, w11, hU, hw11, HU, HP1, HP2, HB11, hz11⟩ : ∃ U wt, w10.heap.size = U ∧ w10.alloc (.cells #[.int .u16 p, .int .u16 q, .int .u32 u, .int .u32 v, .int .u8 f, .int .u16 g, .int .u16 h', .slice d1 m f1, .slice d2 k f2] 51) = wt ∧ Hid (wt.heap[U]? = some (.cells #[.int .u16 p, .int .u16 q, .int .u32 u, .int .u32 v, .int .u8 f, .int .u16 g, .int .u16 h', .slice d1 m f1, .slice d2 k f2] 51 (0, 0))) ∧ Hid (Row .u8 wt d1 os) ∧ Hid (Row .u8 wt d2 ds) ∧ Hid (Below wb.heap.size wb wt) ∧ wb.heap.size ≤ U :=
        ⟨_, _, rfl, rfl, hide (heap_alloc_new w10 _), hide (Row.of_owns (o101.alloc _)), hide (Row.of_owns (o102.alloc _)), hide (b10.alloc b10.size _), b10.size⟩
      have HBB2 := hide (HBB.out.trans (HB11.out.mono HBB.out.size))
      clear o101 o102 b10
      go_wp2_with fail
      try rw [hw11]
      try rw [hU]
      clear hw11 hU
      refine (HU2.out w11 a cap (HA.out.below HBB2.out (Nat.le_refl _))).mono ?_
      rintro e w12 ⟨d3, f3, rfl, o12, b12⟩
      obtain ⟨V, w13, hV, hw13, HV, HU, HP1, HP2, HP3, HB13⟩ : ∃ V wt, w12.heap.size = V ∧ w12.alloc (.cells #[.int .u16 p2, .int .u16 q2, .bool pl2, .slice d3 m2 f3] 55) = wt ∧ Hid (wt.heap[V]? = some (.cells #[.int .u16 p2, .int .u16 q2, .bool pl2, .slice d3 m2 f3] 55 (0, 0))) ∧ Hid (wt.heap[U]? = some (.cells #[.int .u16 p, .int .u16 q, .int .u32 u, .int .u32 v, .int .u8 f, .int .u16 g, .int .u16 h', .slice d1 m f1, .slice d2 k f2] 51 (0, 0))) ∧ Hid (Row .u8 wt d1 os) ∧ Hid (Row .u8 wt d2 ds) ∧ Hid (Row .u8 wt d3 ds2) ∧ Hid (Below w11.heap.size w11 wt) := by
        have hb := b12.alloc b12.size (.cells #[.int .u16 p2, .int .u16 q2, .bool pl2, .slice d3 m2 f3] 55)
        exact ⟨_, _, rfl, rfl, hide (heap_alloc_new w12 _), hide (below_block hb HU.out (Nat.le_refl _)), hide (HP1.out.below hb (Nat.le_refl _)), hide (HP2.out.below hb (Nat.le_refl _)), hide (Row.of_owns (o12.alloc _)), hide hb⟩
      have HBB3 := hide (HBB2.out.trans (HB13.out.mono HBB2.out.size))
      have HB13 := hide (HB11.out.trans (HB13.out.mono HB11.out.size))
      clear o12 b12 HB11 HBB2
      go_wp2_with fail
      try rw [hw13]
      try rw [hV]
      clear hw13 hV
      refine (HI2.out w13 a cap (HA.out.below HBB3.out (Nat.le_refl _))).mono ?_
      rintro e w14 ⟨d4, f4, rfl, o14, b14⟩
      obtain ⟨W, w15, hW, hw15, HW, HV, HU, HP1, HP2, HP3, HP4, HB15⟩ : ∃ W wt, w14.heap.size = W ∧ w14.alloc (.cells #[.int .u8 p3, .int .u8 q3, .int .u32 r3, .slice d4 m3 f4] 59) = wt ∧ Hid (wt.heap[W]? = some (.cells #[.int .u8 p3, .int .u8 q3, .int .u32 r3, .slice d4 m3 f4] 59 (0, 0))) ∧ Hid (wt.heap[V]? = some (.cells #[.int .u16 p2, .int .u16 q2, .bool pl2, .slice d3 m2 f3] 55 (0, 0))) ∧ Hid (wt.heap[U]? = some (.cells #[.int .u16 p, .int .u16 q, .int .u32 u, .int .u32 v, .int .u8 f, .int .u16 g, .int .u16 h', .slice d1 m f1, .slice d2 k f2] 51 (0, 0))) ∧ Hid (Row .u8 wt d1 os) ∧ Hid (Row .u8 wt d2 ds) ∧ Hid (Row .u8 wt d3 ds2) ∧ Hid (Row .u8 wt d4 ds3) ∧ Hid (Below w13.heap.size w13 wt) := by
        have hb := b14.alloc b14.size (.cells #[.int .u8 p3, .int .u8 q3, .int .u32 r3, .slice d4 m3 f4] 59)
        exact ⟨_, _, rfl, rfl, hide (heap_alloc_new w14 _), hide (below_block hb HV.out (Nat.le_refl _)), hide (below_block hb HU.out (Nat.le_refl _)), hide (HP1.out.below hb (Nat.le_refl _)), hide (HP2.out.below hb (Nat.le_refl _)), hide (HP3.out.below hb (Nat.le_refl _)), hide (Row.of_owns (o14.alloc _)), hide hb⟩
      have HBB4 := hide (HBB3.out.trans (HB15.out.mono HBB3.out.size))
      have HB15 := hide (HB13.out.trans (HB15.out.mono HB13.out.size))
      have HX := hide (below_block HB15.out HX.out (Nat.le_refl _))
      have HY := hide (below_block HB15.out HY.out (Nat.le_refl _))
      have HZ := hide (below_block HB15.out HZ.out (Nat.le_refl _))
      have HO1 := hide (Row.of_owns (owns_below HO1.out HB15.out (Nat.le_refl _)))
      have HO2 := hide (Row.of_owns (owns_below HO2.out HB15.out (Nat.le_refl _)))
      have HO3 := hide (Row.of_owns (owns_below HO3.out HB15.out (Nat.le_refl _)))
      have HO4 := hide (Row.of_owns (owns_below HO4.out HB15.out (Nat.le_refl _)))
      clear o14 b14 HB13 HBB3 HBB HB15
      obtain ⟨⟨x0, x1, x2, x3, x4, x5, x6, x7, x8⟩, xf⟩ := nine_cells HX.out
      obtain ⟨⟨u0, u1, u2, u3, u4, u5, u6, u7, u8⟩, uf⟩ := nine_cells HU.out
      clear xf uf HX HU
      go_wp2_with fail
      refine (sameTcp_any w15 p q u v f g h' a1 d1 a2 d2 os ds m k c1 f1 c2 f2 HO1.out HP1.out HLS.out.1 HO2.out HP2.out HLS.out.2.1).mono ?_
      rintro e w16 ⟨rfl, b16⟩
      have HB16 := hide b16
      obtain ⟨y0, y1, y2, y3, yf⟩ := four_cells (below_block b16 HY.out (Nat.le_refl _))
      obtain ⟨v0, v1, v2, v3, vf⟩ := four_cells (below_block b16 HV.out (Nat.le_refl _))
      clear b16 yf vf x0 x1 x2 x3 x4 x5 x6 x7 x8 u0 u1 u2 u3 u4 u5 u6 u7 u8
      go_wp2_with fail
      refine (sameUdp_any w16 p2 q2 pl2 a3 d3 ds2 m2 c3 f3 (HO3.out.below HB16.out (Nat.le_refl _)) (HP3.out.below HB16.out (Nat.le_refl _)) HLS.out.2.2.1).mono ?_
      rintro e w17 ⟨rfl, b17⟩
      have HB17 := hide (HB16.out.trans (b17.mono HB16.out.size))
      clear b17 y0 y1 y2 y3 v0 v1 v2 v3
      obtain ⟨z0, z1, z2, z3, zf⟩ := four_cells (below_block HB17.out HZ.out (Nat.le_refl _))
      obtain ⟨t0, t1, t2, t3, tf⟩ := four_cells (below_block HB17.out HW.out (Nat.le_refl _))
      clear zf tf
      go_wp2_with fail
      refine (sameIcmp_any w17 p3 q3 r3 a4 d4 ds3 m3 c4 f4 (HO4.out.below HB17.out (Nat.le_refl _)) (HP4.out.below HB17.out (Nat.le_refl _)) HLS.out.2.2.2).mono ?_
      rintro e w18 ⟨rfl, b18⟩
      have HB18 := hide (HBB4.out.trans ((HB17.out.trans (b18.mono HB17.out.size)).mono HBB4.out.size))
      clear b18 z0 z1 z2 z3 t0 t1 t2 t3
      go_wp2
      go_ret
      exact ⟨rfl, HB18.out⟩
theorem transReads_any (w : World) (src dst : Nat) (a : Option Addr) (xs : List Int) (n cap : Nat) (hL : Lies w a xs n cap) (hl : xs.length = n) (hb : ∀ x ∈ xs, 0 ≤ x ∧ x ≤ 255) (hs : src ≤ 4294967295) (hd : dst ≤ 4294967295) :
    Calls Try.prog 5 #[.int .u32 src, .int .u32 dst, .slice a n cap] w fun e w' => e = .returned (.bool true) ∧ Below w.heap.size w w' := by
  by_cases h : 4000 < n
  · exact treads_long w src dst a xs n cap hL hl hb hs hd h
  · exact treads_main w src dst a xs n cap hL hl hb hs hd (by omega)
end Go.Proofs.Ytgpmgfpmfdaecaa
