/- The law that bytes are read as a frame, or refused, exactly, walked. -/
import Derived.Test.YtgpmgfpmfdaecaaEPairs
import Derived.Test.YtgpmgfpmfdaecaaESpeaks
import Derived.Test.YtgpmgfpmfdaecaaConv
namespace Go.Proofs.Ytgpmgfpmfdaecaa
open Go.RowKit
set_option linter.unusedVariables false
set_option linter.unusedSimpArgs false
set_option maxRecDepth 100000
theorem same_self (d : Nat → UInt8) : ([d 0, d 1, d 2, d 3, d 4, d 5] == [d 0, d 1, d 2, d 3, d 4, d 5]) = true := beq_self_eq_true _
theorem gb_block {w w' : World} {E R : Nat} {o : Obj} (h : w.grownBy w' (some E)) (ho : w.heap[R]? = some o) (hne : R ≠ E) : w'.heap[R]? = some o := (h.block R (lt_of_block ho) (by intro e; cases e; exact hne rfl)).trans ho
theorem owns_nil2 (V : World) : (V.alloc (.cells #[] 5)).ownsRow V.heap.size 5 1 (.slice (some ⟨V.heap.size, 0, none⟩) 0 0) 0 (([] : List Int).map (Value.int .u8)) := World.ownsRow_lit _ #[] 0 (Nat.le_refl _) (by unfold maxLen; omega) rfl

set_option maxHeartbeats 800000 in
theorem ereads_long (w : World) (a : Option Addr) (xs : List Int) (n cap : Nat) (hL : Lies w a xs n cap) (hl : xs.length = n) (hb : ∀ x ∈ xs, 0 ≤ x ∧ x ≤ 255) (h : 4000 < n) :
    Calls Try.prog 3 #[.slice a n cap] w fun e w' => e = .returned (.bool true) ∧ Below w.heap.size w w' := by
  go_enter Try.func3, Try.ntmps3
  go_wp2_with fail
  refine (speaks3_any _).mono ?_
  rintro e w1 ⟨rfl, b1⟩
  go_wp2
  go_ret
  exact ⟨rfl, b1⟩

set_option maxHeartbeats 2000000 in
theorem ereads_bad (w : World) (a : Option Addr) (xs : List Int) (n cap : Nat) (hL : Lies w a xs n cap) (hl : xs.length = n) (hb : ∀ x ∈ xs, 0 ≤ x ∧ x ≤ 255) (h : n ≤ 4000) (d s : Nat → UInt8) (k : Nat) (code : Int) (ds : List Int) (m : Nat) (hds : ds.length = m) (hdb : ∀ x ∈ ds, 0 ≤ x ∧ x ≤ 255)
    (HT1 : Hid (∀ w a cap, Lies w a xs n cap → Calls Try.prog 7 #[.slice a n cap] w (FrAns d s k code ds m w)))
    (HT2 : Hid (∀ w a cap, Lies w a xs n cap → Calls Try.prog 8 #[.slice a n cap] w (FrAns d s k code ds m w))) (hc : (code != 0) = true) :
    Calls Try.prog 3 #[.slice a n cap] w fun e w' => e = .returned (.bool true) ∧ Below w.heap.size w w' := by
  have HA := hide hL
  have HL := hide hl
  have HDS := hide hds
  have HDB := hide hdb
  clear hL hl hb hds hdb
  go_enter Try.func3, Try.ntmps3
  go_wp2_with fail
  refine (speaks3_any _).mono ?_
  rintro e w1 ⟨rfl, b1⟩
  have hba := b1.alloc b1.size (.cells #[] 5)
  obtain ⟨v', w2, hrun, o2, b2⟩ := app_own (w1.alloc (.cells #[] 5)) w1.heap.size _ 0 [] (owns_nil2 w1) a xs n cap (HA.out.row.below hba (Nat.le_refl _)) HL.out HA.out.no (by omega) (by simp)
  simp only [Nat.zero_add, List.nil_append] at o2 hrun
  obtain ⟨G, c, rfl⟩ := slice_form o2
  have HRN := hide hrun
  have HO2 := hide o2
  have HB2 := hide (hba.trans (b2.mono b1.size))
  have HIN := hide (Lies.of_owns o2)
  have HG := hide (fun B (h : (Value.slice G n c).ownBlock = some B) => (o2.lt B h).2)
  have HG2 := hide (fun B (h : (Value.slice G n c).ownBlock = some B) => (o2.lt B h).1)
  have hz21 : w1.heap.size < w2.heap.size := by have := b2.size; simp at this; omega
  have hz10 : w.heap.size ≤ w1.heap.size := b1.size
  clear hrun o2 b2 hba b1
  go_wp2_with (at_builtin; refine Lib.wpList_append_run (o := ⟨some 18, _, _, _, _, _⟩) _ rfl _ _ _ _ rfl _ _ rfl rfl _ _ HRN.out ?_)
  refine (HT1.out w2 _ _ HIN.out).mono ?_
  rintro e w3 ⟨a1, c1, rfl, o3, b3⟩
  have hb34 := HB2.out.trans (b3.mono HB2.out.size)
  have hz23 := b3.size
  obtain ⟨X, w4, hX, hw4, HX, HO1, HI4, HB4, hz24, hX2⟩ : ∃ X wt, w3.heap.size = X ∧ w3.alloc (.cells #[.int .u8 ((d 0).toNat : Int), .int .u8 ((d 1).toNat : Int), .int .u8 ((d 2).toNat : Int), .int .u8 ((d 3).toNat : Int), .int .u8 ((d 4).toNat : Int), .int .u8 ((d 5).toNat : Int), .int .u8 ((s 0).toNat : Int), .int .u8 ((s 1).toNat : Int), .int .u8 ((s 2).toNat : Int), .int .u8 ((s 3).toNat : Int), .int .u8 ((s 4).toNat : Int), .int .u8 ((s 5).toNat : Int), .int .u16 (k : Int), .slice a1 m c1] 28) = wt ∧ Hid (wt.heap[X]? = some (.cells #[.int .u8 ((d 0).toNat : Int), .int .u8 ((d 1).toNat : Int), .int .u8 ((d 2).toNat : Int), .int .u8 ((d 3).toNat : Int), .int .u8 ((d 4).toNat : Int), .int .u8 ((d 5).toNat : Int), .int .u8 ((s 0).toNat : Int), .int .u8 ((s 1).toNat : Int), .int .u8 ((s 2).toNat : Int), .int .u8 ((s 3).toNat : Int), .int .u8 ((s 4).toNat : Int), .int .u8 ((s 5).toNat : Int), .int .u16 (k : Int), .slice a1 m c1] 28 (0, 0))) ∧
      Hid (wt.ownsRow w2.heap.size 5 1 (.slice a1 m c1) m (ds.map (Value.int .u8))) ∧
      Hid (wt.ownsRow w1.heap.size 5 1 (.slice G n c) n (xs.map (Value.int .u8))) ∧ Hid (Below w.heap.size w wt) ∧ w2.heap.size ≤ wt.heap.size ∧ w2.heap.size ≤ X :=
    ⟨_, _, rfl, rfl, hide (heap_alloc_new w3 _), hide (o3.alloc _), hide ((owns_below HO2.out b3 (Nat.le_refl _)).alloc _), hide (hb34.alloc hb34.size _), by simp; omega, hz23⟩
  clear o3 b3 HRN HO2 HIN hb34
  go_wp2_with fail
  try rw [hw4]
  try rw [hX]
  clear hw4 hX
  refine (HT2.out w4 a cap (HA.out.below HB4.out (Nat.le_refl _))).mono ?_
  rintro e w5 ⟨a3, c3, rfl, o5, b5⟩
  have hb56 := HB4.out.trans (b5.mono HB4.out.size)
  have hz45 := b5.size
  obtain ⟨Y, w8, hY, hw6, HY, HX, HO1, HO3, HI8, HB8, hz28, hY2⟩ : ∃ Y wt, w5.heap.size = Y ∧ w5.alloc (.cells #[.int .u8 ((d 0).toNat : Int), .int .u8 ((d 1).toNat : Int), .int .u8 ((d 2).toNat : Int), .int .u8 ((d 3).toNat : Int), .int .u8 ((d 4).toNat : Int), .int .u8 ((d 5).toNat : Int), .int .u8 ((s 0).toNat : Int), .int .u8 ((s 1).toNat : Int), .int .u8 ((s 2).toNat : Int), .int .u8 ((s 3).toNat : Int), .int .u8 ((s 4).toNat : Int), .int .u8 ((s 5).toNat : Int), .int .u16 (k : Int), .slice a3 m c3] 28) = wt ∧ Hid (wt.heap[Y]? = some (.cells #[.int .u8 ((d 0).toNat : Int), .int .u8 ((d 1).toNat : Int), .int .u8 ((d 2).toNat : Int), .int .u8 ((d 3).toNat : Int), .int .u8 ((d 4).toNat : Int), .int .u8 ((d 5).toNat : Int), .int .u8 ((s 0).toNat : Int), .int .u8 ((s 1).toNat : Int), .int .u8 ((s 2).toNat : Int), .int .u8 ((s 3).toNat : Int), .int .u8 ((s 4).toNat : Int), .int .u8 ((s 5).toNat : Int), .int .u16 (k : Int), .slice a3 m c3] 28 (0, 0))) ∧ Hid (wt.heap[X]? = some (.cells #[.int .u8 ((d 0).toNat : Int), .int .u8 ((d 1).toNat : Int), .int .u8 ((d 2).toNat : Int), .int .u8 ((d 3).toNat : Int), .int .u8 ((d 4).toNat : Int), .int .u8 ((d 5).toNat : Int), .int .u8 ((s 0).toNat : Int), .int .u8 ((s 1).toNat : Int), .int .u8 ((s 2).toNat : Int), .int .u8 ((s 3).toNat : Int), .int .u8 ((s 4).toNat : Int), .int .u8 ((s 5).toNat : Int), .int .u16 (k : Int), .slice a1 m c1] 28 (0, 0))) ∧
      Hid (wt.ownsRow w2.heap.size 5 1 (.slice a1 m c1) m (ds.map (Value.int .u8))) ∧ Hid (wt.ownsRow w2.heap.size 5 1 (.slice a3 m c3) m (ds.map (Value.int .u8))) ∧
      Hid (wt.ownsRow w1.heap.size 5 1 (.slice G n c) n (xs.map (Value.int .u8))) ∧ Hid (Below w.heap.size w wt) ∧ w2.heap.size ≤ wt.heap.size ∧ w2.heap.size ≤ Y :=
    ⟨_, _, rfl, rfl, hide (heap_alloc_new w5 _), hide ((Below.heap_alloc _ _ _ (lt_of_block (below_block b5 HX.out (Nat.le_refl _)))).trans (below_block b5 HX.out (Nat.le_refl _))), hide ((owns_below HO1.out b5 (Nat.le_refl _)).alloc _), hide ((owns_mono o5 hz24).alloc _), hide ((owns_below HI4.out b5 (Nat.le_refl _)).alloc _), hide (hb56.alloc hb56.size _), by simp; omega, by omega⟩
  clear o5 b5 HI4 HB4 hb56
  obtain ⟨G0, hG0, hG0a, hG0b⟩ : ∃ G0 : Nat, Hid (∀ B, G = some ⟨B, 0, none⟩ → B = G0) ∧ G0 < w2.heap.size ∧ w.heap.size ≤ G0 := by
    cases G with
    | none => exact ⟨w1.heap.size, hide (fun B h => by cases h), hz21, hz10⟩
    | some ad => exact ⟨ad.block, hide (fun B h => by cases h; rfl), HG.out ad.block rfl, Nat.le_trans hz10 (HG2.out ad.block rfl)⟩
  go_wp2_with fail
  try rw [hw6]
  try rw [hY]
  clear hw6 hY
  have HW := hide (World.grownBy.refl w8 (some G0))
  have HI8' := hide (show ∃ zs, w8.ownsRow w1.heap.size 5 1 (.slice G n c) n zs from ⟨_, HI8.out⟩)
  have hb8 := HB8.out
  clear HI8
  go_loopw [31] (fun i wz => ∃ j : Nat, j ≤ n ∧ i = .int .i64 j ∧ Hid (w8.grownBy wz (some G0)) ∧ Hid (∃ zs, wz.ownsRow w1.heap.size 5 1 (.slice G n c) n zs) ∧ Below w.heap.size w wz) (fun i _ => n - (intOf i).toNat)
  case atStart => exact ⟨0, Nat.zero_le _, rfl, HW, HI8', hb8⟩
  case round =>
    clear HW HI8' hb8
    obtain ⟨j, hj, rfl, HW, HO, hbz⟩ := hrel
    by_cases hlt : j < n
    · obtain ⟨zs, hoz⟩ := HO.out
      obtain ⟨G1, rfl⟩ : ∃ G1, G = some ⟨G1, 0, none⟩ := by
        rcases hoz.2 with ⟨h, h0⟩ | ⟨G1, cap', cur, hv, hg, _⟩
        · omega
        · exact ⟨G1, (by simpa using hv : G = some ⟨G1, 0, none⟩ ∧ c = cap').1⟩
      obtain rfl := hG0.out G1 rfl
      have hzl : zs.length = n := by have := hoz.1; omega
      have hcz := hoz.cellAt j (by omega)
      rw [List.getElem?_eq_getElem (show j < zs.length by omega)] at hcz
      have hfz := hoz.frozenAt j
      have HST := hide (hoz.stored j (.int .u8 238)).1
      have HW' := hide (gb_trans HW.out (gb_set wr G1 j (.int .u8 238)))
      generalize zs[j]'(by omega) = z at *
      clear hoz
      go_wp2
      go_roundw
      case rel => exact ⟨j + 1, by omega, by go_num, HW', hide ⟨_, HST.out⟩, hbz.setCell (p := ⟨G1, j, none⟩) hG0b _⟩
      case measure => simp [intOf]; omega
    · obtain ⟨wb, rfl⟩ : ∃ wb, wb = wr := ⟨_, rfl⟩
      have hXw := gb_block HW.out HX.out (by omega)
      have hYw := gb_block HW.out HY.out (by omega)
      have hown : ∀ (v : Value) (m : Nat) (zs : List Value), w8.ownsRow w2.heap.size 5 1 v m zs → wb.ownsRow w2.heap.size 5 1 v m zs := fun _ _ _ h => h.kept HW.out (.inr (fun e => by have := (h.lt G0 e).1; omega))
      have HO1 := hide (hown _ _ _ HO1.out)
      have HO3 := hide (hown _ _ _ HO3.out)
      have HBB := hide hbz
      obtain ⟨⟨x0, x1, x2, x3, x4, x5, x6, x7, x8, x9, x10, x11, x12, x13⟩, xf⟩ := frame_cells hXw
      obtain ⟨⟨y0, y1, y2, y3, y4, y5, y6, y7, y8, y9, y10, y11, y12, y13⟩, yf⟩ := frame_cells hYw
      have HXW := hide hXw
      have hsm := same_any wb d s d s k k a1 a3 ds ds m m c1 c3 (Row.of_owns HO1.out) (Row.of_owns HO3.out) HDS.out HDS.out HDB.out HDB.out
      rw [same_self d, same_self s, beq_self_eq_true, beq_self_eq_true] at hsm
      have HSM := hide hsm
      clear hown HW HO hbz HB8 hG0 xf yf hXw hYw HX HY hsm
      go_wp2_with fail
      refine HSM.out.mono ?_
      rintro e w10 ⟨rfl, b10⟩
      have HB10 := hide (HBB.out.trans (b10.mono HBB.out.size))
      clear b10 x0 x1 x2 x3 x4 x5 x6 x7 x8 x9 x10 x11 x12 x13 y0 y1 y2 y3 y4 y5 y6 y7 y8 y9 y10 y11 y12 y13
      go_wp2
      go_ret
      exact ⟨rfl, HB10.out⟩

set_option maxHeartbeats 2000000 in
theorem ereads_ok (w : World) (a : Option Addr) (xs : List Int) (n cap : Nat) (hL : Lies w a xs n cap) (hl : xs.length = n) (hb : ∀ x ∈ xs, 0 ≤ x ∧ x ≤ 255) (h : n ≤ 4000) (d s : Nat → UInt8) (k : Nat) (code : Int) (ds : List Int) (m : Nat) (hds : ds.length = m) (hdb : ∀ x ∈ ds, 0 ≤ x ∧ x ≤ 255)
    (HT1 : Hid (∀ w a cap, Lies w a xs n cap → Calls Try.prog 7 #[.slice a n cap] w (FrAns d s k 0 ds m w)))
    (HT2 : Hid (∀ w a cap, Lies w a xs n cap → Calls Try.prog 8 #[.slice a n cap] w (FrAns d s k 0 ds m w))) (hk1 : 1536 ≤ k) (hk2 : k ≤ 65535) (hm : m ≤ 1500) (hmn : 14 + m = n) (hxs : frameB ((d 0).toNat : Int) ((d 1).toNat : Int) ((d 2).toNat : Int) ((d 3).toNat : Int) ((d 4).toNat : Int) ((d 5).toNat : Int) ((s 0).toNat : Int) ((s 1).toNat : Int) ((s 2).toNat : Int) ((s 3).toNat : Int) ((s 4).toNat : Int) ((s 5).toNat : Int) k ds = xs) :
    Calls Try.prog 3 #[.slice a n cap] w fun e w' => e = .returned (.bool true) ∧ Below w.heap.size w w' := by
  have HA := hide hL
  have HL := hide hl
  have HDS := hide hds
  have HDB := hide hdb
  have HXS := hide hxs
  clear hxs
  clear hL hl hb hds hdb
  go_enter Try.func3, Try.ntmps3
  go_wp2_with fail
  refine (speaks3_any _).mono ?_
  rintro e w1 ⟨rfl, b1⟩
  have hba := b1.alloc b1.size (.cells #[] 5)
  obtain ⟨v', w2, hrun, o2, b2⟩ := app_own (w1.alloc (.cells #[] 5)) w1.heap.size _ 0 [] (owns_nil2 w1) a xs n cap (HA.out.row.below hba (Nat.le_refl _)) HL.out HA.out.no (by omega) (by simp)
  simp only [Nat.zero_add, List.nil_append] at o2 hrun
  obtain ⟨G, c, rfl⟩ := slice_form o2
  have HRN := hide hrun
  have HO2 := hide o2
  have HB2 := hide (hba.trans (b2.mono b1.size))
  have HIN := hide (Lies.of_owns o2)
  have HG := hide (fun B (h : (Value.slice G n c).ownBlock = some B) => (o2.lt B h).2)
  have HG2 := hide (fun B (h : (Value.slice G n c).ownBlock = some B) => (o2.lt B h).1)
  have hz21 : w1.heap.size < w2.heap.size := by have := b2.size; simp at this; omega
  have hz10 : w.heap.size ≤ w1.heap.size := b1.size
  clear hrun o2 b2 hba b1
  go_wp2_with (at_builtin; refine Lib.wpList_append_run (o := ⟨some 18, _, _, _, _, _⟩) _ rfl _ _ _ _ rfl _ _ rfl rfl _ _ HRN.out ?_)
  refine (HT1.out w2 _ _ HIN.out).mono ?_
  rintro e w3 ⟨a1, c1, rfl, o3, b3⟩
  have hb34 := HB2.out.trans (b3.mono HB2.out.size)
  have hz23 := b3.size
  obtain ⟨X, w4, hX, hw4, HX, HO1, HI4, HB4, hz24, hX2⟩ : ∃ X wt, w3.heap.size = X ∧ w3.alloc (.cells #[.int .u8 ((d 0).toNat : Int), .int .u8 ((d 1).toNat : Int), .int .u8 ((d 2).toNat : Int), .int .u8 ((d 3).toNat : Int), .int .u8 ((d 4).toNat : Int), .int .u8 ((d 5).toNat : Int), .int .u8 ((s 0).toNat : Int), .int .u8 ((s 1).toNat : Int), .int .u8 ((s 2).toNat : Int), .int .u8 ((s 3).toNat : Int), .int .u8 ((s 4).toNat : Int), .int .u8 ((s 5).toNat : Int), .int .u16 (k : Int), .slice a1 m c1] 28) = wt ∧ Hid (wt.heap[X]? = some (.cells #[.int .u8 ((d 0).toNat : Int), .int .u8 ((d 1).toNat : Int), .int .u8 ((d 2).toNat : Int), .int .u8 ((d 3).toNat : Int), .int .u8 ((d 4).toNat : Int), .int .u8 ((d 5).toNat : Int), .int .u8 ((s 0).toNat : Int), .int .u8 ((s 1).toNat : Int), .int .u8 ((s 2).toNat : Int), .int .u8 ((s 3).toNat : Int), .int .u8 ((s 4).toNat : Int), .int .u8 ((s 5).toNat : Int), .int .u16 (k : Int), .slice a1 m c1] 28 (0, 0))) ∧
      Hid (wt.ownsRow w2.heap.size 5 1 (.slice a1 m c1) m (ds.map (Value.int .u8))) ∧
      Hid (wt.ownsRow w1.heap.size 5 1 (.slice G n c) n (xs.map (Value.int .u8))) ∧ Hid (Below w.heap.size w wt) ∧ w2.heap.size ≤ wt.heap.size ∧ w2.heap.size ≤ X :=
    ⟨_, _, rfl, rfl, hide (heap_alloc_new w3 _), hide (o3.alloc _), hide ((owns_below HO2.out b3 (Nat.le_refl _)).alloc _), hide (hb34.alloc hb34.size _), by simp; omega, hz23⟩
  clear o3 b3 HRN HO2 HIN hb34
  go_wp2_with fail
  try rw [hw4]
  try rw [hX]
  clear hw4 hX
  refine (HT2.out w4 a cap (HA.out.below HB4.out (Nat.le_refl _))).mono ?_
  rintro e w5 ⟨a3, c3, rfl, o5, b5⟩
  have hb56 := HB4.out.trans (b5.mono HB4.out.size)
  have hz45 := b5.size
  obtain ⟨Y, w8, hY, hw6, HY, HX, HO1, HO3, HI8, HB8, hz28, hY2⟩ : ∃ Y wt, w5.heap.size = Y ∧ w5.alloc (.cells #[.int .u8 ((d 0).toNat : Int), .int .u8 ((d 1).toNat : Int), .int .u8 ((d 2).toNat : Int), .int .u8 ((d 3).toNat : Int), .int .u8 ((d 4).toNat : Int), .int .u8 ((d 5).toNat : Int), .int .u8 ((s 0).toNat : Int), .int .u8 ((s 1).toNat : Int), .int .u8 ((s 2).toNat : Int), .int .u8 ((s 3).toNat : Int), .int .u8 ((s 4).toNat : Int), .int .u8 ((s 5).toNat : Int), .int .u16 (k : Int), .slice a3 m c3] 28) = wt ∧ Hid (wt.heap[Y]? = some (.cells #[.int .u8 ((d 0).toNat : Int), .int .u8 ((d 1).toNat : Int), .int .u8 ((d 2).toNat : Int), .int .u8 ((d 3).toNat : Int), .int .u8 ((d 4).toNat : Int), .int .u8 ((d 5).toNat : Int), .int .u8 ((s 0).toNat : Int), .int .u8 ((s 1).toNat : Int), .int .u8 ((s 2).toNat : Int), .int .u8 ((s 3).toNat : Int), .int .u8 ((s 4).toNat : Int), .int .u8 ((s 5).toNat : Int), .int .u16 (k : Int), .slice a3 m c3] 28 (0, 0))) ∧ Hid (wt.heap[X]? = some (.cells #[.int .u8 ((d 0).toNat : Int), .int .u8 ((d 1).toNat : Int), .int .u8 ((d 2).toNat : Int), .int .u8 ((d 3).toNat : Int), .int .u8 ((d 4).toNat : Int), .int .u8 ((d 5).toNat : Int), .int .u8 ((s 0).toNat : Int), .int .u8 ((s 1).toNat : Int), .int .u8 ((s 2).toNat : Int), .int .u8 ((s 3).toNat : Int), .int .u8 ((s 4).toNat : Int), .int .u8 ((s 5).toNat : Int), .int .u16 (k : Int), .slice a1 m c1] 28 (0, 0))) ∧
      Hid (wt.ownsRow w2.heap.size 5 1 (.slice a1 m c1) m (ds.map (Value.int .u8))) ∧ Hid (wt.ownsRow w2.heap.size 5 1 (.slice a3 m c3) m (ds.map (Value.int .u8))) ∧
      Hid (wt.ownsRow w1.heap.size 5 1 (.slice G n c) n (xs.map (Value.int .u8))) ∧ Hid (Below w.heap.size w wt) ∧ w2.heap.size ≤ wt.heap.size ∧ w2.heap.size ≤ Y :=
    ⟨_, _, rfl, rfl, hide (heap_alloc_new w5 _), hide ((Below.heap_alloc _ _ _ (lt_of_block (below_block b5 HX.out (Nat.le_refl _)))).trans (below_block b5 HX.out (Nat.le_refl _))), hide ((owns_below HO1.out b5 (Nat.le_refl _)).alloc _), hide ((owns_mono o5 hz24).alloc _), hide ((owns_below HI4.out b5 (Nat.le_refl _)).alloc _), hide (hb56.alloc hb56.size _), by simp; omega, by omega⟩
  clear o5 b5 HI4 HB4 hb56
  obtain ⟨G0, hG0, hG0a, hG0b⟩ : ∃ G0 : Nat, Hid (∀ B, G = some ⟨B, 0, none⟩ → B = G0) ∧ G0 < w2.heap.size ∧ w.heap.size ≤ G0 := by
    cases G with
    | none => exact ⟨w1.heap.size, hide (fun B h => by cases h), hz21, hz10⟩
    | some ad => exact ⟨ad.block, hide (fun B h => by cases h; rfl), HG.out ad.block rfl, Nat.le_trans hz10 (HG2.out ad.block rfl)⟩
  go_wp2_with fail
  try rw [hw6]
  try rw [hY]
  clear hw6 hY
  have HW := hide (World.grownBy.refl w8 (some G0))
  have HI8' := hide (show ∃ zs, w8.ownsRow w1.heap.size 5 1 (.slice G n c) n zs from ⟨_, HI8.out⟩)
  have hb8 := HB8.out
  clear HI8
  go_loopw [31] (fun i wz => ∃ j : Nat, j ≤ n ∧ i = .int .i64 j ∧ Hid (w8.grownBy wz (some G0)) ∧ Hid (∃ zs, wz.ownsRow w1.heap.size 5 1 (.slice G n c) n zs) ∧ Below w.heap.size w wz) (fun i _ => n - (intOf i).toNat)
  case atStart => exact ⟨0, Nat.zero_le _, rfl, HW, HI8', hb8⟩
  case round =>
    clear HW HI8' hb8
    obtain ⟨j, hj, rfl, HW, HO, hbz⟩ := hrel
    by_cases hlt : j < n
    · obtain ⟨zs, hoz⟩ := HO.out
      obtain ⟨G1, rfl⟩ : ∃ G1, G = some ⟨G1, 0, none⟩ := by
        rcases hoz.2 with ⟨h, h0⟩ | ⟨G1, cap', cur, hv, hg, _⟩
        · omega
        · exact ⟨G1, (by simpa using hv : G = some ⟨G1, 0, none⟩ ∧ c = cap').1⟩
      obtain rfl := hG0.out G1 rfl
      have hzl : zs.length = n := by have := hoz.1; omega
      have hcz := hoz.cellAt j (by omega)
      rw [List.getElem?_eq_getElem (show j < zs.length by omega)] at hcz
      have hfz := hoz.frozenAt j
      have HST := hide (hoz.stored j (.int .u8 238)).1
      have HW' := hide (gb_trans HW.out (gb_set wr G1 j (.int .u8 238)))
      generalize zs[j]'(by omega) = z at *
      clear hoz
      go_wp2
      go_roundw
      case rel => exact ⟨j + 1, by omega, by go_num, HW', hide ⟨_, HST.out⟩, hbz.setCell (p := ⟨G1, j, none⟩) hG0b _⟩
      case measure => simp [intOf]; omega
    · obtain ⟨wb, rfl⟩ : ∃ wb, wb = wr := ⟨_, rfl⟩
      have hXw := gb_block HW.out HX.out (by omega)
      have hYw := gb_block HW.out HY.out (by omega)
      have hown : ∀ (v : Value) (m : Nat) (zs : List Value), w8.ownsRow w2.heap.size 5 1 v m zs → wb.ownsRow w2.heap.size 5 1 v m zs := fun _ _ _ h => h.kept HW.out (.inr (fun e => by have := (h.lt G0 e).1; omega))
      have HO1 := hide (hown _ _ _ HO1.out)
      have HO3 := hide (hown _ _ _ HO3.out)
      have HBB := hide hbz
      obtain ⟨⟨x0, x1, x2, x3, x4, x5, x6, x7, x8, x9, x10, x11, x12, x13⟩, xf⟩ := frame_cells hXw
      obtain ⟨⟨y0, y1, y2, y3, y4, y5, y6, y7, y8, y9, y10, y11, y12, y13⟩, yf⟩ := frame_cells hYw
      have HXW := hide hXw
      have hsm := same_any wb d s d s k k a1 a3 ds ds m m c1 c3 (Row.of_owns HO1.out) (Row.of_owns HO3.out) HDS.out HDS.out HDB.out HDB.out
      rw [same_self d, same_self s, beq_self_eq_true, beq_self_eq_true] at hsm
      have HSM := hide hsm
      clear hown HW HO hbz HB8 hG0 xf yf hXw hYw HX HY hsm
      go_wp2_with fail
      refine HSM.out.mono ?_
      rintro e w10 ⟨rfl, b10⟩
      have HB10 := hide (HBB.out.trans (b10.mono HBB.out.size))
      have HX10 := hide (below_block b10 HXW.out (Nat.le_refl _))
      have HO10 := hide (owns_below HO1.out b10 (Nat.le_refl _))
      obtain ⟨⟨z0, z1, z2, z3, z4, z5, z6, z7, z8, z9, z10, z11, z12, z13⟩, zf⟩ := frame_cells HX10.out
      clear b10 x0 x1 x2 x3 x4 x5 x6 x7 x8 x9 x10 x11 x12 x13 y0 y1 y2 y3 y4 y5 y6 y7 y8 y9 y10 y11 y12 y13 zf
      have hwr := ewrite_ok w10 ((d 0).toNat : Int) ((d 1).toNat : Int) ((d 2).toNat : Int) ((d 3).toNat : Int) ((d 4).toNat : Int) ((d 5).toNat : Int) ((s 0).toNat : Int) ((s 1).toNat : Int) ((s 2).toNat : Int) ((s 3).toNat : Int) ((s 4).toNat : Int) ((s 5).toNat : Int) k a1 ds m c1 (Row.of_owns HO10.out) (Lies.of_owns HO10.out).no HDS.out hm hk1 hk2
      rw [HXS.out, hmn] at hwr
      have HWR := hide hwr
      clear hwr hmn
      go_wp2_with fail
      refine HWR.out.mono ?_
      rintro e w11 ⟨a5, c5, rfl, o11, b11⟩
      have hc1 := conv_any a5 xs c5 w11 (Row.of_owns o11)
      have hc2 := conv_any a xs cap w11 (HA.out.row.below (HB10.out.trans (b11.mono HB10.out.size)) (Nat.le_refl _))
      rw [HL.out] at hc1 hc2
      have HB11 := hide (HB10.out.trans (b11.mono HB10.out.size))
      clear o11 b11 z0 z1 z2 z3 z4 z5 z6 z7 z8 z9 z10 z11 z12 z13
      go_wp2
      go_ret
      exact ⟨rfl, HB11.out⟩

theorem etherReads_any (w : World) (a : Option Addr) (xs : List Int) (n cap : Nat) (hL : Lies w a xs n cap) (hl : xs.length = n) (hb : ∀ x ∈ xs, 0 ≤ x ∧ x ≤ 255) :
    Calls Try.prog 3 #[.slice a n cap] w fun e w' => e = .returned (.bool true) ∧ Below w.heap.size w w' := by
  by_cases h : 4000 < n
  · exact ereads_long w a xs n cap hL hl hb h
  · obtain ⟨d, s, k, code, ds, m, hds, hdb, hT1, hT2, hc⟩ := frame_pair xs n hl hb
    rcases hc with hc | ⟨rfl, h1, h2, h3, h4, h5⟩
    · exact ereads_bad w a xs n cap hL hl hb (by omega) d s k code ds m hds hdb (hide hT1) (hide hT2) (by simpa using hc)
    · exact ereads_ok w a xs n cap hL hl hb (by omega) d s k 0 ds m hds hdb (hide hT1) (hide hT2) h1 h2 h3 h4 h5
end Go.Proofs.Ytgpmgfpmfdaecaa
