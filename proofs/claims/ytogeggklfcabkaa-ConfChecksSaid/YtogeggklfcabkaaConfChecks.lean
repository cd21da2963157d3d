/- The law of right configurations, walked. -/
import Derived.Test.YtogeggklfcabkaaCCheckR
import Derived.Test.YtogeggklfcabkaaConfHosts
import Derived.Test.YtogeggklfcabkaaCCopy
import Derived.Laws.BitsAllLaws
namespace Go.Proofs.Ytogeggklfcabkaa
open Go.RowKit
set_option linter.unusedVariables false
set_option linter.unusedSimpArgs false
set_option maxRecDepth 100000
/-- The copy's forwards, from a place on as they were. -/
def RowF (w : World) (g : Nat) (fs : List Fwd) (j : Nat) : Prop := ∃ cur, w.heap[g]? = some (.cells cur 36 (0, 0)) ∧ ∀ q f k, j ≤ q → fs[q]? = some f → k < 4 → cur[q * 4 + k]? = (fwV f)[k]?
theorem row_of_own {w : World} {base g n cc : Nat} {fs : List Fwd} (h : w.ownsRow base 36 4 (.slice (some ⟨g, 0, none⟩) n cc) n (flat fs)) (hl : fs.length = n) : RowF w g fs 0 := by
  have h0 := h
  rcases h.2 with ⟨h1, h2⟩ | ⟨g', cap, cur, h1, hb, hh, _, _, hsz, ht⟩
  · cases h1
  · obtain ⟨rfl, rfl⟩ : g = g' ∧ cc = cap := by simpa using h1
    refine ⟨cur, hh, fun q f k _ hq hk => ?_⟩
    have hql : q < fs.length := (List.getElem?_eq_some_iff.1 hq).1
    have hc := h0.cellAt (q * 4 + k) (by omega)
    rw [cell_of_row w g _ cur _ _ hh, flat_at fs q k hk, hq] at hc
    exact hc
theorem RowF.fwAt {w : World} {g : Nat} {fs : List Fwd} (h : RowF w g fs 0) : FwAt w (some ⟨g, 0, none⟩) fs := by
  obtain ⟨cur, hh, hc⟩ := h
  intro _
  refine ⟨g, 0, rfl, lt_of_block hh, fun i f hi => ?_⟩
  have k : ∀ j, j < 4 → w.cell? ⟨g, 0 + i * 4 + j, none⟩ = (fwV f)[j]? := fun j hj => by
    rw [show 0 + i * 4 + j = i * 4 + j by omega, cell_of_row w g _ cur _ _ hh]; exact hc i f j (Nat.zero_le _) hi hj
  exact ⟨(k 0 (by omega)).trans rfl, (k 1 (by omega)).trans rfl, (k 2 (by omega)).trans rfl, (k 3 (by omega)).trans rfl⟩
theorem RowF.below {w w' : World} {g j : Nat} {fs : List Fwd} (h : RowF w g fs j) (hb : Below w.heap.size w w') : RowF w' g fs j := by
  obtain ⟨cur, hh, hc⟩ := h
  exact ⟨cur, below_blk hb hh (Nat.le_refl _), hc⟩
theorem RowF.cells {w : World} {g j : Nat} {fs : List Fwd} {f : Fwd} (h : RowF w g fs j) (hf : fs[j]? = some f) : w.cell? ⟨g, j * 4, none⟩ = some (.int .u8 (f.1 : Int)) ∧ w.cell? ⟨g, j * 4 + 1, none⟩ = some (.int .u16 (f.2.1 : Int)) ∧ w.cell? ⟨g, j * 4 + 2, none⟩ = some (.int .u16 (f.2.2.1 : Int)) ∧ w.cell? ⟨g, j * 4 + 3, none⟩ = some (.int .u32 (f.2.2.2 : Int)) ∧ ∀ i, w.frozen? ⟨g, i, none⟩ = false := by
  obtain ⟨cur, hh, hc⟩ := h
  have k : ∀ i, i < 4 → w.cell? ⟨g, j * 4 + i, none⟩ = (fwV f)[i]? := fun i hi => (cell_of_row w g _ cur _ _ hh).trans (hc j f i (Nat.le_refl _) hf hi)
  exact ⟨(k 0 (by omega)).trans rfl, (k 1 (by omega)).trans rfl, (k 2 (by omega)).trans rfl, (k 3 (by omega)).trans rfl, fun i => frozen_of_row w g i cur _ hh⟩
theorem RowF.next {w : World} {g j : Nat} {fs : List Fwd} (h : RowF w g fs j) (v : Value) : RowF (w.setCell ⟨g, j * 4 + 2, none⟩ v) g fs (j + 1) := by
  obtain ⟨cur, hh, hc⟩ := h
  refine ⟨_, heap_setCell_same w g (j * 4 + 2) cur _ v hh, fun q f k hq hf hk => ?_⟩
  rw [Array.getElem?_setIfInBounds_ne (by omega)]
  exact hc q f k (by omega) hf hk
theorem xor_ne (x : Nat) (h : x ≤ 65535) : ∃ y : Nat, bits .xor .u16 (x : Int) 1 = (y : Int) ∧ y ≤ 65535 ∧ y ≠ x := by
  refine ⟨x ^^^ 1, ?_, ?_, ?_⟩
  · rw [show (1 : Int) = ((1 : Nat) : Int) from rfl, u16_xor_nat _ _ (by omega) (by omega)]
  · have := Nat.xor_lt_two_pow (x := x) (y := 1) (n := 16) (by omega) (by omega); omega
  · intro e
    have h1 := congrArg (fun z => z.testBit 0) e
    simp [Nat.testBit_xor] at h1
    omega
set_option maxHeartbeats 1600000 in
theorem cchecks_long (c : Cfg) (a : Option Addr) (fs : List Fwd) (n cap : Nat) (w : World) (hk : CfOk c) (hl : fs.length = n) (hw : FwAt w a fs) (hf : ∀ f ∈ fs, FwOk f) (hn : n ≤ 9223372036854775807) (hm : n ≤ cap) (h : 100 < n ∨ 100 < c.uuid.size) :
    Calls Try.prog 3 #[.agg (c.cells a n cap)] w fun e w' => e = .returned (.bool true) ∧ Below w.heap.size w w' := by
  by_cases h100 : 100 < n
  · have h1 : decide (100 < (n : Int)) = true := by simp; omega
    clear h h100
    have hb0 := (Below.refl w.heap.size w).alloc (Nat.le_refl _) (.cells (c.cells a n cap) 28)
    obtain ⟨B, w0, hB, hw0, H0, HB0, HW0⟩ : ∃ B wt, w.heap.size = B ∧ w.alloc (.cells (c.cells a n cap) 28) = wt ∧ Hid (wt.heap[B]? = some (.cells (c.cells a n cap) 28 (0, 0))) ∧ Hid (Below w.heap.size w wt) ∧ Hid (FwAt wt a fs) := ⟨_, _, rfl, rfl, hide (heap_alloc_new w _), hide hb0, hide (hw.below hb0 (Nat.le_refl _))⟩
    have HEQ := hide (And.intro hB hw0)
    have HBW := hide hB
    have hcell : ∀ (V : World), V.heap[B]? = some (.cells (c.cells a n cap) 28 (0, 0)) → ∀ i, V.cell? ⟨B, i, none⟩ = (c.cells a n cap)[i]? := fun V hV i => cell_of_row V B i _ _ _ hV
    have HCELL := hide hcell
    have HWW := hide hw
    have HL := hide hl
    have HK := hide hk
    have HF := hide hf
    have HNM := hide (And.intro hn hm)
    clear hb0 hB hw0 hcell hk hl hw hf
    go_enter Try.func3, Try.ntmps3
    go_upto_region 1 with (fail)
    rw [HEQ.out.2, HEQ.out.1]
    clear HEQ
    go_wp2_with fail
    refine (speaks9_any _).mono ?_
    rintro e w1 ⟨rfl, b1⟩
    have H1 := hide (below_blk b1 H0.out (Nat.le_refl _))
    have HB1 := hide (HB0.out.trans (b1.mono HB0.out.size))
    have HW1 := hide (HW0.out.below b1 (Nat.le_refl _))
    have c25 : w1.cell? ⟨B, 25, none⟩ = some (.slice a n cap) := (HCELL.out w1 H1.out 25).trans rfl
    have c27 : w1.cell? ⟨B, 27, none⟩ = some (.string c.uuid) := (HCELL.out w1 H1.out 27).trans rfl
    have hBl : B < w1.heap.size := lt_of_block H1.out
    clear b1 H0 HB0 HW0
    go_wp2_with fail
    go_ret
    exact ⟨rfl, HB1.out⟩
  · have h1 : decide (100 < (n : Int)) = false := by simp; omega
    have h2 : decide (100 < (c.uuid.size : Int)) = true := by simp; omega
    clear h h100
    have hb0 := (Below.refl w.heap.size w).alloc (Nat.le_refl _) (.cells (c.cells a n cap) 28)
    obtain ⟨B, w0, hB, hw0, H0, HB0, HW0⟩ : ∃ B wt, w.heap.size = B ∧ w.alloc (.cells (c.cells a n cap) 28) = wt ∧ Hid (wt.heap[B]? = some (.cells (c.cells a n cap) 28 (0, 0))) ∧ Hid (Below w.heap.size w wt) ∧ Hid (FwAt wt a fs) := ⟨_, _, rfl, rfl, hide (heap_alloc_new w _), hide hb0, hide (hw.below hb0 (Nat.le_refl _))⟩
    have HEQ := hide (And.intro hB hw0)
    have HBW := hide hB
    have hcell : ∀ (V : World), V.heap[B]? = some (.cells (c.cells a n cap) 28 (0, 0)) → ∀ i, V.cell? ⟨B, i, none⟩ = (c.cells a n cap)[i]? := fun V hV i => cell_of_row V B i _ _ _ hV
    have HCELL := hide hcell
    have HWW := hide hw
    have HL := hide hl
    have HK := hide hk
    have HF := hide hf
    have HNM := hide (And.intro hn hm)
    clear hb0 hB hw0 hcell hk hl hw hf
    go_enter Try.func3, Try.ntmps3
    go_upto_region 1 with (fail)
    rw [HEQ.out.2, HEQ.out.1]
    clear HEQ
    go_wp2_with fail
    refine (speaks9_any _).mono ?_
    rintro e w1 ⟨rfl, b1⟩
    have H1 := hide (below_blk b1 H0.out (Nat.le_refl _))
    have HB1 := hide (HB0.out.trans (b1.mono HB0.out.size))
    have HW1 := hide (HW0.out.below b1 (Nat.le_refl _))
    have c25 : w1.cell? ⟨B, 25, none⟩ = some (.slice a n cap) := (HCELL.out w1 H1.out 25).trans rfl
    have c27 : w1.cell? ⟨B, 27, none⟩ = some (.string c.uuid) := (HCELL.out w1 H1.out 27).trans rfl
    have hBl : B < w1.heap.size := lt_of_block H1.out
    clear b1 H0 HB0 HW0
    go_wp2_with fail
    go_ret
    exact ⟨rfl, HB1.out⟩
set_option maxHeartbeats 4000000 in
theorem cchecks_main (c : Cfg) (a : Option Addr) (fs : List Fwd) (n cap : Nat) (w : World) (hk : CfOk c) (hl : fs.length = n) (hw : FwAt w a fs) (hf : ∀ f ∈ fs, FwOk f) (hn : n ≤ 9223372036854775807) (hm : n ≤ cap) (hn100 : n ≤ 100) (hu100 : c.uuid.size ≤ 100) :
    Calls Try.prog 3 #[.agg (c.cells a n cap)] w fun e w' => e = .returned (.bool true) ∧ Below w.heap.size w w' := by
  have h1 : decide (100 < (n : Int)) = false := by simp; omega
  have h2 : decide (100 < (c.uuid.size : Int)) = false := by simp; omega
  have hb0 := (Below.refl w.heap.size w).alloc (Nat.le_refl _) (.cells (c.cells a n cap) 28)
  obtain ⟨B, w0, hB, hw0, H0, HB0, HW0⟩ : ∃ B wt, w.heap.size = B ∧ w.alloc (.cells (c.cells a n cap) 28) = wt ∧ Hid (wt.heap[B]? = some (.cells (c.cells a n cap) 28 (0, 0))) ∧ Hid (Below w.heap.size w wt) ∧ Hid (FwAt wt a fs) := ⟨_, _, rfl, rfl, hide (heap_alloc_new w _), hide hb0, hide (hw.below hb0 (Nat.le_refl _))⟩
  have HEQ := hide (And.intro hB hw0)
  have HBW := hide hB
  have hcell : ∀ (V : World), V.heap[B]? = some (.cells (c.cells a n cap) 28 (0, 0)) → ∀ i, V.cell? ⟨B, i, none⟩ = (c.cells a n cap)[i]? := fun V hV i => cell_of_row V B i _ _ _ hV
  have HCELL := hide hcell
  have HWW := hide hw
  have HL := hide hl
  have HK := hide hk
  have HF := hide hf
  have HNM := hide (And.intro hn hm)
  clear hb0 hB hw0 hcell hk hl hw hf
  go_enter Try.func3, Try.ntmps3
  go_upto_region 1 with (fail)
  rw [HEQ.out.2, HEQ.out.1]
  clear HEQ
  go_wp2_with fail
  refine (speaks9_any _).mono ?_
  rintro e w1 ⟨rfl, b1⟩
  have H1 := hide (below_blk b1 H0.out (Nat.le_refl _))
  have HB1 := hide (HB0.out.trans (b1.mono HB0.out.size))
  have HW1 := hide (HW0.out.below b1 (Nat.le_refl _))
  have c25 : w1.cell? ⟨B, 25, none⟩ = some (.slice a n cap) := (HCELL.out w1 H1.out 25).trans rfl
  have c27 : w1.cell? ⟨B, 27, none⟩ = some (.string c.uuid) := (HCELL.out w1 H1.out 27).trans rfl
  have hBl : B < w1.heap.size := lt_of_block H1.out
  clear b1 H0 HB0 HW0
  have HCP := hide (copy_any c w1 a fs n cap HW1.out HL.out (by omega))
  go_wp2_with (refine ld_cfg (o := ⟨some 17, _, _, _, _, _⟩) (.tmp 1) rfl (by rfl) B rfl (c.cells a n cap) H1.out rfl ?_; try simp only [Act.put, List.setIfInBounds_toArray, List.set_cons_zero, List.set_cons_succ])
  refine HCP.out.mono ?_
  rintro e w2 ⟨a1, c1, rfl, ho, b2⟩
  have HO2 := hide ho
  have H2 := hide (below_blk b2 H1.out (Nat.le_refl _))
  have HB2 := hide (HB1.out.trans (b2.mono HB1.out.size))
  have hs2 : w1.heap.size ≤ w2.heap.size := b2.size
  have hal : Below w2.heap.size w2 (w2.alloc (.cells zeroCfg 28)) := (Below.refl _ _).alloc (Nat.le_refl _) _
  have HZ := hide (heap_alloc_new w2 (.cells zeroCfg 28))
  have HBZ := hide (HB2.out.trans (hal.mono HB2.out.size))
  have HBZ2 := hide hal
  clear ho b2 HB1 HW1 H1 HCP c25 c27 h1 h2
  go_upto_region 6 with ((refine st_cfg (o := ⟨none, _, _, _, _, _⟩) (.tmp 3) (.tmp 18) rfl (by rfl) w2.heap.size rfl zeroCfg (c.cells a1 n c1) rfl HZ.out rfl rfl (cells_one _ _ _ _) HBZ2.out (Nat.le_refl _) ?_; rintro w3 hr3 hb3 ho3 hs3; have HX3 := hide hr3; have HB23 := hide hb3; clear hr3 hb3 ho3 hs3; try simp only [Act.put, List.setIfInBounds_toArray, List.set_cons_zero, List.set_cons_succ]))
  obtain ⟨X, hX⟩ : ∃ X, w2.heap.size = X := ⟨_, rfl⟩
  have HO3 := hide (owns_below HO2.out HB23.out (Nat.le_refl _))
  have H3 := hide (below_blk HB23.out H2.out (Nat.le_refl _))
  have HB3 := hide (HB2.out.trans (HB23.out.mono HB2.out.size))
  have hXB : B < X := by omega
  have HGX := hide (fun g (hg : a1 = some ⟨g, 0, none⟩) => (by
    have := HO2.out.lt g (by rw [hg]; rfl); omega : B < g ∧ g < X))
  rw [hX] at HX3
  try rw [hX]
  clear hX HZ HBZ HBZ2 HB23 HO2 H2 HB2
  have hfa : FwAt w3 a1 fs := by
    by_cases h0 : n = 0
    · intro hne; exact absurd (List.length_eq_zero_iff.1 (HL.out.trans h0)) hne
    · rcases HO3.out.2 with ⟨_, hz⟩ | ⟨g, cc, cur, hv, _⟩
      · exact absurd hz h0
      · obtain ⟨rfl, rfl⟩ : a1 = some ⟨g, 0, none⟩ ∧ c1 = cc := by simpa using hv
        exact (row_of_own HO3.out HL.out).fwAt
  have HFA := hide hfa
  have hm1 : n ≤ c1 := by
    rcases HO3.out.2 with ⟨_, hz⟩ | ⟨g, cc, cur, hv, _, _, hnc, _⟩
    · omega
    · obtain ⟨rfl, rfl⟩ : a1 = some ⟨g, 0, none⟩ ∧ c1 = cc := by simpa using hv
      exact hnc
  have HC1 := hide (fun V (hV : Below w3.heap.size w3 V) => check_any (c.cells a1 n c1) c a1 fs n c1 V (c.cfA _ _ _) HK.out (HFA.out.below hV (Nat.le_refl _)) HL.out HF.out HNM.out.1 hm1)
  have HC2 := hide (fun V (hV : Below w3.heap.size w3 V) => checkR_any (c.cells a n cap) c a fs n cap V (c.cfA _ _ _) HK.out (HWW.out.below (HB3.out.trans (hV.mono HB3.out.size)) (Nat.le_refl _)) HL.out HF.out HNM.out.1 HNM.out.2)
  obtain ⟨r, hr⟩ : ∃ r, errB (checkB c fs) = r := ⟨_, rfl⟩
  rw [hr] at HC1 HC2
  have hkp : ∀ V V' : World, (V.rangeAt X 0 (c.cells a1 n c1).toList ∧ V.rangeAt B 0 (c.cells a n cap).toList ∧ V.cell? ⟨X, 25, none⟩ = some (.slice a1 n c1) ∧ V.cell? ⟨B, 25, none⟩ = some (.slice a n cap)) → Below V.heap.size V V' → (V'.rangeAt X 0 (c.cells a1 n c1).toList ∧ V'.rangeAt B 0 (c.cells a n cap).toList ∧ V'.cell? ⟨X, 25, none⟩ = some (.slice a1 n c1) ∧ V'.cell? ⟨B, 25, none⟩ = some (.slice a n cap)) := fun V V' h hb => by
    obtain ⟨g0, g1, x0, y0⟩ := h
    have k : ∀ {b o : Nat} {v : Value}, V.cell? ⟨b, o, none⟩ = some v → V'.cell? ⟨b, o, none⟩ = some v := fun {b o v} h => (hb.cell (p := ⟨b, o, none⟩) (block_lt_of_cell h)).trans h
    exact ⟨fun j v hv => k (g0 j v hv), fun j v hv => k (g1 j v hv), k x0, k y0⟩
  have HKP := hide hkp
  have hs0 : w3.drew.rangeAt X 0 (c.cells a1 n c1).toList ∧ w3.drew.rangeAt B 0 (c.cells a n cap).toList ∧ w3.drew.cell? ⟨X, 25, none⟩ = some (.slice a1 n c1) ∧ w3.drew.cell? ⟨B, 25, none⟩ = some (.slice a n cap) := by
    refine ⟨fun j v hv => ?_, fun j v hv => ?_, (cell_of_row w3 X 25 _ _ _ HX3.out).trans rfl, (cell_of_row w3 B 25 _ _ _ H3.out).trans rfl⟩
    · show w3.cell? _ = _
      rw [Nat.zero_add, cell_of_row w3 X j _ _ _ HX3.out]; simpa using hv
    · show w3.cell? _ = _
      rw [Nat.zero_add, cell_of_row w3 B j _ _ _ H3.out]; simpa using hv
  have HS0 := hide hs0
  have hD0 : Below w3.heap.size w3 w3.drew := (Below.refl _ _).drew
  clear hkp hs0 hr hfa
  refine wp_region_held_drew (S := (fun w' => w'.rangeAt X 0 (c.cells a1 n c1).toList ∧ w'.rangeAt B 0 (c.cells a n cap).toList ∧ w'.cell? ⟨X, 25, none⟩ = some (.slice a1 n c1) ∧ w'.cell? ⟨B, 25, none⟩ = some (.slice a n cap))) (by kernel_rfl) (by exact HS0.out) (fun hHeld => ?_)
  refine wpAnyH_take (i := 0) (oi := { dst := some 19, op := Op.load 28 (Operand.tmp 3), type := 28, pos := "law.go:25", after := #[], guard := none }) (v := .agg (c.cells a1 n c1)) rfl (by kernel_rfl) (by kernel_rfl) (by kernel_rfl) (fun _ _ _ h => h) (yl_cfg (by rfl) _ rfl X rfl (c.cells a1 n c1) (fun w h => h.1) rfl) (by assumption) ?_
  try simp only [Act.put, List.setIfInBounds_toArray, List.set_cons_zero, List.set_cons_succ]
  refine wpAnyH_take (i := 2) (oi := { dst := some 21, op := Op.load 28 (Operand.tmp 1), type := 28, pos := "law.go:25", after := #[], guard := none }) (v := .agg (c.cells a n cap)) rfl (by kernel_rfl) (by kernel_rfl) (by kernel_rfl) (fun _ _ _ h => h) (yl_cfg (by rfl) _ rfl B rfl (c.cells a n cap) (fun w h => h.2.1) rfl) (by assumption) ?_
  try simp only [Act.put, List.setIfInBounds_toArray, List.set_cons_zero, List.set_cons_succ]
  refine wpAnyH_ready (rs := [1]) (by kernel_rfl) (by simp) ?_
  refine AllReadyH.cons (o := { dst := some 20, op := Op.call { callee := Callee.value (Operand.func 10), args := #[Operand.tmp 19], argTypes := #[28] }, type := 31, pos := "law.go:25", after := #[{ on := 0, ground := Ground.data }], guard := none }) rfl (fun K hK => ?_) AllReadyH.nil
  go_simp
  refine (HC1.out _ hD0).mono ?_
  rintro e v1 ⟨rfl, bz1⟩
  have hk1 := HKP.out _ _ HS0.out bz1
  have HV1 := hide (hD0.trans (bz1.mono hD0.size))
  refine hK.out _ _ ?_ (fun hHeld => ?_)
  · try dsimp only
    exact hk1
  clear hK K
  try simp only [Act.put, List.setIfInBounds_toArray, List.set_cons_zero, List.set_cons_succ]
  refine wpAnyH_ready (rs := [3]) (by kernel_rfl) (by simp) ?_
  refine AllReadyH.cons (o := { dst := some 22, op := Op.call { callee := Callee.value (Operand.func 11), args := #[Operand.tmp 21], argTypes := #[28] }, type := 3, pos := "law.go:25", after := #[{ on := 2, ground := Ground.data }, { on := 1, ground := Ground.chain }], guard := none }) rfl (fun K hK => ?_) AllReadyH.nil
  go_simp
  refine (HC2.out _ HV1.out).mono ?_
  rintro e v2 ⟨rfl, bz2⟩
  have hk2 := HKP.out _ _ hk1 bz2
  have HV2 := hide (HV1.out.trans (bz2.mono HV1.out.size))
  refine hK.out _ _ ?_ (fun hHeld => ?_)
  · try dsimp only
    exact hk2
  clear hK K
  try simp only [Act.put, List.setIfInBounds_toArray, List.set_cons_zero, List.set_cons_succ]
  refine wpAnyH_take (i := 4) (oi := { dst := some 23, op := Op.binOp BinOp.neq 3 (Operand.tmp 20) (Operand.tmp 22) 3, type := 4, pos := "law.go:25", after := #[{ on := 1, ground := Ground.data }, { on := 3, ground := Ground.data }], guard := none }) (v := ?_) rfl (by kernel_rfl) (by kernel_rfl) (by kernel_rfl) (fun _ _ _ h => h) (Or.inl ⟨by rfl, ?_⟩) (by assumption) ?_
  rotate_left
  · intro wS hSw
    try dsimp only at hSw
    go_simp
    try with_reducible rfl
  try simp only [Act.put, List.setIfInBounds_toArray, List.set_cons_zero, List.set_cons_succ]
  refine wpAnyH_take (i := 5) (oi := { dst := some 24, op := Op.move (Operand.tmp 23), type := 4, pos := "law.go:25", after := #[{ on := 4, ground := Ground.data }, { on := 3, ground := Ground.chain }], guard := none }) (v := ?_) rfl (by kernel_rfl) (by kernel_rfl) (by kernel_rfl) (fun _ _ _ h => h) (Or.inl ⟨by rfl, ?_⟩) (by assumption) ?_
  rotate_left
  · intro wS hSw
    try dsimp only at hSw
    go_simp
    try with_reducible rfl
  try simp only [Act.put, List.setIfInBounds_toArray, List.set_cons_zero, List.set_cons_succ]
  refine wpAnyH_take (i := 6) (oi := { dst := some 25, op := Op.fieldAddr 28 (Operand.tmp 3) 10, type := 0, pos := "law.go:25", after := #[{ on := 5, ground := Ground.guard }], guard := some (5, false) }) (v := ?_) rfl (by kernel_rfl) (by kernel_rfl) (by kernel_rfl) (fun _ _ _ h => h) (Or.inl ⟨by rfl, ?_⟩) (by assumption) ?_
  rotate_left
  · intro wS hSw
    try dsimp only at hSw
    go_simp
    try with_reducible rfl
  try simp only [Act.put, List.setIfInBounds_toArray, List.set_cons_zero, List.set_cons_succ]
  refine wpAnyH_take (i := 7) (oi := { dst := some 26, op := Op.load 26 (Operand.tmp 25), type := 26, pos := "law.go:25", after := #[{ on := 6, ground := Ground.data }, { on := 5, ground := Ground.guard }], guard := some (5, false) }) (v := ?_) rfl (by kernel_rfl) (by kernel_rfl) (by kernel_rfl) (fun _ _ _ h => h) (Or.inl ⟨by rfl, ?_⟩) (by assumption) ?_
  rotate_left
  · intro wS hSw
    try dsimp only at hSw
    go_simp
    try with_reducible rfl
  try simp only [Act.put, List.setIfInBounds_toArray, List.set_cons_zero, List.set_cons_succ]
  refine wpAnyH_take (i := 8) (oi := { dst := some 27, op := Op.call { callee := Callee.builtin Builtin.len, args := #[Operand.tmp 26], argTypes := #[26] }, type := 3, pos := "law.go:25", after := #[{ on := 7, ground := Ground.data }, { on := 5, ground := Ground.guard }], guard := some (5, false) }) (v := ?_) rfl (by kernel_rfl) (by kernel_rfl) (by kernel_rfl) (fun _ _ _ h => h) (Or.inl ⟨by rfl, ?_⟩) (by assumption) ?_
  rotate_left
  · intro wS hSw
    try dsimp only at hSw
    go_simp
    try with_reducible rfl
  try simp only [Act.put, List.setIfInBounds_toArray, List.set_cons_zero, List.set_cons_succ]
  refine wpAnyH_take (i := 9) (oi := { dst := some 28, op := Op.fieldAddr 28 (Operand.tmp 1) 10, type := 0, pos := "law.go:25", after := #[{ on := 5, ground := Ground.guard }], guard := some (5, false) }) (v := ?_) rfl (by kernel_rfl) (by kernel_rfl) (by kernel_rfl) (fun _ _ _ h => h) (Or.inl ⟨by rfl, ?_⟩) (by assumption) ?_
  rotate_left
  · intro wS hSw
    try dsimp only at hSw
    go_simp
    try with_reducible rfl
  try simp only [Act.put, List.setIfInBounds_toArray, List.set_cons_zero, List.set_cons_succ]
  refine wpAnyH_take (i := 10) (oi := { dst := some 29, op := Op.load 26 (Operand.tmp 28), type := 26, pos := "law.go:25", after := #[{ on := 9, ground := Ground.data }, { on := 5, ground := Ground.guard }], guard := some (5, false) }) (v := ?_) rfl (by kernel_rfl) (by kernel_rfl) (by kernel_rfl) (fun _ _ _ h => h) (Or.inl ⟨by rfl, ?_⟩) (by assumption) ?_
  rotate_left
  · intro wS hSw
    try dsimp only at hSw
    go_simp
    try with_reducible rfl
  try simp only [Act.put, List.setIfInBounds_toArray, List.set_cons_zero, List.set_cons_succ]
  refine wpAnyH_take (i := 11) (oi := { dst := some 30, op := Op.call { callee := Callee.builtin Builtin.len, args := #[Operand.tmp 29], argTypes := #[26] }, type := 3, pos := "law.go:25", after := #[{ on := 10, ground := Ground.data }, { on := 5, ground := Ground.guard }], guard := some (5, false) }) (v := ?_) rfl (by kernel_rfl) (by kernel_rfl) (by kernel_rfl) (fun _ _ _ h => h) (Or.inl ⟨by rfl, ?_⟩) (by assumption) ?_
  rotate_left
  · intro wS hSw
    try dsimp only at hSw
    go_simp
    try with_reducible rfl
  try simp only [Act.put, List.setIfInBounds_toArray, List.set_cons_zero, List.set_cons_succ]
  refine wpAnyH_take (i := 12) (oi := { dst := some 31, op := Op.binOp BinOp.neq 3 (Operand.tmp 27) (Operand.tmp 30) 3, type := 4, pos := "law.go:25", after := #[{ on := 8, ground := Ground.data }, { on := 11, ground := Ground.data }, { on := 5, ground := Ground.guard }], guard := some (5, false) }) (v := ?_) rfl (by kernel_rfl) (by kernel_rfl) (by kernel_rfl) (fun _ _ _ h => h) (Or.inl ⟨by rfl, ?_⟩) (by assumption) ?_
  rotate_left
  · intro wS hSw
    try dsimp only at hSw
    go_simp
    try with_reducible rfl
  try simp only [Act.put, List.setIfInBounds_toArray, List.set_cons_zero, List.set_cons_succ]
  refine wpAnyH_take (i := 13) (oi := { dst := some 32, op := Op.pick (Operand.tmp 24) (Operand.const (Value.bool true)) (Operand.tmp 31), type := 4, pos := "law.go:25", after := #[{ on := 5, ground := Ground.data }, { on := 12, ground := Ground.data }], guard := none }) (v := ?_) rfl (by kernel_rfl) (by kernel_rfl) (by kernel_rfl) (fun _ _ _ h => h) (Or.inl ⟨by rfl, ?_⟩) (by assumption) ?_
  rotate_left
  · intro wS hSw
    try dsimp only at hSw
    go_simp
    try with_reducible rfl
  try simp only [Act.put, List.setIfInBounds_toArray, List.set_cons_zero, List.set_cons_succ]
  refine wpAnyH_done (by kernel_rfl) ?_ _
  have HV := hide HV2.out
  have HX4 := hide (below_blk HV.out HX3.out (Nat.le_refl _))
  have HH4 := hide (below_blk HV.out H3.out (Nat.le_refl _))
  have HB4 := hide (HB3.out.trans (HV.out.mono HB3.out.size))
  have hRow : ∀ g, a1 = some ⟨g, 0, none⟩ → 0 < n → RowF v2 g fs 0 := fun g hg h0 => by
    subst hg
    exact (row_of_own HO3.out HL.out).below HV.out
  have HROW := hide hRow
  have HSOME := hide (show 0 < n → ∃ g, a1 = some ⟨g, 0, none⟩ from fun h0 => by
    rcases HO3.out.2 with ⟨_, hz⟩ | ⟨g, cc, cur, hv, _⟩
    · omega
    · simp at hv; exact ⟨g, hv.1⟩)
  have d25 : v2.cell? ⟨X, 25, none⟩ = some (.slice a1 n c1) := (cell_of_row v2 X 25 _ _ _ HX4.out).trans rfl
  clear hRow hk1 hk2 bz1 bz2 HV1 HV2 HKP HS0 hD0 HC1 HC2 HO3 HX3 H3 HB3 HFA
  go_wp2_with fail
  go_loopw [36] (fun i wz => ∃ j : Nat, j ≤ n ∧ i = .int .i64 j ∧ Hid (∀ g, a1 = some ⟨g, 0, none⟩ → 0 < n → RowF wz g fs j) ∧ Hid (wz.heap[X]? = some (.cells (c.cells a1 n c1) 28 (0, 0))) ∧ Hid (wz.heap[B]? = some (.cells (c.cells a n cap) 28 (0, 0))) ∧ Hid (Below w.heap.size w wz)) (fun i _ => n - (intOf i).toNat)
  case atStart => exact ⟨0, Nat.zero_le _, rfl, HROW, HX4, HH4, HB4⟩
  case round =>
    clear HROW HX4 HH4 HB4 d25 HV
    obtain ⟨j, hj, rfl, HRz, HXz, HHz, HBz⟩ := hrel
    obtain ⟨wa, rfl⟩ : ∃ wa, wa = wr := ⟨_, rfl⟩
    by_cases hlt : j < n
    · obtain ⟨g, rfl⟩ := HSOME.out (by omega)
      have HR := hide (HRz.out g rfl (by omega))
      obtain ⟨hgB, hgX⟩ := HGX.out g rfl
      have hjl : j < fs.length := by rw [HL.out]; exact hlt
      have hfj : fs[j]? = some (fs[j]'hjl) := List.getElem?_eq_getElem hjl
      have hfo := HF.out _ (List.getElem_mem hjl)
      obtain ⟨k0, k1, k2, k3, kf⟩ := HR.out.cells hfj
      obtain ⟨b, off, rfl, hb, d0, d1, d2, d3⟩ := (HWW.out.below HBz.out (Nat.le_refl _)).cells hjl
      have hbB : b < B := by
        obtain ⟨b', off', he, hlt', _⟩ := HWW.out.cells hjl
        simp only [Option.some.injEq, Addr.mk.injEq] at he
        have := HBW.out
        omega
      obtain ⟨f, hff⟩ : ∃ f, fs[j]'hjl = f := ⟨_, rfl⟩
      rw [hff] at k0 k1 k2 k3 d0 d1 d2 d3 hfo
      obtain ⟨f0, f1, f2, f3⟩ := f
      simp only at k0 k1 k2 k3 d0 d1 d2 d3
      obtain ⟨y, hxor, hy, hyne⟩ := xor_ne f2 hfo.2.2.1
      have hne : ((y : Int) == (f2 : Int)) = false := by simp; omega
      have e25 : wa.cell? ⟨X, 25, none⟩ = some (.slice (some ⟨g, 0, none⟩) n c1) := (cell_of_row wa X 25 _ _ _ HXz.out).trans rfl
      have b25 : wa.cell? ⟨B, 25, none⟩ = some (.slice (some ⟨b, off, none⟩) n cap) := (cell_of_row wa B 25 _ _ _ HHz.out).trans rfl
      have n1 : g ≠ X := by omega
      have n2 : g ≠ B := by omega
      have n3 : b ≠ g := by omega
      have n4 : X ≠ g := by omega
      have n5 : B ≠ g := by omega
      have n6 : g ≠ b := by omega
      clear hfj hfo hff hb
      go_wp2_with fail
      go_quiet (fail)
      go_wp2_with fail
      have hwl : w.heap.size ≤ g := by have := HBW.out; omega
      obtain ⟨w5, hw5, HR5, HX5, HH5, HB5, HC5, HD5⟩ : ∃ wt, (wa.drewN nq).setCell ⟨g, j * 4 + 2, none⟩ (.int .u16 (y : Int)) = wt ∧ Hid (RowF wt g fs (j + 1)) ∧ Hid (wt.heap[X]? = some (.cells (c.cells (some ⟨g, 0, none⟩) n c1) 28 (0, 0))) ∧ Hid (wt.heap[B]? = some (.cells (c.cells (some ⟨b, off, none⟩) n cap) 28 (0, 0))) ∧ Hid (Below w.heap.size w wt) ∧
          Hid (wt.cell? ⟨g, j * 4, none⟩ = some (.int .u8 (f0 : Int)) ∧ wt.cell? ⟨g, j * 4 + 1, none⟩ = some (.int .u16 (f1 : Int)) ∧ wt.cell? ⟨g, j * 4 + 2, none⟩ = some (.int .u16 (y : Int)) ∧ wt.cell? ⟨g, j * 4 + 3, none⟩ = some (.int .u32 (f3 : Int))) ∧
          Hid (wt.cell? ⟨b, off + j * 4, none⟩ = some (.int .u8 (f0 : Int)) ∧ wt.cell? ⟨b, off + j * 4 + 1, none⟩ = some (.int .u16 (f1 : Int)) ∧ wt.cell? ⟨b, off + j * 4 + 2, none⟩ = some (.int .u16 (f2 : Int)) ∧ wt.cell? ⟨b, off + j * 4 + 3, none⟩ = some (.int .u32 (f3 : Int))) := by
        have hR0 : RowF (wa.drewN nq) g fs j := HR.out
        refine ⟨_, rfl, hide (hR0.next _), hide ((heap_setCell_other _ _ _ _ n4).trans HXz.out), hide ((heap_setCell_other _ _ _ _ n5).trans HHz.out), hide ((bdrewN HBz.out nq).setCell hwl _), hide ?_, hide ?_⟩
        · obtain ⟨cur, hh, _⟩ := hR0
          have hs5 := heap_setCell_same (wa.drewN nq) g (j * 4 + 2) cur _ (.int .u16 (y : Int)) hh
          have q : ∀ i, (wa.drewN nq).cell? ⟨g, i, none⟩ = cur[i]? := fun i => cell_of_row _ g i cur _ _ hh
          have q0 : cur[j * 4]? = some (.int .u8 (f0 : Int)) := (q _).symm.trans k0
          have q1 : cur[j * 4 + 1]? = some (.int .u16 (f1 : Int)) := (q _).symm.trans k1
          have q2 : cur[j * 4 + 2]? = some (.int .u16 (f2 : Int)) := (q _).symm.trans k2
          have q3 : cur[j * 4 + 3]? = some (.int .u32 (f3 : Int)) := (q _).symm.trans k3
          have hlt2 : j * 4 + 2 < cur.size := (Array.getElem?_eq_some_iff.1 q2).1
          refine ⟨?_, ?_, ?_, ?_⟩
          · rw [cell_of_row _ g _ _ _ _ hs5, Array.getElem?_setIfInBounds_ne (by omega)]; exact q0
          · rw [cell_of_row _ g _ _ _ _ hs5, Array.getElem?_setIfInBounds_ne (by omega)]; exact q1
          · rw [cell_of_row _ g _ _ _ _ hs5, Array.getElem?_setIfInBounds_self_of_lt hlt2]
          · rw [cell_of_row _ g _ _ _ _ hs5, Array.getElem?_setIfInBounds_ne (by omega)]; exact q3
        · have q : ∀ i, ((wa.drewN nq).setCell ⟨g, j * 4 + 2, none⟩ (.int .u16 (y : Int))).cell? ⟨b, i, none⟩ = wa.cell? ⟨b, i, none⟩ := fun i => World.cell?_of_block (heap_setCell_other _ _ _ _ n3)
          exact ⟨(q _).trans d0, (q _).trans d1, (q _).trans d2, (q _).trans d3⟩
      rw [hw5]
      clear hw5 k0 k1 k2 k3 kf d0 d1 d2 d3 e25 b25 HR HRz HXz HHz HBz hxor
      obtain ⟨k0, k1, k2, k3⟩ := HC5.out
      obtain ⟨d0, d1, d2, d3⟩ := HD5.out
      have e25 : w5.cell? ⟨X, 25, none⟩ = some (.slice (some ⟨g, 0, none⟩) n c1) := (cell_of_row w5 X 25 _ _ _ HX5.out).trans rfl
      have b25 : w5.cell? ⟨B, 25, none⟩ = some (.slice (some ⟨b, off, none⟩) n cap) := (cell_of_row w5 B 25 _ _ _ HH5.out).trans rfl
      clear HC5 HD5
      go_wp2_with fail
      go_quiet (fail)
      go_wp2_with fail
      go_roundw
      case rel => exact ⟨j + 1, by omega, by go_num, hide (fun g' hg' _ => by cases hg'; exact HR5.out), HX5, HH5, hide (bdrewN HB5.out _)⟩
      case measure => simp [intOf]; omega
    · go_wp2_with fail
      go_ret
      exact ⟨rfl, HBz.out⟩
theorem confChecks_any (c : Cfg) (a : Option Addr) (fs : List Fwd) (n cap : Nat) (w : World) (hk : CfOk c) (hl : fs.length = n) (hw : FwAt w a fs) (hf : ∀ f ∈ fs, FwOk f) (hn : n ≤ 9223372036854775807) (hm : n ≤ cap) :
    Calls Try.prog 3 #[.agg (c.cells a n cap)] w fun e w' => e = .returned (.bool true) ∧ Below w.heap.size w w' := by
  by_cases h : 100 < n ∨ 100 < c.uuid.size
  · exact cchecks_long c a fs n cap w hk hl hw hf hn hm h
  · exact cchecks_main c a fs n cap w hk hl hw hf hn hm (by omega) (by omega)
end Go.Proofs.Ytogeggklfcabkaa
