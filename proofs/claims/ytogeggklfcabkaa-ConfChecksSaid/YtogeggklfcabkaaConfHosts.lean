/- The law of hosts and forwards, walked. -/
import Derived.Test.YtogeggklfcabkaaCFindC
import Derived.Deep.MidRow
namespace Go.Proofs.Ytogeggklfcabkaa
open Go.RowKit
set_option linter.unusedVariables false
set_option linter.unusedSimpArgs false
set_option maxRecDepth 100000
/-- A configuration, loaded whole in a region that draws its order. -/
theorem yl_cfg {ops : Array Oper} {S : World → Prop} {op : Oper} {a : Act} (hw : Region.wanted op (yielded ops a.tmps) = true) (x : Operand) (ho : op.op = .load 28 x) (b : Nat) (hx : a.eval x = .pointer (some ⟨b, 0, none⟩)) (cs : Array Value)
    (hS : ∀ w, S w → w.rangeAt b 0 cs.toList) (hs : cs.size = 28) : YieldsIf Try.prog ops S op (.agg cs) a := by
  have := yieldsIf_load_mid (P := Try.prog) (ops := ops) (S := S) (op := op) (a := a) hw 28 x ho b 0 hx cs.toList _ hS Try.underlying28 rfl (by rw [Array.length_toList, hs]; exact info_cfg)
  simpa using this
set_option maxHeartbeats 1600000 in
theorem chosts_long (cs : Array Value) (w : World) (lan : Nat) (nb : Int) (a : Option Addr) (fs : List Fwd) (n cap : Nat) (x p q t h : Nat) (hc : CfH cs lan nb) (hf : CfF cs a n cap) (hw : FwAt w a fs) (hl : fs.length = n) (hlan : lan ≤ 4294967295) (hx : x ≤ 4294967295) (hn : 100 < n) :
    Calls Try.prog 4 #[.agg cs, .int .u32 (x : Int), .agg #[.int .u8 (p : Int), .int .u16 (q : Int), .int .u16 (t : Int), .int .u32 (h : Int)]] w fun e w' => e = .returned (.bool true) ∧ Below w.heap.size w w' := by
  obtain ⟨_, c25⟩ := Array.getElem?_eq_some_iff.1 hf.fw
  have hs := hc.size
  have hb1 := (Below.refl w.heap.size w).alloc (Nat.le_refl _) (.cells cs 28)
  have hb2 := hb1.alloc hb1.size (.cells #[.int .u8 (p : Int), .int .u16 (q : Int), .int .u16 (t : Int), .int .u32 (h : Int)] 36)
  have hp := heap_alloc_new (w.alloc (.cells cs 28)) (.cells #[.int .u8 (p : Int), .int .u16 (q : Int), .int .u16 (t : Int), .int .u32 (h : Int)] 36)
  have hsz : (w.alloc (.cells cs 28)).heap.size = w.heap.size + 1 := by simp
  rw [hsz] at hp
  have hcc := below_blk ((Below.refl (w.alloc (.cells cs 28)).heap.size _).alloc (Nat.le_refl _) (.cells #[.int .u8 (p : Int), .int .u16 (q : Int), .int .u16 (t : Int), .int .u32 (h : Int)] 36)) (heap_alloc_new w (.cells cs 28)) (Nat.le_refl _)
  have hcw := hw.below hb2 (Nat.le_refl _)
  obtain ⟨B, R, w0, hB, hR, hw0, HC0, HR0, HB0, HW0⟩ : ∃ B R wt, w.heap.size = B ∧ w.heap.size + 1 = R ∧ (w.alloc (.cells cs 28)).alloc (.cells #[.int .u8 (p : Int), .int .u16 (q : Int), .int .u16 (t : Int), .int .u32 (h : Int)] 36) = wt ∧ Hid (wt.heap[B]? = some (.cells cs 28 (0, 0))) ∧ Hid (wt.heap[R]? = some (.cells #[.int .u8 (p : Int), .int .u16 (q : Int), .int .u16 (t : Int), .int .u32 (h : Int)] 36 (0, 0))) ∧ Hid (Below w.heap.size w wt) ∧ Hid (FwAt wt a fs) := ⟨_, _, _, rfl, rfl, rfl, hide hcc, hide hp, hide hb2, hide hcw⟩
  have HEQ := hide (And.intro hB (And.intro hR hw0))
  have d25 : ∀ V : World, V.heap[B]? = some (.cells cs 28 (0, 0)) → V.cell? ⟨B, 25, none⟩ = some (.slice a n cap) := fun V hV => by rw [cell_of_row V B 25 cs _ _ hV, Array.getElem?_eq_getElem (by omega), c25]
  have d18 : ∀ V : World, V.heap[B]? = some (.cells cs 28 (0, 0)) → V.cell? ⟨B, 18, none⟩ = some (.int .u32 (lan : Int)) := fun V hV => by rw [cell_of_row V B 18 cs _ _ hV]; exact hc.lan
  have HD25 := hide d25
  have HD18 := hide d18
  have HS := hide hs
  have HL := hide hl
  have HCH := hide hc
  have HCF := hide hf
  clear hb1 hb2 hp hsz hcc hcw hw hl hc hf hB hR hw0 d25 d18 c25 hs
  go_enter Try.func4, Try.ntmps4
  go_wp2_with fail
  rw [HEQ.out.2.2]
  try rw [HEQ.out.2.1]
  try rw [HEQ.out.1]
  clear HEQ
  refine (speaks9_any _).mono ?_
  rintro e w1 ⟨rfl, b1⟩
  have HB1 := hide (HB0.out.trans (b1.mono HB0.out.size))
  have HC1 := hide (below_blk b1 HC0.out (Nat.le_refl _))
  have HR1 := hide (below_blk b1 HR0.out (Nat.le_refl _))
  have HW1 := hide (HW0.out.below b1 (Nat.le_refl _))
  have e25 := HD25.out w1 HC1.out
  obtain ⟨p0, p1, _, _, pf⟩ := four_cells HR1.out
  clear b1 HB0 HC0 HR0 HW0 pf
  have h1 : decide (100 < (n : Int)) = true := by simp; omega
  go_wp2_with fail
  go_ret
  exact ⟨rfl, HB1.out⟩
set_option maxHeartbeats 3000000 in
theorem chosts_main (cs : Array Value) (w : World) (lan : Nat) (nb : Int) (a : Option Addr) (fs : List Fwd) (n cap : Nat) (x p q t h : Nat) (hc : CfH cs lan nb) (hf : CfF cs a n cap) (hw : FwAt w a fs) (hl : fs.length = n) (hlan : lan ≤ 4294967295) (hx : x ≤ 4294967295) (hn : n ≤ 100) :
    Calls Try.prog 4 #[.agg cs, .int .u32 (x : Int), .agg #[.int .u8 (p : Int), .int .u16 (q : Int), .int .u16 (t : Int), .int .u32 (h : Int)]] w fun e w' => e = .returned (.bool true) ∧ Below w.heap.size w w' := by
  obtain ⟨_, c25⟩ := Array.getElem?_eq_some_iff.1 hf.fw
  have hs := hc.size
  have hb1 := (Below.refl w.heap.size w).alloc (Nat.le_refl _) (.cells cs 28)
  have hb2 := hb1.alloc hb1.size (.cells #[.int .u8 (p : Int), .int .u16 (q : Int), .int .u16 (t : Int), .int .u32 (h : Int)] 36)
  have hp := heap_alloc_new (w.alloc (.cells cs 28)) (.cells #[.int .u8 (p : Int), .int .u16 (q : Int), .int .u16 (t : Int), .int .u32 (h : Int)] 36)
  have hsz : (w.alloc (.cells cs 28)).heap.size = w.heap.size + 1 := by simp
  rw [hsz] at hp
  have hcc := below_blk ((Below.refl (w.alloc (.cells cs 28)).heap.size _).alloc (Nat.le_refl _) (.cells #[.int .u8 (p : Int), .int .u16 (q : Int), .int .u16 (t : Int), .int .u32 (h : Int)] 36)) (heap_alloc_new w (.cells cs 28)) (Nat.le_refl _)
  have hcw := hw.below hb2 (Nat.le_refl _)
  obtain ⟨B, R, w0, hB, hR, hw0, HC0, HR0, HB0, HW0⟩ : ∃ B R wt, w.heap.size = B ∧ w.heap.size + 1 = R ∧ (w.alloc (.cells cs 28)).alloc (.cells #[.int .u8 (p : Int), .int .u16 (q : Int), .int .u16 (t : Int), .int .u32 (h : Int)] 36) = wt ∧ Hid (wt.heap[B]? = some (.cells cs 28 (0, 0))) ∧ Hid (wt.heap[R]? = some (.cells #[.int .u8 (p : Int), .int .u16 (q : Int), .int .u16 (t : Int), .int .u32 (h : Int)] 36 (0, 0))) ∧ Hid (Below w.heap.size w wt) ∧ Hid (FwAt wt a fs) := ⟨_, _, _, rfl, rfl, rfl, hide hcc, hide hp, hide hb2, hide hcw⟩
  have HEQ := hide (And.intro hB (And.intro hR hw0))
  have d25 : ∀ V : World, V.heap[B]? = some (.cells cs 28 (0, 0)) → V.cell? ⟨B, 25, none⟩ = some (.slice a n cap) := fun V hV => by rw [cell_of_row V B 25 cs _ _ hV, Array.getElem?_eq_getElem (by omega), c25]
  have d18 : ∀ V : World, V.heap[B]? = some (.cells cs 28 (0, 0)) → V.cell? ⟨B, 18, none⟩ = some (.int .u32 (lan : Int)) := fun V hV => by rw [cell_of_row V B 18 cs _ _ hV]; exact hc.lan
  have HD25 := hide d25
  have HD18 := hide d18
  have HS := hide hs
  have HL := hide hl
  have HCH := hide hc
  have HCF := hide hf
  clear hb1 hb2 hp hsz hcc hcw hw hl hc hf hB hR hw0 d25 d18 c25 hs
  go_enter Try.func4, Try.ntmps4
  go_wp2_with fail
  rw [HEQ.out.2.2]
  try rw [HEQ.out.2.1]
  try rw [HEQ.out.1]
  clear HEQ
  refine (speaks9_any _).mono ?_
  rintro e w1 ⟨rfl, b1⟩
  have HB1 := hide (HB0.out.trans (b1.mono HB0.out.size))
  have HC1 := hide (below_blk b1 HC0.out (Nat.le_refl _))
  have HR1 := hide (below_blk b1 HR0.out (Nat.le_refl _))
  have HW1 := hide (HW0.out.below b1 (Nat.le_refl _))
  have e25 := HD25.out w1 HC1.out
  obtain ⟨p0, p1, _, _, pf⟩ := four_cells HR1.out
  clear b1 HB0 HC0 HR0 HW0 pf
  have h1 : decide (100 < (n : Int)) = false := by simp; omega
  have HF1 := hide (findC_any cs w1 a fs n cap p q HCF.out HW1.out HL.out (by omega))
  have HG := hide (fun V (hV : FwAt V a fs) => findR_any cs V a fs n cap p q HCF.out hV HL.out (by omega))
  obtain ⟨f, hf⟩ : ∃ f, fwF (findL fs p q) = f := ⟨_, rfl⟩
  obtain ⟨g, hg⟩ : ∃ f, (findL fs p q).isSome = f := ⟨_, rfl⟩
  rw [hf, hg] at HF1 HG
  obtain ⟨f0, f1, f2, f3⟩ := f
  simp only at HF1 HG
  clear hf hg
  go_wp2_with ((refine ld_cfg (.tmp 3) rfl (by rfl) B rfl cs HC1.out HS.out ?_; try simp only [Act.put, List.setIfInBounds_toArray, List.set_cons_zero, List.set_cons_succ]))
  refine HF1.out.mono ?_
  rintro e w2 ⟨rfl, b2⟩
  have HB2 := hide (HB1.out.trans (b2.mono HB1.out.size))
  have HC2 := hide (below_blk b2 HC1.out (Nat.le_refl _))
  have HR2 := hide (below_blk b2 HR1.out (Nat.le_refl _))
  have HW2 := hide (HW1.out.below b2 (Nat.le_refl _))
  clear b2 HB1 HC1 HR1 HW1 HF1 p0 p1 e25
  have hal : Below w2.heap.size w2 (w2.alloc (.cells #[.int .u8 (f0 : Int), .int .u16 (f1 : Int), .int .u16 (f2 : Int), .int .u32 (f3 : Int)] 36)) := (Below.refl _ _).alloc (Nat.le_refl _) _
  obtain ⟨X, w3, hX, hw3, HX3, HC3, HR3, HB3, HW3⟩ : ∃ X wt, w2.heap.size = X ∧ w2.alloc (.cells #[.int .u8 (f0 : Int), .int .u16 (f1 : Int), .int .u16 (f2 : Int), .int .u32 (f3 : Int)] 36) = wt ∧ Hid (wt.heap[X]? = some (.cells #[.int .u8 (f0 : Int), .int .u16 (f1 : Int), .int .u16 (f2 : Int), .int .u32 (f3 : Int)] 36 (0, 0))) ∧ Hid (wt.heap[B]? = some (.cells cs 28 (0, 0))) ∧ Hid (wt.heap[R]? = some (.cells #[.int .u8 (p : Int), .int .u16 (q : Int), .int .u16 (t : Int), .int .u32 (h : Int)] 36 (0, 0))) ∧ Hid (Below w.heap.size w wt) ∧ Hid (FwAt wt a fs) :=
    ⟨_, _, rfl, rfl, hide (heap_alloc_new _ _), hide (below_blk hal HC2.out (Nat.le_refl _)), hide (below_blk hal HR2.out (Nat.le_refl _)), hide (HB2.out.trans (hal.mono HB2.out.size)), hide (HW2.out.below hal (Nat.le_refl _))⟩
  have HEX := hide (And.intro hX hw3)
  have HGG := hide (HG.out w3 HW3.out)
  obtain ⟨p0, p1, _, _, pf⟩ := four_cells HR3.out
  clear hal hX hw3 HC2 HR2 HB2 HW2 HG pf
  go_upto_region 6 with (fail)
  rw [HEX.out.2]
  try rw [HEX.out.1]
  clear HEX
  go_wp2_with ((refine ld_cfg (.tmp 3) rfl (by rfl) B rfl cs HC3.out HS.out ?_; try simp only [Act.put, List.setIfInBounds_toArray, List.set_cons_zero, List.set_cons_succ]))
  refine HGG.out.mono ?_
  rintro e w4 ⟨rfl, b4⟩
  have HB4 := hide (HB3.out.trans (b4.mono HB3.out.size))
  have HC4 := hide (below_blk b4 HC3.out (Nat.le_refl _))
  have HX4 := hide (below_blk b4 HX3.out (Nat.le_refl _))
  clear b4 HB3 HC3 HR3 HW3 HX3 HGG p0 p1
  have hal : Below w4.heap.size w4 (w4.alloc (.cells #[.int .u8 (f0 : Int), .int .u16 (f1 : Int), .int .u16 (f2 : Int), .int .u32 (f3 : Int)] 36)) := (Below.refl _ _).alloc (Nat.le_refl _) _
  obtain ⟨Y, w5, hY, hw5, HY5, HX5, HC5, HB5⟩ : ∃ X wt, w4.heap.size = X ∧ w4.alloc (.cells #[.int .u8 (f0 : Int), .int .u16 (f1 : Int), .int .u16 (f2 : Int), .int .u32 (f3 : Int)] 36) = wt ∧ Hid (wt.heap[X]? = some (.cells #[.int .u8 (f0 : Int), .int .u16 (f1 : Int), .int .u16 (f2 : Int), .int .u32 (f3 : Int)] 36 (0, 0))) ∧ Hid (wt.heap[X]? = some (.cells #[.int .u8 (f0 : Int), .int .u16 (f1 : Int), .int .u16 (f2 : Int), .int .u32 (f3 : Int)] 36 (0, 0))) ∧ Hid (wt.heap[B]? = some (.cells cs 28 (0, 0))) ∧ Hid (Below w.heap.size w wt) :=
    ⟨_, _, rfl, rfl, hide (heap_alloc_new _ _), hide (heap_alloc_new _ _), hide (below_blk hal HC4.out (Nat.le_refl _)), hide (HB4.out.trans (hal.mono HB4.out.size))⟩
  have HXX := hide (show w5.heap[X]? = some (.cells #[.int .u8 (f0 : Int), .int .u16 (f1 : Int), .int .u16 (f2 : Int), .int .u32 (f3 : Int)] 36 (0, 0)) by rw [← hw5]; exact below_blk hal HX4.out (Nat.le_refl _))
  have HEY := hide (And.intro hY hw5)
  clear hal hY hw5 HC4 HB4 HX4 HX5
  go_upto_region 7 with (fail)
  rw [HEY.out.2]
  try rw [HEY.out.1]
  clear HEY
  have hkp : ∀ V V' : World, (V.rangeAt B 0 cs.toList ∧ V.cell? ⟨B, 18, none⟩ = some (.int .u32 (lan : Int)) ∧ V.cell? ⟨X, 0, none⟩ = some (.int .u8 (f0 : Int)) ∧ V.cell? ⟨X, 1, none⟩ = some (.int .u16 (f1 : Int)) ∧ V.cell? ⟨X, 2, none⟩ = some (.int .u16 (f2 : Int)) ∧ V.cell? ⟨X, 3, none⟩ = some (.int .u32 (f3 : Int)) ∧ V.cell? ⟨Y, 0, none⟩ = some (.int .u8 (f0 : Int)) ∧ V.cell? ⟨Y, 1, none⟩ = some (.int .u16 (f1 : Int)) ∧ V.cell? ⟨Y, 2, none⟩ = some (.int .u16 (f2 : Int)) ∧ V.cell? ⟨Y, 3, none⟩ = some (.int .u32 (f3 : Int))) → Below V.heap.size V V' → (V'.rangeAt B 0 cs.toList ∧ V'.cell? ⟨B, 18, none⟩ = some (.int .u32 (lan : Int)) ∧ V'.cell? ⟨X, 0, none⟩ = some (.int .u8 (f0 : Int)) ∧ V'.cell? ⟨X, 1, none⟩ = some (.int .u16 (f1 : Int)) ∧ V'.cell? ⟨X, 2, none⟩ = some (.int .u16 (f2 : Int)) ∧ V'.cell? ⟨X, 3, none⟩ = some (.int .u32 (f3 : Int)) ∧ V'.cell? ⟨Y, 0, none⟩ = some (.int .u8 (f0 : Int)) ∧ V'.cell? ⟨Y, 1, none⟩ = some (.int .u16 (f1 : Int)) ∧ V'.cell? ⟨Y, 2, none⟩ = some (.int .u16 (f2 : Int)) ∧ V'.cell? ⟨Y, 3, none⟩ = some (.int .u32 (f3 : Int))) := fun V V' h hb => by
    obtain ⟨g0, g1, x0, x1, x2, x3, y0, y1, y2, y3⟩ := h
    have k : ∀ {b o : Nat} {v : Value}, V.cell? ⟨b, o, none⟩ = some v → V'.cell? ⟨b, o, none⟩ = some v := fun {b o v} h => (hb.cell (p := ⟨b, o, none⟩) (block_lt_of_cell h)).trans h
    exact ⟨fun j v hv => k (g0 j v hv), k g1, k x0, k x1, k x2, k x3, k y0, k y1, k y2, k y3⟩
  have HKP := hide hkp
  have hs0 : w5.drew.rangeAt B 0 cs.toList ∧ w5.drew.cell? ⟨B, 18, none⟩ = some (.int .u32 (lan : Int)) ∧ w5.drew.cell? ⟨X, 0, none⟩ = some (.int .u8 (f0 : Int)) ∧ w5.drew.cell? ⟨X, 1, none⟩ = some (.int .u16 (f1 : Int)) ∧ w5.drew.cell? ⟨X, 2, none⟩ = some (.int .u16 (f2 : Int)) ∧ w5.drew.cell? ⟨X, 3, none⟩ = some (.int .u32 (f3 : Int)) ∧ w5.drew.cell? ⟨Y, 0, none⟩ = some (.int .u8 (f0 : Int)) ∧ w5.drew.cell? ⟨Y, 1, none⟩ = some (.int .u16 (f1 : Int)) ∧ w5.drew.cell? ⟨Y, 2, none⟩ = some (.int .u16 (f2 : Int)) ∧ w5.drew.cell? ⟨Y, 3, none⟩ = some (.int .u32 (f3 : Int)) := by
    obtain ⟨x0, x1, x2, x3, _⟩ := four_cells HXX.out
    obtain ⟨y0, y1, y2, y3, _⟩ := four_cells HY5.out
    refine ⟨fun j v hv => ?_, HD18.out w5 HC5.out, x0, x1, x2, x3, y0, y1, y2, y3⟩
    show w5.cell? _ = _
    rw [Nat.zero_add, cell_of_row w5 B j cs _ _ HC5.out]; simpa using hv
  have HS0 := hide hs0
  have HH1 := hide (fun (V : World) (z : Nat) (hz : z = x ∨ z = lan) => host_any cs lan nb z V HCH.out hlan (by omega))
  have HH2 := hide (fun (V : World) (z : Nat) (hz : z = x ∨ z = lan) => hostR_any cs lan nb z V HCH.out hlan (by omega))
  have hbd : Below w.heap.size w w5.drew := HB5.out.drew
  have HI := hide info_cfg
  clear hkp hs0
  refine wp_region_held_drew (S := (fun w' => w'.rangeAt B 0 cs.toList ∧ w'.cell? ⟨B, 18, none⟩ = some (.int .u32 (lan : Int)) ∧ w'.cell? ⟨X, 0, none⟩ = some (.int .u8 (f0 : Int)) ∧ w'.cell? ⟨X, 1, none⟩ = some (.int .u16 (f1 : Int)) ∧ w'.cell? ⟨X, 2, none⟩ = some (.int .u16 (f2 : Int)) ∧ w'.cell? ⟨X, 3, none⟩ = some (.int .u32 (f3 : Int)) ∧ w'.cell? ⟨Y, 0, none⟩ = some (.int .u8 (f0 : Int)) ∧ w'.cell? ⟨Y, 1, none⟩ = some (.int .u16 (f1 : Int)) ∧ w'.cell? ⟨Y, 2, none⟩ = some (.int .u16 (f2 : Int)) ∧ w'.cell? ⟨Y, 3, none⟩ = some (.int .u32 (f3 : Int)))) (by kernel_rfl) (by exact HS0.out) (fun hHeld => ?_)
  refine wpAnyH_take (i := 0) (oi := { dst := some 35, op := Op.load 28 (Operand.tmp 3), type := 28, pos := "law.go:50", after := #[], guard := none }) (v := .agg cs) rfl (by kernel_rfl) (by kernel_rfl) (by kernel_rfl) (fun _ _ _ h => h) (yl_cfg (by rfl) _ rfl B rfl cs (fun w h => h.1) HS.out) (by assumption) ?_
  try simp only [Act.put, List.setIfInBounds_toArray, List.set_cons_zero, List.set_cons_succ]
  refine wpAnyH_take (i := 1) (oi := { dst := some 36, op := Op.move (Operand.tmp 1), type := 25, pos := "law.go:50", after := #[], guard := none }) (v := ?_) rfl (by kernel_rfl) (by kernel_rfl) (by kernel_rfl) (fun _ _ _ h => h) (Or.inl ⟨by rfl, ?_⟩) (by assumption) ?_
  rotate_left
  · intro wS hSw
    try dsimp only at hSw
    go_simp
    try with_reducible rfl
  try simp only [Act.put, List.setIfInBounds_toArray, List.set_cons_zero, List.set_cons_succ]
  refine wpAnyH_take (i := 3) (oi := { dst := some 38, op := Op.load 28 (Operand.tmp 3), type := 28, pos := "law.go:50", after := #[], guard := none }) (v := .agg cs) rfl (by kernel_rfl) (by kernel_rfl) (by kernel_rfl) (fun _ _ _ h => h) (yl_cfg (by rfl) _ rfl B rfl cs (fun w h => h.1) HS.out) (by assumption) ?_
  try simp only [Act.put, List.setIfInBounds_toArray, List.set_cons_zero, List.set_cons_succ]
  refine wpAnyH_take (i := 4) (oi := { dst := some 39, op := Op.move (Operand.tmp 1), type := 25, pos := "law.go:50", after := #[], guard := none }) (v := ?_) rfl (by kernel_rfl) (by kernel_rfl) (by kernel_rfl) (fun _ _ _ h => h) (Or.inl ⟨by rfl, ?_⟩) (by assumption) ?_
  rotate_left
  · intro wS hSw
    try dsimp only at hSw
    go_simp
    try with_reducible rfl
  try simp only [Act.put, List.setIfInBounds_toArray, List.set_cons_zero, List.set_cons_succ]
  refine wpAnyH_ready (rs := [2]) (by kernel_rfl) (by simp) ?_
  refine AllReadyH.cons (o := { dst := some 37, op := Op.call { callee := Callee.value (Operand.func 14), args := #[Operand.tmp 35, Operand.tmp 36], argTypes := #[28, 25] }, type := 4, pos := "law.go:50", after := #[{ on := 0, ground := Ground.data }, { on := 1, ground := Ground.data }], guard := none }) rfl (fun K hK => ?_) AllReadyH.nil
  go_simp
  refine (HH1.out _ _ ?_).mono ?_
  · exact Or.inl rfl
  rintro e wc1 ⟨rfl, bz1⟩
  have hk1 := HKP.out _ _ HS0.out bz1
  have HBL1 := hide (hbd.trans (bz1.mono hbd.size))
  refine hK.out _ _ ?_ (fun hHeld => ?_)
  · try dsimp only
    exact hk1
  clear hK K
  try simp only [Act.put, List.setIfInBounds_toArray, List.set_cons_zero, List.set_cons_succ]
  refine wpAnyH_ready (rs := [5]) (by kernel_rfl) (by simp) ?_
  refine AllReadyH.cons (o := { dst := some 40, op := Op.call { callee := Callee.value (Operand.func 15), args := #[Operand.tmp 38, Operand.tmp 39], argTypes := #[28, 25] }, type := 4, pos := "law.go:50", after := #[{ on := 3, ground := Ground.data }, { on := 4, ground := Ground.data }, { on := 2, ground := Ground.chain }], guard := none }) rfl (fun K hK => ?_) AllReadyH.nil
  go_simp
  refine (HH2.out _ _ ?_).mono ?_
  · exact Or.inl rfl
  rintro e wc2 ⟨rfl, bz2⟩
  have hk2 := HKP.out _ _ hk1 bz2
  have HBL2 := hide (HBL1.out.trans (bz2.mono HBL1.out.size))
  refine hK.out _ _ ?_ (fun hHeld => ?_)
  · try dsimp only
    exact hk2
  clear hK K
  try simp only [Act.put, List.setIfInBounds_toArray, List.set_cons_zero, List.set_cons_succ]
  refine wpAnyH_take (i := 6) (oi := { dst := some 41, op := Op.binOp BinOp.eql 4 (Operand.tmp 37) (Operand.tmp 40) 4, type := 4, pos := "law.go:50", after := #[{ on := 2, ground := Ground.data }, { on := 5, ground := Ground.data }], guard := none }) (v := ?_) rfl (by kernel_rfl) (by kernel_rfl) (by kernel_rfl) (fun _ _ _ h => h) (Or.inl ⟨by rfl, ?_⟩) (by assumption) ?_
  rotate_left
  · intro wS hSw
    try dsimp only at hSw
    go_simp
    try with_reducible rfl
  try simp only [Act.put, List.setIfInBounds_toArray, List.set_cons_zero, List.set_cons_succ]
  refine wpAnyH_take (i := 7) (oi := { dst := some 42, op := Op.move (Operand.tmp 41), type := 4, pos := "law.go:50", after := #[{ on := 6, ground := Ground.data }, { on := 5, ground := Ground.chain }], guard := none }) (v := ?_) rfl (by kernel_rfl) (by kernel_rfl) (by kernel_rfl) (fun _ _ _ h => h) (Or.inl ⟨by rfl, ?_⟩) (by assumption) ?_
  rotate_left
  · intro wS hSw
    try dsimp only at hSw
    go_simp
    try with_reducible rfl
  try simp only [Act.put, List.setIfInBounds_toArray, List.set_cons_zero, List.set_cons_succ]
  refine wpAnyH_take (i := 8) (oi := { dst := some 43, op := Op.load 28 (Operand.tmp 3), type := 28, pos := "law.go:50", after := #[{ on := 7, ground := Ground.guard }], guard := some (7, true) }) (v := .agg cs) rfl (by kernel_rfl) (by kernel_rfl) (by kernel_rfl) (fun _ _ _ h => h) (yl_cfg (by rfl) _ rfl B rfl cs (fun w h => h.1) HS.out) (by assumption) ?_
  try simp only [Act.put, List.setIfInBounds_toArray, List.set_cons_zero, List.set_cons_succ]
  refine wpAnyH_take (i := 9) (oi := { dst := some 44, op := Op.fieldAddr 28 (Operand.tmp 3) 3, type := 0, pos := "law.go:50", after := #[{ on := 7, ground := Ground.guard }], guard := some (7, true) }) (v := ?_) rfl (by kernel_rfl) (by kernel_rfl) (by kernel_rfl) (fun _ _ _ h => h) (Or.inl ⟨by rfl, ?_⟩) (by assumption) ?_
  rotate_left
  · intro wS hSw
    try dsimp only at hSw
    go_simp
    try with_reducible rfl
  try simp only [Act.put, List.setIfInBounds_toArray, List.set_cons_zero, List.set_cons_succ]
  refine wpAnyH_take (i := 10) (oi := { dst := some 45, op := Op.load 25 (Operand.tmp 44), type := 25, pos := "law.go:50", after := #[{ on := 9, ground := Ground.data }, { on := 7, ground := Ground.guard }], guard := some (7, true) }) (v := ?_) rfl (by kernel_rfl) (by kernel_rfl) (by kernel_rfl) (fun _ _ _ h => h) (Or.inl ⟨by rfl, ?_⟩) (by assumption) ?_
  rotate_left
  · intro wS hSw
    try dsimp only at hSw
    go_simp
    try with_reducible rfl
  try simp only [Act.put, List.setIfInBounds_toArray, List.set_cons_zero, List.set_cons_succ]
  refine wpAnyH_take (i := 12) (oi := { dst := some 47, op := Op.load 28 (Operand.tmp 3), type := 28, pos := "law.go:50", after := #[{ on := 7, ground := Ground.guard }], guard := some (7, true) }) (v := .agg cs) rfl (by kernel_rfl) (by kernel_rfl) (by kernel_rfl) (fun _ _ _ h => h) (yl_cfg (by rfl) _ rfl B rfl cs (fun w h => h.1) HS.out) (by assumption) ?_
  try simp only [Act.put, List.setIfInBounds_toArray, List.set_cons_zero, List.set_cons_succ]
  refine wpAnyH_take (i := 13) (oi := { dst := some 48, op := Op.fieldAddr 28 (Operand.tmp 3) 3, type := 0, pos := "law.go:50", after := #[{ on := 7, ground := Ground.guard }], guard := some (7, true) }) (v := ?_) rfl (by kernel_rfl) (by kernel_rfl) (by kernel_rfl) (fun _ _ _ h => h) (Or.inl ⟨by rfl, ?_⟩) (by assumption) ?_
  rotate_left
  · intro wS hSw
    try dsimp only at hSw
    go_simp
    try with_reducible rfl
  try simp only [Act.put, List.setIfInBounds_toArray, List.set_cons_zero, List.set_cons_succ]
  refine wpAnyH_take (i := 14) (oi := { dst := some 49, op := Op.load 25 (Operand.tmp 48), type := 25, pos := "law.go:50", after := #[{ on := 13, ground := Ground.data }, { on := 7, ground := Ground.guard }], guard := some (7, true) }) (v := ?_) rfl (by kernel_rfl) (by kernel_rfl) (by kernel_rfl) (fun _ _ _ h => h) (Or.inl ⟨by rfl, ?_⟩) (by assumption) ?_
  rotate_left
  · intro wS hSw
    try dsimp only at hSw
    go_simp
    try with_reducible rfl
  try simp only [Act.put, List.setIfInBounds_toArray, List.set_cons_zero, List.set_cons_succ]
  refine wpAnyH_ready (rs := [11]) (by kernel_rfl) (by simp) ?_
  refine AllReadyH.cons (o := { dst := some 46, op := Op.call { callee := Callee.value (Operand.func 14), args := #[Operand.tmp 43, Operand.tmp 45], argTypes := #[28, 25] }, type := 4, pos := "law.go:50", after := #[{ on := 8, ground := Ground.data }, { on := 10, ground := Ground.data }, { on := 7, ground := Ground.chain }, { on := 7, ground := Ground.guard }], guard := some (7, true) }) rfl (fun K hK => ?_) AllReadyH.nil
  go_simp
  refine (HH1.out _ _ ?_).mono ?_
  · exact Or.inr rfl
  rintro e wc3 ⟨rfl, bz3⟩
  have hk3 := HKP.out _ _ hk2 bz3
  have HBL3 := hide (HBL2.out.trans (bz3.mono HBL2.out.size))
  refine hK.out _ _ ?_ (fun hHeld => ?_)
  · try dsimp only
    exact hk3
  clear hK K
  try simp only [Act.put, List.setIfInBounds_toArray, List.set_cons_zero, List.set_cons_succ]
  refine wpAnyH_ready (rs := [15]) (by kernel_rfl) (by simp) ?_
  refine AllReadyH.cons (o := { dst := some 50, op := Op.call { callee := Callee.value (Operand.func 15), args := #[Operand.tmp 47, Operand.tmp 49], argTypes := #[28, 25] }, type := 4, pos := "law.go:50", after := #[{ on := 12, ground := Ground.data }, { on := 14, ground := Ground.data }, { on := 11, ground := Ground.chain }, { on := 7, ground := Ground.guard }], guard := some (7, true) }) rfl (fun K hK => ?_) AllReadyH.nil
  go_simp
  refine (HH2.out _ _ ?_).mono ?_
  · exact Or.inr rfl
  rintro e wc4 ⟨rfl, bz4⟩
  have hk4 := HKP.out _ _ hk3 bz4
  have HBL4 := hide (HBL3.out.trans (bz4.mono HBL3.out.size))
  refine hK.out _ _ ?_ (fun hHeld => ?_)
  · try dsimp only
    exact hk4
  clear hK K
  try simp only [Act.put, List.setIfInBounds_toArray, List.set_cons_zero, List.set_cons_succ]
  refine wpAnyH_take (i := 16) (oi := { dst := some 51, op := Op.binOp BinOp.eql 4 (Operand.tmp 46) (Operand.tmp 50) 4, type := 4, pos := "law.go:50", after := #[{ on := 11, ground := Ground.data }, { on := 15, ground := Ground.data }, { on := 7, ground := Ground.guard }], guard := some (7, true) }) (v := ?_) rfl (by kernel_rfl) (by kernel_rfl) (by kernel_rfl) (fun _ _ _ h => h) (Or.inl ⟨by rfl, ?_⟩) (by assumption) ?_
  rotate_left
  · intro wS hSw
    try dsimp only at hSw
    go_simp
    try with_reducible rfl
  try simp only [Act.put, List.setIfInBounds_toArray, List.set_cons_zero, List.set_cons_succ]
  refine wpAnyH_take (i := 17) (oi := { dst := some 52, op := Op.pick (Operand.tmp 42) (Operand.tmp 51) (Operand.const (Value.bool false)), type := 4, pos := "law.go:50", after := #[{ on := 7, ground := Ground.data }, { on := 16, ground := Ground.data }], guard := none }) (v := ?_) rfl (by kernel_rfl) (by kernel_rfl) (by kernel_rfl) (fun _ _ _ h => h) (Or.inl ⟨by rfl, ?_⟩) (by assumption) ?_
  rotate_left
  · intro wS hSw
    try dsimp only at hSw
    go_simp
    try with_reducible rfl
  try simp only [Act.put, List.setIfInBounds_toArray, List.set_cons_zero, List.set_cons_succ]
  refine wpAnyH_take (i := 18) (oi := { dst := some 53, op := Op.move (Operand.tmp 52), type := 4, pos := "law.go:50", after := #[{ on := 17, ground := Ground.data }, { on := 15, ground := Ground.chain }], guard := none }) (v := ?_) rfl (by kernel_rfl) (by kernel_rfl) (by kernel_rfl) (fun _ _ _ h => h) (Or.inl ⟨by rfl, ?_⟩) (by assumption) ?_
  rotate_left
  · intro wS hSw
    try dsimp only at hSw
    go_simp
    try with_reducible rfl
  try simp only [Act.put, List.setIfInBounds_toArray, List.set_cons_zero, List.set_cons_succ]
  refine wpAnyH_take (i := 19) (oi := { dst := some 54, op := Op.load 36 (Operand.tmp 7), type := 36, pos := "law.go:50", after := #[{ on := 18, ground := Ground.guard }], guard := some (18, true) }) (v := ?_) rfl (by kernel_rfl) (by kernel_rfl) (by kernel_rfl) (fun _ _ _ h => h) (Or.inl ⟨by rfl, ?_⟩) (by assumption) ?_
  rotate_left
  · intro wS hSw
    try dsimp only at hSw
    go_simp
    try with_reducible rfl
  try simp only [Act.put, List.setIfInBounds_toArray, List.set_cons_zero, List.set_cons_succ]
  refine wpAnyH_take (i := 20) (oi := { dst := some 55, op := Op.load 36 (Operand.tmp 9), type := 36, pos := "law.go:50", after := #[{ on := 18, ground := Ground.guard }], guard := some (18, true) }) (v := ?_) rfl (by kernel_rfl) (by kernel_rfl) (by kernel_rfl) (fun _ _ _ h => h) (Or.inl ⟨by rfl, ?_⟩) (by assumption) ?_
  rotate_left
  · intro wS hSw
    try dsimp only at hSw
    go_simp
    try with_reducible rfl
  try simp only [Act.put, List.setIfInBounds_toArray, List.set_cons_zero, List.set_cons_succ]
  refine wpAnyH_take (i := 21) (oi := { dst := some 56, op := Op.binOp BinOp.eql 36 (Operand.tmp 54) (Operand.tmp 55) 36, type := 4, pos := "law.go:50", after := #[{ on := 19, ground := Ground.data }, { on := 20, ground := Ground.data }, { on := 18, ground := Ground.guard }], guard := some (18, true) }) (v := ?_) rfl (by kernel_rfl) (by kernel_rfl) (by kernel_rfl) (fun _ _ _ h => h) (Or.inl ⟨by rfl, ?_⟩) (by assumption) ?_
  rotate_left
  · intro wS hSw
    try dsimp only at hSw
    go_simp
    try with_reducible rfl
  try simp only [Act.put, List.setIfInBounds_toArray, List.set_cons_zero, List.set_cons_succ]
  refine wpAnyH_take (i := 22) (oi := { dst := some 57, op := Op.pick (Operand.tmp 53) (Operand.tmp 56) (Operand.const (Value.bool false)), type := 4, pos := "law.go:50", after := #[{ on := 18, ground := Ground.data }, { on := 21, ground := Ground.data }], guard := none }) (v := ?_) rfl (by kernel_rfl) (by kernel_rfl) (by kernel_rfl) (fun _ _ _ h => h) (Or.inl ⟨by rfl, ?_⟩) (by assumption) ?_
  rotate_left
  · intro wS hSw
    try dsimp only at hSw
    go_simp
    try with_reducible rfl
  try simp only [Act.put, List.setIfInBounds_toArray, List.set_cons_zero, List.set_cons_succ]
  refine wpAnyH_take (i := 23) (oi := { dst := some 58, op := Op.move (Operand.tmp 57), type := 4, pos := "law.go:50", after := #[{ on := 22, ground := Ground.data }, { on := 18, ground := Ground.chain }], guard := none }) (v := ?_) rfl (by kernel_rfl) (by kernel_rfl) (by kernel_rfl) (fun _ _ _ h => h) (Or.inl ⟨by rfl, ?_⟩) (by assumption) ?_
  rotate_left
  · intro wS hSw
    try dsimp only at hSw
    go_simp
    try with_reducible rfl
  try simp only [Act.put, List.setIfInBounds_toArray, List.set_cons_zero, List.set_cons_succ]
  refine wpAnyH_take (i := 24) (oi := { dst := some 59, op := Op.move (Operand.tmp 8), type := 4, pos := "law.go:50", after := #[{ on := 23, ground := Ground.guard }], guard := some (23, true) }) (v := ?_) rfl (by kernel_rfl) (by kernel_rfl) (by kernel_rfl) (fun _ _ _ h => h) (Or.inl ⟨by rfl, ?_⟩) (by assumption) ?_
  rotate_left
  · intro wS hSw
    try dsimp only at hSw
    go_simp
    try with_reducible rfl
  try simp only [Act.put, List.setIfInBounds_toArray, List.set_cons_zero, List.set_cons_succ]
  refine wpAnyH_take (i := 25) (oi := { dst := some 60, op := Op.move (Operand.tmp 10), type := 4, pos := "law.go:50", after := #[{ on := 23, ground := Ground.guard }], guard := some (23, true) }) (v := ?_) rfl (by kernel_rfl) (by kernel_rfl) (by kernel_rfl) (fun _ _ _ h => h) (Or.inl ⟨by rfl, ?_⟩) (by assumption) ?_
  rotate_left
  · intro wS hSw
    try dsimp only at hSw
    go_simp
    try with_reducible rfl
  try simp only [Act.put, List.setIfInBounds_toArray, List.set_cons_zero, List.set_cons_succ]
  refine wpAnyH_take (i := 26) (oi := { dst := some 61, op := Op.binOp BinOp.eql 4 (Operand.tmp 59) (Operand.tmp 60) 4, type := 4, pos := "law.go:50", after := #[{ on := 24, ground := Ground.data }, { on := 25, ground := Ground.data }, { on := 23, ground := Ground.guard }], guard := some (23, true) }) (v := ?_) rfl (by kernel_rfl) (by kernel_rfl) (by kernel_rfl) (fun _ _ _ h => h) (Or.inl ⟨by rfl, ?_⟩) (by assumption) ?_
  rotate_left
  · intro wS hSw
    try dsimp only at hSw
    go_simp
    try with_reducible rfl
  try simp only [Act.put, List.setIfInBounds_toArray, List.set_cons_zero, List.set_cons_succ]
  refine wpAnyH_take (i := 27) (oi := { dst := some 62, op := Op.pick (Operand.tmp 58) (Operand.tmp 61) (Operand.const (Value.bool false)), type := 4, pos := "law.go:50", after := #[{ on := 23, ground := Ground.data }, { on := 26, ground := Ground.data }], guard := none }) (v := ?_) rfl (by kernel_rfl) (by kernel_rfl) (by kernel_rfl) (fun _ _ _ h => h) (Or.inl ⟨by rfl, ?_⟩) (by assumption) ?_
  rotate_left
  · intro wS hSw
    try dsimp only at hSw
    go_simp
    try with_reducible rfl
  try simp only [Act.put, List.setIfInBounds_toArray, List.set_cons_zero, List.set_cons_succ]
  refine wpAnyH_take (i := 28) (oi := { dst := some 6, op := Op.assign (Operand.tmp 62), type := 4, pos := "law.go:50", after := #[{ on := 27, ground := Ground.data }, { on := 23, ground := Ground.chain }, { on := 0, ground := Ground.phase }, { on := 1, ground := Ground.phase }, { on := 2, ground := Ground.phase }, { on := 3, ground := Ground.phase }, { on := 4, ground := Ground.phase }, { on := 5, ground := Ground.phase }, { on := 6, ground := Ground.phase }, { on := 7, ground := Ground.phase }, { on := 8, ground := Ground.phase }, { on := 9, ground := Ground.phase }, { on := 10, ground := Ground.phase }, { on := 11, ground := Ground.phase }, { on := 12, ground := Ground.phase }, { on := 13, ground := Ground.phase }, { on := 14, ground := Ground.phase }, { on := 15, ground := Ground.phase }, { on := 16, ground := Ground.phase }, { on := 17, ground := Ground.phase }, { on := 18, ground := Ground.phase }, { on := 19, ground := Ground.phase }, { on := 20, ground := Ground.phase }, { on := 21, ground := Ground.phase }, { on := 22, ground := Ground.phase }, { on := 23, ground := Ground.phase }, { on := 24, ground := Ground.phase }, { on := 25, ground := Ground.phase }, { on := 26, ground := Ground.phase }, { on := 27, ground := Ground.phase }], guard := none }) (v := ?_) rfl (by kernel_rfl) (by kernel_rfl) (by kernel_rfl) (fun _ _ _ h => h) (Or.inl ⟨by rfl, ?_⟩) (by assumption) ?_
  rotate_left
  · intro wS hSw
    try dsimp only at hSw
    go_simp
    try with_reducible rfl
  try simp only [Act.put, List.setIfInBounds_toArray, List.set_cons_zero, List.set_cons_succ]
  refine wpAnyH_done (by kernel_rfl) ?_ _
  go_wp2
  go_ret
  exact ⟨rfl, HBL4.out⟩
theorem confHosts_any (cs : Array Value) (w : World) (lan : Nat) (nb : Int) (a : Option Addr) (fs : List Fwd) (n cap : Nat) (x p q t h : Nat) (hc : CfH cs lan nb) (hf : CfF cs a n cap) (hw : FwAt w a fs) (hl : fs.length = n) (hlan : lan ≤ 4294967295) (hx : x ≤ 4294967295) :
    Calls Try.prog 4 #[.agg cs, .int .u32 (x : Int), .agg #[.int .u8 (p : Int), .int .u16 (q : Int), .int .u16 (t : Int), .int .u32 (h : Int)]] w fun e w' => e = .returned (.bool true) ∧ Below w.heap.size w w' := by
  by_cases hn : 100 < n
  · exact chosts_long cs w lan nb a fs n cap x p q t h hc hf hw hl hlan hx hn
  · exact chosts_main cs w lan nb a fs n cap x p q t h hc hf hw hl hlan hx (by omega)
end Go.Proofs.Ytogeggklfcabkaa
