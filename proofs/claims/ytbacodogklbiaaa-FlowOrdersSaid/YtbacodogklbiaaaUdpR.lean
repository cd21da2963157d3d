/- What trans.ReadUDP answers. -/
import Derived.Test.YtbacodogklbiaaaTEye
import Derived.Test.YtbacodogklbiaaaTLay
import Derived.Deep.QuietTactic
import Derived.BigQuiet
namespace Go.Proofs.Ytbacodogklbiaaa
open Go.RowKit
set_option linter.unusedVariables false
set_option linter.unusedSimpArgs false
set_option maxRecDepth 100000

set_option maxHeartbeats 800000 in
theorem rudp_short (w : World) (s d : Int) (a : Option Addr) (n cap : Nat) (h : n < 8) :
    Calls Try.prog 40 #[.int .u32 s, .int .u32 d, .slice a n cap] w fun e w' => e = .returned (.tuple #[.agg #[.int .u16 0, .int .u16 0, .bool false, .slice none 0 0], .int .i64 10]) ∧ Below w.heap.size w w' := by
  go_enter Try.func40, Try.ntmps40
  go_wp2_with fail
  refine (fit_short n 8 _ h).mono ?_
  rintro e w1 ⟨rfl, rfl⟩
  go_wp2
  refine bodyPost_ret (v := .tuple #[.agg #[.int .u16 0, .int .u16 0, .bool false, .slice none 0 0], .int .i64 10]) (by simp [results, Try.results40, go_sem]) rfl ⟨rfl, ?_⟩
  repeat (first | exact Below.refl _ _ | refine Below.setCell ?_ (Nat.le_refl _) _ | exact Below.alloc (Below.refl _ _) (Nat.le_refl _) _)

set_option maxHeartbeats 800000 in
theorem rudp_long (w : World) (s d : Int) (a : Option Addr) (n cap : Nat) (h : 1480 < n) :
    Calls Try.prog 40 #[.int .u32 s, .int .u32 d, .slice a n cap] w fun e w' => e = .returned (.tuple #[.agg #[.int .u16 0, .int .u16 0, .bool false, .slice none 0 0], .int .i64 14]) ∧ Below w.heap.size w w' := by
  go_enter Try.func40, Try.ntmps40
  go_wp2_with fail
  refine (fit_long n 8 _ (by omega) h).mono ?_
  rintro e w1 ⟨rfl, rfl⟩
  go_wp2
  refine bodyPost_ret (v := .tuple #[.agg #[.int .u16 0, .int .u16 0, .bool false, .slice none 0 0], .int .i64 14]) (by simp [results, Try.results40, go_sem]) rfl ⟨rfl, ?_⟩
  repeat (first | exact Below.refl _ _ | refine Below.setCell ?_ (Nat.le_refl _) _ | exact Below.alloc (Below.refl _ _) (Nat.le_refl _) _)

set_option maxHeartbeats 1600000 in
theorem rudp_form (w : World) (src dst : Nat) (a : Option Addr) (xs : List Int) (n cap p q sz ck : Nat) (hr : Row .u8 w a xs) (hl : xs.length = n) (hcap : n ≤ cap) (hcap2 : cap ≤ 9223372036854775807) (hb : ∀ x ∈ xs, 0 ≤ x ∧ x ≤ 255) (h1 : 8 ≤ n) (h2 : n ≤ 1480)
    (HV0 : Hid (fld xs 0 2 = p)) (HV2 : Hid (fld xs 2 2 = q)) (HV4 : Hid (fld xs 4 2 = sz)) (HV6 : Hid (fld xs 6 2 = ck)) (hf : sz < 8 ∨ n < sz) :
    Calls Try.prog 40 #[.int .u32 src, .int .u32 dst, .slice a n cap] w fun e w' => e = .returned (.tuple #[.agg #[.int .u16 0, .int .u16 0, .bool false, .slice none 0 0], .int .i64 11]) ∧ Below w.heap.size w w' := by
  have HR := hide hr
  have HLX := hl
  have hl1 : 8 ≤ xs.length := by omega
  have hl2 : xs.length ≤ 1480 := by omega
  have HL := hide hl
  have HB := hide hb
  have hp := fld_lt xs 0 2 hb
  have hq := fld_lt xs 2 2 hb
  have hs := fld_lt xs 4 2 hb
  have hk := fld_lt xs 6 2 hb
  rw [HV0.out] at hp
  rw [HV2.out] at hq
  rw [HV4.out] at hs
  rw [HV6.out] at hk
  clear hr hl hb HLX
  go_enter Try.func40, Try.ntmps40
  go_wp2_with fail
  refine (fit_ok n 8 _ h1 h2).mono ?_
  rintro e wz ⟨rfl, rfl⟩
  go_wp2_with fail
  obtain ⟨R, wq, hR, hq1, hbel, hRh⟩ : ∃ R wq, w.heap.size = R ∧ w.alloc (.cells #[.int .u16 0, .int .u16 0, .bool false, .slice none 0 0] 54) = wq ∧ Below w.heap.size w wq ∧ wq.heap[R]? = some (.cells #[.int .u16 0, .int .u16 0, .bool false, .slice none 0 0] 54 (0, 0)) :=
    ⟨_, _, rfl, rfl, (Below.refl _ _).alloc (Nat.le_refl _) _, heap_alloc_new w _⟩
  rw [hq1, hR]
  have HRW := hide hR
  have HRq := hide (HR.out.below hbel (Nat.le_refl _))
  clear hq1 hR
  have hne := newEye_any a xs cap wq HRq.out (by omega)
  rw [HL.out] at hne
  have HNE := hide hne
  clear hne
  refine HNE.out.mono ?_
  rintro e w1 ⟨E, rfl, hE, heye, hb1⟩
  have hRE : R < E := Nat.lt_of_lt_of_le (lt_of_block hRh) hE
  have hR1 := hide (below_block hb1 hRh (Nat.le_refl _))
  have hB1 := hide (hbel.trans (hb1.mono hbel.size))
  have HR1 := hide (HRq.out.below hb1 (Nat.le_refl _))
  have HE1 := hide (show EyeAt w1 E E (xs.drop 0) false by simpa using heye)
  have hbE : ∀ b, a = some b → xs ≠ [] → b.block < wq.heap.size := by
    rintro b rfl hne
    obtain ⟨b', off, e, hlt, _⟩ := HRq.out hne
    cases e; exact hlt
  have hxne : xs ≠ [] := by intro e; rw [e] at hl1; simp at hl1
  have HBE := hide (fun b (e : a = some b) => (show b.block ≠ E by have := hbE b e hxne; omega))
  have HBF := hide (fun b (e : a = some b) => (show b.block < E by have := hbE b e hxne; omega))
  clear hbel hRh heye hb1 hE hbE hxne
  have hh1 := half_at E E 0 xs w1 HE1.out HB.out (by omega) (by omega)
  rw [HV0.out] at hh1
  have HH1 := hide hh1
  clear hh1
  go_wp2_with fail
  refine HH1.out.mono ?_
  rintro e w2 ⟨rfl, he2, hg2⟩
  have HE2 := hide he2
  have HG2 := hide hg2
  clear he2 hg2
  have hh2 := half_at E E 2 xs w2 HE2.out HB.out (by omega) (by omega)
  rw [HV2.out] at hh2
  have HH2 := hide hh2
  clear hh2
  go_wp2_with fail
  refine HH2.out.mono ?_
  rintro e w3 ⟨rfl, he3, hg3⟩
  have HE3 := hide he3
  have HG3 := hide hg3
  clear he3 hg3
  go_wp2_with fail
  obtain ⟨F, wf, hF, hq1, hbf, hFh⟩ : ∃ F wf, w3.heap.size = F ∧ w3.alloc (.cells #[.int .u16 (p : Int), .int .u16 (q : Int), .bool false, .slice none 0 0] 54) = wf ∧ Below w3.heap.size w3 wf ∧ wf.heap[F]? = some (.cells #[.int .u16 (p : Int), .int .u16 (q : Int), .bool false, .slice none 0 0] 54 (0, 0)) :=
    ⟨_, _, rfl, rfl, (Below.refl _ _).alloc (Nat.le_refl _) _, heap_alloc_new w3 _⟩
  rw [hq1, hF]
  have hEF : E < F := by have := HE3.out.lt; omega
  have HEf := hide (HE3.out.below hbf (Nat.le_refl _))
  have hG13 := gb_trans HG2.out HG3.out
  have hG1f := gb_trans hG13 (gb_of_below hbf)
  have hRf := hide (gb_block hG1f hR1.out (by omega))
  have HRf := hide (row_gb HR1.out hG1f HBE.out)
  have hB0 := hB1.out
  have hBf := hide (hB0.trans (grownBy_below hG1f (show w.heap.size ≤ E by have := HRW.out; omega) hB0.size))
  have HFh := hide hFh
  have hwf : w.heap.size ≤ F := by have := HRW.out; omega
  clear hq1 hF hbf hFh hG13 hG1f hB0 HE1 HE2 HE3 HG2 HG3 hR1 HR1 hB1
  have hh4 := half_at E E 4 xs wf HEf.out HB.out (by omega) (by omega)
  rw [HV4.out] at hh4
  have HHf := hide hh4
  clear hh4
  go_wp2_with fail
  refine HHf.out.mono ?_
  rintro e w5 ⟨rfl, he5, hg5⟩
  have HE5 := hide he5
  have HG5 := hide hg5
  clear he5 hg5
  have hcs : IntKind.i64.wrap (sz : Int) = (sz : Int) := IntWalk.i64_in _ (by omega)
  obtain ⟨r0, r1, r2, r3, rf⟩ := four_cells (gb_block HG5.out hRf.out (by omega))
  have hBz := hide (hBf.out.trans (grownBy_below HG5.out (show w.heap.size ≤ E by have := HRW.out; omega) hBf.out.size))
  have hRw : w.heap.size ≤ R := by have := HRW.out; omega
  rcases hf with hf | hf
  · go_wp2
    refine bodyPost_ret (v := .tuple #[.agg #[.int .u16 0, .int .u16 0, .bool false, .slice none 0 0], .int .i64 11]) (by simp [results, Try.results40, go_sem, r0, r1, r2, r3]) rfl ⟨rfl, ?_⟩
    repeat (with_reducible refine Below.setCell ?_ (by assumption) _)
    exact hBz.out
  · have hd1 : decide ((sz : Int) < 8) = false := by simp; omega
    go_wp2
    refine bodyPost_ret (v := .tuple #[.agg #[.int .u16 0, .int .u16 0, .bool false, .slice none 0 0], .int .i64 11]) (by simp [results, Try.results40, go_sem, r0, r1, r2, r3]) rfl ⟨rfl, ?_⟩
    repeat (with_reducible refine Below.setCell ?_ (by assumption) _)
    exact hBz.out

set_option maxHeartbeats 1600000 in
theorem rudp_plain (w : World) (src dst : Nat) (a : Option Addr) (xs : List Int) (n cap p q sz ck : Nat) (hr : Row .u8 w a xs) (hl : xs.length = n) (hcap : n ≤ cap) (hcap2 : cap ≤ 9223372036854775807) (hb : ∀ x ∈ xs, 0 ≤ x ∧ x ≤ 255) (h1 : 8 ≤ n) (h2 : n ≤ 1480)
    (HV0 : Hid (fld xs 0 2 = p)) (HV2 : Hid (fld xs 2 2 = q)) (HV4 : Hid (fld xs 4 2 = sz)) (HV6 : Hid (fld xs 6 2 = ck)) (hf1 : 8 ≤ sz) (hf2 : sz ≤ n) (hck : ck = 0) :
    Calls Try.prog 40 #[.int .u32 src, .int .u32 dst, .slice a n cap] w fun e w' => ∃ a' c, e = .returned (.tuple #[.agg #[.int .u16 (p : Int), .int .u16 (q : Int), .bool true, .slice a' (sz - 8) c], .int .i64 0]) ∧ w'.ownsRow w.heap.size 5 1 (.slice a' (sz - 8) c) (sz - 8) (((xs.drop 8).take (sz - 8)).map (Value.int .u8)) ∧ Below w.heap.size w w' := by
  have HR := hide hr
  have HLX := hl
  have hl1 : 8 ≤ xs.length := by omega
  have hl2 : xs.length ≤ 1480 := by omega
  have HL := hide hl
  have HB := hide hb
  have hp := fld_lt xs 0 2 hb
  have hq := fld_lt xs 2 2 hb
  have hs := fld_lt xs 4 2 hb
  have hk := fld_lt xs 6 2 hb
  rw [HV0.out] at hp
  rw [HV2.out] at hq
  rw [HV4.out] at hs
  rw [HV6.out] at hk
  clear hr hl hb HLX
  go_enter Try.func40, Try.ntmps40
  go_wp2_with fail
  refine (fit_ok n 8 _ h1 h2).mono ?_
  rintro e wz ⟨rfl, rfl⟩
  go_wp2_with fail
  obtain ⟨R, wq, hR, hq1, hbel, hRh⟩ : ∃ R wq, w.heap.size = R ∧ w.alloc (.cells #[.int .u16 0, .int .u16 0, .bool false, .slice none 0 0] 54) = wq ∧ Below w.heap.size w wq ∧ wq.heap[R]? = some (.cells #[.int .u16 0, .int .u16 0, .bool false, .slice none 0 0] 54 (0, 0)) :=
    ⟨_, _, rfl, rfl, (Below.refl _ _).alloc (Nat.le_refl _) _, heap_alloc_new w _⟩
  rw [hq1, hR]
  have HRW := hide hR
  have HRq := hide (HR.out.below hbel (Nat.le_refl _))
  clear hq1 hR
  have hne := newEye_any a xs cap wq HRq.out (by omega)
  rw [HL.out] at hne
  have HNE := hide hne
  clear hne
  refine HNE.out.mono ?_
  rintro e w1 ⟨E, rfl, hE, heye, hb1⟩
  have hRE : R < E := Nat.lt_of_lt_of_le (lt_of_block hRh) hE
  have hR1 := hide (below_block hb1 hRh (Nat.le_refl _))
  have hB1 := hide (hbel.trans (hb1.mono hbel.size))
  have HR1 := hide (HRq.out.below hb1 (Nat.le_refl _))
  have HE1 := hide (show EyeAt w1 E E (xs.drop 0) false by simpa using heye)
  have hbE : ∀ b, a = some b → xs ≠ [] → b.block < wq.heap.size := by
    rintro b rfl hne
    obtain ⟨b', off, e, hlt, _⟩ := HRq.out hne
    cases e; exact hlt
  have hxne : xs ≠ [] := by intro e; rw [e] at hl1; simp at hl1
  have HBE := hide (fun b (e : a = some b) => (show b.block ≠ E by have := hbE b e hxne; omega))
  have HBF := hide (fun b (e : a = some b) => (show b.block < E by have := hbE b e hxne; omega))
  clear hbel hRh heye hb1 hE hbE hxne
  have hh1 := half_at E E 0 xs w1 HE1.out HB.out (by omega) (by omega)
  rw [HV0.out] at hh1
  have HH1 := hide hh1
  clear hh1
  go_wp2_with fail
  refine HH1.out.mono ?_
  rintro e w2 ⟨rfl, he2, hg2⟩
  have HE2 := hide he2
  have HG2 := hide hg2
  clear he2 hg2
  have hh2 := half_at E E 2 xs w2 HE2.out HB.out (by omega) (by omega)
  rw [HV2.out] at hh2
  have HH2 := hide hh2
  clear hh2
  go_wp2_with fail
  refine HH2.out.mono ?_
  rintro e w3 ⟨rfl, he3, hg3⟩
  have HE3 := hide he3
  have HG3 := hide hg3
  clear he3 hg3
  go_wp2_with fail
  obtain ⟨F, wf, hF, hq1, hbf, hFh⟩ : ∃ F wf, w3.heap.size = F ∧ w3.alloc (.cells #[.int .u16 (p : Int), .int .u16 (q : Int), .bool false, .slice none 0 0] 54) = wf ∧ Below w3.heap.size w3 wf ∧ wf.heap[F]? = some (.cells #[.int .u16 (p : Int), .int .u16 (q : Int), .bool false, .slice none 0 0] 54 (0, 0)) :=
    ⟨_, _, rfl, rfl, (Below.refl _ _).alloc (Nat.le_refl _) _, heap_alloc_new w3 _⟩
  rw [hq1, hF]
  have hEF : E < F := by have := HE3.out.lt; omega
  have HEf := hide (HE3.out.below hbf (Nat.le_refl _))
  have hG13 := gb_trans HG2.out HG3.out
  have hG1f := gb_trans hG13 (gb_of_below hbf)
  have hRf := hide (gb_block hG1f hR1.out (by omega))
  have HRf := hide (row_gb HR1.out hG1f HBE.out)
  have hB0 := hB1.out
  have hBf := hide (hB0.trans (grownBy_below hG1f (show w.heap.size ≤ E by have := HRW.out; omega) hB0.size))
  have HFh := hide hFh
  have hwf : w.heap.size ≤ F := by have := HRW.out; omega
  clear hq1 hF hbf hFh hG13 hG1f hB0 HE1 HE2 HE3 HG2 HG3 hR1 HR1 hB1
  have hh4 := half_at E E 4 xs wf HEf.out HB.out (by omega) (by omega)
  rw [HV4.out] at hh4
  have HHf := hide hh4
  clear hh4
  go_wp2_with fail
  refine HHf.out.mono ?_
  rintro e w5 ⟨rfl, he5, hg5⟩
  have HE5 := hide he5
  have HG5 := hide hg5
  clear he5 hg5
  have hcs : IntKind.i64.wrap (sz : Int) = (sz : Int) := IntWalk.i64_in _ (by omega)
  have hd1 : decide ((sz : Int) < 8) = false := by simp; omega
  have hd2 : decide ((n : Int) < (sz : Int)) = false := by simp; omega
  go_wp2_with fail
  have hh5 := half_at E E 6 xs w5 HE5.out HB.out (by omega) (by omega)
  rw [HV6.out] at hh5
  have HH5 := hide hh5
  clear hh5
  go_wp2_with fail
  refine HH5.out.mono ?_
  rintro e w6 ⟨rfl, he6, hg6⟩
  have HE6 := hide he6
  have HG6 := hide hg6
  clear he6 hg6
  have hF6 := gb_block (gb_trans HG5.out HG6.out) HFh.out (by omega)
  have hR6 := gb_block (gb_trans HG5.out HG6.out) hRf.out (by omega)
  have HR6 := hide (row_gb HRf.out (gb_trans HG5.out HG6.out) HBE.out)
  have hB6 := hide (hBf.out.trans (grownBy_below (gb_trans HG5.out HG6.out) (show w.heap.size ≤ E by have := HRW.out; omega) hBf.out.size))
  obtain ⟨f0, f1, f2, f3, ff⟩ := four_cells hF6
  have hFl := lt_of_block hF6
  have ff2 := ff 2
  clear HG5 HG6 HEf HE5 hRf HRf hBf HFh ff
  have hckb : ((ck : Int) == 0) = true := by simp; omega
  go_wp2_with fail
  obtain ⟨w7, hq7, hF7, hR7, HR7, HE7, hB7⟩ : ∃ w7, w6.setCell ⟨F, 2, none⟩ (.bool true) = w7 ∧ w7.heap[F]? = some (.cells #[.int .u16 (p : Int), .int .u16 (q : Int), .bool true, .slice none 0 0] 54 (0, 0)) ∧ w7.heap[R]? = some (.cells #[.int .u16 0, .int .u16 0, .bool false, .slice none 0 0] 54 (0, 0)) ∧ Hid (Row .u8 w7 a xs) ∧ Hid (EyeAt w7 E E (xs.drop 8) false) ∧ Hid (Below w.heap.size w w7) := by
    refine ⟨_, rfl, four_set hF6, (Below.heap_setCell _ _ _ _ (by simp; omega)).trans hR6, ?_, hide (HE6.out.set (by omega) (by omega)), hide (hB6.out.setCell (by simpa using hwf) _)⟩
    exact hide (row_set HR6.out (fun b e => (show b.block ≠ F by have := HBF.out b e; omega)))
  rw [hq7]
  clear hq7 hF6 hR6 f0 f1 f2 f3 ff2 HE6 HR6 hB6
  obtain ⟨g0, g1, g2, g3, gf⟩ := four_cells hF7
  go_quiet (fail)
  generalize hwx : w7.drewN _ = wx
  have HE7x : Hid (EyeAt wx E E (xs.drop 8) false) := hide (by rw [← hwx]; exact HE7.out)
  have hhx : wx.heap = w7.heap := by rw [← hwx]; rfl
  have hF7x := hF7
  have hR7x := hR7
  rw [← hhx] at hF7x hR7x
  have hB7x : Hid (Below w.heap.size w wx) := hide (by rw [← hwx]; exact bdrewN hB7.out _)
  clear hwx hhx g0 g1 g2 g3 gf hF7 hR7
  have hsub : IntKind.i64.wrap ((sz : Int) - 8) = (((sz - 8 : Nat)) : Int) := by rw [IntWalk.i64_in _ (by omega)]; omega
  have hby := bytes_at E E 8 (sz - 8) xs wx HE7x.out (by omega) (by have := HL.out; omega)
  have HBY := hide hby
  clear hby
  go_wp2_with fail
  refine HBY.out.mono ?_
  rintro e w8 ⟨a8, c8, rfl, o8, he8, hg8⟩
  have hF8 := gb_block hg8 hF7x (by omega)
  have hR8 := gb_block hg8 hR7x (by omega)
  obtain ⟨m0, m1, m2, m3, mf⟩ := four_cells hF8
  obtain ⟨r0, r1, r2, r3, rf⟩ := four_cells hR8
  have hBz := hide (hB7x.out.trans (grownBy_below hg8 (show w.heap.size ≤ E by have := HRW.out; omega) hB7x.out.size))
  have hRw : w.heap.size ≤ R := by have := HRW.out; omega
  have hFlt := lt_of_block hF7x
  have hRlt := lt_of_block hR7x
  have hO8 := hide (show w8.ownsRow w.heap.size 5 1 (.slice a8 (sz - 8) c8) (sz - 8) ((((xs.drop 8).take (sz - 8))).map (Value.int .u8)) from owns_mono o8 hB7x.out.size)
  have hO8b := hide o8
  clear o8 he8 hg8 hF8 hR8
  go_wp2
  refine bodyPost_ret (v := .tuple #[.agg #[.int .u16 (p : Int), .int .u16 (q : Int), .bool true, .slice a8 (sz - 8) c8], .int .i64 0]) (by simp [results, Try.results40, go_sem, r0, r1, r2, r3, m0, m1, m2, m3]) rfl ⟨a8, c8, rfl, ?_, ?_⟩
  · refine owns_mono (base := wx.heap.size) ?_ hB7x.out.size
    repeat (with_reducible refine owns_set ?_ (by assumption))
    exact hO8b.out
  · repeat (with_reducible refine Below.setCell ?_ (by assumption) _)
    exact hBz.out

set_option maxHeartbeats 1600000 in
theorem rudp_bad (w : World) (src dst : Nat) (a : Option Addr) (xs : List Int) (n cap p q sz ck : Nat) (hr : Row .u8 w a xs) (hl : xs.length = n) (hcap : n ≤ cap) (hcap2 : cap ≤ 9223372036854775807) (hb : ∀ x ∈ xs, 0 ≤ x ∧ x ≤ 255) (h1 : 8 ≤ n) (h2 : n ≤ 1480)
    (HV0 : Hid (fld xs 0 2 = p)) (HV2 : Hid (fld xs 2 2 = q)) (HV4 : Hid (fld xs 4 2 = sz)) (HV6 : Hid (fld xs 6 2 = ck)) (hf1 : 8 ≤ sz) (hf2 : sz ≤ n) (hck : ck ≠ 0) (hsrc : src ≤ 4294967295) (hdst : dst ≤ 4294967295) (HCS : Hid ((csum (psB src dst 17 sz ++ xs.take sz) == 0) = false)) :
    Calls Try.prog 40 #[.int .u32 src, .int .u32 dst, .slice a n cap] w fun e w' => e = .returned (.tuple #[.agg #[.int .u16 0, .int .u16 0, .bool false, .slice none 0 0], .int .i64 12]) ∧ Below w.heap.size w w' := by
  have HR := hide hr
  have HLX := hl
  have hl1 : 8 ≤ xs.length := by omega
  have hl2 : xs.length ≤ 1480 := by omega
  have HL := hide hl
  have HB := hide hb
  have hp := fld_lt xs 0 2 hb
  have hq := fld_lt xs 2 2 hb
  have hs := fld_lt xs 4 2 hb
  have hk := fld_lt xs 6 2 hb
  rw [HV0.out] at hp
  rw [HV2.out] at hq
  rw [HV4.out] at hs
  rw [HV6.out] at hk
  clear hr hl hb HLX
  go_enter Try.func40, Try.ntmps40
  go_wp2_with fail
  refine (fit_ok n 8 _ h1 h2).mono ?_
  rintro e wz ⟨rfl, rfl⟩
  go_wp2_with fail
  obtain ⟨R, wq, hR, hq1, hbel, hRh⟩ : ∃ R wq, w.heap.size = R ∧ w.alloc (.cells #[.int .u16 0, .int .u16 0, .bool false, .slice none 0 0] 54) = wq ∧ Below w.heap.size w wq ∧ wq.heap[R]? = some (.cells #[.int .u16 0, .int .u16 0, .bool false, .slice none 0 0] 54 (0, 0)) :=
    ⟨_, _, rfl, rfl, (Below.refl _ _).alloc (Nat.le_refl _) _, heap_alloc_new w _⟩
  rw [hq1, hR]
  have HRW := hide hR
  have HRq := hide (HR.out.below hbel (Nat.le_refl _))
  clear hq1 hR
  have hne := newEye_any a xs cap wq HRq.out (by omega)
  rw [HL.out] at hne
  have HNE := hide hne
  clear hne
  refine HNE.out.mono ?_
  rintro e w1 ⟨E, rfl, hE, heye, hb1⟩
  have hRE : R < E := Nat.lt_of_lt_of_le (lt_of_block hRh) hE
  have hR1 := hide (below_block hb1 hRh (Nat.le_refl _))
  have hB1 := hide (hbel.trans (hb1.mono hbel.size))
  have HR1 := hide (HRq.out.below hb1 (Nat.le_refl _))
  have HE1 := hide (show EyeAt w1 E E (xs.drop 0) false by simpa using heye)
  have hbE : ∀ b, a = some b → xs ≠ [] → b.block < wq.heap.size := by
    rintro b rfl hne
    obtain ⟨b', off, e, hlt, _⟩ := HRq.out hne
    cases e; exact hlt
  have hxne : xs ≠ [] := by intro e; rw [e] at hl1; simp at hl1
  have HBE := hide (fun b (e : a = some b) => (show b.block ≠ E by have := hbE b e hxne; omega))
  have HBF := hide (fun b (e : a = some b) => (show b.block < E by have := hbE b e hxne; omega))
  clear hbel hRh heye hb1 hE hbE hxne
  have hh1 := half_at E E 0 xs w1 HE1.out HB.out (by omega) (by omega)
  rw [HV0.out] at hh1
  have HH1 := hide hh1
  clear hh1
  go_wp2_with fail
  refine HH1.out.mono ?_
  rintro e w2 ⟨rfl, he2, hg2⟩
  have HE2 := hide he2
  have HG2 := hide hg2
  clear he2 hg2
  have hh2 := half_at E E 2 xs w2 HE2.out HB.out (by omega) (by omega)
  rw [HV2.out] at hh2
  have HH2 := hide hh2
  clear hh2
  go_wp2_with fail
  refine HH2.out.mono ?_
  rintro e w3 ⟨rfl, he3, hg3⟩
  have HE3 := hide he3
  have HG3 := hide hg3
  clear he3 hg3
  go_wp2_with fail
  obtain ⟨F, wf, hF, hq1, hbf, hFh⟩ : ∃ F wf, w3.heap.size = F ∧ w3.alloc (.cells #[.int .u16 (p : Int), .int .u16 (q : Int), .bool false, .slice none 0 0] 54) = wf ∧ Below w3.heap.size w3 wf ∧ wf.heap[F]? = some (.cells #[.int .u16 (p : Int), .int .u16 (q : Int), .bool false, .slice none 0 0] 54 (0, 0)) :=
    ⟨_, _, rfl, rfl, (Below.refl _ _).alloc (Nat.le_refl _) _, heap_alloc_new w3 _⟩
  rw [hq1, hF]
  have hEF : E < F := by have := HE3.out.lt; omega
  have HEf := hide (HE3.out.below hbf (Nat.le_refl _))
  have hG13 := gb_trans HG2.out HG3.out
  have hG1f := gb_trans hG13 (gb_of_below hbf)
  have hRf := hide (gb_block hG1f hR1.out (by omega))
  have HRf := hide (row_gb HR1.out hG1f HBE.out)
  have hB0 := hB1.out
  have hBf := hide (hB0.trans (grownBy_below hG1f (show w.heap.size ≤ E by have := HRW.out; omega) hB0.size))
  have HFh := hide hFh
  have hwf : w.heap.size ≤ F := by have := HRW.out; omega
  clear hq1 hF hbf hFh hG13 hG1f hB0 HE1 HE2 HE3 HG2 HG3 hR1 HR1 hB1
  have hh4 := half_at E E 4 xs wf HEf.out HB.out (by omega) (by omega)
  rw [HV4.out] at hh4
  have HHf := hide hh4
  clear hh4
  go_wp2_with fail
  refine HHf.out.mono ?_
  rintro e w5 ⟨rfl, he5, hg5⟩
  have HE5 := hide he5
  have HG5 := hide hg5
  clear he5 hg5
  have hcs : IntKind.i64.wrap (sz : Int) = (sz : Int) := IntWalk.i64_in _ (by omega)
  have hd1 : decide ((sz : Int) < 8) = false := by simp; omega
  have hd2 : decide ((n : Int) < (sz : Int)) = false := by simp; omega
  go_wp2_with fail
  have hh5 := half_at E E 6 xs w5 HE5.out HB.out (by omega) (by omega)
  rw [HV6.out] at hh5
  have HH5 := hide hh5
  clear hh5
  go_wp2_with fail
  refine HH5.out.mono ?_
  rintro e w6 ⟨rfl, he6, hg6⟩
  have HE6 := hide he6
  have HG6 := hide hg6
  clear he6 hg6
  have hF6 := gb_block (gb_trans HG5.out HG6.out) HFh.out (by omega)
  have hR6 := gb_block (gb_trans HG5.out HG6.out) hRf.out (by omega)
  have HR6 := hide (row_gb HRf.out (gb_trans HG5.out HG6.out) HBE.out)
  have hB6 := hide (hBf.out.trans (grownBy_below (gb_trans HG5.out HG6.out) (show w.heap.size ≤ E by have := HRW.out; omega) hBf.out.size))
  obtain ⟨f0, f1, f2, f3, ff⟩ := four_cells hF6
  have hFl := lt_of_block hF6
  have ff2 := ff 2
  clear HG5 HG6 HEf HE5 hRf HRf hBf HFh ff
  have hckb : ((ck : Int) == 0) = false := by simp; omega
  go_wp2_with fail
  obtain ⟨w7, hq7, hF7, hR7, HR7, HE7, hB7⟩ : ∃ w7, w6.setCell ⟨F, 2, none⟩ (.bool false) = w7 ∧ w7.heap[F]? = some (.cells #[.int .u16 (p : Int), .int .u16 (q : Int), .bool false, .slice none 0 0] 54 (0, 0)) ∧ w7.heap[R]? = some (.cells #[.int .u16 0, .int .u16 0, .bool false, .slice none 0 0] 54 (0, 0)) ∧ Hid (Row .u8 w7 a xs) ∧ Hid (EyeAt w7 E E (xs.drop 8) false) ∧ Hid (Below w.heap.size w w7) := by
    refine ⟨_, rfl, four_set hF6, (Below.heap_setCell _ _ _ _ (by simp; omega)).trans hR6, ?_, hide (HE6.out.set (by omega) (by omega)), hide (hB6.out.setCell (by simpa using hwf) _)⟩
    exact hide (row_set HR6.out (fun b e => (show b.block ≠ F by have := HBF.out b e; omega)))
  rw [hq7]
  clear hq7 hF6 hR6 f0 f1 f2 f3 ff2 HE6 HR6 hB6
  obtain ⟨g0, g1, g2, g3, gf⟩ := four_cells hF7
  obtain ⟨b0, o0, rfl, _, _⟩ := HR7.out.at (i := 0) (by omega)
  have hsz1 : (0 : Int) ≤ (sz : Int) := by omega
  have hsz2 : (sz : Int) ≤ (cap : Int) := by omega
  have HPS := hide (fun W => pseudo17_any src dst sz W hsrc hdst (by omega))
  have HTL := hide (show (xs.take sz).length = sz by rw [List.length_take]; have := HL.out; omega)
  have HRT := hide (fun (w8 : World) (a8 : Option Addr) (c8 : Nat) (hrows : Rows w8 [(a8, psB src dst 17 sz, c8), (some ⟨b0, o0, none⟩, xs.take sz, cap)]) => (show Calls Try.prog 65 #[.slice (some ⟨w8.heap.size, 0, none⟩) 2 2] (w8.alloc (.cells #[.slice a8 12 c8, .slice (some ⟨b0, o0, none⟩) sz cap] 25)) fun e w' => e = .returned (.bool false) ∧ Below w8.heap.size w8 w' by
    have hfl : flat [(a8, psB src dst 17 sz, c8), (some ⟨b0, o0, none⟩, xs.take sz, cap)] = psB src dst 17 sz ++ xs.take sz := by simp [flat]
    have h := rightL w8 [(a8, psB src dst 17 sz, c8), (some ⟨b0, o0, none⟩, xs.take sz, cap)] #[.slice a8 12 c8, .slice (some ⟨b0, o0, none⟩) sz cap] 2 _ rfl rfl (by rw [List.map_cons, List.map_cons, List.map_nil]; simp only [Part.v, psB_len, HTL.out]) hrows (by rw [hfl, List.length_append, psB_len, HTL.out]; omega)
      (by rw [hfl]; intro x hx; rcases List.mem_append.1 hx with h | h; exact psB_rng _ _ _ _ (by omega) x h; exact HB.out x (List.mem_of_mem_take h)) (by omega)
    rw [hfl, HCS.out] at h
    exact h))
  have hFl7 := lt_of_block hF7
  have HF7 := hide hF7
  have HR7b := hide hR7
  clear hF7 hR7 g0 g1 g3 gf
  go_region_held3 (fun w' => w'.cell? ⟨F, 2, none⟩ = some (.bool false)) (go_keep) (first
    | (go_at_call 66; (with_reducible refine (HPS.out _).mono ?_); rintro e w8 ⟨a8, c8, rfl, o8, b8⟩; have k82 := (bcell b8 F 2 hFl7).trans g2; have hb78 : Below w7.heap.size w7 w8 := below_of_drew b8; have B8 := hide hb78; have HN8 := hide (none_cap o8); have O8 := hide (Row.of_owns o8); have hFl8 : F < w8.heap.size := Nat.lt_of_lt_of_le hFl7 hb78.size;
        have hrows := hide (rows_cons (c := c8) O8.out HN8.out (rows_some (c := cap) ((row_take HR7.out sz).below B8.out (Nat.le_refl _)) (rows_nil w8))); clear o8 b8 hb78)
    | (go_at_call 65; (with_reducible refine (HRT.out w8 a8 c8 hrows.out).mono ?_); rintro e w9 ⟨rfl, b9⟩; have k92 := (bcell b9 F 2 hFl8).trans k82; have B9 := hide b9; clear b9 k82))
  have hb79 := B8.out.trans (B9.out.mono B8.out.size)
  have HE7x := hide (HE7.out.below hb79 (Nat.le_refl _))
  have hF7x := below_block hb79 HF7.out (Nat.le_refl _)
  have hR7x := below_block hb79 HR7b.out (Nat.le_refl _)
  have hB7x := hide (hB7.out.trans (hb79.mono hB7.out.size))
  clear hb79 k92 g2 hrows
  obtain ⟨r0, r1, r2, r3, rf⟩ := four_cells hR7x
  have hBz := hB7x
  have hRw : w.heap.size ≤ R := by have := HRW.out; omega
  have hRlt := lt_of_block hR7x
  clear hF7x hR7x
  go_wp2
  refine bodyPost_ret (v := .tuple #[.agg #[.int .u16 0, .int .u16 0, .bool false, .slice none 0 0], .int .i64 12]) (by simp [results, Try.results40, go_sem, r0, r1, r2, r3]) rfl ⟨rfl, ?_⟩
  repeat (with_reducible refine Below.setCell ?_ (by assumption) _)
  exact hBz.out

set_option maxHeartbeats 1600000 in
theorem rudp_ok (w : World) (src dst : Nat) (a : Option Addr) (xs : List Int) (n cap p q sz ck : Nat) (hr : Row .u8 w a xs) (hl : xs.length = n) (hcap : n ≤ cap) (hcap2 : cap ≤ 9223372036854775807) (hb : ∀ x ∈ xs, 0 ≤ x ∧ x ≤ 255) (h1 : 8 ≤ n) (h2 : n ≤ 1480)
    (HV0 : Hid (fld xs 0 2 = p)) (HV2 : Hid (fld xs 2 2 = q)) (HV4 : Hid (fld xs 4 2 = sz)) (HV6 : Hid (fld xs 6 2 = ck)) (hf1 : 8 ≤ sz) (hf2 : sz ≤ n) (hck : ck ≠ 0) (hsrc : src ≤ 4294967295) (hdst : dst ≤ 4294967295) (HCS : Hid ((csum (psB src dst 17 sz ++ xs.take sz) == 0) = true)) :
    Calls Try.prog 40 #[.int .u32 src, .int .u32 dst, .slice a n cap] w fun e w' => ∃ a' c, e = .returned (.tuple #[.agg #[.int .u16 (p : Int), .int .u16 (q : Int), .bool false, .slice a' (sz - 8) c], .int .i64 0]) ∧ w'.ownsRow w.heap.size 5 1 (.slice a' (sz - 8) c) (sz - 8) (((xs.drop 8).take (sz - 8)).map (Value.int .u8)) ∧ Below w.heap.size w w' := by
  have HR := hide hr
  have HLX := hl
  have hl1 : 8 ≤ xs.length := by omega
  have hl2 : xs.length ≤ 1480 := by omega
  have HL := hide hl
  have HB := hide hb
  have hp := fld_lt xs 0 2 hb
  have hq := fld_lt xs 2 2 hb
  have hs := fld_lt xs 4 2 hb
  have hk := fld_lt xs 6 2 hb
  rw [HV0.out] at hp
  rw [HV2.out] at hq
  rw [HV4.out] at hs
  rw [HV6.out] at hk
  clear hr hl hb HLX
  go_enter Try.func40, Try.ntmps40
  go_wp2_with fail
  refine (fit_ok n 8 _ h1 h2).mono ?_
  rintro e wz ⟨rfl, rfl⟩
  go_wp2_with fail
  obtain ⟨R, wq, hR, hq1, hbel, hRh⟩ : ∃ R wq, w.heap.size = R ∧ w.alloc (.cells #[.int .u16 0, .int .u16 0, .bool false, .slice none 0 0] 54) = wq ∧ Below w.heap.size w wq ∧ wq.heap[R]? = some (.cells #[.int .u16 0, .int .u16 0, .bool false, .slice none 0 0] 54 (0, 0)) :=
    ⟨_, _, rfl, rfl, (Below.refl _ _).alloc (Nat.le_refl _) _, heap_alloc_new w _⟩
  rw [hq1, hR]
  have HRW := hide hR
  have HRq := hide (HR.out.below hbel (Nat.le_refl _))
  clear hq1 hR
  have hne := newEye_any a xs cap wq HRq.out (by omega)
  rw [HL.out] at hne
  have HNE := hide hne
  clear hne
  refine HNE.out.mono ?_
  rintro e w1 ⟨E, rfl, hE, heye, hb1⟩
  have hRE : R < E := Nat.lt_of_lt_of_le (lt_of_block hRh) hE
  have hR1 := hide (below_block hb1 hRh (Nat.le_refl _))
  have hB1 := hide (hbel.trans (hb1.mono hbel.size))
  have HR1 := hide (HRq.out.below hb1 (Nat.le_refl _))
  have HE1 := hide (show EyeAt w1 E E (xs.drop 0) false by simpa using heye)
  have hbE : ∀ b, a = some b → xs ≠ [] → b.block < wq.heap.size := by
    rintro b rfl hne
    obtain ⟨b', off, e, hlt, _⟩ := HRq.out hne
    cases e; exact hlt
  have hxne : xs ≠ [] := by intro e; rw [e] at hl1; simp at hl1
  have HBE := hide (fun b (e : a = some b) => (show b.block ≠ E by have := hbE b e hxne; omega))
  have HBF := hide (fun b (e : a = some b) => (show b.block < E by have := hbE b e hxne; omega))
  clear hbel hRh heye hb1 hE hbE hxne
  have hh1 := half_at E E 0 xs w1 HE1.out HB.out (by omega) (by omega)
  rw [HV0.out] at hh1
  have HH1 := hide hh1
  clear hh1
  go_wp2_with fail
  refine HH1.out.mono ?_
  rintro e w2 ⟨rfl, he2, hg2⟩
  have HE2 := hide he2
  have HG2 := hide hg2
  clear he2 hg2
  have hh2 := half_at E E 2 xs w2 HE2.out HB.out (by omega) (by omega)
  rw [HV2.out] at hh2
  have HH2 := hide hh2
  clear hh2
  go_wp2_with fail
  refine HH2.out.mono ?_
  rintro e w3 ⟨rfl, he3, hg3⟩
  have HE3 := hide he3
  have HG3 := hide hg3
  clear he3 hg3
  go_wp2_with fail
  obtain ⟨F, wf, hF, hq1, hbf, hFh⟩ : ∃ F wf, w3.heap.size = F ∧ w3.alloc (.cells #[.int .u16 (p : Int), .int .u16 (q : Int), .bool false, .slice none 0 0] 54) = wf ∧ Below w3.heap.size w3 wf ∧ wf.heap[F]? = some (.cells #[.int .u16 (p : Int), .int .u16 (q : Int), .bool false, .slice none 0 0] 54 (0, 0)) :=
    ⟨_, _, rfl, rfl, (Below.refl _ _).alloc (Nat.le_refl _) _, heap_alloc_new w3 _⟩
  rw [hq1, hF]
  have hEF : E < F := by have := HE3.out.lt; omega
  have HEf := hide (HE3.out.below hbf (Nat.le_refl _))
  have hG13 := gb_trans HG2.out HG3.out
  have hG1f := gb_trans hG13 (gb_of_below hbf)
  have hRf := hide (gb_block hG1f hR1.out (by omega))
  have HRf := hide (row_gb HR1.out hG1f HBE.out)
  have hB0 := hB1.out
  have hBf := hide (hB0.trans (grownBy_below hG1f (show w.heap.size ≤ E by have := HRW.out; omega) hB0.size))
  have HFh := hide hFh
  have hwf : w.heap.size ≤ F := by have := HRW.out; omega
  clear hq1 hF hbf hFh hG13 hG1f hB0 HE1 HE2 HE3 HG2 HG3 hR1 HR1 hB1
  have hh4 := half_at E E 4 xs wf HEf.out HB.out (by omega) (by omega)
  rw [HV4.out] at hh4
  have HHf := hide hh4
  clear hh4
  go_wp2_with fail
  refine HHf.out.mono ?_
  rintro e w5 ⟨rfl, he5, hg5⟩
  have HE5 := hide he5
  have HG5 := hide hg5
  clear he5 hg5
  have hcs : IntKind.i64.wrap (sz : Int) = (sz : Int) := IntWalk.i64_in _ (by omega)
  have hd1 : decide ((sz : Int) < 8) = false := by simp; omega
  have hd2 : decide ((n : Int) < (sz : Int)) = false := by simp; omega
  go_wp2_with fail
  have hh5 := half_at E E 6 xs w5 HE5.out HB.out (by omega) (by omega)
  rw [HV6.out] at hh5
  have HH5 := hide hh5
  clear hh5
  go_wp2_with fail
  refine HH5.out.mono ?_
  rintro e w6 ⟨rfl, he6, hg6⟩
  have HE6 := hide he6
  have HG6 := hide hg6
  clear he6 hg6
  have hF6 := gb_block (gb_trans HG5.out HG6.out) HFh.out (by omega)
  have hR6 := gb_block (gb_trans HG5.out HG6.out) hRf.out (by omega)
  have HR6 := hide (row_gb HRf.out (gb_trans HG5.out HG6.out) HBE.out)
  have hB6 := hide (hBf.out.trans (grownBy_below (gb_trans HG5.out HG6.out) (show w.heap.size ≤ E by have := HRW.out; omega) hBf.out.size))
  obtain ⟨f0, f1, f2, f3, ff⟩ := four_cells hF6
  have hFl := lt_of_block hF6
  have ff2 := ff 2
  clear HG5 HG6 HEf HE5 hRf HRf hBf HFh ff
  have hckb : ((ck : Int) == 0) = false := by simp; omega
  go_wp2_with fail
  obtain ⟨w7, hq7, hF7, hR7, HR7, HE7, hB7⟩ : ∃ w7, w6.setCell ⟨F, 2, none⟩ (.bool false) = w7 ∧ w7.heap[F]? = some (.cells #[.int .u16 (p : Int), .int .u16 (q : Int), .bool false, .slice none 0 0] 54 (0, 0)) ∧ w7.heap[R]? = some (.cells #[.int .u16 0, .int .u16 0, .bool false, .slice none 0 0] 54 (0, 0)) ∧ Hid (Row .u8 w7 a xs) ∧ Hid (EyeAt w7 E E (xs.drop 8) false) ∧ Hid (Below w.heap.size w w7) := by
    refine ⟨_, rfl, four_set hF6, (Below.heap_setCell _ _ _ _ (by simp; omega)).trans hR6, ?_, hide (HE6.out.set (by omega) (by omega)), hide (hB6.out.setCell (by simpa using hwf) _)⟩
    exact hide (row_set HR6.out (fun b e => (show b.block ≠ F by have := HBF.out b e; omega)))
  rw [hq7]
  clear hq7 hF6 hR6 f0 f1 f2 f3 ff2 HE6 HR6 hB6
  obtain ⟨g0, g1, g2, g3, gf⟩ := four_cells hF7
  obtain ⟨b0, o0, rfl, _, _⟩ := HR7.out.at (i := 0) (by omega)
  have hsz1 : (0 : Int) ≤ (sz : Int) := by omega
  have hsz2 : (sz : Int) ≤ (cap : Int) := by omega
  have HPS := hide (fun W => pseudo17_any src dst sz W hsrc hdst (by omega))
  have HTL := hide (show (xs.take sz).length = sz by rw [List.length_take]; have := HL.out; omega)
  have HRT := hide (fun (w8 : World) (a8 : Option Addr) (c8 : Nat) (hrows : Rows w8 [(a8, psB src dst 17 sz, c8), (some ⟨b0, o0, none⟩, xs.take sz, cap)]) => (show Calls Try.prog 65 #[.slice (some ⟨w8.heap.size, 0, none⟩) 2 2] (w8.alloc (.cells #[.slice a8 12 c8, .slice (some ⟨b0, o0, none⟩) sz cap] 25)) fun e w' => e = .returned (.bool true) ∧ Below w8.heap.size w8 w' by
    have hfl : flat [(a8, psB src dst 17 sz, c8), (some ⟨b0, o0, none⟩, xs.take sz, cap)] = psB src dst 17 sz ++ xs.take sz := by simp [flat]
    have h := rightL w8 [(a8, psB src dst 17 sz, c8), (some ⟨b0, o0, none⟩, xs.take sz, cap)] #[.slice a8 12 c8, .slice (some ⟨b0, o0, none⟩) sz cap] 2 _ rfl rfl (by rw [List.map_cons, List.map_cons, List.map_nil]; simp only [Part.v, psB_len, HTL.out]) hrows (by rw [hfl, List.length_append, psB_len, HTL.out]; omega)
      (by rw [hfl]; intro x hx; rcases List.mem_append.1 hx with h | h; exact psB_rng _ _ _ _ (by omega) x h; exact HB.out x (List.mem_of_mem_take h)) (by omega)
    rw [hfl, HCS.out] at h
    exact h))
  have hFl7 := lt_of_block hF7
  have HF7 := hide hF7
  have HR7b := hide hR7
  clear hF7 hR7 g0 g1 g3 gf
  go_region_held3 (fun w' => w'.cell? ⟨F, 2, none⟩ = some (.bool false)) (go_keep) (first
    | (go_at_call 66; (with_reducible refine (HPS.out _).mono ?_); rintro e w8 ⟨a8, c8, rfl, o8, b8⟩; have k82 := (bcell b8 F 2 hFl7).trans g2; have hb78 : Below w7.heap.size w7 w8 := below_of_drew b8; have B8 := hide hb78; have HN8 := hide (none_cap o8); have O8 := hide (Row.of_owns o8); have hFl8 : F < w8.heap.size := Nat.lt_of_lt_of_le hFl7 hb78.size;
        have hrows := hide (rows_cons (c := c8) O8.out HN8.out (rows_some (c := cap) ((row_take HR7.out sz).below B8.out (Nat.le_refl _)) (rows_nil w8))); clear o8 b8 hb78)
    | (go_at_call 65; (with_reducible refine (HRT.out w8 a8 c8 hrows.out).mono ?_); rintro e w9 ⟨rfl, b9⟩; have k92 := (bcell b9 F 2 hFl8).trans k82; have B9 := hide b9; clear b9 k82))
  have hb79 := B8.out.trans (B9.out.mono B8.out.size)
  have HE7x := hide (HE7.out.below hb79 (Nat.le_refl _))
  have hF7x := below_block hb79 HF7.out (Nat.le_refl _)
  have hR7x := below_block hb79 HR7b.out (Nat.le_refl _)
  have hB7x := hide (hB7.out.trans (hb79.mono hB7.out.size))
  clear hb79 k92 g2 hrows
  have hsub : IntKind.i64.wrap ((sz : Int) - 8) = (((sz - 8 : Nat)) : Int) := by rw [IntWalk.i64_in _ (by omega)]; omega
  have hby := bytes_at E E 8 (sz - 8) xs w9 HE7x.out (by omega) (by have := HL.out; omega)
  have HBY := hide hby
  clear hby
  go_wp2_with fail
  refine HBY.out.mono ?_
  rintro e w8 ⟨a8, c8, rfl, o8, he8, hg8⟩
  have hF8 := gb_block hg8 hF7x (by omega)
  have hR8 := gb_block hg8 hR7x (by omega)
  obtain ⟨m0, m1, m2, m3, mf⟩ := four_cells hF8
  obtain ⟨r0, r1, r2, r3, rf⟩ := four_cells hR8
  have hBz := hide (hB7x.out.trans (grownBy_below hg8 (show w.heap.size ≤ E by have := HRW.out; omega) hB7x.out.size))
  have hRw : w.heap.size ≤ R := by have := HRW.out; omega
  have hFlt := lt_of_block hF7x
  have hRlt := lt_of_block hR7x
  have hO8 := hide (show w8.ownsRow w.heap.size 5 1 (.slice a8 (sz - 8) c8) (sz - 8) ((((xs.drop 8).take (sz - 8))).map (Value.int .u8)) from owns_mono o8 hB7x.out.size)
  have hO8b := hide o8
  clear o8 he8 hg8 hF8 hR8
  go_wp2
  refine bodyPost_ret (v := .tuple #[.agg #[.int .u16 (p : Int), .int .u16 (q : Int), .bool false, .slice a8 (sz - 8) c8], .int .i64 0]) (by simp [results, Try.results40, go_sem, r0, r1, r2, r3, m0, m1, m2, m3]) rfl ⟨a8, c8, rfl, ?_, ?_⟩
  · refine owns_mono (base := w9.heap.size) ?_ hB7x.out.size
    repeat (with_reducible refine owns_set ?_ (by assumption))
    exact hO8b.out
  · repeat (with_reducible refine Below.setCell ?_ (by assumption) _)
    exact hBz.out
end Go.Proofs.Ytbacodogklbiaaa
