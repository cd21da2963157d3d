/- What trans.ReadUDP answers. -/
import Derived.Test.YtgggcapgaikbeaaPk05
import Derived.Test.YtgggcapgaikbeaaPk02
import Derived.Deep.QuietTactic
import Derived.BigQuiet
import Derived.Test.YtgggcapgaikbeaaPk01
namespace Go.Proofs.Ytgggcapgaikbeaa
open Go.RowKit
set_option linter.unusedVariables false
set_option linter.unusedSimpArgs false
set_option maxRecDepth 100000

set_option maxHeartbeats 800000 in
theorem rudp_short (w : World) (s d : Int) (a : Option Addr) (n cap : Nat) (h : n < 8) :
    Calls Try.prog 53 #[.int .u32 s, .int .u32 d, .slice a n cap] w fun e w' => e = .returned (.tuple #[.agg #[.int .u16 0, .int .u16 0, .bool false, .slice none 0 0], .int .i64 10]) ∧ Below w.heap.size w w' := by
  go_enter Try.func53, Try.ntmps53
  go_wp2_with fail
  refine (fit_short n 8 _ h).mono ?_
  rintro e w1 ⟨rfl, rfl⟩
  go_wp2
  refine bodyPost_ret (v := .tuple #[.agg #[.int .u16 0, .int .u16 0, .bool false, .slice none 0 0], .int .i64 10]) (by simp [results, Try.results53, go_sem]) rfl ⟨rfl, ?_⟩
  repeat (first | exact Below.refl _ _ | refine Below.setCell ?_ (Nat.le_refl _) _ | exact Below.alloc (Below.refl _ _) (Nat.le_refl _) _)

set_option maxHeartbeats 800000 in
theorem rudp_long (w : World) (s d : Int) (a : Option Addr) (n cap : Nat) (h : 1480 < n) :
    Calls Try.prog 53 #[.int .u32 s, .int .u32 d, .slice a n cap] w fun e w' => e = .returned (.tuple #[.agg #[.int .u16 0, .int .u16 0, .bool false, .slice none 0 0], .int .i64 14]) ∧ Below w.heap.size w w' := by
  go_enter Try.func53, Try.ntmps53
  go_wp2_with fail
  refine (fit_long n 8 _ (by omega) h).mono ?_
  rintro e w1 ⟨rfl, rfl⟩
  go_wp2
  refine bodyPost_ret (v := .tuple #[.agg #[.int .u16 0, .int .u16 0, .bool false, .slice none 0 0], .int .i64 14]) (by simp [results, Try.results53, go_sem]) rfl ⟨rfl, ?_⟩
  repeat (first | exact Below.refl _ _ | refine Below.setCell ?_ (Nat.le_refl _) _ | exact Below.alloc (Below.refl _ _) (Nat.le_refl _) _)

set_option maxHeartbeats 1600000 in
theorem rudp_form (w : World) (src dst : Nat) (a : Option Addr) (xs : List Int) (n cap p q sz ck : Nat) (hr : Row .u8 w a xs) (hl : xs.length = n) (hcap : n ≤ cap) (hcap2 : cap ≤ 9223372036854775807) (hb : ∀ x ∈ xs, 0 ≤ x ∧ x ≤ 255) (h1 : 8 ≤ n) (h2 : n ≤ 1480)
    (HV0 : Hid (fld xs 0 2 = p)) (HV2 : Hid (fld xs 2 2 = q)) (HV4 : Hid (fld xs 4 2 = sz)) (HV6 : Hid (fld xs 6 2 = ck)) (hf : sz < 8 ∨ n < sz) :
    Calls Try.prog 53 #[.int .u32 src, .int .u32 dst, .slice a n cap] w fun e w' => e = .returned (.tuple #[.agg #[.int .u16 0, .int .u16 0, .bool false, .slice none 0 0], .int .i64 11]) ∧ Below w.heap.size w w' := by
  have HR := hide hr
  have HLX := hl
  have hl1 : 8 ≤ xs.length := by omega
  have hl2 : xs.length ≤ 1480 := by omega
  have HL := hide hl
  have HB := hide hb
  have hp := fld_lt xs 0 2 hb
  have hq := fld_lt xs 2 2 hb
  have hs := fld_lt xs 4 2 hb
  have hk := fld_lt xs 6 2 hb
  rw [HV0.out] at hp
  rw [HV2.out] at hq
  rw [HV4.out] at hs
  rw [HV6.out] at hk
  clear hr hl hb HLX
  go_enter Try.func53, Try.ntmps53
  go_wp2_with fail
  refine (fit_ok n 8 _ h1 h2).mono ?_
  rintro e wz ⟨rfl, rfl⟩
  go_wp2_with fail
  obtain ⟨R, wq, hR, hq1, hbel, hRh⟩ : ∃ R wq, w.heap.size = R ∧ w.alloc (.cells #[.int .u16 0, .int .u16 0, .bool false, .slice none 0 0] 63) = wq ∧ Below w.heap.size w wq ∧ wq.heap[R]? = some (.cells #[.int .u16 0, .int .u16 0, .bool false, .slice none 0 0] 63 (0, 0)) :=
    ⟨_, _, rfl, rfl, (Below.refl _ _).alloc (Nat.le_refl _) _, heap_alloc_new w _⟩
  rw [hq1, hR]
  have HRW := hide hR
  have HRq := hide (HR.out.below hbel (Nat.le_refl _))
  clear hq1 hR
  have hne := newEye_any a xs cap wq HRq.out (by omega)
  rw [HL.out] at hne
  have HNE := hide hne
  clear hne
  refine HNE.out.mono ?_
  rintro e w1 ⟨E, rfl, hE, heye, hb1⟩
  have hRE : R < E := Nat.lt_of_lt_of_le (lt_of_block hRh) hE
  have hR1 := hide (below_block hb1 hRh (Nat.le_refl _))
  have hB1 := hide (hbel.trans (hb1.mono hbel.size))
  have HR1 := hide (HRq.out.below hb1 (Nat.le_refl _))
  have HE1 := hide (show EyeAt w1 E E (xs.drop 0) false by simpa using heye)
  have hbE : ∀ b, a = some b → xs ≠ [] → b.block < wq.heap.size := by
    rintro b rfl hne
    obtain ⟨b', off, e, hlt, _⟩ := HRq.out hne
    cases e; exact hlt
  have hxne : xs ≠ [] := by intro e; rw [e] at hl1; simp at hl1
  have HBE := hide (fun b (e : a = some b) => (show b.block ≠ E by have := hbE b e hxne; omega))
  have HBF := hide (fun b (e : a = some b) => (show b.block < E by have := hbE b e hxne; omega))
  clear hbel hRh heye hb1 hE hbE hxne
  have hh1 := half_at E E 0 xs w1 HE1.out HB.out (by omega) (by omega)
  rw [HV0.out] at hh1
  have HH1 := hide hh1
  clear hh1
  go_wp2_with fail
  refine HH1.out.mono ?_
  rintro e w2 ⟨rfl, he2, hg2⟩
  have HE2 := hide he2
  have HG2 := hide hg2
  clear he2 hg2
  have hh2 := half_at E E 2 xs w2 HE2.out HB.out (by omega) (by omega)
  rw [HV2.out] at hh2
  have HH2 := hide hh2
  clear hh2
  go_wp2_with fail
  refine HH2.out.mono ?_
  rintro e w3 ⟨rfl, he3, hg3⟩
  have HE3 := hide he3
  have HG3 := hide hg3
  clear he3 hg3
  go_wp2_with fail
  obtain ⟨F, wf, hF, hq1, hbf, hFh⟩ : ∃ F wf, w3.heap.size = F ∧ w3.alloc (.cells #[.int .u16 (p : Int), .int .u16 (q : Int), .bool false, .slice none 0 0] 63) = wf ∧ Below w3.heap.size w3 wf ∧ wf.heap[F]? = some (.cells #[.int .u16 (p : Int), .int .u16 (q : Int), .bool false, .slice none 0 0] 63 (0, 0)) :=
    ⟨_, _, rfl, rfl, (Below.refl _ _).alloc (Nat.le_refl _) _, heap_alloc_new w3 _⟩
  rw [hq1, hF]
  have hEF : E < F := by have := HE3.out.lt; omega
  have HEf := hide (HE3.out.below hbf (Nat.le_refl _))
  have hG13 := gb_trans HG2.out HG3.out
  have hG1f := gb_trans hG13 (gb_of_below hbf)
  have hRf := hide (gb_block hG1f hR1.out (by omega))
  have HRf := hide (row_gb HR1.out hG1f HBE.out)
  have hB0 := hB1.out
  have hBf := hide (hB0.trans (grownBy_below hG1f (show w.heap.size ≤ E by have := HRW.out; omega) hB0.size))
  have HFh := hide hFh
  have hwf : w.heap.size ≤ F := by have := HRW.out; omega
  clear hq1 hF hbf hFh hG13 hG1f hB0 HE1 HE2 HE3 HG2 HG3 hR1 HR1 hB1
  have hh4 := half_at E E 4 xs wf HEf.out HB.out (by omega) (by omega)
  rw [HV4.out] at hh4
  have HHf := hide hh4
  clear hh4
  go_wp2_with fail
  refine HHf.out.mono ?_
  rintro e w5 ⟨rfl, he5, hg5⟩
  have HE5 := hide he5
  have HG5 := hide hg5
  clear he5 hg5
  have hcs : IntKind.i64.wrap (sz : Int) = (sz : Int) := IntWalk.i64_in _ (by omega)
  obtain ⟨r0, r1, r2, r3, rf⟩ := four_cells (gb_block HG5.out hRf.out (by omega))
  have hBz := hide (hBf.out.trans (grownBy_below HG5.out (show w.heap.size ≤ E by have := HRW.out; omega) hBf.out.size))
  have hRw : w.heap.size ≤ R := by have := HRW.out; omega
  rcases hf with hf | hf
  · go_wp2
    refine bodyPost_ret (v := .tuple #[.agg #[.int .u16 0, .int .u16 0, .bool false, .slice none 0 0], .int .i64 11]) (by simp [results, Try.results53, go_sem, r0, r1, r2, r3]) rfl ⟨rfl, ?_⟩
    repeat (with_reducible refine Below.setCell ?_ (by assumption) _)
    exact hBz.out
  · have hd1 : decide ((sz : Int) < 8) = false := by simp; omega
    go_wp2
    refine bodyPost_ret (v := .tuple #[.agg #[.int .u16 0, .int .u16 0, .bool false, .slice none 0 0], .int .i64 11]) (by simp [results, Try.results53, go_sem, r0, r1, r2, r3]) rfl ⟨rfl, ?_⟩
    repeat (with_reducible refine Below.setCell ?_ (by assumption) _)
    exact hBz.out

set_option maxHeartbeats 1600000 in
theorem rudp_plain (w : World) (src dst : Nat) (a : Option Addr) (xs : List Int) (n cap p q sz ck : Nat) (hr : Row .u8 w a xs) (hl : xs.length = n) (hcap : n ≤ cap) (hcap2 : cap ≤ 9223372036854775807) (hb : ∀ x ∈ xs, 0 ≤ x ∧ x ≤ 255) (h1 : 8 ≤ n) (h2 : n ≤ 1480)
    (HV0 : Hid (fld xs 0 2 = p)) (HV2 : Hid (fld xs 2 2 = q)) (HV4 : Hid (fld xs 4 2 = sz)) (HV6 : Hid (fld xs 6 2 = ck)) (hf1 : 8 ≤ sz) (hf2 : sz ≤ n) (hck : ck = 0) :
    Calls Try.prog 53 #[.int .u32 src, .int .u32 dst, .slice a n cap] w fun e w' => ∃ a' c, e = .returned (.tuple #[.agg #[.int .u16 (p : Int), .int .u16 (q : Int), .bool true, .slice a' (sz - 8) c], .int .i64 0]) ∧ w'.ownsRow w.heap.size 5 1 (.slice a' (sz - 8) c) (sz - 8) (((xs.drop 8).take (sz - 8)).map (Value.int .u8)) ∧ Below w.heap.size w w' := by
  have HR := hide hr
  have HLX := hl
  have hl1 : 8 ≤ xs.length := by omega
  have hl2 : xs.length ≤ 1480 := by omega
  have HL := hide hl
  have HB := hide hb
  have hp := fld_lt xs 0 2 hb
  have hq := fld_lt xs 2 2 hb
  have hs := fld_lt xs 4 2 hb
  have hk := fld_lt xs 6 2 hb
  rw [HV0.out] at hp
  rw [HV2.out] at hq
  rw [HV4.out] at hs
  rw [HV6.out] at hk
  clear hr hl hb HLX
  go_enter Try.func53, Try.ntmps53
  go_wp2_with fail
  refine (fit_ok n 8 _ h1 h2).mono ?_
  rintro e wz ⟨rfl, rfl⟩
  go_wp2_with fail
  obtain ⟨R, wq, hR, hq1, hbel, hRh⟩ : ∃ R wq, w.heap.size = R ∧ w.alloc (.cells #[.int .u16 0, .int .u16 0, .bool false, .slice none 0 0] 63) = wq ∧ Below w.heap.size w wq ∧ wq.heap[R]? = some (.cells #[.int .u16 0, .int .u16 0, .bool false, .slice none 0 0] 63 (0, 0)) :=
    ⟨_, _, rfl, rfl, (Below.refl _ _).alloc (Nat.le_refl _) _, heap_alloc_new w _⟩
  rw [hq1, hR]
  have HRW := hide hR
  have HRq := hide (HR.out.below hbel (Nat.le_refl _))
  clear hq1 hR
  have hne := newEye_any a xs cap wq HRq.out (by omega)
  rw [HL.out] at hne
  have HNE := hide hne
  clear hne
  refine HNE.out.mono ?_
  rintro e w1 ⟨E, rfl, hE, heye, hb1⟩
  have hRE : R < E := Nat.lt_of_lt_of_le (lt_of_block hRh) hE
  have hR1 := hide (below_block hb1 hRh (Nat.le_refl _))
  have hB1 := hide (hbel.trans (hb1.mono hbel.size))
  have HR1 := hide (HRq.out.below hb1 (Nat.le_refl _))
  have HE1 := hide (show EyeAt w1 E E (xs.drop 0) false by simpa using heye)
  have hbE : ∀ b, a = some b → xs ≠ [] → b.block < wq.heap.size := by
    rintro b rfl hne
    obtain ⟨b', off, e, hlt, _⟩ := HRq.out hne
    cases e; exact hlt
  have hxne : xs ≠ [] := by intro e; rw [e] at hl1; simp at hl1
  have HBE := hide (fun b (e : a = some b) => (show b.block ≠ E by have := hbE b e hxne; omega))
  have HBF := hide (fun b (e : a = some b) => (show b.block < E by have := hbE b e hxne; omega))
  clear hbel hRh heye hb1 hE hbE hxne
  have hh1 := half_at E E 0 xs w1 HE1.out HB.out (by omega) (by omega)
  rw [HV0.out] at hh1
  have HH1 := hide hh1
  clear hh1
  go_wp2_with fail
  refine HH1.out.mono ?_
  rintro e w2 ⟨rfl, he2, hg2⟩
  have HE2 := hide he2
  have HG2 := hide hg2
  clear he2 hg2
  have hh2 := half_at E E 2 xs w2 HE2.out HB.out (by omega) (by omega)
  rw [HV2.out] at hh2
  have HH2 := hide hh2
  clear hh2
  go_wp2_with fail
  refine HH2.out.mono ?_
  rintro e w3 ⟨rfl, he3, hg3⟩
  have HE3 := hide he3
  have HG3 := hide hg3
  clear he3 hg3
  go_wp2_with fail
  obtain ⟨F, wf, hF, hq1, hbf, hFh⟩ : ∃ F wf, w3.heap.size = F ∧ w3.alloc (.cells #[.int .u16 (p : Int), .int .u16 (q : Int), .bool false, .slice none 0 0] 63) = wf ∧ Below w3.heap.size w3 wf ∧ wf.heap[F]? = some (.cells #[.int .u16 (p : Int), .int .u16 (q : Int), .bool false, .slice none 0 0] 63 (0, 0)) :=
    ⟨_, _, rfl, rfl, (Below.refl _ _).alloc (Nat.le_refl _) _, heap_alloc_new w3 _⟩
  rw [hq1, hF]
  have hEF : E < F := by have := HE3.out.lt; omega
  have HEf := hide (HE3.out.below hbf (Nat.le_refl _))
  have hG13 := gb_trans HG2.out HG3.out
  have hG1f := gb_trans hG13 (gb_of_below hbf)
  have hRf := hide (gb_block hG1f hR1.out (by omega))
  have HRf := hide (row_gb HR1.out hG1f HBE.out)
  have hB0 := hB1.out
  have hBf := hide (hB0.trans (grownBy_below hG1f (show w.heap.size ≤ E by have := HRW.out; omega) hB0.size))
  have HFh := hide hFh
  have hwf : w.heap.size ≤ F := by have := HRW.out; omega
  clear hq1 hF hbf hFh hG13 hG1f hB0 HE1 HE2 HE3 HG2 HG3 hR1 HR1 hB1
  have hh4 := half_at E E 4 xs wf HEf.out HB.out (by omega) (by omega)
  rw [HV4.out] at hh4
  have HHf := hide hh4
  clear hh4
  go_wp2_with fail
  refine HHf.out.mono ?_
  rintro e w5 ⟨rfl, he5, hg5⟩
  have HE5 := hide he5
  have HG5 := hide hg5
  clear he5 hg5
  have hcs : IntKind.i64.wrap (sz : Int) = (sz : Int) := IntWalk.i64_in _ (by omega)
  have hd1 : decide ((sz : Int) < 8) = false := by simp; omega
  have hd2 : decide ((n : Int) < (sz : Int)) = false := by simp; omega
  go_wp2_with fail
  have hh5 := half_at E E 6 xs w5 HE5.out HB.out (by omega) (by omega)
  rw [HV6.out] at hh5
  have HH5 := hide hh5
  clear hh5
  go_wp2_with fail
  refine HH5.out.mono ?_
  rintro e w6 ⟨rfl, he6, hg6⟩
  have HE6 := hide he6
  have HG6 := hide hg6
  clear he6 hg6
  have hF6 := gb_block (gb_trans HG5.out HG6.out) HFh.out (by omega)
  have hR6 := gb_block (gb_trans HG5.out HG6.out) hRf.out (by omega)
  have HR6 := hide (row_gb HRf.out (gb_trans HG5.out HG6.out) HBE.out)
  have hB6 := hide (hBf.out.trans (grownBy_below (gb_trans HG5.out HG6.out) (show w.heap.size ≤ E by have := HRW.out; omega) hBf.out.size))
  obtain ⟨f0, f1, f2, f3, ff⟩ := four_cells hF6
  have hFl := lt_of_block hF6
  have ff2 := ff 2
  clear HG5 HG6 HEf HE5 hRf HRf hBf HFh ff
  have hckb : ((ck : Int) == 0) = true := by simp; omega
  go_wp2_with fail
  obtain ⟨w7, hq7, hF7, hR7, HR7, HE7, hB7⟩ : ∃ w7, w6.setCell ⟨F, 2, none⟩ (.bool true) = w7 ∧ w7.heap[F]? = some (.cells #[.int .u16 (p : Int), .int .u16 (q : Int), .bool true, .slice none 0 0] 63 (0, 0)) ∧ w7.heap[R]? = some (.cells #[.int .u16 0, .int .u16 0, .bool false, .slice none 0 0] 63 (0, 0)) ∧ Hid (Row .u8 w7 a xs) ∧ Hid (EyeAt w7 E E (xs.drop 8) false) ∧ Hid (Below w.heap.size w w7) := by
    refine ⟨_, rfl, four_set hF6, (Below.heap_setCell _ _ _ _ (by simp; omega)).trans hR6, ?_, hide (HE6.out.set (by omega) (by omega)), hide (hB6.out.setCell (by simpa using hwf) _)⟩
    exact hide (row_set HR6.out (fun b e => (show b.block ≠ F by have := HBF.out b e; omega)))
  rw [hq7]
  clear hq7 hF6 hR6 f0 f1 f2 f3 ff2 HE6 HR6 hB6
  obtain ⟨g0, g1, g2, g3, gf⟩ := four_cells hF7
  go_quiet (fail)
  generalize hwx : w7.drewN _ = wx
  have HE7x : Hid (EyeAt wx E E (xs.drop 8) false) := hide (by rw [← hwx]; exact HE7.out)
  have hhx : wx.heap = w7.heap := by rw [← hwx]; rfl
  have hF7x := hF7
  have hR7x := hR7
  rw [← hhx] at hF7x hR7x
  have hB7x : Hid (Below w.heap.size w wx) := hide (by rw [← hwx]; exact bdrewN hB7.out _)
  clear hwx hhx g0 g1 g2 g3 gf hF7 hR7
  have hsub : IntKind.i64.wrap ((sz : Int) - 8) = (((sz - 8 : Nat)) : Int) := by rw [IntWalk.i64_in _ (by omega)]; omega
  have hby := bytes_at E E 8 (sz - 8) xs wx HE7x.out (by omega) (by have := HL.out; omega)
  have HBY := hide hby
  clear hby
  go_wp2_with fail
  refine HBY.out.mono ?_
  rintro e w8 ⟨a8, c8, rfl, o8, he8, hg8⟩
  have hF8 := gb_block hg8 hF7x (by omega)
  have hR8 := gb_block hg8 hR7x (by omega)
  obtain ⟨m0, m1, m2, m3, mf⟩ := four_cells hF8
  obtain ⟨r0, r1, r2, r3, rf⟩ := four_cells hR8
  have hBz := hide (hB7x.out.trans (grownBy_below hg8 (show w.heap.size ≤ E by have := HRW.out; omega) hB7x.out.size))
  have hRw : w.heap.size ≤ R := by have := HRW.out; omega
  have hFlt := lt_of_block hF7x
  have hRlt := lt_of_block hR7x
  have hO8 := hide (show w8.ownsRow w.heap.size 5 1 (.slice a8 (sz - 8) c8) (sz - 8) ((((xs.drop 8).take (sz - 8))).map (Value.int .u8)) from owns_mono o8 hB7x.out.size)
  have hO8b := hide o8
  clear o8 he8 hg8 hF8 hR8
  go_wp2
  refine bodyPost_ret (v := .tuple #[.agg #[.int .u16 (p : Int), .int .u16 (q : Int), .bool true, .slice a8 (sz - 8) c8], .int .i64 0]) (by simp [results, Try.results53, go_sem, r0, r1, r2, r3, m0, m1, m2, m3]) rfl ⟨a8, c8, rfl, ?_, ?_⟩
  · refine owns_mono (base := wx.heap.size) ?_ hB7x.out.size
    repeat (with_reducible refine owns_set ?_ (by assumption))
    exact hO8b.out
  · repeat (with_reducible refine Below.setCell ?_ (by assumption) _)
    exact hBz.out

set_option maxHeartbeats 1600000 in
theorem rudp_bad (w : World) (src dst : Nat) (a : Option Addr) (xs : List Int) (n cap p q sz ck : Nat) (hr : Row .u8 w a xs) (hl : xs.length = n) (hcap : n ≤ cap) (hcap2 : cap ≤ 9223372036854775807) (hb : ∀ x ∈ xs, 0 ≤ x ∧ x ≤ 255) (h1 : 8 ≤ n) (h2 : n ≤ 1480)
    (HV0 : Hid (fld xs 0 2 = p)) (HV2 : Hid (fld xs 2 2 = q)) (HV4 : Hid (fld xs 4 2 = sz)) (HV6 : Hid (fld xs 6 2 = ck)) (hf1 : 8 ≤ sz) (hf2 : sz ≤ n) (hck : ck ≠ 0) (hsrc : src ≤ 4294967295) (hdst : dst ≤ 4294967295) (HCS : Hid ((csum (psB src dst 17 sz ++ xs.take sz) == 0) = false)) :
    Calls Try.prog 53 #[.int .u32 src, .int .u32 dst, .slice a n cap] w fun e w' => e = .returned (.tuple #[.agg #[.int .u16 0, .int .u16 0, .bool false, .slice none 0 0], .int .i64 12]) ∧ Below w.heap.size w w' := by
  have HR := hide hr
  have HLX := hl
  have hl1 : 8 ≤ xs.length := by omega
  have hl2 : xs.length ≤ 1480 := by omega
  have HL := hide hl
  have HB := hide hb
  have hp := fld_lt xs 0 2 hb
  have hq := fld_lt xs 2 2 hb
  have hs := fld_lt xs 4 2 hb
  have hk := fld_lt xs 6 2 hb
  rw [HV0.out] at hp
  rw [HV2.out] at hq
  rw [HV4.out] at hs
  rw [HV6.out] at hk
  clear hr hl hb HLX
  go_enter Try.func53, Try.ntmps53
  go_wp2_with fail
  refine (fit_ok n 8 _ h1 h2).mono ?_
  rintro e wz ⟨rfl, rfl⟩
  go_wp2_with fail
  obtain ⟨R, wq, hR, hq1, hbel, hRh⟩ : ∃ R wq, w.heap.size = R ∧ w.alloc (.cells #[.int .u16 0, .int .u16 0, .bool false, .slice none 0 0] 63) = wq ∧ Below w.heap.size w wq ∧ wq.heap[R]? = some (.cells #[.int .u16 0, .int .u16 0, .bool false, .slice none 0 0] 63 (0, 0)) :=
    ⟨_, _, rfl, rfl, (Below.refl _ _).alloc (Nat.le_refl _) _, heap_alloc_new w _⟩
  rw [hq1, hR]
  have HRW := hide hR
  have HRq := hide (HR.out.below hbel (Nat.le_refl _))
  clear hq1 hR
  have hne := newEye_any a xs cap wq HRq.out (by omega)
  rw [HL.out] at hne
  have HNE := hide hne
  clear hne
  refine HNE.out.mono ?_
  rintro e w1 ⟨E, rfl, hE, heye, hb1⟩
  have hRE : R < E := Nat.lt_of_lt_of_le (lt_of_block hRh) hE
  have hR1 := hide (below_block hb1 hRh (Nat.le_refl _))
  have hB1 := hide (hbel.trans (hb1.mono hbel.size))
  have HR1 := hide (HRq.out.below hb1 (Nat.le_refl _))
  have HE1 := hide (show EyeAt w1 E E (xs.drop 0) false by simpa using heye)
  have hbE : ∀ b, a = some b → xs ≠ [] → b.block < wq.heap.size := by
    rintro b rfl hne
    obtain ⟨b', off, e, hlt, _⟩ := HRq.out hne
    cases e; exact hlt
  have hxne : xs ≠ [] := by intro e; rw [e] at hl1; simp at hl1
  have HBE := hide (fun b (e : a = some b) => (show b.block ≠ E by have := hbE b e hxne; omega))
  have HBF := hide (fun b (e : a = some b) => (show b.block < E by have := hbE b e hxne; omega))
  clear hbel hRh heye hb1 hE hbE hxne
  have hh1 := half_at E E 0 xs w1 HE1.out HB.out (by omega) (by omega)
  rw [HV0.out] at hh1
  have HH1 := hide hh1
  clear hh1
  go_wp2_with fail
  refine HH1.out.mono ?_
  rintro e w2 ⟨rfl, he2, hg2⟩
  have HE2 := hide he2
  have HG2 := hide hg2
  clear he2 hg2
  have hh2 := half_at E E 2 xs w2 HE2.out HB.out (by omega) (by omega)
  rw [HV2.out] at hh2
  have HH2 := hide hh2
  clear hh2
  go_wp2_with fail
  refine HH2.out.mono ?_
  rintro e w3 ⟨rfl, he3, hg3⟩
  have HE3 := hide he3
  have HG3 := hide hg3
  clear he3 hg3
  go_wp2_with fail
  obtain ⟨F, wf, hF, hq1, hbf, hFh⟩ : ∃ F wf, w3.heap.size = F ∧ w3.alloc (.cells #[.int .u16 (p : Int), .int .u16 (q : Int), .bool false, .slice none 0 0] 63) = wf ∧ Below w3.heap.size w3 wf ∧ wf.heap[F]? = some (.cells #[.int .u16 (p : Int), .int .u16 (q : Int), .bool false, .slice none 0 0] 63 (0, 0)) :=
    ⟨_, _, rfl, rfl, (Below.refl _ _).alloc (Nat.le_refl _) _, heap_alloc_new w3 _⟩
  rw [hq1, hF]
  have hEF : E < F := by have := HE3.out.lt; omega
  have HEf := hide (HE3.out.below hbf (Nat.le_refl _))
  have hG13 := gb_trans HG2.out HG3.out
  have hG1f := gb_trans hG13 (gb_of_below hbf)
  have hRf := hide (gb_block hG1f hR1.out (by omega))
  have HRf := hide (row_gb HR1.out hG1f HBE.out)
  have hB0 := hB1.out
  have hBf := hide (hB0.trans (grownBy_below hG1f (show w.heap.size ≤ E by have := HRW.out; omega) hB0.size))
  have HFh := hide hFh
  have hwf : w.heap.size ≤ F := by have := HRW.out; omega
  clear hq1 hF hbf hFh hG13 hG1f hB0 HE1 HE2 HE3 HG2 HG3 hR1 HR1 hB1
  have hh4 := half_at E E 4 xs wf HEf.out HB.out (by omega) (by omega)
  rw [HV4.out] at hh4
  have HHf := hide hh4
  clear hh4
  go_wp2_with fail
  refine HHf.out.mono ?_
  rintro e w5 ⟨rfl, he5, hg5⟩
  have HE5 := hide he5
  have HG5 := hide hg5
  clear he5 hg5
  have hcs : IntKind.i64.wrap (sz : Int) = (sz : Int) := IntWalk.i64_in _ (by omega)
  have hd1 : decide ((sz : Int) < 8) = false := by simp; omega
  have hd2 : decide ((n : Int) < (sz : Int)) = false := by simp; omega
  go_wp2_with fail
  have hh5 := half_at E E 6 xs w5 HE5.out HB.out (by omega) (by omega)
  rw [HV6.out] at hh5
  have HH5 := hide hh5
  clear hh5
  go_wp2_with fail
  refine HH5.out.mono ?_
  rintro e w6 ⟨rfl, he6, hg6⟩
  have HE6 := hide he6
  have HG6 := hide hg6
  clear he6 hg6
  have hF6 := gb_block (gb_trans HG5.out HG6.out) HFh.out (by omega)
  have hR6 := gb_block (gb_trans HG5.out HG6.out) hRf.out (by omega)
  have HR6 := hide (row_gb HRf.out (gb_trans HG5.out HG6.out) HBE.out)
  have hB6 := hide (hBf.out.trans (grownBy_below (gb_trans HG5.out HG6.out) (show w.heap.size ≤ E by have := HRW.out; omega) hBf.out.size))
  obtain ⟨f0, f1, f2, f3, ff⟩ := four_cells hF6
  have hFl := lt_of_block hF6
  have ff2 := ff 2
  clear HG5 HG6 HEf HE5 hRf HRf hBf HFh ff
  have hckb : ((ck : Int) == 0) = false := by simp; omega
  go_wp2_with fail
  obtain ⟨w7, hq7, hF7, hR7, HR7, HE7, hB7⟩ : ∃ w7, w6.setCell ⟨F, 2, none⟩ (.bool false) = w7 ∧ w7.heap[F]? = some (.cells #[.int .u16 (p : Int), .int .u16 (q : Int), .bool false, .slice none 0 0] 63 (0, 0)) ∧ w7.heap[R]? = some (.cells #[.int .u16 0, .int .u16 0, .bool false, .slice none 0 0] 63 (0, 0)) ∧ Hid (Row .u8 w7 a xs) ∧ Hid (EyeAt w7 E E (xs.drop 8) false) ∧ Hid (Below w.heap.size w w7) := by
    refine ⟨_, rfl, four_set hF6, (Below.heap_setCell _ _ _ _ (by simp; omega)).trans hR6, ?_, hide (HE6.out.set (by omega) (by omega)), hide (hB6.out.setCell (by simpa using hwf) _)⟩
    exact hide (row_set HR6.out (fun b e => (show b.block ≠ F by have := HBF.out b e; omega)))
  rw [hq7]
  clear hq7 hF6 hR6 f0 f1 f2 f3 ff2 HE6 HR6 hB6
  obtain ⟨g0, g1, g2, g3, gf⟩ := four_cells hF7
  obtain ⟨b0, o0, rfl, _, _⟩ := HR7.out.at (i := 0) (by omega)
  have hsz1 : (0 : Int) ≤ (sz : Int) := by omega
  have hsz2 : (sz : Int) ≤ (cap : Int) := by omega
  have HPS := hide (fun W => pseudo17_any src dst sz W hsrc hdst (by omega))
  have HTL := hide (show (xs.take sz).length = sz by rw [List.length_take]; have := HL.out; omega)
  have HRT := hide (fun (w8 : World) (a8 : Option Addr) (c8 : Nat) (hrows : Rows w8 [(a8, psB src dst 17 sz, c8), (some ⟨b0, o0, none⟩, xs.take sz, cap)]) => (show Calls Try.prog 67 #[.slice (some ⟨w8.heap.size, 0, none⟩) 2 2] (w8.alloc (.cells #[.slice a8 12 c8, .slice (some ⟨b0, o0, none⟩) sz cap] 25)) fun e w' => e = .returned (.bool false) ∧ Below w8.heap.size w8 w' by
    have hfl : flat [(a8, psB src dst 17 sz, c8), (some ⟨b0, o0, none⟩, xs.take sz, cap)] = psB src dst 17 sz ++ xs.take sz := by simp [flat]
    have h := rightL w8 [(a8, psB src dst 17 sz, c8), (some ⟨b0, o0, none⟩, xs.take sz, cap)] #[.slice a8 12 c8, .slice (some ⟨b0, o0, none⟩) sz cap] 2 _ rfl rfl (by rw [List.map_cons, List.map_cons, List.map_nil]; simp only [Part.v, psB_len, HTL.out]) hrows (by rw [hfl, List.length_append, psB_len, HTL.out]; omega)
      (by rw [hfl]; intro x hx; rcases List.mem_append.1 hx with h | h; exact psB_rng _ _ _ _ (by omega) x h; exact HB.out x (List.mem_of_mem_take h)) (by omega)
    rw [hfl, HCS.out] at h
    exact h))
  have hFl7 := lt_of_block hF7
  have HF7 := hide hF7
  have HR7b := hide hR7
  clear hF7 hR7 g0 g1 g3 gf
  go_region_held3 (fun w' => w'.cell? ⟨F, 2, none⟩ = some (.bool false)) (go_keep) (first
    | (go_at_call 81; (with_reducible refine (HPS.out _).mono ?_); rintro e w8 ⟨a8, c8, rfl, o8, b8⟩; have k82 := (bcell b8 F 2 hFl7).trans g2; have hb78 : Below w7.heap.size w7 w8 := below_of_drew b8; have B8 := hide hb78; have HN8 := hide (none_cap o8); have O8 := hide (Row.of_owns o8); have hFl8 : F < w8.heap.size := Nat.lt_of_lt_of_le hFl7 hb78.size;
        have hrows := hide (rows_cons (c := c8) O8.out HN8.out (rows_some (c := cap) ((row_take HR7.out sz).below B8.out (Nat.le_refl _)) (rows_nil w8))); clear o8 b8 hb78)
    | (go_at_call 67; (with_reducible refine (HRT.out w8 a8 c8 hrows.out).mono ?_); rintro e w9 ⟨rfl, b9⟩; have k92 := (bcell b9 F 2 hFl8).trans k82; have B9 := hide b9; clear b9 k82))
  have hb79 := B8.out.trans (B9.out.mono B8.out.size)
  have HE7x := hide (HE7.out.below hb79 (Nat.le_refl _))
  have hF7x := below_block hb79 HF7.out (Nat.le_refl _)
  have hR7x := below_block hb79 HR7b.out (Nat.le_refl _)
  have hB7x := hide (hB7.out.trans (hb79.mono hB7.out.size))
  clear hb79 k92 g2 hrows
  obtain ⟨r0, r1, r2, r3, rf⟩ := four_cells hR7x
  have hBz := hB7x
  have hRw : w.heap.size ≤ R := by have := HRW.out; omega
  have hRlt := lt_of_block hR7x
  clear hF7x hR7x
  go_wp2
  refine bodyPost_ret (v := .tuple #[.agg #[.int .u16 0, .int .u16 0, .bool false, .slice none 0 0], .int .i64 12]) (by simp [results, Try.results53, go_sem, r0, r1, r2, r3]) rfl ⟨rfl, ?_⟩
  repeat (with_reducible refine Below.setCell ?_ (by assumption) _)
  exact hBz.out

set_option maxHeartbeats 1600000 in
theorem rudp_ok (w : World) (src dst : Nat) (a : Option Addr) (xs : List Int) (n cap p q sz ck : Nat) (hr : Row .u8 w a xs) (hl : xs.length = n) (hcap : n ≤ cap) (hcap2 : cap ≤ 9223372036854775807) (hb : ∀ x ∈ xs, 0 ≤ x ∧ x ≤ 255) (h1 : 8 ≤ n) (h2 : n ≤ 1480)
    (HV0 : Hid (fld xs 0 2 = p)) (HV2 : Hid (fld xs 2 2 = q)) (HV4 : Hid (fld xs 4 2 = sz)) (HV6 : Hid (fld xs 6 2 = ck)) (hf1 : 8 ≤ sz) (hf2 : sz ≤ n) (hck : ck ≠ 0) (hsrc : src ≤ 4294967295) (hdst : dst ≤ 4294967295) (HCS : Hid ((csum (psB src dst 17 sz ++ xs.take sz) == 0) = true)) :
    Calls Try.prog 53 #[.int .u32 src, .int .u32 dst, .slice a n cap] w fun e w' => ∃ a' c, e = .returned (.tuple #[.agg #[.int .u16 (p : Int), .int .u16 (q : Int), .bool false, .slice a' (sz - 8) c], .int .i64 0]) ∧ w'.ownsRow w.heap.size 5 1 (.slice a' (sz - 8) c) (sz - 8) (((xs.drop 8).take (sz - 8)).map (Value.int .u8)) ∧ Below w.heap.size w w' := by
  have HR := hide hr
  have HLX := hl
  have hl1 : 8 ≤ xs.length := by omega
  have hl2 : xs.length ≤ 1480 := by omega
  have HL := hide hl
  have HB := hide hb
  have hp := fld_lt xs 0 2 hb
  have hq := fld_lt xs 2 2 hb
  have hs := fld_lt xs 4 2 hb
  have hk := fld_lt xs 6 2 hb
  rw [HV0.out] at hp
  rw [HV2.out] at hq
  rw [HV4.out] at hs
  rw [HV6.out] at hk
  clear hr hl hb HLX
  go_enter Try.func53, Try.ntmps53
  go_wp2_with fail
  refine (fit_ok n 8 _ h1 h2).mono ?_
  rintro e wz ⟨rfl, rfl⟩
  go_wp2_with fail
  obtain ⟨R, wq, hR, hq1, hbel, hRh⟩ : ∃ R wq, w.heap.size = R ∧ w.alloc (.cells #[.int .u16 0, .int .u16 0, .bool false, .slice none 0 0] 63) = wq ∧ Below w.heap.size w wq ∧ wq.heap[R]? = some (.cells #[.int .u16 0, .int .u16 0, .bool false, .slice none 0 0] 63 (0, 0)) :=
    ⟨_, _, rfl, rfl, (Below.refl _ _).alloc (Nat.le_refl _) _, heap_alloc_new w _⟩
  rw [hq1, hR]
  have HRW := hide hR
  have HRq := hide (HR.out.below hbel (Nat.le_refl _))
  clear hq1 hR
  have hne := newEye_any a xs cap wq HRq.out (by omega)
  rw [HL.out] at hne
  have HNE := hide hne
  clear hne
  refine HNE.out.mono ?_
  rintro e w1 ⟨E, rfl, hE, heye, hb1⟩
  have hRE : R < E := Nat.lt_of_lt_of_le (lt_of_block hRh) hE
  have hR1 := hide (below_block hb1 hRh (Nat.le_refl _))
  have hB1 := hide (hbel.trans (hb1.mono hbel.size))
  have HR1 := hide (HRq.out.below hb1 (Nat.le_refl _))
  have HE1 := hide (show EyeAt w1 E E (xs.drop 0) false by simpa using heye)
  have hbE : ∀ b, a = some b → xs ≠ [] → b.block < wq.heap.size := by
    rintro b rfl hne
    obtain ⟨b', off, e, hlt, _⟩ := HRq.out hne
    cases e; exact hlt
  have hxne : xs ≠ [] := by intro e; rw [e] at hl1; simp at hl1
  have HBE := hide (fun b (e : a = some b) => (show b.block ≠ E by have := hbE b e hxne; omega))
  have HBF := hide (fun b (e : a = some b) => (show b.block < E by have := hbE b e hxne; omega))
  clear hbel hRh heye hb1 hE hbE hxne
  have hh1 := half_at E E 0 xs w1 HE1.out HB.out (by omega) (by omega)
  rw [HV0.out] at hh1
  have HH1 := hide hh1
  clear hh1
  go_wp2_with fail
  refine HH1.out.mono ?_
  rintro e w2 ⟨rfl, he2, hg2⟩
  have HE2 := hide he2
  have HG2 := hide hg2
  clear he2 hg2
  have hh2 := half_at E E 2 xs w2 HE2.out HB.out (by omega) (by omega)
  rw [HV2.out] at hh2
  have HH2 := hide hh2
  clear hh2
  go_wp2_with fail
  refine HH2.out.mono ?_
  rintro e w3 ⟨rfl, he3, hg3⟩
  have HE3 := hide he3
  have HG3 := hide hg3
  clear he3 hg3
  go_wp2_with fail
  obtain ⟨F, wf, hF, hq1, hbf, hFh⟩ : ∃ F wf, w3.heap.size = F ∧ w3.alloc (.cells #[.int .u16 (p : Int), .int .u16 (q : Int), .bool false, .slice none 0 0] 63) = wf ∧ Below w3.heap.size w3 wf ∧ wf.heap[F]? = some (.cells #[.int .u16 (p : Int), .int .u16 (q : Int), .bool false, .slice none 0 0] 63 (0, 0)) :=
    ⟨_, _, rfl, rfl, (Below.refl _ _).alloc (Nat.le_refl _) _, heap_alloc_new w3 _⟩
  rw [hq1, hF]
  have hEF : E < F := by have := HE3.out.lt; omega
  have HEf := hide (HE3.out.below hbf (Nat.le_refl _))
  have hG13 := gb_trans HG2.out HG3.out
  have hG1f := gb_trans hG13 (gb_of_below hbf)
  have hRf := hide (gb_block hG1f hR1.out (by omega))
  have HRf := hide (row_gb HR1.out hG1f HBE.out)
  have hB0 := hB1.out
  have hBf := hide (hB0.trans (grownBy_below hG1f (show w.heap.size ≤ E by have := HRW.out; omega) hB0.size))
  have HFh := hide hFh
  have hwf : w.heap.size ≤ F := by have := HRW.out; omega
  clear hq1 hF hbf hFh hG13 hG1f hB0 HE1 HE2 HE3 HG2 HG3 hR1 HR1 hB1
  have hh4 := half_at E E 4 xs wf HEf.out HB.out (by omega) (by omega)
  rw [HV4.out] at hh4
  have HHf := hide hh4
  clear hh4
  go_wp2_with fail
  refine HHf.out.mono ?_
  rintro e w5 ⟨rfl, he5, hg5⟩
  have HE5 := hide he5
  have HG5 := hide hg5
  clear he5 hg5
  have hcs : IntKind.i64.wrap (sz : Int) = (sz : Int) := IntWalk.i64_in _ (by omega)
  have hd1 : decide ((sz : Int) < 8) = false := by simp; omega
  have hd2 : decide ((n : Int) < (sz : Int)) = false := by simp; omega
  go_wp2_with fail
  have hh5 := half_at E E 6 xs w5 HE5.out HB.out (by omega) (by omega)
  rw [HV6.out] at hh5
  have HH5 := hide hh5
  clear hh5
  go_wp2_with fail
  refine HH5.out.mono ?_
  rintro e w6 ⟨rfl, he6, hg6⟩
  have HE6 := hide he6
  have HG6 := hide hg6
  clear he6 hg6
  have hF6 := gb_block (gb_trans HG5.out HG6.out) HFh.out (by omega)
  have hR6 := gb_block (gb_trans HG5.out HG6.out) hRf.out (by omega)
  have HR6 := hide (row_gb HRf.out (gb_trans HG5.out HG6.out) HBE.out)
  have hB6 := hide (hBf.out.trans (grownBy_below (gb_trans HG5.out HG6.out) (show w.heap.size ≤ E by have := HRW.out; omega) hBf.out.size))
  obtain ⟨f0, f1, f2, f3, ff⟩ := four_cells hF6
  have hFl := lt_of_block hF6
  have ff2 := ff 2
  clear HG5 HG6 HEf HE5 hRf HRf hBf HFh ff
  have hckb : ((ck : Int) == 0) = false := by simp; omega
  go_wp2_with fail
  obtain ⟨w7, hq7, hF7, hR7, HR7, HE7, hB7⟩ : ∃ w7, w6.setCell ⟨F, 2, none⟩ (.bool false) = w7 ∧ w7.heap[F]? = some (.cells #[.int .u16 (p : Int), .int .u16 (q : Int), .bool false, .slice none 0 0] 63 (0, 0)) ∧ w7.heap[R]? = some (.cells #[.int .u16 0, .int .u16 0, .bool false, .slice none 0 0] 63 (0, 0)) ∧ Hid (Row .u8 w7 a xs) ∧ Hid (EyeAt w7 E E (xs.drop 8) false) ∧ Hid (Below w.heap.size w w7) := by
    refine ⟨_, rfl, four_set hF6, (Below.heap_setCell _ _ _ _ (by simp; omega)).trans hR6, ?_, hide (HE6.out.set (by omega) (by omega)), hide (hB6.out.setCell (by simpa using hwf) _)⟩
    exact hide (row_set HR6.out (fun b e => (show b.block ≠ F by have := HBF.out b e; omega)))
  rw [hq7]
  clear hq7 hF6 hR6 f0 f1 f2 f3 ff2 HE6 HR6 hB6
  obtain ⟨g0, g1, g2, g3, gf⟩ := four_cells hF7
  obtain ⟨b0, o0, rfl, _, _⟩ := HR7.out.at (i := 0) (by omega)
  have hsz1 : (0 : Int) ≤ (sz : Int) := by omega
  have hsz2 : (sz : Int) ≤ (cap : Int) := by omega
  have HPS := hide (fun W => pseudo17_any src dst sz W hsrc hdst (by omega))
  have HTL := hide (show (xs.take sz).length = sz by rw [List.length_take]; have := HL.out; omega)
  have HRT := hide (fun (w8 : World) (a8 : Option Addr) (c8 : Nat) (hrows : Rows w8 [(a8, psB src dst 17 sz, c8), (some ⟨b0, o0, none⟩, xs.take sz, cap)]) => (show Calls Try.prog 67 #[.slice (some ⟨w8.heap.size, 0, none⟩) 2 2] (w8.alloc (.cells #[.slice a8 12 c8, .slice (some ⟨b0, o0, none⟩) sz cap] 25)) fun e w' => e = .returned (.bool true) ∧ Below w8.heap.size w8 w' by
    have hfl : flat [(a8, psB src dst 17 sz, c8), (some ⟨b0, o0, none⟩, xs.take sz, cap)] = psB src dst 17 sz ++ xs.take sz := by simp [flat]
    have h := rightL w8 [(a8, psB src dst 17 sz, c8), (some ⟨b0, o0, none⟩, xs.take sz, cap)] #[.slice a8 12 c8, .slice (some ⟨b0, o0, none⟩) sz cap] 2 _ rfl rfl (by rw [List.map_cons, List.map_cons, List.map_nil]; simp only [Part.v, psB_len, HTL.out]) hrows (by rw [hfl, List.length_append, psB_len, HTL.out]; omega)
      (by rw [hfl]; intro x hx; rcases List.mem_append.1 hx with h | h; exact psB_rng _ _ _ _ (by omega) x h; exact HB.out x (List.mem_of_mem_take h)) (by omega)
    rw [hfl, HCS.out] at h
    exact h))
  have hFl7 := lt_of_block hF7
  have HF7 := hide hF7
  have HR7b := hide hR7
  clear hF7 hR7 g0 g1 g3 gf
  go_region_held3 (fun w' => w'.cell? ⟨F, 2, none⟩ = some (.bool false)) (go_keep) (first
    | (go_at_call 81; (with_reducible refine (HPS.out _).mono ?_); rintro e w8 ⟨a8, c8, rfl, o8, b8⟩; have k82 := (bcell b8 F 2 hFl7).trans g2; have hb78 : Below w7.heap.size w7 w8 := below_of_drew b8; have B8 := hide hb78; have HN8 := hide (none_cap o8); have O8 := hide (Row.of_owns o8); have hFl8 : F < w8.heap.size := Nat.lt_of_lt_of_le hFl7 hb78.size;
        have hrows := hide (rows_cons (c := c8) O8.out HN8.out (rows_some (c := cap) ((row_take HR7.out sz).below B8.out (Nat.le_refl _)) (rows_nil w8))); clear o8 b8 hb78)
    | (go_at_call 67; (with_reducible refine (HRT.out w8 a8 c8 hrows.out).mono ?_); rintro e w9 ⟨rfl, b9⟩; have k92 := (bcell b9 F 2 hFl8).trans k82; have B9 := hide b9; clear b9 k82))
  have hb79 := B8.out.trans (B9.out.mono B8.out.size)
  have HE7x := hide (HE7.out.below hb79 (Nat.le_refl _))
  have hF7x := below_block hb79 HF7.out (Nat.le_refl _)
  have hR7x := below_block hb79 HR7b.out (Nat.le_refl _)
  have hB7x := hide (hB7.out.trans (hb79.mono hB7.out.size))
  clear hb79 k92 g2 hrows
  have hsub : IntKind.i64.wrap ((sz : Int) - 8) = (((sz - 8 : Nat)) : Int) := by rw [IntWalk.i64_in _ (by omega)]; omega
  have hby := bytes_at E E 8 (sz - 8) xs w9 HE7x.out (by omega) (by have := HL.out; omega)
  have HBY := hide hby
  clear hby
  go_wp2_with fail
  refine HBY.out.mono ?_
  rintro e w8 ⟨a8, c8, rfl, o8, he8, hg8⟩
  have hF8 := gb_block hg8 hF7x (by omega)
  have hR8 := gb_block hg8 hR7x (by omega)
  obtain ⟨m0, m1, m2, m3, mf⟩ := four_cells hF8
  obtain ⟨r0, r1, r2, r3, rf⟩ := four_cells hR8
  have hBz := hide (hB7x.out.trans (grownBy_below hg8 (show w.heap.size ≤ E by have := HRW.out; omega) hB7x.out.size))
  have hRw : w.heap.size ≤ R := by have := HRW.out; omega
  have hFlt := lt_of_block hF7x
  have hRlt := lt_of_block hR7x
  have hO8 := hide (show w8.ownsRow w.heap.size 5 1 (.slice a8 (sz - 8) c8) (sz - 8) ((((xs.drop 8).take (sz - 8))).map (Value.int .u8)) from owns_mono o8 hB7x.out.size)
  have hO8b := hide o8
  clear o8 he8 hg8 hF8 hR8
  go_wp2
  refine bodyPost_ret (v := .tuple #[.agg #[.int .u16 (p : Int), .int .u16 (q : Int), .bool false, .slice a8 (sz - 8) c8], .int .i64 0]) (by simp [results, Try.results53, go_sem, r0, r1, r2, r3, m0, m1, m2, m3]) rfl ⟨a8, c8, rfl, ?_, ?_⟩
  · refine owns_mono (base := w9.heap.size) ?_ hB7x.out.size
    repeat (with_reducible refine owns_set ?_ (by assumption))
    exact hO8b.out
  · repeat (with_reducible refine Below.setCell ?_ (by assumption) _)
    exact hBz.out
end Go.Proofs.Ytgggcapgaikbeaa

/- The number of a number's bytes, and texts of such bytes: plain facts on lists. -/
namespace Go.Proofs.Ytgggcapgaikbeaa
theorem foldl_val (xs : List Int) (a : Int) : xs.foldl (fun a x => 256 * a + x) a = a * 256 ^ xs.length + xs.foldl (fun a x => 256 * a + x) 0 := by
  induction xs generalizing a with
  | nil => simp
  | cons x r ih =>
    rw [List.foldl_cons, ih, List.foldl_cons, ih (256 * 0 + x), List.length_cons, Int.pow_succ]
    rw [Int.add_mul, Int.add_mul, Int.mul_comm 256 a, Int.mul_assoc a 256, Int.mul_comm 256 (256 ^ r.length)]
    simp [Int.add_assoc]
theorem valB_cons (x : Int) (xs : List Int) : valB (x :: xs) = x * 256 ^ xs.length + valB xs := by
  rw [valB, List.foldl_cons, foldl_val, valB]; simp
theorem numB_cons (k n : Nat) : numB (k + 1) n = byteAt n k :: numB k n := by
  unfold numB
  rw [List.range_succ_eq_map]
  simp
  intro i hi
  congr 1; omega
theorem valB_numB (L n : Nat) : valB (numB L n) = ((n % 256 ^ L : Nat) : Int) := by
  induction L with
  | zero => simp [numB, valB, Nat.mod_one]
  | succ L ih =>
    rw [numB_cons, valB_cons, ih, numB_len, Nat.pow_succ, Nat.mod_mul, byteAt]
    rw [Int.natCast_add, Int.natCast_mul, Int.natCast_pow, Int.mul_comm, Int.add_comm]
    rfl
/-- Numbers' bytes, one number behind the other. -/
def encL (L : Nat) (ns : List Nat) : List Int := ns.flatMap (numB L)
theorem encL_len (L : Nat) (ns : List Nat) : (encL L ns).length = L * ns.length := by
  induction ns with
  | nil => rfl
  | cons n r ih => simp [encL, numB_len] at ih ⊢; rw [ih, Nat.mul_add]; omega
theorem encL_snoc (L : Nat) (ns : List Nat) (k : Nat) (hk : k < ns.length) : encL L (ns.take (k + 1)) = encL L (ns.take k) ++ numB L (ns[k]?.getD 0) := by
  rw [List.take_add_one, List.getElem?_eq_getElem hk, encL, List.flatMap_append]
  simp [encL]
theorem encL_rng (L : Nat) (ns : List Nat) : ∀ x ∈ encL L ns, 0 ≤ x ∧ x ≤ 255 := by
  intro x hx
  simp [encL] at hx
  obtain ⟨n, _, hx⟩ := hx
  exact numB_rng L n x hx
theorem encL_drop (L : Nat) (ns : List Nat) (k : Nat) (hk : k < ns.length) : encL L (ns.drop k) = numB L (ns[k]?.getD 0) ++ encL L (ns.drop (k + 1)) := by
  rw [List.drop_eq_getElem_cons hk, List.getElem?_eq_getElem hk, encL, List.flatMap_cons]
  rfl
theorem and64 (n j : Nat) (hj : j ≤ 7) (hn : n < 18446744073709551616) : bits .and .u64 (n : Int) (256 ^ j - 1) = ((n % 256 ^ j : Nat) : Int) := by
  have h := bits_mask .u64 64 (by decide) wraps_u64 (8 * j) (by omega) (n : Int) (by omega) (by omega)
  have e : (2 : Int) ^ (8 * j) = 256 ^ j := by rw [Int.pow_mul]; rfl
  rw [e] at h
  rw [h, Int.natCast_emod, Int.natCast_pow]
  rfl
theorem pow7 (j : Nat) (hj : j ≤ 7) : (256 : Int) ^ j ≤ 72057594037927936 := by
  rcases (show j = 0 ∨ j = 1 ∨ j = 2 ∨ j = 3 ∨ j = 4 ∨ j = 5 ∨ j = 6 ∨ j = 7 by omega) with rfl | rfl | rfl | rfl | rfl | rfl | rfl | rfl <;> decide
theorem and64w (n j : Nat) (hj : j ≤ 7) (hn : n < 18446744073709551616) : bits .and .u64 (n : Int) (IntKind.u64.wrap (IntKind.u64.wrap (2 ^ (8 * j)) - 1)) = ((n % 256 ^ j : Nat) : Int) := by
  have e : (2 : Int) ^ (8 * j) = 256 ^ j := by rw [Int.pow_mul]; rfl
  have h1 : (0 : Int) < 256 ^ j := Int.pow_pos (by decide)
  have h2 := pow7 j hj
  rw [e, wraps_u64 (256 ^ j) (by omega) (by omega), wraps_u64 _ (by omega) (by omega)]
  exact and64 n j hj hn
end Go.Proofs.Ytgggcapgaikbeaa

/- The bytes of datagrams and their sums: plain facts. -/
namespace Go.Proofs.Ytgggcapgaikbeaa
open Go.RowKit
set_option linter.unusedVariables false
theorem psum_num2 (n : Nat) (h : n ≤ 65535) : psum (numB 2 n) = n := by
  have h1 : numB 2 n = [byteAt n 1, byteAt n 0] := rfl
  rw [h1, psum_pair]; unfold byteAt; simp; omega
theorem psum_num4 (n : Nat) (h : n ≤ 4294967295) : psum (numB 4 n) = ((n / 65536 + n % 65536 : Nat) : Int) := by
  have h1 : numB 4 n = [byteAt n 3, byteAt n 2] ++ [byteAt n 1, byteAt n 0] := rfl
  rw [h1, psum_append _ _ (by simp), psum_pair, psum_pair]
  unfold byteAt
  simp
  omega
/-- Two addresses' numbers of two bytes. -/
def wrds (x y : Nat) : Nat := x / 65536 + x % 65536 + (y / 65536 + y % 65536)
theorem psum_ps (s d p n : Nat) (h1 : s ≤ 4294967295) (h2 : d ≤ 4294967295) (h3 : p ≤ 255) (h4 : n ≤ 65535) : psum (psB s d p n) = ((wrds s d + p + n : Nat) : Int) := by
  unfold psB
  rw [psum_append _ _ (by rw [numB_len]), psum_append _ _ (by rw [numB_len]), psum_append _ _ (by simp), psum_num4 _ h1, psum_num4 _ h2, psum_num2 _ h4, psum_pair]
  unfold wrds
  omega
/-- A datagram's bytes with k in its check sum's place. -/
def udpG (p q : Nat) (xs : List Int) (k : Nat) : List Int := numB 2 p ++ (numB 2 q ++ (numB 2 (8 + xs.length) ++ (numB 2 k ++ xs)))
theorem udpZ_G (p q : Nat) (xs : List Int) : udpZ p q xs = udpG p q xs 0 := rfl
theorem spl_G (p q : Nat) (xs : List Int) (k m : Nat) : spl (udpG p q xs k) 6 (numB 2 m) = udpG p q xs m := by
  have e : ∀ j, udpG p q xs j = (numB 2 p ++ (numB 2 q ++ numB 2 (8 + xs.length))) ++ (numB 2 j ++ xs) := fun j => by simp [udpG]
  have l6 : (numB 2 p ++ (numB 2 q ++ numB 2 (8 + xs.length))).length = 6 := by simp [numB_len]
  unfold spl
  rw [e k, numB_len, List.take_left' l6, List.drop_append, l6]
  have l8 : List.drop (6 + 2) (numB 2 p ++ (numB 2 q ++ numB 2 (8 + xs.length))) = [] := List.drop_eq_nil_of_le (by rw [l6]; omega)
  rw [l8, List.nil_append, show 6 + 2 - 6 = 2 from rfl, List.drop_left' (numB_len 2 k), e m, List.append_assoc]
theorem udpS_G (s d p q : Nat) (xs : List Int) : udpS s d p q xs = udpG p q xs (udpK s d p q xs).toNat := by unfold udpS; rw [udpZ_G, spl_G]
theorem udpG_len (p q : Nat) (xs : List Int) (k : Nat) : (udpG p q xs k).length = 8 + xs.length := by simp [udpG, numB_len]; omega
theorem udpG_rng (p q : Nat) (xs : List Int) (k : Nat) (hb : ∀ x ∈ xs, 0 ≤ x ∧ x ≤ 255) : ∀ x ∈ udpG p q xs k, 0 ≤ x ∧ x ≤ 255 := by
  intro x hx
  simp only [udpG, List.mem_append] at hx
  rcases hx with h | h | h | h | h
  · exact numB_rng _ _ x h
  · exact numB_rng _ _ x h
  · exact numB_rng _ _ x h
  · exact numB_rng _ _ x h
  · exact hb x h
theorem udpG_psum (p q : Nat) (xs : List Int) (k : Nat) (hp : p ≤ 65535) (hq : q ≤ 65535) (hk : k ≤ 65535) (hx : xs.length ≤ 60000) : psum (udpG p q xs k) = ((p + q + (8 + xs.length) + k : Nat) : Int) + psum xs := by
  unfold udpG
  rw [psum_append _ _ (by rw [numB_len]), psum_append _ _ (by rw [numB_len]), psum_append _ _ (by rw [numB_len]), psum_append _ _ (by rw [numB_len]), psum_num2 _ hp, psum_num2 _ hq, psum_num2 _ hk, psum_num2 _ (by omega)]
  push_cast
  omega
theorem take_num (k n : Nat) (r : List Int) : (numB k n ++ r).take k = numB k n := List.take_left' (numB_len k n)
theorem drop_num (k n : Nat) (r : List Int) : (numB k n ++ r).drop k = r := List.drop_left' (numB_len k n)
theorem fld_num (k n : Nat) (r : List Int) (h : n < 256 ^ k) : fld (numB k n ++ r) 0 k = n := by
  unfold fld
  rw [List.drop_zero, take_num, valB_numB, Nat.mod_eq_of_lt h, Int.toNat_natCast]
theorem fld_skip (l r : List Int) (K j k : Nat) (h : l.length = j) : fld (l ++ r) (j + K) k = fld r K k := by
  unfold fld
  rw [← List.drop_drop, List.drop_left' h]
theorem udpG_0 (p q : Nat) (xs : List Int) (k : Nat) (hp : p ≤ 65535) : fld (udpG p q xs k) 0 2 = p := fld_num 2 p _ (by omega)
theorem udpG_2 (p q : Nat) (xs : List Int) (k : Nat) (hq : q ≤ 65535) : fld (udpG p q xs k) 2 2 = q := by
  unfold udpG; rw [fld_skip _ _ 0 2 2 (numB_len _ _), fld_num 2 q _ (by omega)]
theorem udpG_4 (p q : Nat) (xs : List Int) (k : Nat) (hx : xs.length ≤ 60000) : fld (udpG p q xs k) 4 2 = 8 + xs.length := by
  unfold udpG; rw [fld_skip _ _ 2 2 2 (numB_len _ _), fld_skip _ _ 0 2 2 (numB_len _ _), fld_num 2 _ _ (by omega)]
theorem udpG_6 (p q : Nat) (xs : List Int) (k : Nat) (hk : k ≤ 65535) : fld (udpG p q xs k) 6 2 = k := by
  unfold udpG; rw [fld_skip _ _ 4 2 2 (numB_len _ _), fld_skip _ _ 2 2 2 (numB_len _ _), fld_skip _ _ 0 2 2 (numB_len _ _), fld_num 2 k _ (by omega)]
theorem udpG_8 (p q : Nat) (xs : List Int) (k : Nat) : (udpG p q xs k).drop 8 = xs := by
  have e : udpG p q xs k = (numB 2 p ++ (numB 2 q ++ (numB 2 (8 + xs.length) ++ numB 2 k))) ++ xs := by simp [udpG]
  rw [e, List.drop_left' (by simp [numB_len])]
/-- Check sums between addresses. -/
theorem told_math (W0 W1 C : Int) (h0 : 0 ≤ W0) (h1 : 0 ≤ W1) (hC : 0 < C) : (65535 - f16 (W1 + (C + toldI (65535 - f16 (W0 + C)))) = 0) ↔ W0 % 65535 = W1 % 65535 := by
  have hf : f16 (W0 + C) = (W0 + C - 1) % 65535 + 1 := by unfold f16; rw [if_neg (by omega)]
  rw [hf]
  have hK : 0 < toldI (65535 - ((W0 + C - 1) % 65535 + 1)) ∧ (toldI (65535 - ((W0 + C - 1) % 65535 + 1)) + (W0 + C)) % 65535 = 0 := by
    unfold toldI; split <;> omega
  generalize toldI (65535 - ((W0 + C - 1) % 65535 + 1)) = K at *
  have hf2 : f16 (W1 + (C + K)) = (W1 + (C + K) - 1) % 65535 + 1 := by unfold f16; rw [if_neg (by omega)]
  rw [hf2]
  omega
theorem udpK_iff (s d s' d' p q : Nat) (xs : List Int) (hs : s ≤ 4294967295) (hd : d ≤ 4294967295) (hs' : s' ≤ 4294967295) (hd' : d' ≤ 4294967295) (hp : p ≤ 65535) (hq : q ≤ 65535) (hb : ∀ x ∈ xs, 0 ≤ x ∧ x ≤ 255) (hx : xs.length ≤ 60000) :
    (csum (psB s' d' 17 (8 + xs.length) ++ udpS s d p q xs) = 0) ↔ wrds s d % 65535 = wrds s' d' % 65535 := by
  have hP := (psum_rng xs hb).1
  have hk := udpK_rng s d p q xs
  rw [udpS_G]
  have e1 : csum (psB s d 17 (8 + xs.length) ++ udpZ p q xs) = 65535 - f16 ((wrds s d : Int) + (((17 + (8 + xs.length) + p + q + (8 + xs.length) : Nat) : Int) + psum xs)) := by
    unfold csum
    rw [psum_append _ _ (by rw [psB_len]), psum_ps _ _ _ _ hs hd (by omega) (by omega), udpZ_G, udpG_psum _ _ _ _ hp hq (by omega) hx]
    congr 2; push_cast; omega
  have e2 : csum (psB s' d' 17 (8 + xs.length) ++ udpG p q xs (udpK s d p q xs).toNat) = 65535 - f16 ((wrds s' d' : Int) + ((((17 + (8 + xs.length) + p + q + (8 + xs.length) : Nat) : Int) + psum xs) + udpK s d p q xs)) := by
    unfold csum
    rw [psum_append _ _ (by rw [psB_len]), psum_ps _ _ _ _ hs' hd' (by omega) (by omega), udpG_psum _ _ _ _ hp hq (by omega) hx]
    congr 2; push_cast; omega
  have e3 : udpK s d p q xs = toldI (65535 - f16 ((wrds s d : Int) + (((17 + (8 + xs.length) + p + q + (8 + xs.length) : Nat) : Int) + psum xs))) := by rw [← e1]; rfl
  rw [e2, e3, told_math _ _ _ (by omega) (by omega) (by push_cast; omega)]
  omega
theorem udpK_pos (s d p q : Nat) (xs : List Int) : udpK s d p q xs ≠ 0 := by unfold udpK toldI; split <;> omega
end Go.Proofs.Ytgggcapgaikbeaa

/- What the document's ReadUDP answers of bytes that are no datagram. -/
namespace Go.Proofs.Ytgggcapgaikbeaa
open Go.RowKit
set_option linter.unusedVariables false
set_option linter.unusedSimpArgs false
set_option maxRecDepth 100000
theorem fld_pair (xs : List Int) (K : Nat) (hb : ∀ x ∈ xs, 0 ≤ x ∧ x ≤ 255) (hK : K + 1 < xs.length) : fld xs K 2 = 256 * fld xs K 1 + fld xs (K + 1) 1 := by
  have h0 := fld_one xs K hb (by omega)
  have h1 := fld_one xs (K + 1) hb hK
  have h2 := fld_eq xs K 2 hb
  rw [List.drop_eq_getElem_cons (show K < xs.length by omega), List.drop_eq_getElem_cons hK] at h2
  rw [List.getElem?_eq_getElem (show K < xs.length by omega)] at h0
  rw [List.getElem?_eq_getElem hK] at h1
  have e0 : xs[K] = (fld xs K 1 : Int) := h0
  have e1 : xs[K + 1] = (fld xs (K + 1) 1 : Int) := h1
  have e2 : 256 * (256 * 0 + xs[K]) + xs[K + 1] = (fld xs K 2 : Int) := h2
  omega

set_option maxHeartbeats 800000 in
theorem rrudp_short (w : World) (s d : Int) (a : Option Addr) (n cap : Nat) (h : n < 8) :
    Calls Try.prog 35 #[.int .u32 s, .int .u32 d, .slice a n cap] w fun e w' => e = .returned (.tuple #[.agg #[.int .u16 0, .int .u16 0, .bool false, .slice none 0 0], .int .i64 10]) ∧ Below w.heap.size w w' := by
  go_enter Try.func35, Try.ntmps35
  go_wp2
  refine bodyPost_ret (v := .tuple #[.agg #[.int .u16 0, .int .u16 0, .bool false, .slice none 0 0], .int .i64 10]) (by simp [results, Try.results35, go_sem]) rfl ⟨rfl, ?_⟩
  repeat (first | exact Below.refl _ _ | refine Below.setCell ?_ (Nat.le_refl _) _ | refine bdrewN ?_ _ | exact Below.alloc (Below.refl _ _) (Nat.le_refl _) _)

set_option maxHeartbeats 800000 in
theorem rrudp_long (w : World) (s d : Int) (a : Option Addr) (n cap : Nat) (h : 1480 < n) :
    Calls Try.prog 35 #[.int .u32 s, .int .u32 d, .slice a n cap] w fun e w' => e = .returned (.tuple #[.agg #[.int .u16 0, .int .u16 0, .bool false, .slice none 0 0], .int .i64 14]) ∧ Below w.heap.size w w' := by
  go_enter Try.func35, Try.ntmps35
  go_wp2
  refine bodyPost_ret (v := .tuple #[.agg #[.int .u16 0, .int .u16 0, .bool false, .slice none 0 0], .int .i64 14]) (by simp [results, Try.results35, go_sem]) rfl ⟨rfl, ?_⟩
  repeat (first | exact Below.refl _ _ | refine Below.setCell ?_ (Nat.le_refl _) _ | refine bdrewN ?_ _ | exact Below.alloc (Below.refl _ _) (Nat.le_refl _) _)

set_option maxHeartbeats 1600000 in
theorem rrudp_form (w : World) (src dst : Nat) (a : Option Addr) (xs : List Int) (n cap h4 h5 sz : Nat) (hr : Row .u8 w a xs) (hno : a = none → cap = 0) (hl : xs.length = n) (hbb : ∀ x ∈ xs, 0 ≤ x ∧ x ≤ 255) (h1 : 8 ≤ n) (h2 : n ≤ 1480) (HV4 : Hid (fld xs 4 1 = h4)) (HV5 : Hid (fld xs 5 1 = h5)) (HS : Hid (256 * h4 + h5 = sz)) (hf : sz < 8 ∨ n < sz) :
    Calls Try.prog 35 #[.int .u32 src, .int .u32 dst, .slice a n cap] w fun e w' => e = .returned (.tuple #[.agg #[.int .u16 0, .int .u16 0, .bool false, .slice none 0 0], .int .i64 11]) ∧ Below w.heap.size w w' := by
  have HR := hide hr
  have hl1 : 8 ≤ xs.length := by omega
  have HL := hide hl
  have HB := hide hbb
  have HNO := hide hno
  obtain ⟨b0, o0, rfl, hlt0, hc0⟩ := hr (by intro e; subst e; simp at hl1)
  have c4 := hc0 4 (by omega)
  have c5 := hc0 5 (by omega)
  rw [fld_one xs 4 hbb (by omega), HV4.out] at c4
  rw [fld_one xs 5 hbb (by omega), HV5.out] at c5
  have hb4 := fld_lt xs 4 1 hbb
  have hb5 := fld_lt xs 5 1 hbb
  rw [HV4.out] at hb4
  rw [HV5.out] at hb5
  have hS : 256 * h4 + h5 = sz := HS.out
  have hw4 : IntKind.i64.wrap (h4 : Int) = (h4 : Int) := IntWalk.i64_in _ (by omega)
  have hw5 : IntKind.i64.wrap (h5 : Int) = (h5 : Int) := IntWalk.i64_in _ (by omega)
  have hm4 : IntKind.i64.wrap (256 * (h4 : Int)) = 256 * (h4 : Int) := IntWalk.i64_in _ (by omega)
  have hs4 : IntKind.i64.wrap (256 * (h4 : Int) + (h5 : Int)) = (sz : Int) := by rw [IntWalk.i64_in _ (by omega)]; omega
  clear hr hno hl hbb hc0
  have hn1 : ¬ ((n : Int) < 8) := by omega
  have hn2 : ¬ ((1480 : Int) < (n : Int)) := by omega
  have h14 : (4 : Int) < (n : Int) := by omega
  have h15 : (5 : Int) < (n : Int) := by omega
  rcases hf with hf | hf
  · have hd1 : decide ((sz : Int) < 8) = true := by simp; omega
    go_enter Try.func35, Try.ntmps35
    go_wp2_with fail
    go_quiet (fail)
    go_wp2
    refine bodyPost_ret (v := .tuple #[.agg #[.int .u16 0, .int .u16 0, .bool false, .slice none 0 0], .int .i64 11]) (by simp [results, Try.results35, go_sem]) rfl ⟨rfl, ?_⟩
    have hw0 : w.heap.size ≤ w.heap.size := Nat.le_refl _
    repeat (with_reducible refine Below.setCell ?_ (by assumption) _)
    refine bdrewN ?_ _
    exact Below.alloc (Below.refl _ _) (Nat.le_refl _) _
  · have hd1 : decide ((sz : Int) < 8) = false := by simp; omega
    have hd2 : decide ((n : Int) < (sz : Int)) = true := by simp; omega
    go_enter Try.func35, Try.ntmps35
    go_wp2_with fail
    go_quiet (fail)
    go_wp2
    refine bodyPost_ret (v := .tuple #[.agg #[.int .u16 0, .int .u16 0, .bool false, .slice none 0 0], .int .i64 11]) (by simp [results, Try.results35, go_sem]) rfl ⟨rfl, ?_⟩
    have hw0 : w.heap.size ≤ w.heap.size := Nat.le_refl _
    repeat (with_reducible refine Below.setCell ?_ (by assumption) _)
    refine bdrewN ?_ _
    exact Below.alloc (Below.refl _ _) (Nat.le_refl _) _
end Go.Proofs.Ytgggcapgaikbeaa

/- What the document's ReadUDP answers of a datagram whose sum is bad. -/
namespace Go.Proofs.Ytgggcapgaikbeaa
open Go.RowKit
set_option linter.unusedVariables false
set_option linter.unusedSimpArgs false
set_option maxRecDepth 100000

set_option maxHeartbeats 1600000 in
theorem rrudp_bad (w : World) (src dst : Nat) (a : Option Addr) (xs : List Int) (n cap h4 h5 h6 h7 sz : Nat) (hr : Row .u8 w a xs) (hno : a = none → cap = 0) (hl : xs.length = n) (hbb : ∀ x ∈ xs, 0 ≤ x ∧ x ≤ 255) (h1 : 8 ≤ n) (h2 : n ≤ 1480) (HV4 : Hid (fld xs 4 1 = h4)) (HV5 : Hid (fld xs 5 1 = h5)) (HS : Hid (256 * h4 + h5 = sz)) (hcap : n ≤ cap) (HV6 : Hid (fld xs 6 1 = h6)) (HV7 : Hid (fld xs 7 1 = h7)) (hf1 : 8 ≤ sz) (hf2 : sz ≤ n) (hck : ¬ (h6 = 0 ∧ h7 = 0)) (hsrc : src ≤ 4294967295) (hdst : dst ≤ 4294967295) (HCS : Hid (csum (psB src dst 17 sz ++ xs.take sz) ≠ 0)) :
    Calls Try.prog 35 #[.int .u32 src, .int .u32 dst, .slice a n cap] w fun e w' => e = .returned (.tuple #[.agg #[.int .u16 0, .int .u16 0, .bool false, .slice none 0 0], .int .i64 12]) ∧ Below w.heap.size w w' := by
  have HR := hide hr
  have hl1 : 8 ≤ xs.length := by omega
  have HL := hide hl
  have HB := hide hbb
  have HNO := hide hno
  obtain ⟨b0, o0, rfl, hlt0, hc0⟩ := hr (by intro e; subst e; simp at hl1)
  have c4 := hc0 4 (by omega)
  have c5 := hc0 5 (by omega)
  rw [fld_one xs 4 hbb (by omega), HV4.out] at c4
  rw [fld_one xs 5 hbb (by omega), HV5.out] at c5
  have hb4 := fld_lt xs 4 1 hbb
  have hb5 := fld_lt xs 5 1 hbb
  rw [HV4.out] at hb4
  rw [HV5.out] at hb5
  have hS : 256 * h4 + h5 = sz := HS.out
  have hw4 : IntKind.i64.wrap (h4 : Int) = (h4 : Int) := IntWalk.i64_in _ (by omega)
  have hw5 : IntKind.i64.wrap (h5 : Int) = (h5 : Int) := IntWalk.i64_in _ (by omega)
  have hm4 : IntKind.i64.wrap (256 * (h4 : Int)) = 256 * (h4 : Int) := IntWalk.i64_in _ (by omega)
  have hs4 : IntKind.i64.wrap (256 * (h4 : Int) + (h5 : Int)) = (sz : Int) := by rw [IntWalk.i64_in _ (by omega)]; omega
  clear hr hno hl hbb hc0
  have hn1 : ¬ ((n : Int) < 8) := by omega
  have hn2 : ¬ ((1480 : Int) < (n : Int)) := by omega
  have h14 : (4 : Int) < (n : Int) := by omega
  have h15 : (5 : Int) < (n : Int) := by omega
  have hd1 : decide ((sz : Int) < 8) = false := by simp; omega
  have hd2 : decide ((n : Int) < (sz : Int)) = false := by simp; omega
  go_enter Try.func35, Try.ntmps35
  go_wp2_with fail
  go_quiet (fail)
  obtain ⟨wx, hwx, HBx, hzx⟩ : ∃ wx, (w.alloc (.cells #[.int .u16 0, .int .u16 0, .bool false, .slice none 0 0] 63)).drewN nq = wx ∧ Below w.heap.size w wx ∧ wx.heap[w.heap.size]? = some (.cells #[.int .u16 0, .int .u16 0, .bool false, .slice none 0 0] 63 (0, 0)) := ⟨_, rfl, bdrewN ((Below.refl _ _).alloc (Nat.le_refl _) _) _, heap_alloc_new w _⟩
  rw [hwx]
  obtain ⟨r0, r1, r2, r3, rf⟩ := four_cells hzx
  have HZ := hide hzx
  have HBW := hide HBx
  have HRX := hide (HR.out.below HBx (Nat.le_refl _))
  obtain ⟨b1, o1, hbe, hlt1, hc1⟩ := HRX.out (by intro e; have := HL.out; subst e; simp at hl1)
  cases hbe
  have c6 := hc1 6 (by omega)
  have c7 := hc1 7 (by omega)
  rw [fld_one xs 6 HB.out (by omega), HV6.out] at c6
  rw [fld_one xs 7 HB.out (by omega), HV7.out] at c7
  clear hc1 hwx HBx hzx c4 c5 hlt1
  have h16 : (6 : Int) < (n : Int) := by omega
  have h17 : (7 : Int) < (n : Int) := by omega
  have hsz1 : (0 : Int) ≤ (sz : Int) := by omega
  have hsz2 : (sz : Int) ≤ (cap : Int) := by omega
  by_cases h6z : h6 = 0
  · have ht6 : ((h6 : Int) == 0) = true := by simp; omega
    have ht7 : ((h7 : Int) == 0) = false := by simp; omega
    have hrs := rsum_any src dst 17 sz cap (some ⟨b0, o0, none⟩) (xs.take sz) wx (row_take HRX.out sz) (fun h => by cases h) (by rw [List.length_take]; have := HL.out; omega) (fun x hx => HB.out x (List.mem_of_mem_take hx)) hsrc hdst (by omega) (by omega)
    obtain ⟨K, HK⟩ : ∃ K, Hid (csum (psB src dst 17 sz ++ xs.take sz) = K) := ⟨_, rfl⟩
    rw [HK.out] at hrs HCS
    have hKn : (K != 0) = true := by have := HCS.out; simpa using this
    have HRS := hide hrs
    clear hrs
    go_wp2_with fail
    refine HRS.out.mono ?_
    rintro e w2 ⟨rfl, b2⟩
    obtain ⟨q0, q1, q2, q3, qf⟩ := four_cells (below_block b2 HZ.out (Nat.le_refl _))
    have HB2 := hide (HBW.out.trans (b2.mono HBW.out.size))
    have hw0 : w.heap.size ≤ w.heap.size := Nat.le_refl _
    clear b2
    go_wp2
    refine bodyPost_ret (v := .tuple #[.agg #[.int .u16 0, .int .u16 0, .bool false, .slice none 0 0], .int .i64 12]) (by simp [results, Try.results35, go_sem, q0, q1, q2, q3]) rfl ⟨rfl, ?_⟩
    repeat (with_reducible refine Below.setCell ?_ (by assumption) _)
    exact HB2.out
  · have ht6 : ((h6 : Int) == 0) = false := by simp; omega
    have hrs := rsum_any src dst 17 sz cap (some ⟨b0, o0, none⟩) (xs.take sz) wx (row_take HRX.out sz) (fun h => by cases h) (by rw [List.length_take]; have := HL.out; omega) (fun x hx => HB.out x (List.mem_of_mem_take hx)) hsrc hdst (by omega) (by omega)
    obtain ⟨K, HK⟩ : ∃ K, Hid (csum (psB src dst 17 sz ++ xs.take sz) = K) := ⟨_, rfl⟩
    rw [HK.out] at hrs HCS
    have hKn : (K != 0) = true := by have := HCS.out; simpa using this
    have HRS := hide hrs
    clear hrs
    go_wp2_with fail
    refine HRS.out.mono ?_
    rintro e w2 ⟨rfl, b2⟩
    obtain ⟨q0, q1, q2, q3, qf⟩ := four_cells (below_block b2 HZ.out (Nat.le_refl _))
    have HB2 := hide (HBW.out.trans (b2.mono HBW.out.size))
    have hw0 : w.heap.size ≤ w.heap.size := Nat.le_refl _
    clear b2
    go_wp2
    refine bodyPost_ret (v := .tuple #[.agg #[.int .u16 0, .int .u16 0, .bool false, .slice none 0 0], .int .i64 12]) (by simp [results, Try.results35, go_sem, q0, q1, q2, q3]) rfl ⟨rfl, ?_⟩
    repeat (with_reducible refine Below.setCell ?_ (by assumption) _)
    exact HB2.out
end Go.Proofs.Ytgggcapgaikbeaa
