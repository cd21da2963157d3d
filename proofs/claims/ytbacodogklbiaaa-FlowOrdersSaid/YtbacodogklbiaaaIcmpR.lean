/- What trans.ReadICMP answers. -/
import Derived.Test.YtbacodogklbiaaaTEye
import Derived.Test.YtbacodogklbiaaaTLay
namespace Go.Proofs.Ytbacodogklbiaaa
open Go.RowKit
set_option linter.unusedVariables false
set_option linter.unusedSimpArgs false
set_option maxRecDepth 100000

set_option maxHeartbeats 800000 in
theorem ricmp_short (w : World) (a : Option Addr) (n cap : Nat) (h : n < 8) :
    Calls Try.prog 41 #[.slice a n cap] w fun e w' => e = .returned (.tuple #[.agg #[.int .u8 0, .int .u8 0, .int .u32 0, .slice none 0 0], .int .i64 10]) ∧ Below w.heap.size w w' := by
  go_enter Try.func41, Try.ntmps41
  go_wp2_with fail
  refine (fit_short n 8 _ h).mono ?_
  rintro e w1 ⟨rfl, rfl⟩
  go_wp2
  refine bodyPost_ret (v := .tuple #[.agg #[.int .u8 0, .int .u8 0, .int .u32 0, .slice none 0 0], .int .i64 10]) (by simp [results, Try.results41, go_sem]) rfl ⟨rfl, ?_⟩
  repeat (first | exact Below.refl _ _ | refine Below.setCell ?_ (Nat.le_refl _) _ | exact Below.alloc (Below.refl _ _) (Nat.le_refl _) _)

set_option maxHeartbeats 800000 in
theorem ricmp_long (w : World) (a : Option Addr) (n cap : Nat) (h : 1480 < n) :
    Calls Try.prog 41 #[.slice a n cap] w fun e w' => e = .returned (.tuple #[.agg #[.int .u8 0, .int .u8 0, .int .u32 0, .slice none 0 0], .int .i64 14]) ∧ Below w.heap.size w w' := by
  go_enter Try.func41, Try.ntmps41
  go_wp2_with fail
  refine (fit_long n 8 _ (by omega) h).mono ?_
  rintro e w1 ⟨rfl, rfl⟩
  go_wp2
  refine bodyPost_ret (v := .tuple #[.agg #[.int .u8 0, .int .u8 0, .int .u32 0, .slice none 0 0], .int .i64 14]) (by simp [results, Try.results41, go_sem]) rfl ⟨rfl, ?_⟩
  repeat (first | exact Below.refl _ _ | refine Below.setCell ?_ (Nat.le_refl _) _ | exact Below.alloc (Below.refl _ _) (Nat.le_refl _) _)

set_option maxHeartbeats 1600000 in
theorem ricmp_bad (w : World) (a : Option Addr) (xs : List Int) (n cap p q ck r : Nat) (hr : Row .u8 w a xs) (hno : a = none → cap = 0) (hl : xs.length = n) (hb : ∀ x ∈ xs, 0 ≤ x ∧ x ≤ 255) (h1 : 8 ≤ n) (h2 : n ≤ 1480)
     (HCS : Hid ((csum xs == 0) = false)) :
    Calls Try.prog 41 #[.slice a n cap] w fun e w' => e = .returned (.tuple #[.agg #[.int .u8 0, .int .u8 0, .int .u32 0, .slice none 0 0], .int .i64 12]) ∧ Below w.heap.size w w' := by
  have HR := hide hr
  have HNO := hide hno
  have hl1 : 8 ≤ xs.length := by omega
  have hl2 : xs.length ≤ 1480 := by omega
  have HL := hide hl
  have HB := hide hb
  clear hr hl hb hno
  go_enter Try.func41, Try.ntmps41
  go_wp2_with fail
  refine (fit_ok n 8 _ h1 h2).mono ?_
  rintro e wz ⟨rfl, rfl⟩
  go_wp2_with fail
  obtain ⟨R, wq, hR, hq1, hRs, hbel, hRh⟩ : ∃ R wq, w.heap.size = R ∧ w.alloc (.cells #[.int .u8 0, .int .u8 0, .int .u32 0, .slice none 0 0] 56) = wq ∧ wq.heap.size = R + 1 ∧ Below w.heap.size w wq ∧ wq.heap[R]? = some (.cells #[.int .u8 0, .int .u8 0, .int .u32 0, .slice none 0 0] 56 (0, 0)) :=
    ⟨_, _, rfl, rfl, by simp, (Below.refl _ _).alloc (Nat.le_refl _) _, heap_alloc_new w _⟩
  rw [hq1, hR]
  have HRW := hide hR
  have HRq := hide (HR.out.below hbel (Nat.le_refl _))
  clear hq1 hR
  have hrt := rightL wq [(a, xs, cap)] #[.slice a n cap] 1 _ hRs rfl (by simp [Part.v, HL.out]) (rows_cons HRq.out HNO.out (rows_nil _)) (by simp [flat]; omega) (by simp [flat]; exact HB.out) (by omega)
  rw [show flat [(a, xs, cap)] = xs by simp [flat], HCS.out] at hrt
  have HRT := hide hrt
  clear hrt hRs
  refine HRT.out.mono ?_
  rintro e wb ⟨rfl, hbb⟩
  have hRb := below_block hbb hRh (Nat.le_refl _)
  have HRb := hide (HRq.out.below hbb (Nat.le_refl _))
  have hBb := hbel.trans (hbb.mono hbel.size)
  clear hbel hRh hbb HRq
  obtain ⟨r0, r1, r2, r3, rf⟩ := four_cells hRb
  have hRw : w.heap.size ≤ R := by have := HRW.out; omega
  have hBz := hide hBb
  clear hBb hRb
  go_wp2
  refine bodyPost_ret (v := .tuple #[.agg #[.int .u8 0, .int .u8 0, .int .u32 0, .slice none 0 0], .int .i64 12]) (by simp [results, Try.results41, go_sem, r0, r1, r2, r3]) rfl ⟨rfl, ?_⟩
  repeat (with_reducible refine Below.setCell ?_ (by assumption) _)
  exact hBz.out

set_option maxHeartbeats 1600000 in
theorem ricmp_ok (w : World) (a : Option Addr) (xs : List Int) (n cap p q ck r : Nat) (hr : Row .u8 w a xs) (hno : a = none → cap = 0) (hl : xs.length = n) (hb : ∀ x ∈ xs, 0 ≤ x ∧ x ≤ 255) (h1 : 8 ≤ n) (h2 : n ≤ 1480)
    (HV0 : Hid (fld xs 0 1 = p)) (HV1 : Hid (fld xs 1 1 = q)) (HV2 : Hid (fld xs 2 2 = ck)) (HV4 : Hid (fld xs 4 4 = r)) (HCS : Hid ((csum xs == 0) = true)) :
    Calls Try.prog 41 #[.slice a n cap] w fun e w' => ∃ a' c, e = .returned (.tuple #[.agg #[.int .u8 (p : Int), .int .u8 (q : Int), .int .u32 (r : Int), .slice a' (n - 8) c], .int .i64 0]) ∧ w'.ownsRow w.heap.size 5 1 (.slice a' (n - 8) c) (n - 8) ((xs.drop 8).map (Value.int .u8)) ∧ Below w.heap.size w w' := by
  have HR := hide hr
  have HNO := hide hno
  have hl1 : 8 ≤ xs.length := by omega
  have hl2 : xs.length ≤ 1480 := by omega
  have HL := hide hl
  have HB := hide hb
  clear hr hl hb hno
  go_enter Try.func41, Try.ntmps41
  go_wp2_with fail
  refine (fit_ok n 8 _ h1 h2).mono ?_
  rintro e wz ⟨rfl, rfl⟩
  go_wp2_with fail
  obtain ⟨R, wq, hR, hq1, hRs, hbel, hRh⟩ : ∃ R wq, w.heap.size = R ∧ w.alloc (.cells #[.int .u8 0, .int .u8 0, .int .u32 0, .slice none 0 0] 56) = wq ∧ wq.heap.size = R + 1 ∧ Below w.heap.size w wq ∧ wq.heap[R]? = some (.cells #[.int .u8 0, .int .u8 0, .int .u32 0, .slice none 0 0] 56 (0, 0)) :=
    ⟨_, _, rfl, rfl, by simp, (Below.refl _ _).alloc (Nat.le_refl _) _, heap_alloc_new w _⟩
  rw [hq1, hR]
  have HRW := hide hR
  have HRq := hide (HR.out.below hbel (Nat.le_refl _))
  clear hq1 hR
  have hrt := rightL wq [(a, xs, cap)] #[.slice a n cap] 1 _ hRs rfl (by simp [Part.v, HL.out]) (rows_cons HRq.out HNO.out (rows_nil _)) (by simp [flat]; omega) (by simp [flat]; exact HB.out) (by omega)
  rw [show flat [(a, xs, cap)] = xs by simp [flat], HCS.out] at hrt
  have HRT := hide hrt
  clear hrt hRs
  refine HRT.out.mono ?_
  rintro e wb ⟨rfl, hbb⟩
  have hRb := below_block hbb hRh (Nat.le_refl _)
  have HRb := hide (HRq.out.below hbb (Nat.le_refl _))
  have hBb := hbel.trans (hbb.mono hbel.size)
  clear hbel hRh hbb HRq
  have hp := fld_lt xs 0 1 HB.out
  have hq := fld_lt xs 1 1 HB.out
  have hk := fld_lt xs 2 2 HB.out
  have hr4 := fld_lt xs 4 4 HB.out
  rw [HV0.out] at hp
  rw [HV1.out] at hq
  rw [HV2.out] at hk
  rw [HV4.out] at hr4
  have hw8p : IntKind.u8.wrap (p : Int) = (p : Int) := by rw [IntKind.wrap_u8]; omega
  have hw8q : IntKind.u8.wrap (q : Int) = (q : Int) := by rw [IntKind.wrap_u8]; omega
  have hw32 : IntKind.u32.wrap (r : Int) = (r : Int) := by rw [IntKind.wrap_u32]; omega
  have hne := newEye_any a xs cap wb HRb.out (by omega)
  rw [HL.out] at hne
  have HNE := hide hne
  clear hne
  have HRbb := hide hRb
  have HBb := hide hBb
  clear hRb hBb
  go_wp2_with fail
  refine HNE.out.mono ?_
  rintro e w1 ⟨E, rfl, hE, heye, hb1⟩
  have hRE : R < E := Nat.lt_of_lt_of_le (lt_of_block HRbb.out) hE
  have hR1 := hide (below_block hb1 HRbb.out (Nat.le_refl _))
  have hB1 := hide (HBb.out.trans (hb1.mono HBb.out.size))
  have HE1 := hide (show EyeAt w1 E E (xs.drop 0) false by simpa using heye)
  clear heye hb1 hE HRbb HBb
  have hh1 := eyeNum_at E E 0 1 xs w1 HE1.out HB.out (by omega) (by omega) (by omega)
  rw [HV0.out] at hh1
  have HH1 := hide hh1
  clear hh1
  go_wp2_with fail
  refine HH1.out.mono ?_
  rintro e w2 ⟨rfl, he2, hg2⟩
  have HE2 := hide he2
  have HG2 := hide hg2
  clear he2 hg2
  have hh2 := eyeNum_at E E 1 1 xs w2 HE2.out HB.out (by omega) (by omega) (by omega)
  rw [HV1.out] at hh2
  have HH2 := hide hh2
  clear hh2
  go_wp2_with fail
  refine HH2.out.mono ?_
  rintro e w3 ⟨rfl, he3, hg3⟩
  have HE3 := hide he3
  have HG3 := hide hg3
  clear he3 hg3
  go_wp2_with fail
  obtain ⟨F, wf, hF, hq1, hbf, hFh⟩ : ∃ F wf, w3.heap.size = F ∧ w3.alloc (.cells #[.int .u8 (p : Int), .int .u8 (q : Int), .int .u32 0, .slice none 0 0] 56) = wf ∧ Below w3.heap.size w3 wf ∧ wf.heap[F]? = some (.cells #[.int .u8 (p : Int), .int .u8 (q : Int), .int .u32 0, .slice none 0 0] 56 (0, 0)) :=
    ⟨_, _, rfl, rfl, (Below.refl _ _).alloc (Nat.le_refl _) _, heap_alloc_new w3 _⟩
  rw [hq1, hF]
  have hEF : E < F := by have := HE3.out.lt; omega
  have HEf := hide (HE3.out.below hbf (Nat.le_refl _))
  have hG1f := gb_trans (gb_trans HG2.out HG3.out) (gb_of_below hbf)
  have hRf := hide (gb_block hG1f hR1.out (by omega))
  have hB0 := hB1.out
  have hBf := hide (hB0.trans (grownBy_below hG1f (show w.heap.size ≤ E by have := HRW.out; omega) hB0.size))
  have HFh := hide hFh
  clear hq1 hF hbf hFh hG1f hB0 HE1 HE2 HE3 HG2 HG3 hR1 hB1
  have hh4 := half_at E E 2 xs wf HEf.out HB.out (by omega) (by omega)
  rw [HV2.out] at hh4
  have HH4 := hide hh4
  clear hh4
  go_wp2_with fail
  refine HH4.out.mono ?_
  rintro e w5 ⟨rfl, he5, hg5⟩
  have HE5 := hide he5
  have HG5 := hide hg5
  clear he5 hg5
  have hh5 := eyeNum_at E E 4 4 xs w5 HE5.out HB.out (by omega) (by omega) (by omega)
  rw [HV4.out] at hh5
  have HH5 := hide hh5
  clear hh5
  go_wp2_with fail
  refine HH5.out.mono ?_
  rintro e w6 ⟨rfl, he6, hg6⟩
  have HE6 := hide he6
  have HG6 := hide hg6
  clear he6 hg6
  have hlf := left_at E E 8 xs n w6 HE6.out HL.out
  have hby := bytes_at E E 8 (n - 8) xs w6 HE6.out (by omega) (by have := HL.out; omega)
  rw [List.take_of_length_le (by rw [List.length_drop, HL.out]; omega)] at hby
  have HLF := hide hlf
  have HBY := hide hby
  clear hlf hby
  go_wp2_with fail
  refine HLF.out.mono ?_
  rintro e wl ⟨rfl, rfl⟩
  go_wp2_with fail
  refine HBY.out.mono ?_
  rintro e w8 ⟨a8, c8, rfl, o8, he8, hg8⟩
  have hGf := gb_trans (gb_trans HG5.out HG6.out) hg8
  have hF8 := gb_block hGf HFh.out (by omega)
  have hR8 := gb_block hGf hRf.out (by omega)
  obtain ⟨m0, m1, m2, m3, mf⟩ := four_cells hF8
  obtain ⟨r0, r1, r2, r3, rf⟩ := four_cells hR8
  have hBz := hide (hBf.out.trans (grownBy_below hGf (show w.heap.size ≤ E by have := HRW.out; omega) hBf.out.size))
  have hRw : w.heap.size ≤ R := by have := HRW.out; omega
  have hFw : w.heap.size ≤ F := by have := HRW.out; omega
  have hG46 := gb_trans HG5.out HG6.out
  have hF6 := gb_block hG46 HFh.out (by omega)
  have hR6 := gb_block hG46 hRf.out (by omega)
  have hFlt := lt_of_block hF6
  have hRlt := lt_of_block hR6
  have hbase : w.heap.size ≤ w6.heap.size := Nat.le_trans hBf.out.size hG46.size
  have hO8b := hide o8
  clear o8 he8 hg8 hF8 hR8 hF6 hR6 hGf hG46
  go_wp2
  refine bodyPost_ret (v := .tuple #[.agg #[.int .u8 (p : Int), .int .u8 (q : Int), .int .u32 (r : Int), .slice a8 (n - 8) c8], .int .i64 0]) (by simp [results, Try.results41, go_sem, r0, r1, r2, r3, m0, m1, m2, m3]) rfl ⟨a8, c8, rfl, ?_, ?_⟩
  · refine owns_mono (base := w6.heap.size) ?_ hbase
    repeat (with_reducible refine owns_set ?_ (by assumption))
    exact hO8b.out
  · repeat (with_reducible refine Below.setCell ?_ (by assumption) _)
    exact hBz.out
end Go.Proofs.Ytbacodogklbiaaa
