/- What trans.ReadTCP answers. -/
import Derived.Test.YtbacodogklbiaaaTEye
import Derived.Test.YtbacodogklbiaaaTLay
namespace Go.Proofs.Ytbacodogklbiaaa
open Go.RowKit
set_option linter.unusedVariables false
set_option linter.unusedSimpArgs false
set_option maxRecDepth 100000
theorem nine_cells {w : World} {F : Nat} {t : TypeId} {a b c d e f g h i : Value} (hh : w.heap[F]? = some (.cells #[a, b, c, d, e, f, g, h, i] t (0, 0))) :
    (w.cell? ⟨F, 0, none⟩ = some a ∧ w.cell? ⟨F, 1, none⟩ = some b ∧ w.cell? ⟨F, 2, none⟩ = some c ∧ w.cell? ⟨F, 3, none⟩ = some d ∧ w.cell? ⟨F, 4, none⟩ = some e ∧ w.cell? ⟨F, 5, none⟩ = some f ∧ w.cell? ⟨F, 6, none⟩ = some g ∧ w.cell? ⟨F, 7, none⟩ = some h ∧ w.cell? ⟨F, 8, none⟩ = some i) ∧ ∀ j, w.frozen? ⟨F, j, none⟩ = false := by
  simp [World.cell?, World.frozen?, hh]
theorem nine_set {w : World} {b i : Nat} {u1 u2 u3 u4 u5 u6 u7 u8 u9 z : Value} {t : TypeId} (h : w.heap[b]? = some (.cells #[u1, u2, u3, u4, u5, u6, u7, u8, u9] t (0, 0))) : (w.setCell ⟨b, i, none⟩ z).heap[b]? = some (.cells (#[u1, u2, u3, u4, u5, u6, u7, u8, u9].setIfInBounds i z) t (0, 0)) := by
  have hlt := lt_of_block h
  have h' : w.heap[b] = .cells #[u1, u2, u3, u4, u5, u6, u7, u8, u9] t (0, 0) := by simpa [Array.getElem?_eq_getElem hlt] using h
  show (w.heap.modify b _)[b]? = _
  rw [Array.getElem?_eq_getElem (by simpa using hlt), Array.getElem_modify_self, h']
  rfl
theorem set_ne_block {w : World} {F R i : Nat} {z : Value} {o : Obj} (h : w.heap[R]? = some o) (hne : R ≠ F) : (w.setCell ⟨F, i, none⟩ z).heap[R]? = some o := (Below.heap_setCell _ _ _ _ hne).trans h

set_option maxHeartbeats 800000 in
theorem rtcp_short (w : World) (s d : Int) (a : Option Addr) (n cap : Nat) (h : n < 20) :
    Calls Try.prog 39 #[.int .u32 s, .int .u32 d, .slice a n cap] w fun e w' => e = .returned (.tuple #[.agg #[.int .u16 0, .int .u16 0, .int .u32 0, .int .u32 0, .int .u8 0, .int .u16 0, .int .u16 0, .slice none 0 0, .slice none 0 0], .int .i64 10]) ∧ Below w.heap.size w w' := by
  go_enter Try.func39, Try.ntmps39
  go_wp2_with fail
  refine (fit_short n 20 _ h).mono ?_
  rintro e w1 ⟨rfl, rfl⟩
  go_wp2
  refine bodyPost_ret (v := .tuple #[.agg #[.int .u16 0, .int .u16 0, .int .u32 0, .int .u32 0, .int .u8 0, .int .u16 0, .int .u16 0, .slice none 0 0, .slice none 0 0], .int .i64 10]) (by simp [results, Try.results39, go_sem]) rfl ⟨rfl, ?_⟩
  repeat (first | exact Below.refl _ _ | refine Below.setCell ?_ (Nat.le_refl _) _ | exact Below.alloc (Below.refl _ _) (Nat.le_refl _) _)

set_option maxHeartbeats 800000 in
theorem rtcp_long (w : World) (s d : Int) (a : Option Addr) (n cap : Nat) (h : 1480 < n) :
    Calls Try.prog 39 #[.int .u32 s, .int .u32 d, .slice a n cap] w fun e w' => e = .returned (.tuple #[.agg #[.int .u16 0, .int .u16 0, .int .u32 0, .int .u32 0, .int .u8 0, .int .u16 0, .int .u16 0, .slice none 0 0, .slice none 0 0], .int .i64 14]) ∧ Below w.heap.size w w' := by
  go_enter Try.func39, Try.ntmps39
  go_wp2_with fail
  refine (fit_long n 20 _ (by omega) h).mono ?_
  rintro e w1 ⟨rfl, rfl⟩
  go_wp2
  refine bodyPost_ret (v := .tuple #[.agg #[.int .u16 0, .int .u16 0, .int .u32 0, .int .u32 0, .int .u8 0, .int .u16 0, .int .u16 0, .slice none 0 0, .slice none 0 0], .int .i64 14]) (by simp [results, Try.results39, go_sem]) rfl ⟨rfl, ?_⟩
  repeat (first | exact Below.refl _ _ | refine Below.setCell ?_ (Nat.le_refl _) _ | exact Below.alloc (Below.refl _ _) (Nat.le_refl _) _)

set_option maxHeartbeats 3000000 in
theorem rtcp_form (w : World) (src dst : Nat) (a : Option Addr) (xs : List Int) (n cap p q u v hb f g ck h H : Nat) (hr : Row .u8 w a xs) (hno : a = none → cap = 0) (hl : xs.length = n) (hbb : ∀ x ∈ xs, 0 ≤ x ∧ x ≤ 255) (h1 : 20 ≤ n) (h2 : n ≤ 1480)
    (HV0 : Hid (fld xs 0 2 = p)) (HV2 : Hid (fld xs 2 2 = q)) (HV4 : Hid (fld xs 4 4 = u)) (HV8 : Hid (fld xs 8 4 = v)) (HV12 : Hid (fld xs 12 1 = hb)) (HV13 : Hid (fld xs 13 1 = f)) (HV14 : Hid (fld xs 14 2 = g)) (HV16 : Hid (fld xs 16 2 = ck)) (HV18 : Hid (fld xs 18 2 = h)) (HH : Hid (4 * (hb / 16) = H)) (hf : H < 20 ∨ n < H) :
    Calls Try.prog 39 #[.int .u32 src, .int .u32 dst, .slice a n cap] w fun e w' => e = .returned (.tuple #[.agg #[.int .u16 0, .int .u16 0, .int .u32 0, .int .u32 0, .int .u8 0, .int .u16 0, .int .u16 0, .slice none 0 0, .slice none 0 0], .int .i64 11]) ∧ Below w.heap.size w w' := by
  have HR := hide hr
  have HNO := hide hno
  have hl1 : 20 ≤ xs.length := by omega
  have hl2 : xs.length ≤ 1480 := by omega
  have HL := hide hl
  have HB := hide hbb
  have hb_p := fld_lt xs 0 2 hbb
  rw [HV0.out] at hb_p
  have hb_q := fld_lt xs 2 2 hbb
  rw [HV2.out] at hb_q
  have hb_u := fld_lt xs 4 4 hbb
  rw [HV4.out] at hb_u
  have hb_v := fld_lt xs 8 4 hbb
  rw [HV8.out] at hb_v
  have hb_hb := fld_lt xs 12 1 hbb
  rw [HV12.out] at hb_hb
  have hb_f := fld_lt xs 13 1 hbb
  rw [HV13.out] at hb_f
  have hb_g := fld_lt xs 14 2 hbb
  rw [HV14.out] at hb_g
  have hb_ck := fld_lt xs 16 2 hbb
  rw [HV16.out] at hb_ck
  have hb_h := fld_lt xs 18 2 hbb
  rw [HV18.out] at hb_h
  have hH : 4 * (hb / 16) = H := HH.out
  have hHb : H ≤ 60 := by omega
  have hHe : (hb : Int) / 16 * 4 = (H : Int) := by omega
  have hHw : IntKind.i64.wrap ((hb : Int) / 16) = (hb : Int) / 16 := IntWalk.i64_in _ (by omega)
  have hHx : IntKind.i64.wrap (H : Int) = (H : Int) := IntWalk.i64_in _ (by omega)
  have hwu : IntKind.u32.wrap (u : Int) = (u : Int) := by rw [IntKind.wrap_u32]; omega
  have hwv : IntKind.u32.wrap (v : Int) = (v : Int) := by rw [IntKind.wrap_u32]; omega
  have hwf : IntKind.u8.wrap (f : Int) = (f : Int) := by rw [IntKind.wrap_u8]; omega
  clear hr hno hl hbb hH
  go_enter Try.func39, Try.ntmps39
  go_wp2_with fail
  refine (fit_ok n 20 _ h1 h2).mono ?_
  rintro e wz ⟨rfl, rfl⟩
  go_wp2_with fail
  obtain ⟨R, wq, hR, hq1, hbel, hRh⟩ : ∃ R wq, w.heap.size = R ∧ w.alloc (.cells #[.int .u16 0, .int .u16 0, .int .u32 0, .int .u32 0, .int .u8 0, .int .u16 0, .int .u16 0, .slice none 0 0, .slice none 0 0] 52) = wq ∧ Below w.heap.size w wq ∧ wq.heap[R]? = some (.cells #[.int .u16 0, .int .u16 0, .int .u32 0, .int .u32 0, .int .u8 0, .int .u16 0, .int .u16 0, .slice none 0 0, .slice none 0 0] 52 (0, 0)) :=
    ⟨_, _, rfl, rfl, (Below.refl _ _).alloc (Nat.le_refl _) _, heap_alloc_new w _⟩
  rw [hq1, hR]
  have HRW := hide hR
  have HRq := hide (HR.out.below hbel (Nat.le_refl _))
  clear hq1 hR
  have hne := newEye_any a xs cap wq HRq.out (by omega)
  rw [HL.out] at hne
  have HNE := hide hne
  clear hne
  refine HNE.out.mono ?_
  rintro e w1 ⟨E, rfl, hE, heye, hb1⟩
  have hRE : R < E := Nat.lt_of_lt_of_le (lt_of_block hRh) hE
  have hR1 := hide (below_block hb1 hRh (Nat.le_refl _))
  have hB1 := hide (hbel.trans (hb1.mono hbel.size))
  have HR1 := hide (HRq.out.below hb1 (Nat.le_refl _))
  have HE1 := hide (show EyeAt w1 E E (xs.drop 0) false by simpa using heye)
  have hbE : ∀ b, a = some b → xs ≠ [] → b.block < wq.heap.size := by
    rintro b rfl hne
    obtain ⟨b', off, e, hlt, _⟩ := HRq.out hne
    cases e; exact hlt
  have hxne : xs ≠ [] := by intro e; rw [e] at hl1; simp at hl1
  have HBE := hide (fun b (e : a = some b) => (show b.block ≠ E by have := hbE b e hxne; omega))
  clear hbel hRh heye hb1 hE hbE hxne
  have hh1 := half_at E E 0 xs w1 HE1.out HB.out (by omega) (by omega)
  rw [HV0.out] at hh1
  have HH1 := hide hh1
  clear hh1
  go_wp2_with fail
  refine HH1.out.mono ?_
  rintro e w2 ⟨rfl, he2, hg2⟩
  have HE2 := hide he2
  have HG2 := hide hg2
  clear he2 hg2
  have hh2 := half_at E E 2 xs w2 HE2.out HB.out (by omega) (by omega)
  rw [HV2.out] at hh2
  have HH2 := hide hh2
  clear hh2
  go_wp2_with fail
  refine HH2.out.mono ?_
  rintro e w3 ⟨rfl, he3, hg3⟩
  have HE3 := hide he3
  have HG3 := hide hg3
  clear he3 hg3
  have hh3 := eyeNum_at E E 4 4 xs w3 HE3.out HB.out (by omega) (by omega) (by omega)
  rw [HV4.out] at hh3
  have HH3 := hide hh3
  clear hh3
  go_wp2_with fail
  refine HH3.out.mono ?_
  rintro e w4 ⟨rfl, he4, hg4⟩
  have HE4 := hide he4
  have HG4 := hide hg4
  clear he4 hg4
  have hh4 := eyeNum_at E E 8 4 xs w4 HE4.out HB.out (by omega) (by omega) (by omega)
  rw [HV8.out] at hh4
  have HH4 := hide hh4
  clear hh4
  go_wp2_with fail
  refine HH4.out.mono ?_
  rintro e w5 ⟨rfl, he5, hg5⟩
  have HE5 := hide he5
  have HG5 := hide hg5
  clear he5 hg5
  go_wp2_with fail
  obtain ⟨F, wf, hF, hq1, hbf, hFh⟩ : ∃ F wf, w5.heap.size = F ∧ w5.alloc (.cells #[.int .u16 (p : Int), .int .u16 (q : Int), .int .u32 (u : Int), .int .u32 (v : Int), .int .u8 0, .int .u16 0, .int .u16 0, .slice none 0 0, .slice none 0 0] 52) = wf ∧ Below w5.heap.size w5 wf ∧ wf.heap[F]? = some (.cells #[.int .u16 (p : Int), .int .u16 (q : Int), .int .u32 (u : Int), .int .u32 (v : Int), .int .u8 0, .int .u16 0, .int .u16 0, .slice none 0 0, .slice none 0 0] 52 (0, 0)) :=
    ⟨_, _, rfl, rfl, (Below.refl _ _).alloc (Nat.le_refl _) _, heap_alloc_new w5 _⟩
  rw [hq1, hF]
  have hEF : E < F := by have := HE5.out.lt; omega
  have HEf := hide (HE5.out.below hbf (Nat.le_refl _))
  have hG1f := gb_trans (gb_trans HG2.out (gb_trans HG3.out (gb_trans HG4.out HG5.out))) (gb_of_below hbf)
  have hRf := hide (gb_block hG1f hR1.out (by omega))
  have HRf := hide (row_gb HR1.out hG1f HBE.out)
  have hB0 := hB1.out
  have hBf := hide (hB0.trans (grownBy_below hG1f (show w.heap.size ≤ E by have := HRW.out; omega) hB0.size))
  have HFh := hide hFh
  have hwFs : w.heap.size ≤ F := by have := HRW.out; omega
  clear hq1 hF hbf hFh hG1f hB0 HE1 HE2 HE3 HE4 HE5 HG2 HG3 HG4 HG5 hR1 HR1 hB1 HH1 HH2 HH3 HH4 HNE
  have hh6 := eyeNum_at E E 12 1 xs wf HEf.out HB.out (by omega) (by omega) (by omega)
  rw [HV12.out] at hh6
  have HH6 := hide hh6
  clear hh6
  go_wp2_with fail
  refine HH6.out.mono ?_
  rintro e w7 ⟨rfl, he7, hg7⟩
  have HE7 := hide he7
  have HG7 := hide hg7
  clear he7 hg7
  obtain ⟨⟨r0, r1, r2, r3, r4, r5, r6, r7, r8⟩, rf⟩ := nine_cells (gb_block HG7.out hRf.out (by omega))
  have hBz := hide (hBf.out.trans (grownBy_below HG7.out (show w.heap.size ≤ E by have := HRW.out; omega) hBf.out.size))
  have hRw : w.heap.size ≤ R := by have := HRW.out; omega
  rcases hf with hf | hf
  · have hd1 : decide ((H : Int) < 20) = true := by simp; omega
    go_wp2
    refine bodyPost_ret (v := .tuple #[.agg #[.int .u16 0, .int .u16 0, .int .u32 0, .int .u32 0, .int .u8 0, .int .u16 0, .int .u16 0, .slice none 0 0, .slice none 0 0], .int .i64 11]) (by simp [results, Try.results39, go_sem, r0, r1, r2, r3, r4, r5, r6, r7, r8]) rfl ⟨rfl, ?_⟩
    repeat (with_reducible refine Below.setCell ?_ (by assumption) _)
    exact hBz.out
  · have hd1 : decide ((H : Int) < 20) = false := by simp; omega
    have hd2 : decide ((n : Int) < (H : Int)) = true := by simp; omega
    go_wp2
    refine bodyPost_ret (v := .tuple #[.agg #[.int .u16 0, .int .u16 0, .int .u32 0, .int .u32 0, .int .u8 0, .int .u16 0, .int .u16 0, .slice none 0 0, .slice none 0 0], .int .i64 11]) (by simp [results, Try.results39, go_sem, r0, r1, r2, r3, r4, r5, r6, r7, r8]) rfl ⟨rfl, ?_⟩
    repeat (with_reducible refine Below.setCell ?_ (by assumption) _)
    exact hBz.out

set_option maxHeartbeats 3000000 in
theorem rtcp_bad (w : World) (src dst : Nat) (a : Option Addr) (xs : List Int) (n cap p q u v hb f g ck h H : Nat) (hr : Row .u8 w a xs) (hno : a = none → cap = 0) (hl : xs.length = n) (hbb : ∀ x ∈ xs, 0 ≤ x ∧ x ≤ 255) (h1 : 20 ≤ n) (h2 : n ≤ 1480)
    (HV0 : Hid (fld xs 0 2 = p)) (HV2 : Hid (fld xs 2 2 = q)) (HV4 : Hid (fld xs 4 4 = u)) (HV8 : Hid (fld xs 8 4 = v)) (HV12 : Hid (fld xs 12 1 = hb)) (HV13 : Hid (fld xs 13 1 = f)) (HV14 : Hid (fld xs 14 2 = g)) (HV16 : Hid (fld xs 16 2 = ck)) (HV18 : Hid (fld xs 18 2 = h)) (HH : Hid (4 * (hb / 16) = H)) (hf1 : 20 ≤ H) (hf2 : H ≤ n) (hsrc : src ≤ 4294967295) (hdst : dst ≤ 4294967295) (HCS : Hid ((csum (psB src dst 6 n ++ xs) == 0) = false)) :
    Calls Try.prog 39 #[.int .u32 src, .int .u32 dst, .slice a n cap] w fun e w' => e = .returned (.tuple #[.agg #[.int .u16 0, .int .u16 0, .int .u32 0, .int .u32 0, .int .u8 0, .int .u16 0, .int .u16 0, .slice none 0 0, .slice none 0 0], .int .i64 12]) ∧ Below w.heap.size w w' := by
  have HR := hide hr
  have HNO := hide hno
  have hl1 : 20 ≤ xs.length := by omega
  have hl2 : xs.length ≤ 1480 := by omega
  have HL := hide hl
  have HB := hide hbb
  have hb_p := fld_lt xs 0 2 hbb
  rw [HV0.out] at hb_p
  have hb_q := fld_lt xs 2 2 hbb
  rw [HV2.out] at hb_q
  have hb_u := fld_lt xs 4 4 hbb
  rw [HV4.out] at hb_u
  have hb_v := fld_lt xs 8 4 hbb
  rw [HV8.out] at hb_v
  have hb_hb := fld_lt xs 12 1 hbb
  rw [HV12.out] at hb_hb
  have hb_f := fld_lt xs 13 1 hbb
  rw [HV13.out] at hb_f
  have hb_g := fld_lt xs 14 2 hbb
  rw [HV14.out] at hb_g
  have hb_ck := fld_lt xs 16 2 hbb
  rw [HV16.out] at hb_ck
  have hb_h := fld_lt xs 18 2 hbb
  rw [HV18.out] at hb_h
  have hH : 4 * (hb / 16) = H := HH.out
  have hHb : H ≤ 60 := by omega
  have hHe : (hb : Int) / 16 * 4 = (H : Int) := by omega
  have hHw : IntKind.i64.wrap ((hb : Int) / 16) = (hb : Int) / 16 := IntWalk.i64_in _ (by omega)
  have hHx : IntKind.i64.wrap (H : Int) = (H : Int) := IntWalk.i64_in _ (by omega)
  have hwu : IntKind.u32.wrap (u : Int) = (u : Int) := by rw [IntKind.wrap_u32]; omega
  have hwv : IntKind.u32.wrap (v : Int) = (v : Int) := by rw [IntKind.wrap_u32]; omega
  have hwf : IntKind.u8.wrap (f : Int) = (f : Int) := by rw [IntKind.wrap_u8]; omega
  clear hr hno hl hbb hH
  go_enter Try.func39, Try.ntmps39
  go_wp2_with fail
  refine (fit_ok n 20 _ h1 h2).mono ?_
  rintro e wz ⟨rfl, rfl⟩
  go_wp2_with fail
  obtain ⟨R, wq, hR, hq1, hbel, hRh⟩ : ∃ R wq, w.heap.size = R ∧ w.alloc (.cells #[.int .u16 0, .int .u16 0, .int .u32 0, .int .u32 0, .int .u8 0, .int .u16 0, .int .u16 0, .slice none 0 0, .slice none 0 0] 52) = wq ∧ Below w.heap.size w wq ∧ wq.heap[R]? = some (.cells #[.int .u16 0, .int .u16 0, .int .u32 0, .int .u32 0, .int .u8 0, .int .u16 0, .int .u16 0, .slice none 0 0, .slice none 0 0] 52 (0, 0)) :=
    ⟨_, _, rfl, rfl, (Below.refl _ _).alloc (Nat.le_refl _) _, heap_alloc_new w _⟩
  rw [hq1, hR]
  have HRW := hide hR
  have HRq := hide (HR.out.below hbel (Nat.le_refl _))
  clear hq1 hR
  have hne := newEye_any a xs cap wq HRq.out (by omega)
  rw [HL.out] at hne
  have HNE := hide hne
  clear hne
  refine HNE.out.mono ?_
  rintro e w1 ⟨E, rfl, hE, heye, hb1⟩
  have hRE : R < E := Nat.lt_of_lt_of_le (lt_of_block hRh) hE
  have hR1 := hide (below_block hb1 hRh (Nat.le_refl _))
  have hB1 := hide (hbel.trans (hb1.mono hbel.size))
  have HR1 := hide (HRq.out.below hb1 (Nat.le_refl _))
  have HE1 := hide (show EyeAt w1 E E (xs.drop 0) false by simpa using heye)
  have hbE : ∀ b, a = some b → xs ≠ [] → b.block < wq.heap.size := by
    rintro b rfl hne
    obtain ⟨b', off, e, hlt, _⟩ := HRq.out hne
    cases e; exact hlt
  have hxne : xs ≠ [] := by intro e; rw [e] at hl1; simp at hl1
  have HBE := hide (fun b (e : a = some b) => (show b.block ≠ E by have := hbE b e hxne; omega))
  clear hbel hRh heye hb1 hE hbE hxne
  have hh1 := half_at E E 0 xs w1 HE1.out HB.out (by omega) (by omega)
  rw [HV0.out] at hh1
  have HH1 := hide hh1
  clear hh1
  go_wp2_with fail
  refine HH1.out.mono ?_
  rintro e w2 ⟨rfl, he2, hg2⟩
  have HE2 := hide he2
  have HG2 := hide hg2
  clear he2 hg2
  have hh2 := half_at E E 2 xs w2 HE2.out HB.out (by omega) (by omega)
  rw [HV2.out] at hh2
  have HH2 := hide hh2
  clear hh2
  go_wp2_with fail
  refine HH2.out.mono ?_
  rintro e w3 ⟨rfl, he3, hg3⟩
  have HE3 := hide he3
  have HG3 := hide hg3
  clear he3 hg3
  have hh3 := eyeNum_at E E 4 4 xs w3 HE3.out HB.out (by omega) (by omega) (by omega)
  rw [HV4.out] at hh3
  have HH3 := hide hh3
  clear hh3
  go_wp2_with fail
  refine HH3.out.mono ?_
  rintro e w4 ⟨rfl, he4, hg4⟩
  have HE4 := hide he4
  have HG4 := hide hg4
  clear he4 hg4
  have hh4 := eyeNum_at E E 8 4 xs w4 HE4.out HB.out (by omega) (by omega) (by omega)
  rw [HV8.out] at hh4
  have HH4 := hide hh4
  clear hh4
  go_wp2_with fail
  refine HH4.out.mono ?_
  rintro e w5 ⟨rfl, he5, hg5⟩
  have HE5 := hide he5
  have HG5 := hide hg5
  clear he5 hg5
  go_wp2_with fail
  obtain ⟨F, wf, hF, hq1, hbf, hFh⟩ : ∃ F wf, w5.heap.size = F ∧ w5.alloc (.cells #[.int .u16 (p : Int), .int .u16 (q : Int), .int .u32 (u : Int), .int .u32 (v : Int), .int .u8 0, .int .u16 0, .int .u16 0, .slice none 0 0, .slice none 0 0] 52) = wf ∧ Below w5.heap.size w5 wf ∧ wf.heap[F]? = some (.cells #[.int .u16 (p : Int), .int .u16 (q : Int), .int .u32 (u : Int), .int .u32 (v : Int), .int .u8 0, .int .u16 0, .int .u16 0, .slice none 0 0, .slice none 0 0] 52 (0, 0)) :=
    ⟨_, _, rfl, rfl, (Below.refl _ _).alloc (Nat.le_refl _) _, heap_alloc_new w5 _⟩
  rw [hq1, hF]
  have hEF : E < F := by have := HE5.out.lt; omega
  have HEf := hide (HE5.out.below hbf (Nat.le_refl _))
  have hG1f := gb_trans (gb_trans HG2.out (gb_trans HG3.out (gb_trans HG4.out HG5.out))) (gb_of_below hbf)
  have hRf := hide (gb_block hG1f hR1.out (by omega))
  have HRf := hide (row_gb HR1.out hG1f HBE.out)
  have hB0 := hB1.out
  have hBf := hide (hB0.trans (grownBy_below hG1f (show w.heap.size ≤ E by have := HRW.out; omega) hB0.size))
  have HFh := hide hFh
  have hwFs : w.heap.size ≤ F := by have := HRW.out; omega
  clear hq1 hF hbf hFh hG1f hB0 HE1 HE2 HE3 HE4 HE5 HG2 HG3 HG4 HG5 hR1 HR1 hB1 HH1 HH2 HH3 HH4 HNE
  have hh6 := eyeNum_at E E 12 1 xs wf HEf.out HB.out (by omega) (by omega) (by omega)
  rw [HV12.out] at hh6
  have HH6 := hide hh6
  clear hh6
  go_wp2_with fail
  refine HH6.out.mono ?_
  rintro e w7 ⟨rfl, he7, hg7⟩
  have HE7 := hide he7
  have HG7 := hide hg7
  clear he7 hg7
  have hd1 : decide ((H : Int) < 20) = false := by simp; omega
  have hd2 : decide ((n : Int) < (H : Int)) = false := by simp; omega
  have hR7 := hide (gb_block HG7.out hRf.out (by omega))
  have hF7 := hide (gb_block HG7.out HFh.out (by omega))
  have HR7 := hide (row_gb HRf.out HG7.out HBE.out)
  have hB7 := hide (hBf.out.trans (grownBy_below HG7.out (show w.heap.size ≤ E by have := HRW.out; omega) hBf.out.size))
  have HPS := hide (pseudo6_any src dst n w7 hsrc hdst (by omega))
  clear HG7 hRf HFh HRf hBf HEf
  go_wp2_with fail
  refine HPS.out.mono ?_
  rintro e w8 ⟨a8, c8, rfl, o8, b8⟩
  have hR8 := hide (below_block b8 hR7.out (Nat.le_refl _))
  have hF8 := hide (below_block b8 hF7.out (Nat.le_refl _))
  have HE8 := hide (HE7.out.below b8 (Nat.le_refl _))
  have hB8 := hide (hB7.out.trans (b8.mono hB7.out.size))
  have hrows := hide (rows_cons (c := c8) (Row.of_owns o8) (none_cap o8) (rows_cons (c := cap) (HR7.out.below b8 (Nat.le_refl _)) HNO.out (rows_nil w8)))
  clear o8 b8 HE7 hR7 hF7 HR7 hB7 HPS HH6
  go_wp2_with fail
  have hfl : flat [(a8, psB src dst 6 n, c8), (a, xs, cap)] = psB src dst 6 n ++ xs := by simp [flat]
  have hrt := rightL w8 [(a8, psB src dst 6 n, c8), (a, xs, cap)] #[.slice a8 12 c8, .slice a n cap] 2 _ rfl rfl (by simp [Part.v, psB_len, HL.out]) hrows.out (by rw [hfl, List.length_append, psB_len]; omega)
    (by rw [hfl]; intro x hx; rcases List.mem_append.1 hx with h | h; exact psB_rng _ _ _ _ (by omega) x h; exact HB.out x h) (by omega)
  rw [hfl, HCS.out] at hrt
  have HRT := hide hrt
  clear hrt hfl
  refine HRT.out.mono ?_
  rintro e w9 ⟨rfl, b9⟩
  have hR9 := hide (below_block b9 hR8.out (Nat.le_refl _))
  have hF9 := hide (below_block b9 hF8.out (Nat.le_refl _))
  have HE9 := hide (HE8.out.below b9 (Nat.le_refl _))
  have hB9 := hide (hB8.out.trans (b9.mono hB8.out.size))
  clear b9 HE8 hR8 hF8 hB8 hrows HRT
  have hRw : w.heap.size ≤ R := by have := HRW.out; omega
  obtain ⟨⟨r0, r1, r2, r3, r4, r5, r6, r7, r8⟩, rf⟩ := nine_cells hR9.out
  have hBz := hB9
  go_wp2
  refine bodyPost_ret (v := .tuple #[.agg #[.int .u16 0, .int .u16 0, .int .u32 0, .int .u32 0, .int .u8 0, .int .u16 0, .int .u16 0, .slice none 0 0, .slice none 0 0], .int .i64 12]) (by simp [results, Try.results39, go_sem, r0, r1, r2, r3, r4, r5, r6, r7, r8]) rfl ⟨rfl, ?_⟩
  repeat (with_reducible refine Below.setCell ?_ (by assumption) _)
  exact hBz.out
end Go.Proofs.Ytbacodogklbiaaa
