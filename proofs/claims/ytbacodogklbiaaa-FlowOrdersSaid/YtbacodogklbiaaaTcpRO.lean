/- What trans.ReadTCP answers where the segment is right. -/
import Derived.Test.YtbacodogklbiaaaTcpR
import Derived.Test.YtbacodogklbiaaaTLay
namespace Go.Proofs.Ytbacodogklbiaaa
open Go.RowKit
set_option linter.unusedVariables false
set_option linter.unusedSimpArgs false
set_option maxRecDepth 100000
theorem owns_gb {w w' : World} {base E : Nat} {v : Value} {n : Nat} {xs : List Value} (h : w.ownsRow base 5 1 v n xs) (hg : w.grownBy w' (some E)) (hE : E < base) : w'.ownsRow base 5 1 v n xs := by
  refine ⟨h.1, ?_⟩
  rcases h.2 with h | ⟨r, cap, cur, hv, hr, hh, rest⟩
  · exact .inl h
  · exact .inr ⟨r, cap, cur, hv, hr, gb_block hg hh (by omega), rest⟩

set_option maxHeartbeats 3000000 in
theorem rtcp_ok (w : World) (src dst : Nat) (a : Option Addr) (xs : List Int) (n cap p q u v hb f g ck h H : Nat) (hr : Row .u8 w a xs) (hno : a = none → cap = 0) (hl : xs.length = n) (hbb : ∀ x ∈ xs, 0 ≤ x ∧ x ≤ 255) (h1 : 20 ≤ n) (h2 : n ≤ 1480)
    (HV0 : Hid (fld xs 0 2 = p)) (HV2 : Hid (fld xs 2 2 = q)) (HV4 : Hid (fld xs 4 4 = u)) (HV8 : Hid (fld xs 8 4 = v)) (HV12 : Hid (fld xs 12 1 = hb)) (HV13 : Hid (fld xs 13 1 = f)) (HV14 : Hid (fld xs 14 2 = g)) (HV16 : Hid (fld xs 16 2 = ck)) (HV18 : Hid (fld xs 18 2 = h)) (HH : Hid (4 * (hb / 16) = H)) (hf1 : 20 ≤ H) (hf2 : H ≤ n) (hsrc : src ≤ 4294967295) (hdst : dst ≤ 4294967295) (HCS : Hid ((csum (psB src dst 6 n ++ xs) == 0) = true)) :
    Calls Try.prog 39 #[.int .u32 src, .int .u32 dst, .slice a n cap] w fun e w' => ∃ a' c' a2 c2, e = .returned (.tuple #[.agg #[.int .u16 (p : Int), .int .u16 (q : Int), .int .u32 (u : Int), .int .u32 (v : Int), .int .u8 (f : Int), .int .u16 (g : Int), .int .u16 (h : Int), (.slice a' (H - 20) c'), (.slice a2 (n - H) c2)], .int .i64 0]) ∧ w'.ownsRow w.heap.size 5 1 (.slice a' (H - 20) c') (H - 20) (((xs.drop 20).take (H - 20)).map (Value.int .u8)) ∧ w'.ownsRow w.heap.size 5 1 (.slice a2 (n - H) c2) (n - H) ((xs.drop H).map (Value.int .u8)) ∧ Below w.heap.size w w' := by
  have HR := hide hr
  have HNO := hide hno
  have hl1 : 20 ≤ xs.length := by omega
  have hl2 : xs.length ≤ 1480 := by omega
  have HL := hide hl
  have HB := hide hbb
  have hb_p := fld_lt xs 0 2 hbb
  rw [HV0.out] at hb_p
  have hb_q := fld_lt xs 2 2 hbb
  rw [HV2.out] at hb_q
  have hb_u := fld_lt xs 4 4 hbb
  rw [HV4.out] at hb_u
  have hb_v := fld_lt xs 8 4 hbb
  rw [HV8.out] at hb_v
  have hb_hb := fld_lt xs 12 1 hbb
  rw [HV12.out] at hb_hb
  have hb_f := fld_lt xs 13 1 hbb
  rw [HV13.out] at hb_f
  have hb_g := fld_lt xs 14 2 hbb
  rw [HV14.out] at hb_g
  have hb_ck := fld_lt xs 16 2 hbb
  rw [HV16.out] at hb_ck
  have hb_h := fld_lt xs 18 2 hbb
  rw [HV18.out] at hb_h
  have hH : 4 * (hb / 16) = H := HH.out
  have hHb : H ≤ 60 := by omega
  have hHe : (hb : Int) / 16 * 4 = (H : Int) := by omega
  have hHw : IntKind.i64.wrap ((hb : Int) / 16) = (hb : Int) / 16 := IntWalk.i64_in _ (by omega)
  have hHx : IntKind.i64.wrap (H : Int) = (H : Int) := IntWalk.i64_in _ (by omega)
  have hwu : IntKind.u32.wrap (u : Int) = (u : Int) := by rw [IntKind.wrap_u32]; omega
  have hwv : IntKind.u32.wrap (v : Int) = (v : Int) := by rw [IntKind.wrap_u32]; omega
  have hwf : IntKind.u8.wrap (f : Int) = (f : Int) := by rw [IntKind.wrap_u8]; omega
  clear hr hno hl hbb hH
  go_enter Try.func39, Try.ntmps39
  go_wp2_with fail
  refine (fit_ok n 20 _ h1 h2).mono ?_
  rintro e wz ⟨rfl, rfl⟩
  go_wp2_with fail
  obtain ⟨R, wq, hR, hq1, hbel, hRh⟩ : ∃ R wq, w.heap.size = R ∧ w.alloc (.cells #[.int .u16 0, .int .u16 0, .int .u32 0, .int .u32 0, .int .u8 0, .int .u16 0, .int .u16 0, .slice none 0 0, .slice none 0 0] 52) = wq ∧ Below w.heap.size w wq ∧ wq.heap[R]? = some (.cells #[.int .u16 0, .int .u16 0, .int .u32 0, .int .u32 0, .int .u8 0, .int .u16 0, .int .u16 0, .slice none 0 0, .slice none 0 0] 52 (0, 0)) :=
    ⟨_, _, rfl, rfl, (Below.refl _ _).alloc (Nat.le_refl _) _, heap_alloc_new w _⟩
  rw [hq1, hR]
  have HRW := hide hR
  have HRq := hide (HR.out.below hbel (Nat.le_refl _))
  clear hq1 hR
  have hne := newEye_any a xs cap wq HRq.out (by omega)
  rw [HL.out] at hne
  have HNE := hide hne
  clear hne
  refine HNE.out.mono ?_
  rintro e w1 ⟨E, rfl, hE, heye, hb1⟩
  have hRE : R < E := Nat.lt_of_lt_of_le (lt_of_block hRh) hE
  have hR1 := hide (below_block hb1 hRh (Nat.le_refl _))
  have hB1 := hide (hbel.trans (hb1.mono hbel.size))
  have HR1 := hide (HRq.out.below hb1 (Nat.le_refl _))
  have HE1 := hide (show EyeAt w1 E E (xs.drop 0) false by simpa using heye)
  have hbE : ∀ b, a = some b → xs ≠ [] → b.block < wq.heap.size := by
    rintro b rfl hne
    obtain ⟨b', off, e, hlt, _⟩ := HRq.out hne
    cases e; exact hlt
  have hxne : xs ≠ [] := by intro e; rw [e] at hl1; simp at hl1
  have HBE := hide (fun b (e : a = some b) => (show b.block ≠ E by have := hbE b e hxne; omega))
  clear hbel hRh heye hb1 hE hbE hxne
  have hh1 := half_at E E 0 xs w1 HE1.out HB.out (by omega) (by omega)
  rw [HV0.out] at hh1
  have HH1 := hide hh1
  clear hh1
  go_wp2_with fail
  refine HH1.out.mono ?_
  rintro e w2 ⟨rfl, he2, hg2⟩
  have HE2 := hide he2
  have HG2 := hide hg2
  clear he2 hg2
  have hh2 := half_at E E 2 xs w2 HE2.out HB.out (by omega) (by omega)
  rw [HV2.out] at hh2
  have HH2 := hide hh2
  clear hh2
  go_wp2_with fail
  refine HH2.out.mono ?_
  rintro e w3 ⟨rfl, he3, hg3⟩
  have HE3 := hide he3
  have HG3 := hide hg3
  clear he3 hg3
  have hh3 := eyeNum_at E E 4 4 xs w3 HE3.out HB.out (by omega) (by omega) (by omega)
  rw [HV4.out] at hh3
  have HH3 := hide hh3
  clear hh3
  go_wp2_with fail
  refine HH3.out.mono ?_
  rintro e w4 ⟨rfl, he4, hg4⟩
  have HE4 := hide he4
  have HG4 := hide hg4
  clear he4 hg4
  have hh4 := eyeNum_at E E 8 4 xs w4 HE4.out HB.out (by omega) (by omega) (by omega)
  rw [HV8.out] at hh4
  have HH4 := hide hh4
  clear hh4
  go_wp2_with fail
  refine HH4.out.mono ?_
  rintro e w5 ⟨rfl, he5, hg5⟩
  have HE5 := hide he5
  have HG5 := hide hg5
  clear he5 hg5
  go_wp2_with fail
  obtain ⟨F, wf, hF, hq1, hbf, hFh⟩ : ∃ F wf, w5.heap.size = F ∧ w5.alloc (.cells #[.int .u16 (p : Int), .int .u16 (q : Int), .int .u32 (u : Int), .int .u32 (v : Int), .int .u8 0, .int .u16 0, .int .u16 0, .slice none 0 0, .slice none 0 0] 52) = wf ∧ Below w5.heap.size w5 wf ∧ wf.heap[F]? = some (.cells #[.int .u16 (p : Int), .int .u16 (q : Int), .int .u32 (u : Int), .int .u32 (v : Int), .int .u8 0, .int .u16 0, .int .u16 0, .slice none 0 0, .slice none 0 0] 52 (0, 0)) :=
    ⟨_, _, rfl, rfl, (Below.refl _ _).alloc (Nat.le_refl _) _, heap_alloc_new w5 _⟩
  rw [hq1, hF]
  have hEF : E < F := by have := HE5.out.lt; omega
  have HEf := hide (HE5.out.below hbf (Nat.le_refl _))
  have hG1f := gb_trans (gb_trans HG2.out (gb_trans HG3.out (gb_trans HG4.out HG5.out))) (gb_of_below hbf)
  have hRf := hide (gb_block hG1f hR1.out (by omega))
  have HRf := hide (row_gb HR1.out hG1f HBE.out)
  have hB0 := hB1.out
  have hBf := hide (hB0.trans (grownBy_below hG1f (show w.heap.size ≤ E by have := HRW.out; omega) hB0.size))
  have HFh := hide hFh
  have hwFs : w.heap.size ≤ F := by have := HRW.out; omega
  clear hq1 hF hbf hFh hG1f hB0 HE1 HE2 HE3 HE4 HE5 HG2 HG3 HG4 HG5 hR1 HR1 hB1 HH1 HH2 HH3 HH4 HNE
  have hh6 := eyeNum_at E E 12 1 xs wf HEf.out HB.out (by omega) (by omega) (by omega)
  rw [HV12.out] at hh6
  have HH6 := hide hh6
  clear hh6
  go_wp2_with fail
  refine HH6.out.mono ?_
  rintro e w7 ⟨rfl, he7, hg7⟩
  have HE7 := hide he7
  have HG7 := hide hg7
  clear he7 hg7
  have hd1 : decide ((H : Int) < 20) = false := by simp; omega
  have hd2 : decide ((n : Int) < (H : Int)) = false := by simp; omega
  have hR7 := hide (gb_block HG7.out hRf.out (by omega))
  have hF7 := hide (gb_block HG7.out HFh.out (by omega))
  have HR7 := hide (row_gb HRf.out HG7.out HBE.out)
  have hB7 := hide (hBf.out.trans (grownBy_below HG7.out (show w.heap.size ≤ E by have := HRW.out; omega) hBf.out.size))
  have HPS := hide (pseudo6_any src dst n w7 hsrc hdst (by omega))
  clear HG7 hRf HFh HRf hBf HEf
  go_wp2_with fail
  refine HPS.out.mono ?_
  rintro e w8 ⟨a8, c8, rfl, o8, b8⟩
  have hR8 := hide (below_block b8 hR7.out (Nat.le_refl _))
  have hF8 := hide (below_block b8 hF7.out (Nat.le_refl _))
  have HE8 := hide (HE7.out.below b8 (Nat.le_refl _))
  have hB8 := hide (hB7.out.trans (b8.mono hB7.out.size))
  have hrows := hide (rows_cons (c := c8) (Row.of_owns o8) (none_cap o8) (rows_cons (c := cap) (HR7.out.below b8 (Nat.le_refl _)) HNO.out (rows_nil w8)))
  clear o8 b8 HE7 hR7 hF7 HR7 hB7 HPS HH6
  go_wp2_with fail
  have hfl : flat [(a8, psB src dst 6 n, c8), (a, xs, cap)] = psB src dst 6 n ++ xs := by simp [flat]
  have hrt := rightL w8 [(a8, psB src dst 6 n, c8), (a, xs, cap)] #[.slice a8 12 c8, .slice a n cap] 2 _ rfl rfl (by simp [Part.v, psB_len, HL.out]) hrows.out (by rw [hfl, List.length_append, psB_len]; omega)
    (by rw [hfl]; intro x hx; rcases List.mem_append.1 hx with h | h; exact psB_rng _ _ _ _ (by omega) x h; exact HB.out x h) (by omega)
  rw [hfl, HCS.out] at hrt
  have HRT := hide hrt
  clear hrt hfl
  refine HRT.out.mono ?_
  rintro e w9 ⟨rfl, b9⟩
  have hR9 := hide (below_block b9 hR8.out (Nat.le_refl _))
  have hF9 := hide (below_block b9 hF8.out (Nat.le_refl _))
  have HE9 := hide (HE8.out.below b9 (Nat.le_refl _))
  have hB9 := hide (hB8.out.trans (b9.mono hB8.out.size))
  clear b9 HE8 hR8 hF8 hB8 hrows HRT
  have hRw : w.heap.size ≤ R := by have := HRW.out; omega
  have hh9 := eyeNum_at E E 13 1 xs w9 HE9.out HB.out (by omega) (by omega) (by omega)
  rw [HV13.out] at hh9
  have HH9 := hide hh9
  clear hh9
  go_wp2_with fail
  refine HH9.out.mono ?_
  rintro e w10 ⟨rfl, he10, hg10⟩
  have HE10 := hide he10
  have HG10 := hide hg10
  clear he10 hg10
  have hh10 := half_at E E 14 xs w10 HE10.out HB.out (by omega) (by omega)
  rw [HV14.out] at hh10
  have HH10 := hide hh10
  clear hh10
  go_wp2_with fail
  refine HH10.out.mono ?_
  rintro e w11 ⟨rfl, he11, hg11⟩
  have HE11 := hide he11
  have HG11 := hide hg11
  clear he11 hg11
  have hGc := gb_trans HG10.out HG11.out
  have hF_w11 := gb_block hGc hF9.out (by omega)
  have hR_w11 := gb_block hGc hR9.out (by omega)
  have hB_w11 := hB9.out.trans (grownBy_below hGc (show w.heap.size ≤ E by have := HRW.out; omega) hB9.out.size)
  clear hGc
  have hFl := lt_of_block hF_w11
  obtain ⟨⟨m0, m1, m2, m3, m4, m5, m6, m7, m8⟩, mf⟩ := nine_cells hF_w11
  go_wp2_with fail
  obtain ⟨w12, hq_w12, hF_w12, hR_w12, HE12, hB_w12⟩ : ∃ wt, ((w11.setCell ⟨F, 4, none⟩ (.int .u8 (f : Int))).setCell ⟨F, 5, none⟩ (.int .u16 (g : Int))) = wt ∧ wt.heap[F]? = some (.cells #[.int .u16 (p : Int), .int .u16 (q : Int), .int .u32 (u : Int), .int .u32 (v : Int), .int .u8 (f : Int), .int .u16 (g : Int), .int .u16 0, .slice none 0 0, .slice none 0 0] 52 (0, 0)) ∧ wt.heap[R]? = some (.cells #[.int .u16 0, .int .u16 0, .int .u32 0, .int .u32 0, .int .u8 0, .int .u16 0, .int .u16 0, .slice none 0 0, .slice none 0 0] 52 (0, 0)) ∧ Hid (EyeAt wt E E (xs.drop 16) false) ∧ Below w.heap.size w wt :=
    ⟨_, rfl, (nine_set (nine_set hF_w11)), (set_ne_block (set_ne_block hR_w11 (by omega)) (by omega)), hide ((HE11.out.set (by omega) (by omega)).set (by omega) (by omega)), ((hB_w11.setCell (by simpa using hwFs) _).setCell (by simpa using hwFs) _)⟩
  rw [hq_w12]
  clear hq_w12 hF_w11 hR_w11 hB_w11
  clear m0 m1 m2 m3 m4 m5 m6 m7 m8 mf HE9 HE10 HE11 HG10 HG11 hF9 hR9 hB9
  have hh12 := half_at E E 16 xs w12 HE12.out HB.out (by omega) (by omega)
  rw [HV16.out] at hh12
  have HH12 := hide hh12
  clear hh12
  refine HH12.out.mono ?_
  rintro e w13 ⟨rfl, he13, hg13⟩
  have HE13 := hide he13
  have HG13 := hide hg13
  clear he13 hg13
  have hh13 := half_at E E 18 xs w13 HE13.out HB.out (by omega) (by omega)
  rw [HV18.out] at hh13
  have HH13 := hide hh13
  clear hh13
  go_wp2_with fail
  refine HH13.out.mono ?_
  rintro e w14 ⟨rfl, he14, hg14⟩
  have HE14 := hide he14
  have HG14 := hide hg14
  clear he14 hg14
  have hsub : IntKind.i64.wrap ((H : Int) - 20) = (((H - 20 : Nat)) : Int) := by rw [IntWalk.i64_in _ (by omega)]; omega
  have hby := bytes_at E E 20 (H - 20) xs w14 HE14.out (by omega) (by have := HL.out; omega)
  rw [show 20 + (H - 20) = H by omega] at hby
  have HBY := hide hby
  clear hby
  go_wp2_with fail
  refine HBY.out.mono ?_
  rintro e w15 ⟨a14, c14, rfl, o15, he15, hg15⟩
  have HO15 := hide o15
  have HE15 := hide he15
  have HG15 := hide hg15
  clear o15 he15 hg15
  have hGc := gb_trans HG13.out (gb_trans HG14.out HG15.out)
  have hF_w15 := gb_block hGc hF_w12 (by omega)
  have hR_w15 := gb_block hGc hR_w12 (by omega)
  have hB_w15 := hB_w12.trans (grownBy_below hGc (show w.heap.size ≤ E by have := HRW.out; omega) hB_w12.size)
  clear hGc
  have hb14 : w.heap.size ≤ w14.heap.size := Nat.le_trans hB_w12.size (gb_trans HG13.out HG14.out).size
  have hF14l : F < w14.heap.size := Nat.lt_of_lt_of_le (lt_of_block hF_w12) (gb_trans HG13.out HG14.out).size
  clear hF_w12 hR_w12 hB_w12
  obtain ⟨⟨m0, m1, m2, m3, m4, m5, m6, m7, m8⟩, mf⟩ := nine_cells hF_w15
  go_wp2_with fail
  obtain ⟨w16, hq_w16, hF_w16, hR_w16, HE16, HO16, hB_w16⟩ : ∃ wt, ((w15.setCell ⟨F, 6, none⟩ (.int .u16 (h : Int))).setCell ⟨F, 7, none⟩ (.slice a14 (H - 20) c14)) = wt ∧ wt.heap[F]? = some (.cells #[.int .u16 (p : Int), .int .u16 (q : Int), .int .u32 (u : Int), .int .u32 (v : Int), .int .u8 (f : Int), .int .u16 (g : Int), .int .u16 (h : Int), .slice a14 (H - 20) c14, .slice none 0 0] 52 (0, 0)) ∧ wt.heap[R]? = some (.cells #[.int .u16 0, .int .u16 0, .int .u32 0, .int .u32 0, .int .u8 0, .int .u16 0, .int .u16 0, .slice none 0 0, .slice none 0 0] 52 (0, 0)) ∧ Hid (EyeAt wt E E (xs.drop H) false) ∧ Hid (wt.ownsRow w14.heap.size 5 1 (.slice a14 (H - 20) c14) (H - 20) (((xs.drop 20).take (H - 20)).map (Value.int .u8))) ∧ Below w.heap.size w wt :=
    ⟨_, rfl, (nine_set (nine_set hF_w15)), (set_ne_block (set_ne_block hR_w15 (by omega)) (by omega)), hide ((HE15.out.set (by omega) (by omega)).set (by omega) (by omega)), hide (owns_set (owns_set HO15.out hF14l) hF14l), ((hB_w15.setCell (by simpa using hwFs) _).setCell (by simpa using hwFs) _)⟩
  rw [hq_w16]
  clear hq_w16 hF_w15 hR_w15 hB_w15
  have hE14 := HE14.out.lt
  clear m0 m1 m2 m3 m4 m5 m6 m7 m8 mf HE12 HE13 HE14 HE15 HG13 HG14 HG15 HO15 HBY
  have hlf := left_at E E H xs n w16 HE16.out HL.out
  have hby := bytes_at E E H (n - H) xs w16 HE16.out (by omega) (by have := HL.out; omega)
  rw [List.take_of_length_le (by rw [List.length_drop, HL.out]; omega)] at hby
  have HLF := hide hlf
  have HBY := hide hby
  clear hlf hby
  refine HLF.out.mono ?_
  rintro e wl ⟨rfl, rfl⟩
  go_wp2_with fail
  refine HBY.out.mono ?_
  rintro e w17 ⟨a16, c16, rfl, o17, he17, hg17⟩
  have hGc := hg17
  have hF_w17 := gb_block hGc hF_w16 (by omega)
  have hR_w17 := gb_block hGc hR_w16 (by omega)
  have hB_w17 := hB_w16.trans (grownBy_below hGc (show w.heap.size ≤ E by have := HRW.out; omega) hB_w16.size)
  clear hGc
  have hFl2 := lt_of_block hF_w16
  have hRl2 := lt_of_block hR_w16
  have hb16 : w.heap.size ≤ w16.heap.size := hB_w16.size
  have HO17 := hide o17
  have HO17a := hide (owns_gb HO16.out hg17 (by omega))
  clear o17 he17 hg17 hF_w16 hR_w16 hB_w16
  obtain ⟨⟨m0, m1, m2, m3, m4, m5, m6, m7, m8⟩, mf⟩ := nine_cells hF_w17
  obtain ⟨⟨r0, r1, r2, r3, r4, r5, r6, r7, r8⟩, rf⟩ := nine_cells hR_w17
  have hBz := hide hB_w17
  clear hF_w17 hR_w17 hB_w17
  go_wp2
  refine bodyPost_ret (v := .tuple #[.agg #[.int .u16 (p : Int), .int .u16 (q : Int), .int .u32 (u : Int), .int .u32 (v : Int), .int .u8 (f : Int), .int .u16 (g : Int), .int .u16 (h : Int), .slice a14 (H - 20) c14, .slice a16 (n - H) c16], .int .i64 0]) (by simp [results, Try.results39, go_sem, r0, r1, r2, r3, r4, r5, r6, r7, r8, m0, m1, m2, m3, m4, m5, m6, m7, m8]) rfl ⟨a14, c14, a16, c16, rfl, ?_, ?_, ?_⟩
  · refine owns_mono (base := w14.heap.size) ?_ hb14
    repeat (with_reducible refine owns_set ?_ (by omega))
    exact HO17a.out
  · refine owns_mono (base := w16.heap.size) ?_ hb16
    repeat (with_reducible refine owns_set ?_ (by assumption))
    exact HO17.out
  · repeat (with_reducible refine Below.setCell ?_ (by assumption) _)
    exact hBz.out
end Go.Proofs.Ytbacodogklbiaaa
