/- What the document's ReadUDP answers of a datagram that is right. -/
import Derived.Test.YtbacodogklbiaaaRRUdpB
import Derived.Test.YtbacodogklbiaaaRRTcpO
import Derived.Test.YtbacodogklbiaaaSameUI
import Derived.Deep.RegionHeld3
namespace Go.Proofs.Ytbacodogklbiaaa
open Go.RowKit
set_option linter.unusedVariables false
set_option linter.unusedSimpArgs false
set_option maxRecDepth 100000

set_option maxHeartbeats 1600000 in
theorem rrudp_ok (w : World) (src dst : Nat) (a : Option Addr) (xs : List Int) (n cap h0 h1x h2x h3 h4 h5 h6 h7 sz p q : Nat) (hr : Row .u8 w a xs) (hno : a = none → cap = 0) (hl : xs.length = n) (hbb : ∀ x ∈ xs, 0 ≤ x ∧ x ≤ 255) (h1 : 8 ≤ n) (h2 : n ≤ 1480) (HV4 : Hid (fld xs 4 1 = h4)) (HV5 : Hid (fld xs 5 1 = h5)) (HV0 : Hid (fld xs 0 1 = h0)) (HV1 : Hid (fld xs 1 1 = h1x)) (HV2 : Hid (fld xs 2 1 = h2x)) (HV3 : Hid (fld xs 3 1 = h3)) (HP : Hid (256 * h0 + h1x = p)) (HQ : Hid (256 * h2x + h3 = q)) (HS : Hid (256 * h4 + h5 = sz)) (hcap : n ≤ cap) (HV6 : Hid (fld xs 6 1 = h6)) (HV7 : Hid (fld xs 7 1 = h7)) (hf1 : 8 ≤ sz) (hf2 : sz ≤ n) (hcap2 : cap ≤ 9223372036854775807) (hck : ¬ (h6 = 0 ∧ h7 = 0)) (hsrc : src ≤ 4294967295) (hdst : dst ≤ 4294967295) (HCS : Hid (csum (psB src dst 17 sz ++ xs.take sz) = 0)) :
    Calls Try.prog 24 #[.int .u32 src, .int .u32 dst, .slice a n cap] w fun e w' => ∃ a' c, e = .returned (.tuple #[.agg #[.int .u16 (p : Int), .int .u16 (q : Int), .bool false, .slice a' (sz - 8) c], .int .i64 0]) ∧ w'.ownsRow w.heap.size 5 1 (.slice a' (sz - 8) c) (sz - 8) (((xs.drop 8).take (sz - 8)).map (Value.int .u8)) ∧ Below w.heap.size w w' := by
  have HR := hide hr
  have hl1 : 8 ≤ xs.length := by omega
  have HL := hide hl
  have HB := hide hbb
  have HNO := hide hno
  obtain ⟨b0, o0, rfl, hlt0, hc0⟩ := hr (by intro e; subst e; simp at hl1)
  have c4 := hc0 4 (by omega)
  have c5 := hc0 5 (by omega)
  rw [fld_one xs 4 hbb (by omega), HV4.out] at c4
  rw [fld_one xs 5 hbb (by omega), HV5.out] at c5
  have hb4 := fld_lt xs 4 1 hbb
  have hb5 := fld_lt xs 5 1 hbb
  rw [HV4.out] at hb4
  rw [HV5.out] at hb5
  have hS : 256 * h4 + h5 = sz := HS.out
  have hw4 : IntKind.i64.wrap (h4 : Int) = (h4 : Int) := IntWalk.i64_in _ (by omega)
  have hw5 : IntKind.i64.wrap (h5 : Int) = (h5 : Int) := IntWalk.i64_in _ (by omega)
  have hm4 : IntKind.i64.wrap (256 * (h4 : Int)) = 256 * (h4 : Int) := IntWalk.i64_in _ (by omega)
  have hs4 : IntKind.i64.wrap (256 * (h4 : Int) + (h5 : Int)) = (sz : Int) := by rw [IntWalk.i64_in _ (by omega)]; omega
  clear hr hno hl hbb hc0
  have hn1 : ¬ ((n : Int) < 8) := by omega
  have hn2 : ¬ ((1480 : Int) < (n : Int)) := by omega
  have h14 : (4 : Int) < (n : Int) := by omega
  have h15 : (5 : Int) < (n : Int) := by omega
  have hd1 : decide ((sz : Int) < 8) = false := by simp; omega
  have hd2 : decide ((n : Int) < (sz : Int)) = false := by simp; omega
  go_enter Try.func24, Try.ntmps24
  go_wp2_with fail
  go_quiet (fail)
  obtain ⟨wx, hwx, HBx, hzx⟩ : ∃ wx, (w.alloc (.cells #[.int .u16 0, .int .u16 0, .bool false, .slice none 0 0] 54)).drewN nq = wx ∧ Below w.heap.size w wx ∧ wx.heap[w.heap.size]? = some (.cells #[.int .u16 0, .int .u16 0, .bool false, .slice none 0 0] 54 (0, 0)) := ⟨_, rfl, bdrewN ((Below.refl _ _).alloc (Nat.le_refl _) _) _, heap_alloc_new w _⟩
  rw [hwx]
  obtain ⟨r0, r1, r2, r3, rf⟩ := four_cells hzx
  have HZ := hide hzx
  have HBW := hide HBx
  have HRX := hide (HR.out.below HBx (Nat.le_refl _))
  obtain ⟨b1, o1, hbe, hlt1, hc1⟩ := HRX.out (by intro e; have := HL.out; subst e; simp at hl1)
  cases hbe
  have c6 := hc1 6 (by omega)
  have c7 := hc1 7 (by omega)
  rw [fld_one xs 6 HB.out (by omega), HV6.out] at c6
  rw [fld_one xs 7 HB.out (by omega), HV7.out] at c7
  clear hc1 hwx HBx hzx c4 c5 hlt1
  have h16 : (6 : Int) < (n : Int) := by omega
  have h17 : (7 : Int) < (n : Int) := by omega
  have hsz1 : (0 : Int) ≤ (sz : Int) := by omega
  have hsz2 : (sz : Int) ≤ (cap : Int) := by omega
  by_cases h6z : h6 = 0
  · have ht6 : ((h6 : Int) == 0) = true := by simp; omega
    have ht7 : ((h7 : Int) == 0) = false := by simp; omega
    have hrs := rsum_any src dst 17 sz cap (some ⟨b0, o0, none⟩) (xs.take sz) wx (row_take HRX.out sz) (fun h => by cases h) (by rw [List.length_take]; have := HL.out; omega) (fun x hx => HB.out x (List.mem_of_mem_take hx)) hsrc hdst (by omega) (by omega)
    rw [HCS.out] at hrs
    have HRS := hide hrs
    clear hrs
    go_wp2_with fail
    refine HRS.out.mono ?_
    rintro e w2 ⟨rfl, b2⟩
    have HZV := hide (below_block b2 HZ.out (Nat.le_refl _))
    have HBV := hide (HBW.out.trans (b2.mono HBW.out.size))
    clear b2 HRX HRS HZ HBW r0 r1 r2 r3 rf
    go_wp2_with fail
    have HRV := hide (HR.out.below HBV.out (Nat.le_refl _))
    obtain ⟨b2, o2, hbe2, hlt2, hc2⟩ := HRV.out (by intro e; have := HL.out; subst e; simp at hl1)
    cases hbe2
    have c0 := hc2 0 (by omega)
    have c1 := hc2 1 (by omega)
    have c2 := hc2 2 (by omega)
    have c3 := hc2 3 (by omega)
    rw [fld_one xs 0 HB.out (by omega), HV0.out] at c0
    rw [fld_one xs 1 HB.out (by omega), HV1.out] at c1
    rw [fld_one xs 2 HB.out (by omega), HV2.out] at c2
    rw [fld_one xs 3 HB.out (by omega), HV3.out] at c3
    clear hc2 hlt2
    have hb0 := fld_lt xs 0 1 HB.out
    have hb1 := fld_lt xs 1 1 HB.out
    have hb2 := fld_lt xs 2 1 HB.out
    have hb3 := fld_lt xs 3 1 HB.out
    rw [HV0.out] at hb0
    rw [HV1.out] at hb1
    rw [HV2.out] at hb2
    rw [HV3.out] at hb3
    have hP := HP.out
    have hQ := HQ.out
    have hu0 : IntKind.u16.wrap (h0 : Int) = (h0 : Int) := wraps_u16 _ (by omega) (by omega)
    have hu1 : IntKind.u16.wrap (h1x : Int) = (h1x : Int) := wraps_u16 _ (by omega) (by omega)
    have hu2 : IntKind.u16.wrap (h2x : Int) = (h2x : Int) := wraps_u16 _ (by omega) (by omega)
    have hu3 : IntKind.u16.wrap (h3 : Int) = (h3 : Int) := wraps_u16 _ (by omega) (by omega)
    have hv0 : IntKind.u16.wrap (256 * (h0 : Int)) = 256 * (h0 : Int) := wraps_u16 _ (by omega) (by omega)
    have hv2 : IntKind.u16.wrap (256 * (h2x : Int)) = 256 * (h2x : Int) := wraps_u16 _ (by omega) (by omega)
    have hvp : IntKind.u16.wrap (256 * (h0 : Int) + (h1x : Int)) = (p : Int) := by rw [wraps_u16 _ (by omega) (by omega)]; omega
    have hvq : IntKind.u16.wrap (256 * (h2x : Int) + (h3 : Int)) = (q : Int) := by rw [wraps_u16 _ (by omega) (by omega)]; omega
    have h10 : (0 : Int) < (n : Int) := by omega
    have h10n : 0 < n := by omega
    have hsz8 : (8 : Int) ≤ (sz : Int) := by omega
    have h11 : (1 : Int) < (n : Int) := by omega
    have h12 : (2 : Int) < (n : Int) := by omega
    have h13 : (3 : Int) < (n : Int) := by omega
    obtain ⟨A1, hs1, hrA1, hnA1⟩ := cut_run (some ⟨b0, o0, none⟩) xs n cap 8 (sz - 8) w2 HRV.out HL.out hcap (fun h => by cases h) (by omega)
    rw [show ((8 : Nat) : Int) = 8 from rfl, show (8 : Int) + ((sz - 8 : Nat) : Int) = (sz : Int) by omega] at hs1
    have hal : Below w2.heap.size w2 (w2.alloc (.cells #[] 5)).drew := Below.drew ((Below.refl _ _).alloc (Nat.le_refl _) _)
    obtain ⟨v8, w8, hrun, o8, b8⟩ := app_own (w2.alloc (.cells #[] 5)).drew w2.heap.size _ 0 [] (owns_nil2 w2).drew A1 ((xs.drop 8).take (sz - 8)) (sz - 8) (cap - 8) (hrA1.below hal (Nat.le_refl _)) (by rw [List.length_take, List.length_drop, HL.out]; omega) hnA1 (by omega) hal.size
    obtain ⟨a8, c8, rfl⟩ := slice_form o8
    simp only [Nat.zero_add, List.nil_append] at o8 hrun
    have hb8 := hal.trans b8
    obtain ⟨q0, q1, q2, q3, qf⟩ := four_cells (below_block hb8 HZV.out (Nat.le_refl _))
    have k0 := (bcell hb8 b0 o0 (Nat.lt_of_lt_of_le hlt0 HBV.out.size))
    have HB8 := hide (HBV.out.trans (hb8.mono HBV.out.size))
    have HO8 := hide o8
    have hwV := HBV.out.size
    have hltV := lt_of_block HZV.out
    have d0 := (bcell hb8 b0 (o0 + 0) (Nat.lt_of_lt_of_le hlt0 HBV.out.size)).trans c0
    have d1 := (bcell hb8 b0 (o0 + 1) (Nat.lt_of_lt_of_le hlt0 HBV.out.size)).trans c1
    have d2 := (bcell hb8 b0 (o0 + 2) (Nat.lt_of_lt_of_le hlt0 HBV.out.size)).trans c2
    have d3 := (bcell hb8 b0 (o0 + 3) (Nat.lt_of_lt_of_le hlt0 HBV.out.size)).trans c3
    simp only [Nat.add_zero] at c0 d0
    have hx : ∃ v' w', (Builtin.append_ #[25, 25] 25 #[.slice (some ⟨w2.heap.size, 0, none⟩) 0 0, .slice A1 (sz - 8) (cap - 8)]).run Try.prog (w2.alloc (.cells #[] 5)).drew = .ok v' w' ∧ (v' = .slice a8 (sz - 8) c8 ∧ w' = w8) := ⟨_, _, hrun, rfl, rfl⟩
    have HRN := hide hx
    have hw0 : w.heap.size ≤ w.heap.size := Nat.le_refl _
    have hne : ¬ b0 = w.heap.size := by omega
    have hne2 : ¬ w.heap.size = b0 := by omega
    clear hx hrun o8 b8 hb8 hal hrA1 k0 c6 c7
    go_region_held3 (fun w' => w'.cell? ⟨b0, o0, none⟩ = some (.int .u8 h0) ∧ w'.cell? ⟨b0, o0 + 1, none⟩ = some (.int .u8 h1x) ∧ w'.cell? ⟨b0, o0 + 2, none⟩ = some (.int .u8 h2x) ∧ w'.cell? ⟨b0, o0 + 3, none⟩ = some (.int .u8 h3)) (go_keep) (first
      | (refine step_append_ex rfl (.tmp 80) (.tmp 83) 25 25 rfl _ _ rfl rfl _ HRN.out ?_; rintro v9 w9 ⟨rfl, rfl⟩)
      | fail)
    all_goals
      go_wp2
      refine bodyPost_ret (v := .tuple #[.agg #[.int .u16 (p : Int), .int .u16 (q : Int), .bool false, .slice a8 (sz - 8) c8], .int .i64 0]) (by simp [results, Try.results24, go_sem, q0, q1, q2, q3]) rfl ⟨a8, c8, rfl, ?_, ?_⟩
      · refine owns_mono (base := w2.heap.size) ?_ hwV
        repeat (with_reducible refine owns_set ?_ (by assumption))
        exact HO8.out
      · repeat (with_reducible refine Below.setCell ?_ (by assumption) _)
        exact HB8.out
  · have ht6 : ((h6 : Int) == 0) = false := by simp; omega
    have hrs := rsum_any src dst 17 sz cap (some ⟨b0, o0, none⟩) (xs.take sz) wx (row_take HRX.out sz) (fun h => by cases h) (by rw [List.length_take]; have := HL.out; omega) (fun x hx => HB.out x (List.mem_of_mem_take hx)) hsrc hdst (by omega) (by omega)
    rw [HCS.out] at hrs
    have HRS := hide hrs
    clear hrs
    go_wp2_with fail
    refine HRS.out.mono ?_
    rintro e w2 ⟨rfl, b2⟩
    have HZV := hide (below_block b2 HZ.out (Nat.le_refl _))
    have HBV := hide (HBW.out.trans (b2.mono HBW.out.size))
    clear b2 HRX HRS HZ HBW r0 r1 r2 r3 rf
    go_wp2_with fail
    have HRV := hide (HR.out.below HBV.out (Nat.le_refl _))
    obtain ⟨b2, o2, hbe2, hlt2, hc2⟩ := HRV.out (by intro e; have := HL.out; subst e; simp at hl1)
    cases hbe2
    have c0 := hc2 0 (by omega)
    have c1 := hc2 1 (by omega)
    have c2 := hc2 2 (by omega)
    have c3 := hc2 3 (by omega)
    rw [fld_one xs 0 HB.out (by omega), HV0.out] at c0
    rw [fld_one xs 1 HB.out (by omega), HV1.out] at c1
    rw [fld_one xs 2 HB.out (by omega), HV2.out] at c2
    rw [fld_one xs 3 HB.out (by omega), HV3.out] at c3
    clear hc2 hlt2
    have hb0 := fld_lt xs 0 1 HB.out
    have hb1 := fld_lt xs 1 1 HB.out
    have hb2 := fld_lt xs 2 1 HB.out
    have hb3 := fld_lt xs 3 1 HB.out
    rw [HV0.out] at hb0
    rw [HV1.out] at hb1
    rw [HV2.out] at hb2
    rw [HV3.out] at hb3
    have hP := HP.out
    have hQ := HQ.out
    have hu0 : IntKind.u16.wrap (h0 : Int) = (h0 : Int) := wraps_u16 _ (by omega) (by omega)
    have hu1 : IntKind.u16.wrap (h1x : Int) = (h1x : Int) := wraps_u16 _ (by omega) (by omega)
    have hu2 : IntKind.u16.wrap (h2x : Int) = (h2x : Int) := wraps_u16 _ (by omega) (by omega)
    have hu3 : IntKind.u16.wrap (h3 : Int) = (h3 : Int) := wraps_u16 _ (by omega) (by omega)
    have hv0 : IntKind.u16.wrap (256 * (h0 : Int)) = 256 * (h0 : Int) := wraps_u16 _ (by omega) (by omega)
    have hv2 : IntKind.u16.wrap (256 * (h2x : Int)) = 256 * (h2x : Int) := wraps_u16 _ (by omega) (by omega)
    have hvp : IntKind.u16.wrap (256 * (h0 : Int) + (h1x : Int)) = (p : Int) := by rw [wraps_u16 _ (by omega) (by omega)]; omega
    have hvq : IntKind.u16.wrap (256 * (h2x : Int) + (h3 : Int)) = (q : Int) := by rw [wraps_u16 _ (by omega) (by omega)]; omega
    have h10 : (0 : Int) < (n : Int) := by omega
    have h10n : 0 < n := by omega
    have hsz8 : (8 : Int) ≤ (sz : Int) := by omega
    have h11 : (1 : Int) < (n : Int) := by omega
    have h12 : (2 : Int) < (n : Int) := by omega
    have h13 : (3 : Int) < (n : Int) := by omega
    obtain ⟨A1, hs1, hrA1, hnA1⟩ := cut_run (some ⟨b0, o0, none⟩) xs n cap 8 (sz - 8) w2 HRV.out HL.out hcap (fun h => by cases h) (by omega)
    rw [show ((8 : Nat) : Int) = 8 from rfl, show (8 : Int) + ((sz - 8 : Nat) : Int) = (sz : Int) by omega] at hs1
    have hal : Below w2.heap.size w2 (w2.alloc (.cells #[] 5)).drew := Below.drew ((Below.refl _ _).alloc (Nat.le_refl _) _)
    obtain ⟨v8, w8, hrun, o8, b8⟩ := app_own (w2.alloc (.cells #[] 5)).drew w2.heap.size _ 0 [] (owns_nil2 w2).drew A1 ((xs.drop 8).take (sz - 8)) (sz - 8) (cap - 8) (hrA1.below hal (Nat.le_refl _)) (by rw [List.length_take, List.length_drop, HL.out]; omega) hnA1 (by omega) hal.size
    obtain ⟨a8, c8, rfl⟩ := slice_form o8
    simp only [Nat.zero_add, List.nil_append] at o8 hrun
    have hb8 := hal.trans b8
    obtain ⟨q0, q1, q2, q3, qf⟩ := four_cells (below_block hb8 HZV.out (Nat.le_refl _))
    have k0 := (bcell hb8 b0 o0 (Nat.lt_of_lt_of_le hlt0 HBV.out.size))
    have HB8 := hide (HBV.out.trans (hb8.mono HBV.out.size))
    have HO8 := hide o8
    have hwV := HBV.out.size
    have hltV := lt_of_block HZV.out
    have d0 := (bcell hb8 b0 (o0 + 0) (Nat.lt_of_lt_of_le hlt0 HBV.out.size)).trans c0
    have d1 := (bcell hb8 b0 (o0 + 1) (Nat.lt_of_lt_of_le hlt0 HBV.out.size)).trans c1
    have d2 := (bcell hb8 b0 (o0 + 2) (Nat.lt_of_lt_of_le hlt0 HBV.out.size)).trans c2
    have d3 := (bcell hb8 b0 (o0 + 3) (Nat.lt_of_lt_of_le hlt0 HBV.out.size)).trans c3
    simp only [Nat.add_zero] at c0 d0
    have hx : ∃ v' w', (Builtin.append_ #[25, 25] 25 #[.slice (some ⟨w2.heap.size, 0, none⟩) 0 0, .slice A1 (sz - 8) (cap - 8)]).run Try.prog (w2.alloc (.cells #[] 5)).drew = .ok v' w' ∧ (v' = .slice a8 (sz - 8) c8 ∧ w' = w8) := ⟨_, _, hrun, rfl, rfl⟩
    have HRN := hide hx
    have hw0 : w.heap.size ≤ w.heap.size := Nat.le_refl _
    have hne : ¬ b0 = w.heap.size := by omega
    have hne2 : ¬ w.heap.size = b0 := by omega
    clear hx hrun o8 b8 hb8 hal hrA1 k0 c6 c7
    go_region_held3 (fun w' => w'.cell? ⟨b0, o0, none⟩ = some (.int .u8 h0) ∧ w'.cell? ⟨b0, o0 + 1, none⟩ = some (.int .u8 h1x) ∧ w'.cell? ⟨b0, o0 + 2, none⟩ = some (.int .u8 h2x) ∧ w'.cell? ⟨b0, o0 + 3, none⟩ = some (.int .u8 h3)) (go_keep) (first
      | (refine step_append_ex rfl (.tmp 80) (.tmp 83) 25 25 rfl _ _ rfl rfl _ HRN.out ?_; rintro v9 w9 ⟨rfl, rfl⟩)
      | fail)
    all_goals
      go_wp2
      refine bodyPost_ret (v := .tuple #[.agg #[.int .u16 (p : Int), .int .u16 (q : Int), .bool false, .slice a8 (sz - 8) c8], .int .i64 0]) (by simp [results, Try.results24, go_sem, q0, q1, q2, q3]) rfl ⟨a8, c8, rfl, ?_, ?_⟩
      · refine owns_mono (base := w2.heap.size) ?_ hwV
        repeat (with_reducible refine owns_set ?_ (by assumption))
        exact HO8.out
      · repeat (with_reducible refine Below.setCell ?_ (by assumption) _)
        exact HB8.out
end Go.Proofs.Ytbacodogklbiaaa
