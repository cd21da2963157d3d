/- What the document's WriteTCP answers of a segment that may be. -/
import Derived.Test.YtimdkcndpfogcaaRTcpA
namespace Go.Proofs.Ytimdkcndpfogcaa
open Go.RowKit
set_option linter.unusedVariables false
set_option linter.unusedSimpArgs false
set_option maxRecDepth 100000
set_option maxHeartbeats 4000000 in
theorem rwtcp_ok (w : World) (src dst p q u v f g h : Nat) (oa : Option Addr) (os : List Int) (m oc : Nat) (da : Option Addr) (xs : List Int) (n dc : Nat) (hro : Row .u8 w oa os) (hno : oa = none → oc = 0) (hlo : os.length = m) (hr : Row .u8 w da xs) (hn : da = none → dc = 0) (hl : xs.length = n) (hbo : ∀ x ∈ os, 0 ≤ x ∧ x ≤ 255) (hb : ∀ x ∈ xs, 0 ≤ x ∧ x ≤ 255) (h1 : m ≤ 40) (h2 : m % 4 = 0) (h3 : n ≤ 1460 - m) (hs : src ≤ 4294967295) (hd : dst ≤ 4294967295) (hp : p ≤ 65535) (hq : q ≤ 65535) (hu : u ≤ 4294967295) (hv : v ≤ 4294967295) (hf : f ≤ 255) (hg : g ≤ 65535) (hh : h ≤ 65535) :
    Calls Try.prog 11 #[.int .u32 src, .int .u32 dst, .agg #[.int .u16 (p : Int), .int .u16 (q : Int), .int .u32 (u : Int), .int .u32 (v : Int), .int .u8 (f : Int), .int .u16 (g : Int), .int .u16 (h : Int), .slice oa m oc, .slice da n dc]] w fun e w' => ∃ a c,
      e = .returned (.tuple #[.slice a (20 + m + n) c, .int .i64 0]) ∧ w'.ownsRow w.heap.size 5 1 (.slice a (20 + m + n) c) (20 + m + n) ((tcpG p q u v f g h os xs (tcpK src dst p q u v f g h os xs).toNat).map (Value.int .u8)) ∧ Below w.heap.size w w' := by
  have HRO := hide hro
  have HR := hide hr
  have HNO := hide hno
  have HN := hide hn
  have HLO := hide hlo
  have HL := hide hl
  have HBR := hide (tcpG_rng p q u v f g h os xs 0 hf (by omega) hbo hb)
  have hZL := tcpG_len p q u v f g h os xs 0
  rw [HLO.out, HL.out] at hZL
  have HZL := hide hZL
  have hdm : decide ((0 : Int) < (m : Int) % 4) = false := by simp; omega
  have hdm2 : decide ((40 : Int) < (m : Int)) = false := by simp; omega
  have hdm3 : decide ((1460 : Int) - (m : Int) < (n : Int)) = false := by simp; omega
  have hq1 : IntKind.i64.wrap ((m : Int).tdiv 4) = ((m / 4 : Nat) : Int) := by rw [Int.tdiv_eq_ediv_of_nonneg (by omega), IntWalk.i64_in _ (by omega)]; omega
  have hq2 : (m : Int) / 4 = ((m / 4 : Nat) : Int) := by omega
  have hq3 : IntKind.i64.wrap (5 + ((m / 4 : Nat) : Int)) = 5 + ((m / 4 : Nat) : Int) := IntWalk.i64_in _ (by omega)
  have hq4 : IntKind.i64.wrap (16 * (5 + ((m / 4 : Nat) : Int))) = 16 * (5 + ((m / 4 : Nat) : Int)) := IntWalk.i64_in _ (by omega)
  have hq5 : IntKind.u8.wrap (16 * (5 + ((m / 4 : Nat) : Int))) = hdB m := by rw [IntKind.wrap_u8]; unfold hdB; omega
  have hq0 : IntKind.i64.wrap ((m / 4 : Nat) : Int) = ((m / 4 : Nat) : Int) := IntWalk.i64_in _ (by omega)
  have HQ := hide (And.intro hq0 (And.intro hq1 (And.intro hq2 (And.intro hq3 (And.intro hq4 hq5)))))
  clear hro hno hlo hr hn hl hbo hb hZL hq0 hq1 hq2 hq3 hq4 hq5
  generalize m / 4 = m4 at *
  go_enter Try.func11, Try.ntmps11
  go_wp2_with fail
  obtain ⟨B0, w0, hB, hqq, hl0, hbel, hheap⟩ : ∃ B0 wq, w.heap.size = B0 ∧ w.alloc (.cells #[.int .u16 (p : Int), .int .u16 (q : Int), .int .u32 (u : Int), .int .u32 (v : Int), .int .u8 (f : Int), .int .u16 (g : Int), .int .u16 (h : Int), .slice oa m oc, .slice da n dc] 27) = wq ∧ B0 < wq.heap.size ∧ Below w.heap.size w wq ∧
      wq.heap[B0]? = some (.cells #[.int .u16 (p : Int), .int .u16 (q : Int), .int .u32 (u : Int), .int .u32 (v : Int), .int .u8 (f : Int), .int .u16 (g : Int), .int .u16 (h : Int), .slice oa m oc, .slice da n dc] 27 (0, 0)) := ⟨_, _, rfl, rfl, by simp, (Below.refl _ _).alloc (Nat.le_refl _) _, heap_alloc_new _ _⟩
  rw [hqq, hB]
  have HB := hide hB
  have HH := hide hheap
  obtain ⟨⟨k0_0, k0_1, k0_2, k0_3, k0_4, k0_5, k0_6, k0_7, k0_8⟩, kf⟩ := nine_cells hheap
  have RS := hide (And.intro (HRO.out.below hbel (Nat.le_refl _)) (HR.out.below hbel (Nat.le_refl _)))
  have BE := hide hbel
  have BW := hide (Below.refl w0.heap.size w0)
  have hwi_p : IntKind.i64.wrap (p : Int) = (p : Int) := IntWalk.i64_in _ (by omega)
  have hwi_q : IntKind.i64.wrap (q : Int) = (q : Int) := IntWalk.i64_in _ (by omega)
  have hwi_g : IntKind.i64.wrap (g : Int) = (g : Int) := IntWalk.i64_in _ (by omega)
  have hwi_h : IntKind.i64.wrap (h : Int) = (h : Int) := IntWalk.i64_in _ (by omega)
  have hwu_u : IntKind.u64.wrap (u : Int) = (u : Int) := wraps_u64 _ (by omega) (by omega)
  have hwu_v : IntKind.u64.wrap (v : Int) = (v : Int) := wraps_u64 _ (by omega) (by omega)
  clear hqq hB hheap hbel kf h2
  go_cut [9] (fun bv wx => ∃ a c, bv = .slice a (2 + 2) c ∧ Hid (wx.ownsRow w0.heap.size 5 1 (.slice a (2 + 2) c) (2 + 2) ((numB 2 p ++ numB 2 q).map (Value.int .u8))) ∧ Hid (Below w0.heap.size w0 wx))
  case first =>
    go_region_held3 (fun w' => w'.cell? ⟨B0, 0, none⟩ = some (.int .u16 (p : Int)) ∧ w'.cell? ⟨B0, 1, none⟩ = some (.int .u16 (q : Int))) (go_keep) (first
      | (go_at_call 31; (with_reducible refine (two_any p _ ?_).mono ?_); omega; rintro e wa ⟨ga, ca, rfl, o, b⟩; (try replace b := below_of_drew b); have BW := hide (BW.out.trans (b.mono BW.out.size)); have ka_0 := (bcell BW.out B0 0 hl0).trans k0_0; have ka_1 := (bcell BW.out B0 1 hl0).trans k0_1; have hla : B0 < wa.heap.size := Nat.lt_of_lt_of_le hl0 BW.out.size; have O1 := hide o; clear b)
      | (go_at_call 31; (with_reducible refine (two_any q _ ?_).mono ?_); omega; rintro e wb ⟨gb, cb, rfl, o, b⟩; (try replace b := below_of_drew b); have BW := hide (BW.out.trans (b.mono BW.out.size)); have kb_0 := (bcell BW.out B0 0 hl0).trans k0_0; have kb_1 := (bcell BW.out B0 1 hl0).trans k0_1; have hlb : B0 < wb.heap.size := Nat.lt_of_lt_of_le hl0 BW.out.size; have O1 := hide (owns_below O1.out b (Nat.le_refl _)); have HX := hide (app_own2 _ w0.heap.size _ 2 _ O1.out (some ⟨gb, 0, none⟩) (numB 2 q) 2 cb (Row.of_owns o) (numB_len _ _) (fun h => by cases h) (by omega) BW.out.size); clear b)
      | (refine step_append_ex rfl (.tmp 31) (.tmp 35) 25 25 rfl _ _ rfl rfl _ HX.out ?_; rintro vc wc HP; have BW := hide (show Below w0.heap.size w0 wc from BW.out.trans HP.2.1); have kc_0 := (bcell BW.out B0 0 hl0).trans k0_0; have kc_1 := (bcell BW.out B0 1 hl0).trans k0_1; have hlc : B0 < wc.heap.size := Nat.lt_of_lt_of_le hl0 BW.out.size; have OF := hide HP.1; clear HP)
      | fail)
    all_goals
      have hz := OF.out
      obtain ⟨af, cf, rfl⟩ := slice_form hz
      have OZ := hide hz
      clear hz
      try go_wp2_with fail
      go_meet
      exact ⟨af, cf, rfl, OZ, BW⟩
  case rest =>
  obtain ⟨az, cz, rfl, OT, BW⟩ := hcut
  obtain ⟨wz, rfl⟩ : ∃ wz, wz = wc := ⟨_, rfl⟩
  have kz_2 := (bcell BW.out B0 2 hl0).trans k0_2
  have kz_3 := (bcell BW.out B0 3 hl0).trans k0_3
  have hlz : B0 < wz.heap.size := Nat.lt_of_lt_of_le hl0 BW.out.size
  go_wp2_with fail
  go_cut [9] (fun bv wx => ∃ a c, bv = .slice a (2 + 2 + 4 + 4) c ∧ Hid (wx.ownsRow w0.heap.size 5 1 (.slice a (2 + 2 + 4 + 4) c) (2 + 2 + 4 + 4) (((numB 2 p ++ numB 2 q) ++ numB 4 u ++ numB 4 v).map (Value.int .u8))) ∧ Hid (Below w0.heap.size w0 wx))
  case first =>
    go_region_held3 (fun w' => w'.cell? ⟨B0, 2, none⟩ = some (.int .u32 (u : Int)) ∧ w'.cell? ⟨B0, 3, none⟩ = some (.int .u32 (v : Int))) (go_keep) (first
      | (go_at_call 32; (with_reducible refine (refNum4_own u _ ?_).mono ?_); omega; rintro e wa ⟨ga, ca, rfl, o, b⟩; (try replace b := below_of_drew b); have BW := hide (BW.out.trans (b.mono BW.out.size)); have ka_2 := (bcell BW.out B0 2 hl0).trans k0_2; have ka_3 := (bcell BW.out B0 3 hl0).trans k0_3; have hla : B0 < wa.heap.size := Nat.lt_of_lt_of_le hl0 BW.out.size; have OT := hide (owns_below OT.out b (Nat.le_refl _)); have OU := hide o; have HX := hide (app_own2 _ w0.heap.size _ (2 + 2) _ OT.out (some ⟨ga, 0, none⟩) (numB 4 u) 4 ca (Row.of_owns OU.out) (numB_len _ _) (fun h => by cases h) (by omega) BW.out.size); clear b)
      | (go_at_call 32; (with_reducible refine (refNum4_own v _ ?_).mono ?_); omega; rintro e wb ⟨gb, cb, rfl, o, b⟩; (try replace b := below_of_drew b); have BW := hide (BW.out.trans (b.mono BW.out.size)); have kb_2 := (bcell BW.out B0 2 hl0).trans k0_2; have kb_3 := (bcell BW.out B0 3 hl0).trans k0_3; have hlb : B0 < wb.heap.size := Nat.lt_of_lt_of_le hl0 BW.out.size; (first | (have O1 := hide (owns_below O1.out b (Nat.le_refl _)); have HY := hide (app_own2 _ w0.heap.size _ (2 + 2 + 4) _ O1.out (some ⟨gb, 0, none⟩) (numB 4 v) 4 cb (Row.of_owns o) (numB_len _ _) (fun h => by cases h) (by omega) BW.out.size)) | (have hne := hide (fun (L : Nat) (hL : wa.heap.size ≤ L) => own_ne OT.out hL); have OT := hide (owns_below OT.out b (Nat.le_refl _)); have OU := hide (owns_below OU.out b (Nat.le_refl _)); have OV := hide o; have HX := hide (app_own2 _ w0.heap.size _ (2 + 2) _ OT.out (some ⟨ga, 0, none⟩) (numB 4 u) 4 ca (Row.of_owns OU.out) (numB_len _ _) (fun h => by cases h) (by omega) BW.out.size))); clear b)
      | (refine step_append_ex rfl (.tmp 37) (.tmp 41) 25 25 rfl _ _ rfl rfl _ HX.out ?_; rintro vc wc HP; have BW := hide (show Below w0.heap.size w0 wc from BW.out.trans HP.2.1); have kc_2 := (bcell BW.out B0 2 hl0).trans k0_2; have kc_3 := (bcell BW.out B0 3 hl0).trans k0_3; have hlc : B0 < wc.heap.size := Nat.lt_of_lt_of_le hl0 BW.out.size; have O1 := hide HP.1; (first | (have OV := hide (owns_keep OV.out HP.2.2 hne.out); have HY := hide (app_own2 _ w0.heap.size _ (2 + 2 + 4) _ O1.out (some ⟨gb, 0, none⟩) (numB 4 v) 4 cb (Row.of_owns OV.out) (numB_len _ _) (fun h => by cases h) (by omega) BW.out.size)) | skip); clear HP)
      | (refine step_append_ex rfl (.tmp 42) (.tmp 46) 25 25 rfl _ _ rfl rfl _ HY.out ?_; rintro vd wd HP; have BW := hide (show Below w0.heap.size w0 wd from BW.out.trans HP.2.1); have kd_2 := (bcell BW.out B0 2 hl0).trans k0_2; have kd_3 := (bcell BW.out B0 3 hl0).trans k0_3; have hld : B0 < wd.heap.size := Nat.lt_of_lt_of_le hl0 BW.out.size; have OF := hide HP.1; clear HP)
      | fail)
    all_goals
      have hz := OF.out
      obtain ⟨af, cf, rfl⟩ := slice_form hz
      have OZ := hide hz
      clear hz
      try go_wp2_with fail
      go_meet
      exact ⟨af, cf, rfl, OZ, BW⟩
  case rest =>
  obtain ⟨az, cz, rfl, OT, BW⟩ := hcut
  obtain ⟨wz, rfl⟩ : ∃ wz, wz = wc := ⟨_, rfl⟩
  have kz_4 := (bcell BW.out B0 4 hl0).trans k0_4
  have kz_5 := (bcell BW.out B0 5 hl0).trans k0_5
  have hlz : B0 < wz.heap.size := Nat.lt_of_lt_of_le hl0 BW.out.size
  obtain ⟨hq0, hq1, hq2, hq3, hq4, hq5⟩ := HQ.out
  go_wp2_with fail
  go_cut [9] (fun bv wx => ∃ a c, bv = .slice a (2 + 2 + 4 + 4 + 2 + 2) c ∧ Hid (wx.ownsRow w0.heap.size 5 1 (.slice a (2 + 2 + 4 + 4 + 2 + 2) c) (2 + 2 + 4 + 4 + 2 + 2) ((((numB 2 p ++ numB 2 q) ++ numB 4 u ++ numB 4 v) ++ [hdB m, (f : Int)] ++ numB 2 g).map (Value.int .u8))) ∧ Hid (Below w0.heap.size w0 wx))
  case first =>
    have hx0 : ∀ W : World, (W = wz.drew.alloc (.cells #[.int .u8 (hdB m), .int .u8 (f : Int)] 5) ∨ W = (wz.alloc (.cells #[.int .u8 (hdB m), .int .u8 (f : Int)] 5)).drew) → ∃ v' w', (Builtin.append_ #[25, 25] 25 #[.slice az (2 + 2 + 4 + 4) cz, .slice (some ⟨wz.heap.size, 0, none⟩) 2 2]).run Try.prog W = .ok v' w' ∧ (w'.ownsRow w0.heap.size 5 1 v' (2 + 2 + 4 + 4 + 2) ((((numB 2 p ++ numB 2 q) ++ numB 4 u ++ numB 4 v) ++ [hdB m, (f : Int)]).map (Value.int .u8)) ∧ Below w0.heap.size w0 w') := by
      rintro W (rfl | rfl)
      · obtain ⟨v', w', h1, h2, h3, _⟩ := app_own2 (wz.drew.alloc (.cells #[.int .u8 (hdB m), .int .u8 (f : Int)] 5)) w0.heap.size _ (2 + 2 + 4 + 4) _ (OT.out.drew.alloc _) (some ⟨wz.heap.size, 0, none⟩) [hdB m, (f : Int)] 2 2 (row_two (heap_alloc_new wz.drew _)) rfl (fun h => by cases h) (by omega) (Nat.le_trans BW.out.size (by simp))
        exact ⟨v', w', h1, h2, (BW.out.drew.alloc BW.out.size _).trans h3⟩
      · obtain ⟨v', w', h1, h2, h3, _⟩ := app_own2 (wz.alloc (.cells #[.int .u8 (hdB m), .int .u8 (f : Int)] 5)).drew w0.heap.size _ (2 + 2 + 4 + 4) _ (OT.out.alloc _).drew (some ⟨wz.heap.size, 0, none⟩) [hdB m, (f : Int)] 2 2 (show Row .u8 (wz.alloc (.cells #[.int .u8 (hdB m), .int .u8 (f : Int)] 5)).drew _ _ from row_two (heap_alloc_new wz _)) rfl (fun h => by cases h) (by omega) (Nat.le_trans BW.out.size (by simp))
        exact ⟨v', w', h1, h2, ((BW.out.alloc BW.out.size _).drew).trans h3⟩
    have HX0 := hide hx0
    clear hx0
    go_region_held3 (fun w' => w'.cell? ⟨B0, 4, none⟩ = some (.int .u8 (f : Int)) ∧ w'.cell? ⟨B0, 5, none⟩ = some (.int .u16 (g : Int))) (go_keep) (first
      | (go_at_call 31; (with_reducible refine (two_any g _ ?_).mono ?_); omega; rintro e wa ⟨ga, ca, rfl, o, b⟩; (first | (have LB := hide (litB b)) | (have LB := hide (litB_d b)) | (have LB := hide (below_block b LB.out (Nat.le_refl _))) | skip); (try replace b := bel_lit b); (try replace b := below_of_drew b); (try replace b := bel_lit b); have BW := hide (BW.out.trans (b.mono BW.out.size)); have ka_4 := (bcell BW.out B0 4 hl0).trans k0_4; have ka_5 := (bcell BW.out B0 5 hl0).trans k0_5; have hla : B0 < wa.heap.size := Nat.lt_of_lt_of_le hl0 BW.out.size; (first | (have O1 := hide (owns_below O1.out b (Nat.le_refl _)); have HY := hide (app_own2 _ w0.heap.size _ (2 + 2 + 4 + 4 + 2) _ O1.out (some ⟨ga, 0, none⟩) (numB 2 g) 2 ca (Row.of_owns o) (numB_len _ _) (fun h => by cases h) (by omega) BW.out.size)) | (have OV := hide (owns_mono (base' := wz.heap.size) o (by simp)); have hne := hide (fun (L : Nat) (hL : wz.heap.size ≤ L) => own_ne OT.out hL); have hsz := b.size; have OT := hide (owns_below OT.out b (Nat.le_refl _)); (first | (have HX := hide (app_own2 _ w0.heap.size _ (2 + 2 + 4 + 4) _ OT.out (some ⟨_, 0, none⟩) [hdB m, (f : Int)] 2 2 (row_two LB.out) rfl (fun h => by cases h) (by omega) BW.out.size)) | (have HX := hide (app_own2 (wa.alloc (.cells #[.int .u8 (hdB m), .int .u8 (f : Int)] 5)) w0.heap.size _ (2 + 2 + 4 + 4) _ (OT.out.alloc _) (some ⟨wa.heap.size, 0, none⟩) [hdB m, (f : Int)] 2 2 (row_two (heap_alloc_new wa _)) rfl (fun h => by cases h) (by omega) (Nat.le_trans BW.out.size (by simp))); have OVb := hide (OV.out.alloc (.cells #[.int .u8 (hdB m), .int .u8 (f : Int)] 5)))))); clear b)
      | (refine step_append_ex rfl (.tmp 48) (.tmp 56) 25 25 rfl _ _ rfl rfl _ (HX0.out _ (Or.inl ?_)) ?_; (with_reducible rfl); rintro vb wb HP; have BW := hide HP.2; have kb_4 := (bcell BW.out B0 4 hl0).trans k0_4; have kb_5 := (bcell BW.out B0 5 hl0).trans k0_5; have hlb : B0 < wb.heap.size := Nat.lt_of_lt_of_le hl0 BW.out.size; have O1 := hide HP.1; clear HP)
      | (refine step_append_ex rfl (.tmp 48) (.tmp 56) 25 25 rfl _ _ rfl rfl _ (HX0.out _ (Or.inr ?_)) ?_; (with_reducible rfl); rintro vb wb HP; have BW := hide HP.2; have kb_4 := (bcell BW.out B0 4 hl0).trans k0_4; have kb_5 := (bcell BW.out B0 5 hl0).trans k0_5; have hlb : B0 < wb.heap.size := Nat.lt_of_lt_of_le hl0 BW.out.size; have O1 := hide HP.1; clear HP)
      | (refine step_append_ex rfl (.tmp 48) (.tmp 56) 25 25 rfl _ _ rfl rfl _ HX.out ?_; rintro vb wb HP; have BW := hide (show Below w0.heap.size w0 wb from (by first | exact BW.out.trans HP.2.1 | exact (BW.out.alloc BW.out.size _).trans HP.2.1)); have kb_4 := (bcell BW.out B0 4 hl0).trans k0_4; have kb_5 := (bcell BW.out B0 5 hl0).trans k0_5; have hlb : B0 < wb.heap.size := Nat.lt_of_lt_of_le hl0 BW.out.size; have O1 := hide HP.1; have OV := hide (show wb.ownsRow wz.heap.size 5 1 _ _ _ from (by first | exact owns_keep OV.out HP.2.2 hne.out | exact owns_keep OVb.out HP.2.2 hne.out)); have HY := hide (app_own2 _ w0.heap.size _ (2 + 2 + 4 + 4 + 2) _ O1.out (some ⟨ga, 0, none⟩) (numB 2 g) 2 ca (Row.of_owns OV.out) (numB_len _ _) (fun h => by cases h) (by omega) BW.out.size); clear HP)
      | (refine step_append_ex rfl (.tmp 57) (.tmp 61) 25 25 rfl _ _ rfl rfl _ HY.out ?_; rintro vc wc' HP; have BW := hide (BW.out.trans HP.2.1); have kc_4 := (bcell BW.out B0 4 hl0).trans k0_4; have kc_5 := (bcell BW.out B0 5 hl0).trans k0_5; have hlc : B0 < wc'.heap.size := Nat.lt_of_lt_of_le hl0 BW.out.size; have OF := hide HP.1; clear HP)
      | fail)
    all_goals
      have hz := OF.out
      obtain ⟨af, cf, rfl⟩ := slice_form hz
      have OZ := hide hz
      clear hz
      try go_wp2_with fail
      go_meet
      exact ⟨af, cf, rfl, OZ, BW⟩
  case rest =>
  obtain ⟨az, cz, rfl, OT, BW⟩ := hcut
  obtain ⟨wz, rfl⟩ : ∃ wz, wz = wc := ⟨_, rfl⟩
  have kz_6 := (bcell BW.out B0 6 hl0).trans k0_6
  have kz_7 := (bcell BW.out B0 7 hl0).trans k0_7
  have hlz : B0 < wz.heap.size := Nat.lt_of_lt_of_le hl0 BW.out.size
  clear hq0 hq1 hq2 hq3 hq4 hq5
  go_wp2_with fail
  go_cut [9] (fun bv wx => ∃ a c, bv = .slice a (2 + 2 + 4 + 4 + 2 + 2 + 2 + 2 + m) c ∧ Hid (wx.ownsRow w0.heap.size 5 1 (.slice a (2 + 2 + 4 + 4 + 2 + 2 + 2 + 2 + m) c) (2 + 2 + 4 + 4 + 2 + 2 + 2 + 2 + m) (((((numB 2 p ++ numB 2 q) ++ numB 4 u ++ numB 4 v) ++ [hdB m, (f : Int)] ++ numB 2 g) ++ [0, 0] ++ numB 2 h ++ os).map (Value.int .u8))) ∧ Hid (Below w0.heap.size w0 wx))
  case first =>
    have hx0 : ∀ W : World, (W = wz.drew.alloc (.cells #[.int .u8 0, .int .u8 0] 5) ∨ W = (wz.alloc (.cells #[.int .u8 0, .int .u8 0] 5)).drew) → ∃ v' w', (Builtin.append_ #[25, 25] 25 #[.slice az (2 + 2 + 4 + 4 + 2 + 2) cz, .slice (some ⟨wz.heap.size, 0, none⟩) 2 2]).run Try.prog W = .ok v' w' ∧ (w'.ownsRow w0.heap.size 5 1 v' (2 + 2 + 4 + 4 + 2 + 2 + 2) (((((numB 2 p ++ numB 2 q) ++ numB 4 u ++ numB 4 v) ++ [hdB m, (f : Int)] ++ numB 2 g) ++ [0, 0]).map (Value.int .u8)) ∧ Below w0.heap.size w0 w') := by
      rintro W (rfl | rfl)
      · obtain ⟨v', w', h1, h2, h3, _⟩ := app_own2 (wz.drew.alloc (.cells #[.int .u8 0, .int .u8 0] 5)) w0.heap.size _ (2 + 2 + 4 + 4 + 2 + 2) _ (OT.out.drew.alloc _) (some ⟨wz.heap.size, 0, none⟩) [0, 0] 2 2 (row_two (heap_alloc_new wz.drew _)) rfl (fun h => by cases h) (by omega) (Nat.le_trans BW.out.size (by simp))
        exact ⟨v', w', h1, h2, (BW.out.drew.alloc BW.out.size _).trans h3⟩
      · obtain ⟨v', w', h1, h2, h3, _⟩ := app_own2 (wz.alloc (.cells #[.int .u8 0, .int .u8 0] 5)).drew w0.heap.size _ (2 + 2 + 4 + 4 + 2 + 2) _ (OT.out.alloc _).drew (some ⟨wz.heap.size, 0, none⟩) [0, 0] 2 2 (show Row .u8 (wz.alloc (.cells #[.int .u8 0, .int .u8 0] 5)).drew _ _ from row_two (heap_alloc_new wz _)) rfl (fun h => by cases h) (by omega) (Nat.le_trans BW.out.size (by simp))
        exact ⟨v', w', h1, h2, ((BW.out.alloc BW.out.size _).drew).trans h3⟩
    have HX0 := hide hx0
    clear hx0
    go_region_held3 (fun w' => w'.cell? ⟨B0, 6, none⟩ = some (.int .u16 (h : Int)) ∧ w'.cell? ⟨B0, 7, none⟩ = some (.slice oa m oc)) (go_keep) (first
      | (go_at_call 31; (with_reducible refine (two_any h _ ?_).mono ?_); omega; rintro e wa ⟨ga, ca, rfl, o, b⟩; (first | (have LB := hide (litB b)) | (have LB := hide (litB_d b)) | (have LB := hide (below_block b LB.out (Nat.le_refl _))) | skip); (try replace b := bel_lit b); (try replace b := below_of_drew b); (try replace b := bel_lit b); have BW := hide (BW.out.trans (b.mono BW.out.size)); have ka_6 := (bcell BW.out B0 6 hl0).trans k0_6; have ka_7 := (bcell BW.out B0 7 hl0).trans k0_7; have hla : B0 < wa.heap.size := Nat.lt_of_lt_of_le hl0 BW.out.size; (first | (have O1 := hide (owns_below O1.out b (Nat.le_refl _)); have HY := hide (app_own2 _ w0.heap.size _ (2 + 2 + 4 + 4 + 2 + 2 + 2) _ O1.out (some ⟨ga, 0, none⟩) (numB 2 h) 2 ca (Row.of_owns o) (numB_len _ _) (fun h => by cases h) (by omega) BW.out.size)) | (have OV := hide (owns_mono (base' := wz.heap.size) o (by simp)); have hne := hide (fun (L : Nat) (hL : wz.heap.size ≤ L) => own_ne OT.out hL); have hsz := b.size; have OT := hide (owns_below OT.out b (Nat.le_refl _)); (first | (have HX := hide (app_own2 _ w0.heap.size _ (2 + 2 + 4 + 4 + 2 + 2) _ OT.out (some ⟨_, 0, none⟩) [0, 0] 2 2 (row_two LB.out) rfl (fun h => by cases h) (by omega) BW.out.size)) | (have HX := hide (app_own2 (wa.alloc (.cells #[.int .u8 0, .int .u8 0] 5)) w0.heap.size _ (2 + 2 + 4 + 4 + 2 + 2) _ (OT.out.alloc _) (some ⟨wa.heap.size, 0, none⟩) [0, 0] 2 2 (row_two (heap_alloc_new wa _)) rfl (fun h => by cases h) (by omega) (Nat.le_trans BW.out.size (by simp))); have OVb := hide (OV.out.alloc (.cells #[.int .u8 0, .int .u8 0] 5)))))); clear b)
      | (refine step_append_ex rfl (.tmp 63) (.tmp 64) 25 25 rfl _ _ rfl rfl _ (HX0.out _ (Or.inl ?_)) ?_; (with_reducible rfl); rintro vb wb HP; have BW := hide HP.2; have kb_6 := (bcell BW.out B0 6 hl0).trans k0_6; have kb_7 := (bcell BW.out B0 7 hl0).trans k0_7; have hlb : B0 < wb.heap.size := Nat.lt_of_lt_of_le hl0 BW.out.size; have O1 := hide HP.1; clear HP)
      | (refine step_append_ex rfl (.tmp 63) (.tmp 64) 25 25 rfl _ _ rfl rfl _ (HX0.out _ (Or.inr ?_)) ?_; (with_reducible rfl); rintro vb wb HP; have BW := hide HP.2; have kb_6 := (bcell BW.out B0 6 hl0).trans k0_6; have kb_7 := (bcell BW.out B0 7 hl0).trans k0_7; have hlb : B0 < wb.heap.size := Nat.lt_of_lt_of_le hl0 BW.out.size; have O1 := hide HP.1; clear HP)
      | (refine step_append_ex rfl (.tmp 63) (.tmp 64) 25 25 rfl _ _ rfl rfl _ HX.out ?_; rintro vb wb HP; have BW := hide (show Below w0.heap.size w0 wb from (by first | exact BW.out.trans HP.2.1 | exact (BW.out.alloc BW.out.size _).trans HP.2.1)); have kb_6 := (bcell BW.out B0 6 hl0).trans k0_6; have kb_7 := (bcell BW.out B0 7 hl0).trans k0_7; have hlb : B0 < wb.heap.size := Nat.lt_of_lt_of_le hl0 BW.out.size; have O1 := hide HP.1; have OV := hide (show wb.ownsRow wz.heap.size 5 1 _ _ _ from (by first | exact owns_keep OV.out HP.2.2 hne.out | exact owns_keep OVb.out HP.2.2 hne.out)); have HY := hide (app_own2 _ w0.heap.size _ (2 + 2 + 4 + 4 + 2 + 2 + 2) _ O1.out (some ⟨ga, 0, none⟩) (numB 2 h) 2 ca (Row.of_owns OV.out) (numB_len _ _) (fun h => by cases h) (by omega) BW.out.size); clear HP)
      | (refine step_append_ex rfl (.tmp 65) (.tmp 69) 25 25 rfl _ _ rfl rfl _ HY.out ?_; rintro vc wc' HP; have BW := hide (BW.out.trans HP.2.1); have kc_6 := (bcell BW.out B0 6 hl0).trans k0_6; have kc_7 := (bcell BW.out B0 7 hl0).trans k0_7; have hlc : B0 < wc'.heap.size := Nat.lt_of_lt_of_le hl0 BW.out.size; have OF := hide HP.1; have HZ := hide (app_own2 _ w0.heap.size _ (2 + 2 + 4 + 4 + 2 + 2 + 2 + 2) _ OF.out oa os m oc (RS.out.1.below BW.out (Nat.le_refl _)) HLO.out HNO.out (by omega) BW.out.size); clear HP)
      | (refine step_append_ex rfl (.tmp 70) (.tmp 72) 25 25 rfl _ _ rfl rfl _ HZ.out ?_; rintro vd wd HP; have BW := hide (BW.out.trans HP.2.1); have kd_6 := (bcell BW.out B0 6 hl0).trans k0_6; have kd_7 := (bcell BW.out B0 7 hl0).trans k0_7; have OF := hide HP.1; clear HP)
      | fail)
    all_goals
      have hz := OF.out
      obtain ⟨af, cf, rfl⟩ := slice_form hz
      have OZ := hide hz
      clear hz
      try go_wp2_with fail
      go_meet
      exact ⟨af, cf, rfl, OZ, BW⟩
  case rest =>
  obtain ⟨az, cz, rfl, OT, BW⟩ := hcut
  obtain ⟨wz, rfl⟩ : ∃ wz, wz = wc := ⟨_, rfl⟩
  have kz_8 := (bcell BW.out B0 8 hl0).trans k0_8
  have hlz : B0 < wz.heap.size := Nat.lt_of_lt_of_le hl0 BW.out.size
  have hx10 := app_own wz w0.heap.size _ (2 + 2 + 4 + 4 + 2 + 2 + 2 + 2 + m) _ OT.out da xs n dc (RS.out.2.below BW.out (Nat.le_refl _)) HL.out HN.out (by omega) BW.out.size
  obtain ⟨v10, w10, hrun, o10, b10⟩ := hx10
  obtain ⟨a10, c10, rfl⟩ := slice_form o10
  have HRUN := hide hrun
  have e10 : ((((numB 2 p ++ numB 2 q) ++ numB 4 u ++ numB 4 v) ++ [hdB m, (f : Int)] ++ numB 2 g) ++ [0, 0] ++ numB 2 h ++ os) ++ xs = tcpG p q u v f g h os xs 0 := by
    have h0 : numB 2 0 = [0, 0] := rfl
    simp [tcpG, h0, HLO.out]
  rw [e10] at o10
  have e11 : 2 + 2 + 4 + 4 + 2 + 2 + 2 + 2 + m + n = 20 + m + n := by omega
  rw [e11] at o10 HRUN
  have O10 := hide (owns_mono o10 BE.out.size)
  have B10 := hide (BE.out.trans ((BW.out.trans b10).mono BE.out.size))
  have hrs := rsum_any src dst 6 (20 + m + n) c10 a10 (tcpG p q u v f g h os xs 0) w10 (Row.of_owns o10) (none_cap o10) HZL.out HBR.out hs hd (by omega) (by omega)
  have HRS := hide hrs
  clear hrun o10 b10 e10 e11 hrs k0_0 k0_1 k0_2 k0_3 k0_4 k0_5 k0_6 k0_7 k0_8
  go_wp2_with (at_builtin; refine Lib.wpList_append_run _ rfl _ _ _ _ rfl _ _ rfl rfl _ _ HRUN.out ?_)
  refine HRS.out.mono ?_
  rintro e w11 ⟨rfl, b11⟩
  have O11 := hide (owns_below O10.out b11 (Nat.le_refl _))
  have B11 := hide (B10.out.trans (b11.mono B10.out.size))
  clear b11
  have hcr := csum_rng (psB src dst 6 (20 + m + n) ++ tcpG p q u v f g h os xs 0)
  have hKd : tcpK src dst p q u v f g h os xs = csum (psB src dst 6 (20 + m + n) ++ tcpG p q u v f g h os xs 0) := by unfold tcpK; rw [HLO.out, HL.out]
  have hKe : csum (psB src dst 6 (20 + m + n) ++ tcpG p q u v f g h os xs 0) = (((tcpK src dst p q u v f g h os xs).toNat : Nat) : Int) := by rw [hKd]; omega
  have hKle : (tcpK src dst p q u v f g h os xs).toNat ≤ 65535 := by rw [hKd]; omega
  rw [hKe]
  obtain ⟨k, HKK⟩ : ∃ k, Hid ((tcpK src dst p q u v f g h os xs).toNat = k) := ⟨_, rfl⟩
  rw [HKK.out] at hKle ⊢
  clear hKe hcr hKd
  have hlay := rlay_any w.heap.size (20 + m + n) c10 16 a10 (tcpG p q u v f g h os xs 0) k w11 O11.out (by omega) (by omega) hKle
  rw [tcp_spl] at hlay
  have HLY := hide hlay
  clear hlay
  go_wp2_with fail
  refine HLY.out.mono ?_
  rintro e w12 ⟨rfl, o12, b12⟩
  have O12 := hide o12
  have B12 := hide (B11.out.trans b12)
  clear o12 b12
  go_wp2
  go_ret2
  exact ⟨a10, c10, rfl, by rw [HKK.out]; exact O12.out, B12.out⟩
end Go.Proofs.Ytimdkcndpfogcaa
