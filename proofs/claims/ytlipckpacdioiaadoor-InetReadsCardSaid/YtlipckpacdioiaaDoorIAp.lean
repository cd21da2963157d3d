/- inet: InetApart. -/
import Derived.Test.YtlipckpacdioiaaDoorIPa
namespace Go.Proofs.YtlipckpacdioiaaDoor
open Go.RowKit
set_option linter.unusedVariables false
set_option linter.unusedSimpArgs false
set_option maxRecDepth 100000
theorem ipG_rng (tt P id s d : Nat) (xs : List Int) (hk : PkOk tt P id s d) (hb : ∀ x ∈ xs, 0 ≤ x ∧ x ≤ 255) : ∀ x ∈ ipG tt P id s d xs, 0 ≤ x ∧ x ≤ 255 := fun x hx => by
  rw [ipG_ipM] at hx
  rcases List.mem_append.1 hx with h | h
  · exact ipM_rng _ _ _ _ _ _ _ _ hk.ht hk.hP x h
  · exact hb x h
theorem ipG_inj (p0 p1 p2 p3 p4 q0 q1 q2 q3 q4 : Nat) (xs ys : List Int) (hp : PkOk p0 p1 p2 p3 p4) (hq : PkOk q0 q1 q2 q3 q4) (h1 : xs.length ≤ 1480) (h2 : ys.length ≤ 1480) :
    (((p0 : Int) == (q0 : Int)) && ((p1 : Int) == (q1 : Int)) && ((p2 : Int) == (q2 : Int)) && ((p3 : Int) == (q3 : Int)) && ((p4 : Int) == (q4 : Int)) && (xs == ys)) = (ipG p0 p1 p2 p3 p4 xs == ipG q0 q1 q2 q3 q4 ys) := by
  rw [Bool.eq_iff_iff]
  simp only [Bool.and_eq_true, beq_iff_eq]
  constructor
  · rintro ⟨⟨⟨⟨⟨e0, e1⟩, e2⟩, e3⟩, e4⟩, e5⟩
    obtain rfl : p0 = q0 := by omega
    obtain rfl : p1 = q1 := by omega
    obtain rfl : p2 = q2 := by omega
    obtain rfl : p3 = q3 := by omega
    obtain rfl : p4 = q4 := by omega
    rw [e5]
  · intro e
    rw [ipG_ipM, ipG_ipM] at e
    obtain ⟨f2, f4, f6, f8, f9, f12, f16⟩ := ipM_flds p0 p1 p2 p3 p4 16384 (ipMK p0 p1 p2 p3 p4 16384 xs.length) xs.length xs hp.ht hp.hP hp.hid hp.hs hp.hd (by omega) h1
    obtain ⟨g2, g4, g6, g8, g9, g12, g16⟩ := ipM_flds q0 q1 q2 q3 q4 16384 (ipMK q0 q1 q2 q3 q4 16384 ys.length) ys.length ys hq.ht hq.hP hq.hid hq.hs hq.hd (by omega) h2
    rw [e] at f4 f8 f9 f12 f16
    have hd := congrArg (List.drop 20) e
    rw [List.drop_append_of_le_length (by rw [ipM_len]; exact Nat.le_refl _), List.drop_append_of_le_length (by rw [ipM_len]; exact Nat.le_refl _), List.drop_of_length_le (by rw [ipM_len]; exact Nat.le_refl _), List.drop_of_length_le (by rw [ipM_len]; exact Nat.le_refl _)] at hd
    have hd' : xs = ys := by simpa using hd
    exact ⟨⟨⟨⟨⟨by omega, by omega⟩, by omega⟩, by omega⟩, by omega⟩, hd'⟩
/-- Two packets in their boxes. -/
theorem two_boxes (w : World) (x y : Array Value) (t : TypeId) : ∃ V, (w.alloc (.cells x t)).alloc (.cells y t) = V ∧ Below w.heap.size w V ∧ V.heap[w.heap.size]? = some (.cells x t (0, 0)) ∧ V.heap[w.heap.size + 1]? = some (.cells y t (0, 0)) :=
  ⟨_, rfl, ((Below.refl _ _).alloc (Nat.le_refl _) _).alloc (by simp) _, below_block ((Below.refl _ _).alloc (Nat.le_refl _) _) (heap_alloc_new w _) (Nat.le_refl _), by
    have := heap_alloc_new (w.alloc (.cells x t)) (.cells y t)
    simpa using this⟩
set_option maxHeartbeats 8000000 in
theorem inetApart_any (w : World) (p0 p1 p2 p3 p4 : Nat) (da : Option Addr) (xs : List Int) (n dc : Nat) (q0 q1 q2 q3 q4 : Nat) (ea : Option Addr) (ys : List Int) (m ec : Nat) (cut : Int) (hp : PkOk p0 p1 p2 p3 p4) (hq : PkOk q0 q1 q2 q3 q4) (hL : Lies w da xs n dc) (hl : xs.length = n) (hb : ∀ x ∈ xs, 0 ≤ x ∧ x ≤ 255) (hM : Lies w ea ys m ec) (hm : ys.length = m) (hc : ∀ x ∈ ys, 0 ≤ x ∧ x ≤ 255) (ht : PT w) :
    Calls Tryd.prog 7 #[.agg (pkV p0 p1 p2 p3 p4 da n dc), .agg (pkV q0 q1 q2 q3 q4 ea m ec), .int .i64 cut] w (Yes w) := by
  obtain ⟨wq, hqq, hbel, hn1, hn2⟩ := two_boxes w (pkV p0 p1 p2 p3 p4 da n dc) (pkV q0 q1 q2 q3 q4 ea m ec) 27
  have HS := hide (speaks_any wq (ht.below hbel (Nat.le_refl _)))
  have HB := hide hbel
  have HN1 := hide hn1
  have HN2 := hide hn2
  have HLq := hide (hL.below hbel (Nat.le_refl _))
  have HMq := hide (hM.below hbel (Nat.le_refl _))
  have HP := hide hp
  have HQ := hide hq
  have HL := hide hl
  have HM := hide hm
  have HXB := hide hb
  have HYB := hide hc
  unfold pkV at hqq
  have HQQ := hide hqq
  obtain ⟨B1, hB1⟩ : ∃ B, w.heap.size = B := ⟨_, rfl⟩
  obtain ⟨B2, hB2⟩ : ∃ B, w.heap.size + 1 = B := ⟨_, rfl⟩
  have hBB1 := hide hB1
  have hBB2 := hide hB2
  rw [hB1] at HN1
  rw [hB2] at HN2
  clear hqq hbel hn1 hn2 hL hM hl hm hb hc ht hp hq hB1 hB2
  unfold pkV
  go_enter Tryd.func7, Tryd.ntmps7
  go_upto_region 1 with (fail)
  rw [HQQ.out]
  try rw [hBB2.out]
  rw [hBB1.out]
  clear HQQ
  go_wp2_with fail
  refine HS.out.mono ?_
  rintro e w1 ⟨rfl, b1⟩
  have HB1 := hide (HB.out.trans (b1.mono HB.out.size))
  have HC1 := hide (below_block b1 HN1.out (Nat.le_refl _))
  have HD1 := hide (below_block b1 HN2.out (Nat.le_refl _))
  have HL1 := hide (HLq.out.below b1 (Nat.le_refl _))
  have HM1 := hide (HMq.out.below b1 (Nat.le_refl _))
  clear b1 HS HB HN1 HN2 HLq HMq
  by_cases hb1 : 2000 < n
  · have d1 : decide ((2000 : Int) < (n : Int)) = true := by simp; omega
    have y5 := (pk_cells HC1.out).2.2.2.2.2
    go_wp2_with fail
    go_ret
    exact ⟨rfl, HB1.out⟩
  have d1 : decide ((2000 : Int) < (n : Int)) = false := by simp; omega
  by_cases hb2 : 2000 < m
  · have d2 : decide ((2000 : Int) < (m : Int)) = true := by simp; omega
    have y5 := (pk_cells HC1.out).2.2.2.2.2
    have z5 := (pk_cells HD1.out).2.2.2.2.2
    go_wp2_with fail
    go_ret
    exact ⟨rfl, HB1.out⟩
  have d2 : decide ((2000 : Int) < (m : Int)) = false := by simp; omega
  obtain ⟨y0, y1, y2, y3, y4, y5⟩ := pk_cells HC1.out
  have z5 := (pk_cells HD1.out).2.2.2.2.2
  by_cases hn : n ≤ 1480
  · have HW := hide (write_ok w1 p0 p1 p2 p3 p4 da xs n dc HP.out HL1.out HL.out hn)
    unfold pkV at HW
    go_wp2_with fail
    refine HW.out.mono ?_
    rintro e w2 ⟨a2, c2, rfl, o2, b2⟩
    obtain ⟨g, rfl, hg1, hg2, hgf⟩ := own_open o2 (by omega)
    have HB2 := hide (HB1.out.trans (b2.mono HB1.out.size))
    have HC2 := hide (below_block b2 HC1.out (Nat.le_refl _))
    have HD2 := hide (below_block b2 HD1.out (Nat.le_refl _))
    have HM2 := hide (HM1.out.below b2 (Nat.le_refl _))
    have HX2 := hide (HL1.out.below b2 (Nat.le_refl _))
    have HA2 := hide (Lies.of_owns o2)
    clear b2 o2 HW y0 y1 y2 y3 y4 y5 z5 hg1 hg2 hgf HB1 HC1 HD1 HM1 HL1
    obtain ⟨z0, z1, z2, z3, z4, z5⟩ := pk_cells HD2.out
    by_cases hm' : m ≤ 1480
    · have HW := hide (write_ok w2 q0 q1 q2 q3 q4 ea ys m ec HQ.out HM2.out HM.out hm')
      unfold pkV at HW
      go_wp2_with fail
      refine HW.out.mono ?_
      rintro e w3 ⟨a3, c3, rfl, o3, b3⟩
      obtain ⟨h, rfl, hh1, hh2, hhf⟩ := own_open o3 (by omega)
      have HB3 := hide (HB2.out.trans (b3.mono HB2.out.size))
      have HC3 := hide (below_block b3 HC2.out (Nat.le_refl _))
      have HD3 := hide (below_block b3 HD2.out (Nat.le_refl _))
      have HA3 := hide (HA2.out.below b3 (Nat.le_refl _))
      have HZ3 := hide (Lies.of_owns o3)
      have HXr := hide (HX2.out.below b3 (Nat.le_refl _))
      have HYr := hide (HM2.out.below b3 (Nat.le_refl _))
      have hsz := lt_of_block HD3.out
      have hsz1 := lt_of_block HC3.out
      have hcv : ∀ W, Below w3.heap.size w3 W → (convert 25 9 (.slice (some ⟨g, 0, none⟩) (20 + n) c2)).run Tryd.prog W = .ok (.string (strOfNums (ipG p0 p1 p2 p3 p4 xs))) W ∧ (convert 25 9 (.slice (some ⟨h, 0, none⟩) (20 + m) c3)).run Tryd.prog W = .ok (.string (strOfNums (ipG q0 q1 q2 q3 q4 ys))) W := fun W hW => by
        have e1 := conv_any (some ⟨g, 0, none⟩) (ipG p0 p1 p2 p3 p4 xs) c2 W (HA3.out.row.below hW (Nat.le_refl _))
        have e2 := conv_any (some ⟨h, 0, none⟩) (ipG q0 q1 q2 q3 q4 ys) c3 W (HZ3.out.row.below hW (Nat.le_refl _))
        rw [ipG_len, HL.out] at e1
        rw [ipG_len, HM.out] at e2
        exact ⟨e1, e2⟩
      have hE := str_eq _ _ (ipG_rng p0 p1 p2 p3 p4 xs HP.out HXB.out) (ipG_rng q0 q1 q2 q3 q4 ys HQ.out HYB.out)
      have hsm : ∀ W, Below w3.heap.size w3 W → Calls Tryd.prog 12 #[.agg (pkV p0 p1 p2 p3 p4 da n dc), .agg (pkV q0 q1 q2 q3 q4 ea m ec)] W fun e w' => e = .returned (.bool (ipG p0 p1 p2 p3 p4 xs == ipG q0 q1 q2 q3 q4 ys)) ∧ Below W.heap.size W w' := fun W hW => by
        have := same_any W p0 p1 p2 p3 p4 q0 q1 q2 q3 q4 da ea xs ys n m dc ec (HXr.out.row.below hW (Nat.le_refl _)) (HYr.out.row.below hW (Nat.le_refl _)) HL.out HM.out HXB.out HYB.out
        rw [ipG_inj p0 p1 p2 p3 p4 q0 q1 q2 q3 q4 xs ys HP.out HQ.out (by rw [HL.out]; exact hn) (by rw [HM.out]; exact hm')] at this
        exact this
      generalize (ipG p0 p1 p2 p3 p4 xs == ipG q0 q1 q2 q3 q4 ys) = E at *
      generalize strOfNums (ipG p0 p1 p2 p3 p4 xs) = SA at *
      generalize strOfNums (ipG q0 q1 q2 q3 q4 ys) = SB at *
      unfold pkV at hsm
      have HSM := hide hsm
      have HCV := hide hcv
      obtain ⟨hu1, hu2⟩ := hcv w3 (Below.refl _ _)
      obtain ⟨hv1, hv2⟩ := hcv w3.drew (Below.refl _ _).drew
      clear hcv hsm b3 o3 HW z0 z1 z2 z3 z4 z5 hh1 hh2 hhf HB2 HC2 HD2 HA2 HM2
      obtain ⟨y0, y1, y2, y3, y4, y5⟩ := pk_cells HC3.out
      obtain ⟨z0, z1, z2, z3, z4, z5⟩ := pk_cells HD3.out
      go_upto_region 9 with (fail)
      go_region_held3 (fun w' => w'.cell? ⟨B1, 0, none⟩ = some (.int .u8 (p0 : Int)) ∧ w'.cell? ⟨B1, 1, none⟩ = some (.int .u8 (p1 : Int)) ∧ w'.cell? ⟨B1, 2, none⟩ = some (.int .u16 (p2 : Int)) ∧ w'.cell? ⟨B1, 3, none⟩ = some (.int .u32 (p3 : Int)) ∧ w'.cell? ⟨B1, 4, none⟩ = some (.int .u32 (p4 : Int)) ∧ w'.cell? ⟨B1, 5, none⟩ = some (.slice da n dc) ∧ w'.cell? ⟨B2, 0, none⟩ = some (.int .u8 (q0 : Int)) ∧ w'.cell? ⟨B2, 1, none⟩ = some (.int .u8 (q1 : Int)) ∧ w'.cell? ⟨B2, 2, none⟩ = some (.int .u16 (q2 : Int)) ∧ w'.cell? ⟨B2, 3, none⟩ = some (.int .u32 (q3 : Int)) ∧ w'.cell? ⟨B2, 4, none⟩ = some (.int .u32 (q4 : Int)) ∧ w'.cell? ⟨B2, 5, none⟩ = some (.slice ea m ec) ∧ (convert 25 9 (.slice (some ⟨g, 0, none⟩) (20 + n) c2)).run Tryd.prog w' = .ok (.string SA) w' ∧ (convert 25 9 (.slice (some ⟨h, 0, none⟩) (20 + m) c3)).run Tryd.prog w' = .ok (.string SB) w') (go_keep) (first
        | (go_at_call 12; (with_reducible refine (HSM.out _ ?_).mono ?_); (focus first | exact Below.refl _ _ | exact (Below.refl _ _).drew); rintro r w6 ⟨rfl, hv6⟩; have hv6' : Below w3.heap.size w3 w6 := (Below.refl w3.heap.size w3).drew.trans hv6; obtain ⟨s0, s1, s2, s3, s4, s5⟩ := pk_cells (below_block hv6' HC3.out (Nat.le_refl _)); obtain ⟨t0, t1, t2, t3, t4, t5⟩ := pk_cells (below_block hv6' HD3.out (Nat.le_refl _)); obtain ⟨hy1, hy2⟩ := HCV.out w6 hv6'; have V6 := hide hv6'; clear hv6 hv6')
        | fail)
      have HB6 := hide (HB3.out.trans (V6.out.mono HB3.out.size))
      have HA6 := hide (HA3.out.below V6.out (Nat.le_refl _))
      clear y0 y1 y2 y3 y4 y5 z0 z1 z2 z3 z4 z5 s0 s1 s2 s3 s4 s5 t0 t1 t2 t3 t4 t5 hu1 hu2 hv1 hv2 hy1 hy2 HSM HCV V6 HA3 HZ3 HC3 HD3 HXr HYr hsz hsz1
      obtain ⟨v, hvb, hv⟩ := and_maskI cut 65535 (by omega)
      obtain ⟨k, hk⟩ : ∃ k, v % (20 + n) = k := ⟨_, rfl⟩
      have hkl : k < 20 + n := by rw [← hk]; exact Nat.mod_lt _ (by omega)
      have r1 : (v : Int) % (20 + (n : Int)) = (k : Int) := by rw [← hk]; push_cast; rfl
      have hv' : bits .and .i64 cut 65535 = (v : Int) := hv
      have hle := HA6.out.le
      have r2 : (k : Int) ≤ (c2 : Int) := by omega
      have r3 : (0 : Int) ≤ (k : Int) := by omega
      have HRD := hide (rd_cut p0 p1 p2 p3 p4 xs n k HP.out HL.out hn HXB.out hkl w6 (some ⟨g, 0, none⟩) c2 ⟨row_take HA6.out.row k, (fun h => nomatch h), by omega, HA6.out.max⟩)
      clear hv hk hkl hle
      have hnz : ¬ (20 + (n : Int) = 0) := by omega
      cases E
      all_goals
        go_wp2_with fail
        refine HRD.out.mono ?_
        rintro e w7 ⟨rfl, b7⟩
        have HB7 := hide (HB6.out.trans (b7.mono HB6.out.size))
        clear b7
        unfold noP
        go_wp2_with fail
        go_ret
        exact ⟨rfl, HB7.out.alloc HB7.out.size _⟩
    · have HW := hide (write_long w2 q0 q1 q2 q3 q4 ea m ec (by omega))
      unfold pkV at HW
      go_wp2_with fail
      refine HW.out.mono ?_
      rintro e w3 ⟨rfl, b3⟩
      have HB3 := hide (HB2.out.trans (b3.mono HB2.out.size))
      clear b3
      go_wp2_with fail
      go_ret
      exact ⟨rfl, HB3.out⟩
  · have HW := hide (write_long w1 p0 p1 p2 p3 p4 da n dc (by omega))
    unfold pkV at HW
    go_wp2_with fail
    refine HW.out.mono ?_
    rintro e w2 ⟨rfl, b2⟩
    have HB2 := hide (HB1.out.trans (b2.mono HB1.out.size))
    have HD2 := hide (below_block b2 HD1.out (Nat.le_refl _))
    have HM2 := hide (HM1.out.below b2 (Nat.le_refl _))
    clear b2 HW y0 y1 y2 y3 y4 y5 z5
    obtain ⟨z0, z1, z2, z3, z4, z5⟩ := pk_cells HD2.out
    by_cases hm' : m ≤ 1480
    · have HW := hide (write_ok w2 q0 q1 q2 q3 q4 ea ys m ec HQ.out HM2.out HM.out hm')
      unfold pkV at HW
      go_wp2_with fail
      refine HW.out.mono ?_
      rintro e w3 ⟨a3, c3, rfl, o3, b3⟩
      have HB3 := hide (HB2.out.trans (b3.mono HB2.out.size))
      clear b3 o3
      go_wp2_with fail
      go_ret
      exact ⟨rfl, HB3.out⟩
    · have HW := hide (write_long w2 q0 q1 q2 q3 q4 ea m ec (by omega))
      unfold pkV at HW
      go_wp2_with fail
      refine HW.out.mono ?_
      rintro e w3 ⟨rfl, b3⟩
      have HB3 := hide (HB2.out.trans (b3.mono HB2.out.size))
      clear b3
      go_wp2_with fail
      go_ret
      exact ⟨rfl, HB3.out⟩
end Go.Proofs.YtlipckpacdioiaaDoor
