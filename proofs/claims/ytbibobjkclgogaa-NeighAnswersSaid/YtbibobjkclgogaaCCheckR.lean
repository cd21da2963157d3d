/- Whether a configuration is right: the document's. -/
import Derived.Test.YtbibobjkclgogaaCCheck
import Derived.Deep.Cut
namespace Go.Proofs.Ytbibobjkclgogaa
open Go.RowKit
set_option linter.unusedVariables false
set_option linter.unusedSimpArgs false
set_option maxRecDepth 200000
theorem btw_eq (n lo hi : Int) : btw n lo hi = (!decide (n < lo) && !decide (hi < n)) := by
  unfold btw; rw [Bool.eq_iff_iff]; simp
theorem even_eq (g : Nat → UInt8) : evenB g = !((((g 0).toNat : Nat) : Int) % 2 == 1) := by
  unfold evenB; rw [Bool.eq_iff_iff]; simp; omega
theorem find_take_none {fs : List Fwd} {p q j : Nat} (hj : j ≤ fs.length) (h : ∀ i f, i < j → fs[i]? = some f → hitB p q f = false) : (findL (fs.take j) p q).isSome = false := by
  rw [find_none (fun i f hi hf => ?_)]; rfl
  rw [List.getElem?_take] at hf
  split at hf
  · exact h i f (by omega) hf
  · cases hf
theorem find_take_some {fs : List Fwd} {p q j k : Nat} (hk : k < fs.length) (hkj : k < j) (h : hitB p q (fs[k]'hk) = true) : (findL (fs.take j) p q).isSome = true := by
  unfold findL
  rw [List.find?_isSome]
  refine ⟨fs[k]'hk, ?_, h⟩
  rw [List.mem_iff_getElem?]
  exact ⟨k, by rw [List.getElem?_take, if_pos hkj, List.getElem?_eq_getElem hk]⟩
set_option maxHeartbeats 8000000 in
theorem checkR_any (cs : Array Value) (c : Cfg) (a : Option Addr) (fs : List Fwd) (n cap : Nat) (w : World) (hc : CfA cs c a n cap) (hk : CfOk c) (hw : FwAt w a fs) (hl : fs.length = n) (hf : ∀ f ∈ fs, FwOk f) (hn : n ≤ 9223372036854775807) (hm : n ≤ cap) :
    Calls Try.prog 15 #[.agg cs] w fun e w' => e = .returned (.int .i64 (errB (checkB c fs))) ∧ Below w.heap.size w w' := by
  have hr : checkB c fs = ((btw c.nb 8 30 && innerB c.lan c.nb && !decide (c.wan = 0) && !decide (c.wan = 4294967295) && !winB c.wan c.lan c.nb) && (evenB c.m0 && evenB c.m1 && evenB c.m2) && (btw c.ms 1 4096 && btw c.mm 1 256 && btw c.mc 1 32 && btw c.mb 1 16) && (decide (fs.length ≤ 32) && (List.range fs.length).all (okI c fs)) && (decide (c.dmz = 0) || hostB c.lan c.nb c.dmz) && uuidB c.uuid) := rfl
  rw [btw_eq, btw_eq, btw_eq, btw_eq, btw_eq, even_eq, even_eq, even_eq] at hr
  obtain ⟨r, hr0⟩ : ∃ r, checkB c fs = r := ⟨_, rfl⟩
  rw [hr0] at hr
  rw [hr0]
  have HSZ := hide hc.size
  have HH0 := hide (heap_alloc_new w (.cells cs 28))
  have hb0 := (Below.refl w.heap.size w).alloc (Nat.le_refl _) (.cells cs 28)
  have HI := hide (fun V => innerR_any c.lan c.nb V hk.lan)
  have HWN := hide (fun V => withinR_any c.wan c.lan c.nb V hk.wan hk.lan)
  have HHD := hide (fun V => hostR_any cs c.lan c.nb c.dmz V hc.h hk.lan hk.dmz)
  have HHF := hide (fun V (z : Nat) (hz : z ≤ 4294967295) => hostR_any cs c.lan c.nb z V hc.h hk.lan hz)
  have HU := hide (fun V => uuidR_any c.uuid V hk.uuid)
  have HFO := hide hf
  have HL := hide hl
  obtain ⟨q, hq⟩ : ∃ x, innerB c.lan c.nb = x := ⟨_, rfl⟩
  obtain ⟨t, ht⟩ : ∃ x, winB c.wan c.lan c.nb = x := ⟨_, rfl⟩
  obtain ⟨hD, hhD⟩ : ∃ x, hostB c.lan c.nb c.dmz = x := ⟨_, rfl⟩
  obtain ⟨u, hu⟩ : ∃ x, uuidB c.uuid = x := ⟨_, rfl⟩
  rw [hq] at HI hr
  rw [ht] at HWN hr
  rw [hhD] at HHD hr
  rw [hu] at HU hr
  have g1 : ((c.wan : Int) == 0) = decide (c.wan = 0) := int_beq2 c.wan 0
  have g2 : ((c.wan : Int) == 4294967295) = decide (c.wan = 4294967295) := int_beq2 c.wan 4294967295
  have g3 : ((c.dmz : Int) != 0) = !decide (c.dmz = 0) := int_beq c.dmz 0
  have g4 : decide (fs.length ≤ 32) = !decide (32 < (n : Int)) := by rw [Bool.eq_iff_iff]; simp; omega
  have g5 : decide (c.dmz = 0) = !((c.dmz : Int) != 0) := by rw [g3]; simp
  rw [← g1, ← g2, g4, g5] at hr
  clear g1 g2 g3 g4 g5 hq ht hhD hu
  obtain ⟨p1, hp1⟩ : ∃ x, decide (c.nb < 8) = x := ⟨_, rfl⟩
  rw [hp1] at hr
  obtain ⟨p2, hp2⟩ : ∃ x, decide (30 < c.nb) = x := ⟨_, rfl⟩
  rw [hp2] at hr
  obtain ⟨x1, hx1⟩ : ∃ x, ((c.wan : Int) == 0) = x := ⟨_, rfl⟩
  rw [hx1] at hr
  obtain ⟨x2, hx2⟩ : ∃ x, ((c.wan : Int) == 4294967295) = x := ⟨_, rfl⟩
  rw [hx2] at hr
  obtain ⟨e0, he0⟩ : ∃ x, ((((c.m0 0).toNat : Nat) : Int) % 2 == 1) = x := ⟨_, rfl⟩
  rw [he0] at hr
  obtain ⟨e1, he1⟩ : ∃ x, ((((c.m1 0).toNat : Nat) : Int) % 2 == 1) = x := ⟨_, rfl⟩
  rw [he1] at hr
  obtain ⟨e2, he2⟩ : ∃ x, ((((c.m2 0).toNat : Nat) : Int) % 2 == 1) = x := ⟨_, rfl⟩
  rw [he2] at hr
  obtain ⟨s1, hs1⟩ : ∃ x, decide (c.ms < 1) = x := ⟨_, rfl⟩
  rw [hs1] at hr
  obtain ⟨s2, hs2⟩ : ∃ x, decide (4096 < c.ms) = x := ⟨_, rfl⟩
  rw [hs2] at hr
  obtain ⟨s3, hs3⟩ : ∃ x, decide (c.mm < 1) = x := ⟨_, rfl⟩
  rw [hs3] at hr
  obtain ⟨s4, hs4⟩ : ∃ x, decide (256 < c.mm) = x := ⟨_, rfl⟩
  rw [hs4] at hr
  obtain ⟨s5, hs5⟩ : ∃ x, decide (c.mc < 1) = x := ⟨_, rfl⟩
  rw [hs5] at hr
  obtain ⟨s6, hs6⟩ : ∃ x, decide (32 < c.mc) = x := ⟨_, rfl⟩
  rw [hs6] at hr
  obtain ⟨s7, hs7⟩ : ∃ x, decide (c.mb < 1) = x := ⟨_, rfl⟩
  rw [hs7] at hr
  obtain ⟨s8, hs8⟩ : ∃ x, decide (16 < c.mb) = x := ⟨_, rfl⟩
  rw [hs8] at hr
  obtain ⟨l1, hl1⟩ : ∃ x, decide (32 < (n : Int)) = x := ⟨_, rfl⟩
  rw [hl1] at hr
  obtain ⟨d0, hd0⟩ : ∃ x, ((c.dmz : Int) != 0) = x := ⟨_, rfl⟩
  rw [hd0] at hr
  obtain ⟨oka, hoka⟩ : ∃ x, (List.range fs.length).all (okI c fs) = x := ⟨_, rfl⟩
  rw [hoka] at hr
  have HOKA := hide hoka
  have HR := hide hr
  obtain ⟨B, w0, hB, hw0, H0, HB0, HW0⟩ : ∃ B wt, w.heap.size = B ∧ w.alloc (.cells cs 28) = wt ∧ Hid (wt.heap[B]? = some (.cells cs 28 (0, 0))) ∧ Hid (Below w.heap.size w wt) ∧ Hid (FwAt wt a fs) := ⟨_, _, rfl, rfl, HH0, hide hb0, hide (hw.below hb0 (Nat.le_refl _))⟩
  have HEQ := hide (And.intro hB hw0)
  have HBW := hide (show w.heap.size ≤ B by omega)
  have hcell : ∀ (V : World), V.heap[B]? = some (.cells cs 28 (0, 0)) → ∀ i, V.cell? ⟨B, i, none⟩ = cs[i]? := fun V hV i => cell_of_row V B i cs _ _ hV
  have HCA := hide hc
  have HCELL := hide hcell
  have HWW := hide hw
  have c0 := (hcell w0 H0.out 0).trans hc.m0
  have c6 := (hcell w0 H0.out 6).trans hc.m1
  have c12 := (hcell w0 H0.out 12).trans hc.m2
  have c18 := (hcell w0 H0.out 18).trans hc.lan
  have c19 := (hcell w0 H0.out 19).trans hc.wan
  have c20 := (hcell w0 H0.out 20).trans hc.nb
  have c21 := (hcell w0 H0.out 21).trans hc.ms
  have c22 := (hcell w0 H0.out 22).trans hc.mm
  have c23 := (hcell w0 H0.out 23).trans hc.mc
  have c24 := (hcell w0 H0.out 24).trans hc.mb
  have c25 := (hcell w0 H0.out 25).trans hc.fw
  have c26 := (hcell w0 H0.out 26).trans hc.dmz
  have c27 := (hcell w0 H0.out 27).trans hc.uuid
  clear hc hk hw hl hf hn hb0 HH0 hB hw0 hcell hr hr0 hoka
  go_enter Try.func15, Try.ntmps15
  go_upto_region 1 with (fail)
  rw [HEQ.out.2, HEQ.out.1]
  clear HEQ
  cases p1 with
  | true =>
    go_wp2_with (first | (go_at_call 39; refine (HI.out _).mono ?_; rintro e wq ⟨rfl, rfl⟩) | (go_at_call 40; refine (HWN.out _).mono ?_; rintro e wq ⟨rfl, rfl⟩))
    go_ret
    exact ⟨by rw [HR.out]; simp [errB], HB0.out⟩
  | false =>
    cases p2 with
    | true =>
      go_wp2_with (first | (go_at_call 39; refine (HI.out _).mono ?_; rintro e wq ⟨rfl, rfl⟩) | (go_at_call 40; refine (HWN.out _).mono ?_; rintro e wq ⟨rfl, rfl⟩))
      go_ret
      exact ⟨by rw [HR.out]; simp [errB], HB0.out⟩
    | false =>
      cases q with
      | false =>
        go_wp2_with (first | (go_at_call 39; refine (HI.out _).mono ?_; rintro e wq ⟨rfl, rfl⟩) | (go_at_call 40; refine (HWN.out _).mono ?_; rintro e wq ⟨rfl, rfl⟩))
        go_ret
        exact ⟨by rw [HR.out]; simp [errB], HB0.out⟩
      | true =>
        go_upto_region 3 with (first | (go_at_call 39; refine (HI.out _).mono ?_; rintro e wq ⟨rfl, rfl⟩) | (go_at_call 40; refine (HWN.out _).mono ?_; rintro e wq ⟨rfl, rfl⟩))
        cases x1 with
        | true =>
          go_wp2_with (first | (go_at_call 39; refine (HI.out _).mono ?_; rintro e wq ⟨rfl, rfl⟩) | (go_at_call 40; refine (HWN.out _).mono ?_; rintro e wq ⟨rfl, rfl⟩))
          go_ret
          exact ⟨by rw [HR.out]; simp [errB], HB0.out⟩
        | false =>
          cases x2 with
          | true =>
            go_wp2_with (first | (go_at_call 39; refine (HI.out _).mono ?_; rintro e wq ⟨rfl, rfl⟩) | (go_at_call 40; refine (HWN.out _).mono ?_; rintro e wq ⟨rfl, rfl⟩))
            go_ret
            exact ⟨by rw [HR.out]; simp [errB], HB0.out⟩
          | false =>
            cases t with
            | true =>
              go_wp2_with (first | (go_at_call 39; refine (HI.out _).mono ?_; rintro e wq ⟨rfl, rfl⟩) | (go_at_call 40; refine (HWN.out _).mono ?_; rintro e wq ⟨rfl, rfl⟩))
              go_ret
              exact ⟨by rw [HR.out]; simp [errB], HB0.out⟩
            | false =>
              go_upto_region 5 with (first | (go_at_call 39; refine (HI.out _).mono ?_; rintro e wq ⟨rfl, rfl⟩) | (go_at_call 40; refine (HWN.out _).mono ?_; rintro e wq ⟨rfl, rfl⟩))
              cases e0 with
              | true =>
                go_wp2_with fail
                go_ret
                exact ⟨by rw [HR.out]; simp [errB], HB0.out⟩
              | false =>
                cases e1 with
                | true =>
                  go_wp2_with fail
                  go_ret
                  exact ⟨by rw [HR.out]; simp [errB], HB0.out⟩
                | false =>
                  cases e2 with
                  | true =>
                    go_wp2_with fail
                    go_ret
                    exact ⟨by rw [HR.out]; simp [errB], HB0.out⟩
                  | false =>
                    go_upto_region 7 with (fail)
                    cases s1 with
                    | true =>
                      go_wp2_with fail
                      go_ret
                      exact ⟨by rw [HR.out]; simp [errB], HB0.out⟩
                    | false =>
                      cases s2 with
                      | true =>
                        go_wp2_with fail
                        go_ret
                        exact ⟨by rw [HR.out]; simp [errB], HB0.out⟩
                      | false =>
                        cases s3 with
                        | true =>
                          go_wp2_with fail
                          go_ret
                          exact ⟨by rw [HR.out]; simp [errB], HB0.out⟩
                        | false =>
                          cases s4 with
                          | true =>
                            go_wp2_with fail
                            go_ret
                            exact ⟨by rw [HR.out]; simp [errB], HB0.out⟩
                          | false =>
                            cases s5 with
                            | true =>
                              go_wp2_with fail
                              go_ret
                              exact ⟨by rw [HR.out]; simp [errB], HB0.out⟩
                            | false =>
                              cases s6 with
                              | true =>
                                go_wp2_with fail
                                go_ret
                                exact ⟨by rw [HR.out]; simp [errB], HB0.out⟩
                              | false =>
                                cases s7 with
                                | true =>
                                  go_wp2_with fail
                                  go_ret
                                  exact ⟨by rw [HR.out]; simp [errB], HB0.out⟩
                                | false =>
                                  cases s8 with
                                  | true =>
                                    go_wp2_with fail
                                    go_ret
                                    exact ⟨by rw [HR.out]; simp [errB], HB0.out⟩
                                  | false =>
                                    go_upto_region 9 with (fail)
                                    go_cut [117] from 6 (fun v wz => v = .bool (l1 || (d0 && !hD) || !u) ∧ Hid (wz.heap[B]? = some (.cells cs 28 (0, 0))) ∧ Hid (Below w.heap.size w wz))
                                    case first =>
                                      cases l1 with
                                      | true =>
                                        go_wp2_with fail
                                        go_meet
                                        case rel => exact ⟨rfl, H0, HB0⟩
                                      | false =>
                                        cases d0 with
                                        | false =>
                                          go_wp2_with (go_at_call 41; refine (HU.out _).mono ?_; rintro e wq ⟨rfl, rfl⟩)
                                          go_meet
                                          case rel => exact ⟨rfl, H0, HB0⟩
                                        | true =>
                                          cases hD with
                                          | false =>
                                            go_wp2_with (first | (refine ld_cfg (o := ⟨some 105, _, _, _, _, _⟩) (.tmp 1) rfl (by rfl) B rfl cs H0.out HSZ.out ?_; try simp only [Act.put, List.setIfInBounds_toArray, List.set_cons_zero, List.set_cons_succ]) | (go_at_call 17; refine (HHD.out _).mono ?_; rintro e w1 ⟨rfl, b1⟩; have HB1 := hide (HB0.out.trans (b1.mono HB0.out.size)); have H1 := hide (below_blk b1 H0.out (Nat.le_refl _)); have HW1 := hide (HW0.out.below b1 (Nat.le_refl _)); have c27 := (HCELL.out w1 H1.out 27).trans HCA.out.uuid; clear b1) | (go_at_call 41; refine (HU.out _).mono ?_; rintro e wq ⟨rfl, rfl⟩))
                                            go_meet
                                            case rel => exact ⟨rfl, H1, HB1⟩
                                          | true =>
                                            go_wp2_with (first | (refine ld_cfg (o := ⟨some 105, _, _, _, _, _⟩) (.tmp 1) rfl (by rfl) B rfl cs H0.out HSZ.out ?_; try simp only [Act.put, List.setIfInBounds_toArray, List.set_cons_zero, List.set_cons_succ]) | (go_at_call 17; refine (HHD.out _).mono ?_; rintro e w1 ⟨rfl, b1⟩; have HB1 := hide (HB0.out.trans (b1.mono HB0.out.size)); have H1 := hide (below_blk b1 H0.out (Nat.le_refl _)); have HW1 := hide (HW0.out.below b1 (Nat.le_refl _)); have c27 := (HCELL.out w1 H1.out 27).trans HCA.out.uuid; clear b1) | (go_at_call 41; refine (HU.out _).mono ?_; rintro e wq ⟨rfl, rfl⟩))
                                            go_meet
                                            case rel => exact ⟨rfl, H1, HB1⟩
                                    case rest =>
                                      obtain ⟨rfl, HHc, HBc⟩ := hcut
                                      obtain ⟨v9, hv9⟩ : ∃ v, (l1 || (d0 && !hD) || !u) = v := ⟨_, rfl⟩
                                      rw [hv9]
                                      have HRE := hide (show r = (oka && !v9) by rw [HR.out, ← hv9]; cases l1 <;> cases d0 <;> cases hD <;> cases u <;> simp)
                                      have HN32 := hide (show v9 = false → n ≤ 32 from fun h => by
                                        rw [← hv9] at h
                                        have h2 : l1 = false := by cases l1 <;> simp_all
                                        rw [h2] at hl1
                                        simp at hl1; omega)
                                      clear hv9 HR HI HWN HHD HU hp1 hp2 hx1 hx2 he0 he1 he2 hs1 hs2 hs3 hs4 hs5 hs6 hs7 hs8 hl1 hd0 c0 c6 c12 c18 c19 c20 c21 c22 c23 c24 c25 c26 c27 HB0 H0 HW0
                                      have c25 := (HCELL.out wc HHc.out 25).trans HCA.out.fw
                                      cases v9 with
                                      | true =>
                                        go_wp2_with fail
                                        go_ret
                                        exact ⟨by rw [HRE.out]; simp [errB], HBc.out⟩
                                      | false =>
                                        have hn32 := HN32.out rfl
                                        clear HN32
                                        go_wp2_with fail
                                        go_loopw [3] (fun i wz => ∃ j : Nat, j ≤ n ∧ i = .int .i64 j ∧ Hid (∀ i, i < j → okI c fs i = true) ∧ Hid (wz.heap[B]? = some (.cells cs 28 (0, 0))) ∧ Hid (Below w.heap.size w wz)) (fun i _ => n - (intOf i).toNat)
                                        case atStart => exact ⟨0, Nat.zero_le _, rfl, hide (fun i h => by omega), HHc, HBc⟩
                                        case round =>
                                          clear HHc HBc c25
                                          obtain ⟨j, hj, rfl, HOI, HHz, HBz⟩ := hrel
                                          obtain ⟨wa, rfl⟩ : ∃ wa, wa = wr := ⟨_, rfl⟩
                                          have c25 := (HCELL.out wa HHz.out 25).trans HCA.out.fw
                                          by_cases hlt : j < n
                                          · have hjl : j < fs.length := by rw [HL.out]; exact hlt
                                            have HWa := hide (HWW.out.below HBz.out (Nat.le_refl _))
                                            obtain ⟨b, off, rfl, hb, d0', d1, d2, d3⟩ := HWa.out.cells hjl
                                            obtain ⟨f, hfj⟩ : ∃ f, fs[j]'hjl = f := ⟨_, rfl⟩
                                            have hfo := HFO.out _ (List.getElem_mem hjl)
                                            have hoki : okI c fs j = (!(findL (fs.take j) (fs[j]'hjl).1 (fs[j]'hjl).2.1).isSome && fwdB c (fs[j]'hjl)) := by unfold okI; rw [List.getElem?_eq_getElem hjl]
                                            rw [hfj] at d0' d1 d2 d3 hfo hoki
                                            obtain ⟨f0, f1, f2, f3⟩ := f
                                            simp only at d0' d1 d2 d3 hoki
                                            have hfb : fwdB c (f0, f1, f2, f3) = ((decide (f0 = 6) || decide (f0 = 17)) && decide (0 < f1) && decide (0 < f2) && hostB c.lan c.nb f3) := rfl
                                            have HHF1 := hide (fun V => HHF.out V f3 hfo.2.2.2)
                                            obtain ⟨hh, hhh⟩ : ∃ x, hostB c.lan c.nb f3 = x := ⟨_, rfl⟩
                                            rw [hhh] at HHF1 hfb
                                            have g1 : decide (f0 = 6) = !((f0 : Int) != 6) := by rw [show ((f0 : Int) != 6) = !decide (f0 = 6) from int_beq f0 6]; simp
                                            have g2 : decide (f0 = 17) = !((f0 : Int) != 17) := by rw [show ((f0 : Int) != 17) = !decide (f0 = 17) from int_beq f0 17]; simp
                                            have g3 : decide (0 < f1) = !((f1 : Int) == 0) := by rw [show ((f1 : Int) == 0) = decide (f1 = 0) from int_beq2 f1 0, Bool.eq_iff_iff]; simp; omega
                                            have g4 : decide (0 < f2) = !((f2 : Int) == 0) := by rw [show ((f2 : Int) == 0) = decide (f2 = 0) from int_beq2 f2 0, Bool.eq_iff_iff]; simp; omega
                                            rw [g1, g2, g3, g4] at hfb
                                            obtain ⟨y6, hy6⟩ : ∃ x, ((f0 : Int) != 6) = x := ⟨_, rfl⟩
                                            obtain ⟨y17, hy17⟩ : ∃ x, ((f0 : Int) != 17) = x := ⟨_, rfl⟩
                                            obtain ⟨z0, hz0⟩ : ∃ x, ((f1 : Int) == 0) = x := ⟨_, rfl⟩
                                            obtain ⟨z1, hz1⟩ : ∃ x, ((f2 : Int) == 0) = x := ⟨_, rfl⟩
                                            rw [hy6, hy17, hz0, hz1] at hfb
                                            obtain ⟨fb, hfb2⟩ : ∃ x, fwdB c (f0, f1, f2, f3) = x := ⟨_, rfl⟩
                                            rw [hfb2] at hfb hoki
                                            have HFB := hide hfb
                                            have HOK := hide hoki
                                            have hal : Below wa.heap.size wa (wa.alloc (.cells #[.int .u8 (f0 : Int), .int .u16 (f1 : Int), .int .u16 (f2 : Int), .int .u32 (f3 : Int)] 97)) := (Below.refl _ _).alloc (Nat.le_refl _) _
                                            obtain ⟨Fb, wb, hFb, hwb, HXa, HHa, HBa⟩ : ∃ X wt, wa.heap.size = X ∧ wa.alloc (.cells #[.int .u8 (f0 : Int), .int .u16 (f1 : Int), .int .u16 (f2 : Int), .int .u32 (f3 : Int)] 97) = wt ∧ Hid (wt.heap[X]? = some (.cells #[.int .u8 (f0 : Int), .int .u16 (f1 : Int), .int .u16 (f2 : Int), .int .u32 (f3 : Int)] 97 (0, 0))) ∧ Hid (wt.heap[B]? = some (.cells cs 28 (0, 0))) ∧ Hid (Below w.heap.size w wt) :=
                                              ⟨_, _, rfl, rfl, hide (heap_alloc_new _ _), hide (below_blk hal HHz.out (Nat.le_refl _)), hide (HBz.out.trans (hal.mono HBz.out.size))⟩
                                            have HEF := hide (And.intro hFb hwb)
                                            clear hfj hfo hoki hal hFb hwb hfb hfb2 hhh g1 g2 g3 g4 HWa
                                            go_upto_region 15 with (fail)
                                            rw [HEF.out.2]
                                            try rw [HEF.out.1]
                                            clear HEF d0' d1 d2 d3 c25
                                            obtain ⟨x0, x1, x2, x3, xf⟩ := four_cells HXa.out
                                            go_cut [154] from 118 (fun v wz => v = .bool (!fb) ∧ Hid (wz.heap[B]? = some (.cells cs 28 (0, 0))) ∧ Hid (wz.heap[Fb]? = some (.cells #[.int .u8 (f0 : Int), .int .u16 (f1 : Int), .int .u16 (f2 : Int), .int .u32 (f3 : Int)] 97 (0, 0))) ∧ Hid (Below w.heap.size w wz))
                                            case first =>
                                              cases y6 with
                                              | false =>
                                                cases z0 with
                                                | true =>
                                                  go_wp2_with fail
                                                  go_meet
                                                  case rel => exact ⟨by rw [HFB.out]; simp, HHa, HXa, HBa⟩
                                                | false =>
                                                  cases z1 with
                                                  | true =>
                                                    go_wp2_with fail
                                                    go_meet
                                                    case rel => exact ⟨by rw [HFB.out]; simp, HHa, HXa, HBa⟩
                                                  | false =>
                                                    cases hh with
                                                    | true =>
                                                      go_wp2_with (first | (refine ld_cfg (o := ⟨some 149, _, _, _, _, _⟩) (.tmp 1) rfl (by rfl) B rfl cs HHa.out HSZ.out ?_; try simp only [Act.put, List.setIfInBounds_toArray, List.set_cons_zero, List.set_cons_succ]) | (go_at_call 17; refine (HHF1.out _).mono ?_; rintro e wh ⟨rfl, bh⟩; have HBh := hide (HBa.out.trans (bh.mono HBa.out.size)); have HHh := hide (below_blk bh HHa.out (Nat.le_refl _)); have HXh := hide (below_blk bh HXa.out (Nat.le_refl _)); clear bh))
                                                      go_meet
                                                      case rel => exact ⟨by rw [HFB.out]; simp, HHh, HXh, HBh⟩
                                                    | false =>
                                                      go_wp2_with (first | (refine ld_cfg (o := ⟨some 149, _, _, _, _, _⟩) (.tmp 1) rfl (by rfl) B rfl cs HHa.out HSZ.out ?_; try simp only [Act.put, List.setIfInBounds_toArray, List.set_cons_zero, List.set_cons_succ]) | (go_at_call 17; refine (HHF1.out _).mono ?_; rintro e wh ⟨rfl, bh⟩; have HBh := hide (HBa.out.trans (bh.mono HBa.out.size)); have HHh := hide (below_blk bh HHa.out (Nat.le_refl _)); have HXh := hide (below_blk bh HXa.out (Nat.le_refl _)); clear bh))
                                                      go_meet
                                                      case rel => exact ⟨by rw [HFB.out]; simp, HHh, HXh, HBh⟩
                                              | true =>
                                                cases y17 with
                                                | true =>
                                                  go_wp2_with fail
                                                  go_meet
                                                  case rel => exact ⟨by rw [HFB.out]; simp, HHa, HXa, HBa⟩
                                                | false =>
                                                  cases z0 with
                                                  | true =>
                                                    go_wp2_with fail
                                                    go_meet
                                                    case rel => exact ⟨by rw [HFB.out]; simp, HHa, HXa, HBa⟩
                                                  | false =>
                                                    cases z1 with
                                                    | true =>
                                                      go_wp2_with fail
                                                      go_meet
                                                      case rel => exact ⟨by rw [HFB.out]; simp, HHa, HXa, HBa⟩
                                                    | false =>
                                                      cases hh with
                                                      | true =>
                                                        go_wp2_with (first | (refine ld_cfg (o := ⟨some 149, _, _, _, _, _⟩) (.tmp 1) rfl (by rfl) B rfl cs HHa.out HSZ.out ?_; try simp only [Act.put, List.setIfInBounds_toArray, List.set_cons_zero, List.set_cons_succ]) | (go_at_call 17; refine (HHF1.out _).mono ?_; rintro e wh ⟨rfl, bh⟩; have HBh := hide (HBa.out.trans (bh.mono HBa.out.size)); have HHh := hide (below_blk bh HHa.out (Nat.le_refl _)); have HXh := hide (below_blk bh HXa.out (Nat.le_refl _)); clear bh))
                                                        go_meet
                                                        case rel => exact ⟨by rw [HFB.out]; simp, HHh, HXh, HBh⟩
                                                      | false =>
                                                        go_wp2_with (first | (refine ld_cfg (o := ⟨some 149, _, _, _, _, _⟩) (.tmp 1) rfl (by rfl) B rfl cs HHa.out HSZ.out ?_; try simp only [Act.put, List.setIfInBounds_toArray, List.set_cons_zero, List.set_cons_succ]) | (go_at_call 17; refine (HHF1.out _).mono ?_; rintro e wh ⟨rfl, bh⟩; have HBh := hide (HBa.out.trans (bh.mono HBa.out.size)); have HHh := hide (below_blk bh HHa.out (Nat.le_refl _)); have HXh := hide (below_blk bh HXa.out (Nat.le_refl _)); clear bh))
                                                        go_meet
                                                        case rel => exact ⟨by rw [HFB.out]; simp, HHh, HXh, HBh⟩
                                            case rest =>
                                              clear x0 x1 x2 x3 xf HXa HHa HBa HHz HBz
                                              obtain ⟨rfl, HHd, HXd, HBd⟩ := hcut
                                              clear HFB hy6 hy17 hz0 hz1 HHF1
                                              cases fb with
                                              | false =>
                                                have HE := hide (show r = false by rw [HRE.out, ← HOKA.out, List.all_eq_false.2 ⟨j, List.mem_range.2 hjl, by rw [HOK.out]; simp⟩]; rfl)
                                                go_wp2_with fail
                                                go_ret
                                                exact ⟨by rw [HE.out]; simp [errB], HBd.out⟩
                                              | true =>
                                                go_wp2_with fail
                                                go_loopw [5] (fun i wz => ∃ k : Nat, k ≤ j ∧ i = .int .i64 k ∧ Hid (∀ i f, i < k → fs[i]? = some f → hitB f0 f1 f = false) ∧ Hid (wz.heap[B]? = some (.cells cs 28 (0, 0))) ∧ Hid (wz.heap[Fb]? = some (.cells #[.int .u8 (f0 : Int), .int .u16 (f1 : Int), .int .u16 (f2 : Int), .int .u32 (f3 : Int)] 97 (0, 0))) ∧ Hid (Below w.heap.size w wz)) (fun i _ => j - (intOf i).toNat)
                                                case atStart => exact ⟨0, Nat.zero_le _, rfl, hide (fun i f h => by omega), HHd, HXd, HBd⟩
                                                case round =>
                                                  clear HHd HXd HBd
                                                  obtain ⟨k, hkj, rfl, HKI, HHe, HXe, HBe⟩ := hrel
                                                  obtain ⟨we, rfl⟩ : ∃ wa, wa = wr := ⟨_, rfl⟩
                                                  by_cases hlk : k < j
                                                  · have hkl : k < fs.length := by omega
                                                    obtain ⟨b', off', hbo, _, k0, k1, _, _⟩ := (HWW.out.below HBe.out (Nat.le_refl _)).cells hkl
                                                    obtain ⟨rfl, rfl⟩ : b = b' ∧ off = off' := by simpa using hbo
                                                    obtain ⟨g, hg⟩ : ∃ f, fs[k]'hkl = f := ⟨_, rfl⟩
                                                    have HMORE := hide (fun hh => hit_more (p := f0) (q := f1) hkl HKI.out hh)
                                                    have HSOME := hide (fun hh => find_take_some (p := f0) (q := f1) hkl hlk hh)
                                                    rw [hg] at k0 k1 HMORE HSOME
                                                    obtain ⟨g0, g1, g2, g3⟩ := g
                                                    simp only at k0 k1
                                                    have c25 := (HCELL.out we HHe.out 25).trans HCA.out.fw
                                                    obtain ⟨x0, x1, _, _, xf⟩ := four_cells HXe.out
                                                    clear hg hbo xf
                                                    by_cases h0 : g0 = f0
                                                    · have e0 : ((g0 : Int) == (f0 : Int)) = true := by simp [h0]
                                                      by_cases h1 : g1 = f1
                                                      · have e1 : ((g1 : Int) == (f1 : Int)) = true := by simp [h1]
                                                        have HE := hide (show r = false by rw [HRE.out, ← HOKA.out, List.all_eq_false.2 ⟨j, List.mem_range.2 hjl, by rw [HOK.out, HSOME.out (by simp [hitB, h0, h1])]; simp⟩]; rfl)
                                                        clear h0 h1 HMORE HSOME
                                                        go_wp2_with fail
                                                        go_quiet (fail)
                                                        go_wp2_with fail
                                                        go_ret
                                                        exact ⟨by rw [HE.out]; simp [errB], bdrewN HBe.out _⟩
                                                      · have e1 : ((g1 : Int) == (f1 : Int)) = false := by simp; omega
                                                        have HN := hide (HMORE.out (by simp [hitB, h1]))
                                                        clear h0 h1 HMORE HSOME
                                                        go_wp2_with fail
                                                        go_quiet (fail)
                                                        go_wp2_with fail
                                                        go_roundw
                                                        case rel => exact ⟨k + 1, by omega, by go_num, HN, HHe, HXe, hide (bdrewN HBe.out _)⟩
                                                        case measure => simp [intOf]; omega
                                                    · have e0 : ((g0 : Int) == (f0 : Int)) = false := by simp; omega
                                                      have HN := hide (HMORE.out (by simp [hitB, h0]))
                                                      clear h0 HMORE HSOME
                                                      go_wp2_with fail
                                                      go_quiet (fail)
                                                      go_wp2_with fail
                                                      go_roundw
                                                      case rel => exact ⟨k + 1, by omega, by go_num, HN, HHe, HXe, hide (bdrewN HBe.out _)⟩
                                                      case measure => simp [intOf]; omega
                                                  · have HN := hide (ok_more HOI.out (by rw [HOK.out, find_take_none (by omega) (fun i f hi hf => HKI.out i f (by omega) hf)]; rfl))
                                                    go_wp2_with fail
                                                    go_roundw
                                                    case rel => exact ⟨j + 1, by omega, by go_num, HN, HHe, HBe⟩
                                                    case measure => simp [intOf]; omega
                                          · have HE := hide (show r = true by rw [HRE.out, ← HOKA.out, List.all_eq_true.2 (fun i hi => HOI.out i (by have := List.mem_range.1 hi; have := HL.out; omega))]; rfl)
                                            go_wp2_with fail
                                            go_ret
                                            exact ⟨by rw [HE.out]; simp [errB], HBz.out⟩
end Go.Proofs.Ytbibobjkclgogaa
