/- Whether a configuration is right: the program's. -/
import Derived.Test.YtogeggklfcabkaaCFwds
namespace Go.Proofs.Ytogeggklfcabkaa
open Go.RowKit
set_option linter.unusedVariables false
set_option linter.unusedSimpArgs false
set_option maxRecDepth 100000
def checkB (c : Cfg) (fs : List Fwd) : Bool := addrsB c && macsB c && countsB c && fwdsB c fs && dmzB c && uuidB c.uuid
def errB (b : Bool) : Int := if b then 0 else 40
set_option maxHeartbeats 4000000 in
theorem check_any (cs : Array Value) (c : Cfg) (a : Option Addr) (fs : List Fwd) (n cap : Nat) (w : World) (hc : CfA cs c a n cap) (hk : CfOk c) (hw : FwAt w a fs) (hl : fs.length = n) (hf : ∀ f ∈ fs, FwOk f) (hn : n ≤ 9223372036854775807) (hm : n ≤ cap) :
    Calls Try.prog 10 #[.agg cs] w fun e w' => e = .returned (.int .i64 (errB (checkB c fs))) ∧ Below w.heap.size w w' := by
  have hr : checkB c fs = (addrsB c && macsB c && countsB c && fwdsB c fs && dmzB c && uuidB c.uuid) := rfl
  obtain ⟨r, hr0⟩ : ∃ r, checkB c fs = r := ⟨_, rfl⟩
  rw [hr0] at hr
  rw [hr0]
  have HSZ := hide hc.size
  obtain ⟨_, c27⟩ := Array.getElem?_eq_some_iff.1 hc.uuid
  have hs := hc.size
  have HH0 := hide (heap_alloc_new w (.cells cs 28))
  have hb0 := (Below.refl w.heap.size w).alloc (Nat.le_refl _) (.cells cs 28)
  have HA := hide (fun V => rightAddrs_any cs c a n cap V hc hk)
  have HM := hide (fun V => rightMACs_any cs c a n cap V hc hk)
  have HO := hide (fun V => rightCounts_any cs c a n cap V hc hk)
  have HF := hide (fun V (hV : FwAt V a fs) => rightFwds_any cs c a fs n cap V hc hk hV hl hf hn hm)
  have HD := hide (fun V => rightDMZ_any cs c a n cap V hc hk)
  have HU := hide (fun V => uuid_any c.uuid V hk.uuid)
  obtain ⟨xa, ha⟩ : ∃ x, addrsB c = x := ⟨_, rfl⟩
  obtain ⟨xm, hm2⟩ : ∃ x, macsB c = x := ⟨_, rfl⟩
  obtain ⟨xo, ho⟩ : ∃ x, countsB c = x := ⟨_, rfl⟩
  obtain ⟨xf, hf2⟩ : ∃ x, fwdsB c fs = x := ⟨_, rfl⟩
  obtain ⟨xd, hd⟩ : ∃ x, dmzB c = x := ⟨_, rfl⟩
  obtain ⟨xu, hu⟩ : ∃ x, uuidB c.uuid = x := ⟨_, rfl⟩
  rw [ha] at HA hr
  rw [hm2] at HM hr
  rw [ho] at HO hr
  rw [hf2] at HF hr
  rw [hd] at HD hr
  rw [hu] at HU hr
  have HR := hide hr
  obtain ⟨B, w0, hB, hw0, H0, HB0, HW0⟩ : ∃ B wt, w.heap.size = B ∧ w.alloc (.cells cs 28) = wt ∧ Hid (wt.heap[B]? = some (.cells cs 28 (0, 0))) ∧ Hid (Below w.heap.size w wt) ∧ Hid (FwAt wt a fs) := ⟨_, _, rfl, rfl, HH0, hide hb0, hide (hw.below hb0 (Nat.le_refl _))⟩
  have HEQ := hide (And.intro hB hw0)
  have H27 := hide (fun (V : World) (hV : V.heap[B]? = some (.cells cs 28 (0, 0))) => (by rw [cell_of_row V B 27 cs _ _ hV]; exact hc.uuid : V.cell? ⟨B, 27, none⟩ = some (.string c.uuid)))
  have d27 := H27.out w0 H0.out
  have hbd : Below w.heap.size w w := Below.refl _ _
  clear hc hk hw hl hf hn hm ha hm2 ho hf2 hd hu hr hr0 hb0 HH0 hB hw0 c27 hs hbd
  cases xa with
  | false =>
    go_enter Try.func10, Try.ntmps10
    go_upto_region 1 with (fail)
    rw [HEQ.out.2, HEQ.out.1]
    clear HEQ
    go_wp2_with (refine ld_cfg (.tmp 1) rfl (by rfl) B rfl cs H0.out HSZ.out ?_; try simp only [Act.put, List.setIfInBounds_toArray, List.set_cons_zero, List.set_cons_succ])
    refine (HA.out _).mono ?_
    rintro e w1 ⟨rfl, b1⟩
    have H1 := hide (below_blk b1 H0.out (Nat.le_refl _))
    have HB1 := hide (HB0.out.trans (b1.mono HB0.out.size))
    have HW1 := hide (HW0.out.below b1 (Nat.le_refl _))
    have d27 := H27.out w1 H1.out
    clear b1 HA
    go_wp2_with fail
    go_ret
    exact ⟨by rw [HR.out]; simp [errB], HB1.out⟩
  | true =>
    cases xm with
    | false =>
      go_enter Try.func10, Try.ntmps10
      go_upto_region 1 with (fail)
      rw [HEQ.out.2, HEQ.out.1]
      clear HEQ
      go_wp2_with (refine ld_cfg (.tmp 1) rfl (by rfl) B rfl cs H0.out HSZ.out ?_; try simp only [Act.put, List.setIfInBounds_toArray, List.set_cons_zero, List.set_cons_succ])
      refine (HA.out _).mono ?_
      rintro e w1 ⟨rfl, b1⟩
      have H1 := hide (below_blk b1 H0.out (Nat.le_refl _))
      have HB1 := hide (HB0.out.trans (b1.mono HB0.out.size))
      have HW1 := hide (HW0.out.below b1 (Nat.le_refl _))
      have d27 := H27.out w1 H1.out
      clear b1 HA
      go_wp2_with (refine ld_cfg (.tmp 1) rfl (by rfl) B rfl cs H1.out HSZ.out ?_; try simp only [Act.put, List.setIfInBounds_toArray, List.set_cons_zero, List.set_cons_succ])
      refine (HM.out _).mono ?_
      rintro e w2 ⟨rfl, b2⟩
      have H2 := hide (below_blk b2 H1.out (Nat.le_refl _))
      have HB2 := hide (HB1.out.trans (b2.mono HB1.out.size))
      have HW2 := hide (HW1.out.below b2 (Nat.le_refl _))
      have d27 := H27.out w2 H2.out
      clear b2 HM
      go_wp2_with fail
      go_ret
      exact ⟨by rw [HR.out]; simp [errB], HB2.out⟩
    | true =>
      cases xo with
      | false =>
        go_enter Try.func10, Try.ntmps10
        go_upto_region 1 with (fail)
        rw [HEQ.out.2, HEQ.out.1]
        clear HEQ
        go_wp2_with (refine ld_cfg (.tmp 1) rfl (by rfl) B rfl cs H0.out HSZ.out ?_; try simp only [Act.put, List.setIfInBounds_toArray, List.set_cons_zero, List.set_cons_succ])
        refine (HA.out _).mono ?_
        rintro e w1 ⟨rfl, b1⟩
        have H1 := hide (below_blk b1 H0.out (Nat.le_refl _))
        have HB1 := hide (HB0.out.trans (b1.mono HB0.out.size))
        have HW1 := hide (HW0.out.below b1 (Nat.le_refl _))
        have d27 := H27.out w1 H1.out
        clear b1 HA
        go_wp2_with (refine ld_cfg (.tmp 1) rfl (by rfl) B rfl cs H1.out HSZ.out ?_; try simp only [Act.put, List.setIfInBounds_toArray, List.set_cons_zero, List.set_cons_succ])
        refine (HM.out _).mono ?_
        rintro e w2 ⟨rfl, b2⟩
        have H2 := hide (below_blk b2 H1.out (Nat.le_refl _))
        have HB2 := hide (HB1.out.trans (b2.mono HB1.out.size))
        have HW2 := hide (HW1.out.below b2 (Nat.le_refl _))
        have d27 := H27.out w2 H2.out
        clear b2 HM
        go_wp2_with (refine ld_cfg (.tmp 1) rfl (by rfl) B rfl cs H2.out HSZ.out ?_; try simp only [Act.put, List.setIfInBounds_toArray, List.set_cons_zero, List.set_cons_succ])
        refine (HO.out _).mono ?_
        rintro e w3 ⟨rfl, b3⟩
        have H3 := hide (below_blk b3 H2.out (Nat.le_refl _))
        have HB3 := hide (HB2.out.trans (b3.mono HB2.out.size))
        have HW3 := hide (HW2.out.below b3 (Nat.le_refl _))
        have d27 := H27.out w3 H3.out
        clear b3 HO
        go_wp2_with fail
        go_ret
        exact ⟨by rw [HR.out]; simp [errB], HB3.out⟩
      | true =>
        cases xf with
        | false =>
          go_enter Try.func10, Try.ntmps10
          go_upto_region 1 with (fail)
          rw [HEQ.out.2, HEQ.out.1]
          clear HEQ
          go_wp2_with (refine ld_cfg (.tmp 1) rfl (by rfl) B rfl cs H0.out HSZ.out ?_; try simp only [Act.put, List.setIfInBounds_toArray, List.set_cons_zero, List.set_cons_succ])
          refine (HA.out _).mono ?_
          rintro e w1 ⟨rfl, b1⟩
          have H1 := hide (below_blk b1 H0.out (Nat.le_refl _))
          have HB1 := hide (HB0.out.trans (b1.mono HB0.out.size))
          have HW1 := hide (HW0.out.below b1 (Nat.le_refl _))
          have d27 := H27.out w1 H1.out
          clear b1 HA
          go_wp2_with (refine ld_cfg (.tmp 1) rfl (by rfl) B rfl cs H1.out HSZ.out ?_; try simp only [Act.put, List.setIfInBounds_toArray, List.set_cons_zero, List.set_cons_succ])
          refine (HM.out _).mono ?_
          rintro e w2 ⟨rfl, b2⟩
          have H2 := hide (below_blk b2 H1.out (Nat.le_refl _))
          have HB2 := hide (HB1.out.trans (b2.mono HB1.out.size))
          have HW2 := hide (HW1.out.below b2 (Nat.le_refl _))
          have d27 := H27.out w2 H2.out
          clear b2 HM
          go_wp2_with (refine ld_cfg (.tmp 1) rfl (by rfl) B rfl cs H2.out HSZ.out ?_; try simp only [Act.put, List.setIfInBounds_toArray, List.set_cons_zero, List.set_cons_succ])
          refine (HO.out _).mono ?_
          rintro e w3 ⟨rfl, b3⟩
          have H3 := hide (below_blk b3 H2.out (Nat.le_refl _))
          have HB3 := hide (HB2.out.trans (b3.mono HB2.out.size))
          have HW3 := hide (HW2.out.below b3 (Nat.le_refl _))
          have d27 := H27.out w3 H3.out
          clear b3 HO
          go_wp2_with (refine ld_cfg (.tmp 1) rfl (by rfl) B rfl cs H3.out HSZ.out ?_; try simp only [Act.put, List.setIfInBounds_toArray, List.set_cons_zero, List.set_cons_succ])
          refine (HF.out _ HW3.out).mono ?_
          rintro e w4 ⟨rfl, b4⟩
          have H4 := hide (below_blk b4 H3.out (Nat.le_refl _))
          have HB4 := hide (HB3.out.trans (b4.mono HB3.out.size))
          have HW4 := hide (HW3.out.below b4 (Nat.le_refl _))
          have d27 := H27.out w4 H4.out
          clear b4 HF
          go_wp2_with fail
          go_ret
          exact ⟨by rw [HR.out]; simp [errB], HB4.out⟩
        | true =>
          cases xd with
          | false =>
            go_enter Try.func10, Try.ntmps10
            go_upto_region 1 with (fail)
            rw [HEQ.out.2, HEQ.out.1]
            clear HEQ
            go_wp2_with (refine ld_cfg (.tmp 1) rfl (by rfl) B rfl cs H0.out HSZ.out ?_; try simp only [Act.put, List.setIfInBounds_toArray, List.set_cons_zero, List.set_cons_succ])
            refine (HA.out _).mono ?_
            rintro e w1 ⟨rfl, b1⟩
            have H1 := hide (below_blk b1 H0.out (Nat.le_refl _))
            have HB1 := hide (HB0.out.trans (b1.mono HB0.out.size))
            have HW1 := hide (HW0.out.below b1 (Nat.le_refl _))
            have d27 := H27.out w1 H1.out
            clear b1 HA
            go_wp2_with (refine ld_cfg (.tmp 1) rfl (by rfl) B rfl cs H1.out HSZ.out ?_; try simp only [Act.put, List.setIfInBounds_toArray, List.set_cons_zero, List.set_cons_succ])
            refine (HM.out _).mono ?_
            rintro e w2 ⟨rfl, b2⟩
            have H2 := hide (below_blk b2 H1.out (Nat.le_refl _))
            have HB2 := hide (HB1.out.trans (b2.mono HB1.out.size))
            have HW2 := hide (HW1.out.below b2 (Nat.le_refl _))
            have d27 := H27.out w2 H2.out
            clear b2 HM
            go_wp2_with (refine ld_cfg (.tmp 1) rfl (by rfl) B rfl cs H2.out HSZ.out ?_; try simp only [Act.put, List.setIfInBounds_toArray, List.set_cons_zero, List.set_cons_succ])
            refine (HO.out _).mono ?_
            rintro e w3 ⟨rfl, b3⟩
            have H3 := hide (below_blk b3 H2.out (Nat.le_refl _))
            have HB3 := hide (HB2.out.trans (b3.mono HB2.out.size))
            have HW3 := hide (HW2.out.below b3 (Nat.le_refl _))
            have d27 := H27.out w3 H3.out
            clear b3 HO
            go_wp2_with (refine ld_cfg (.tmp 1) rfl (by rfl) B rfl cs H3.out HSZ.out ?_; try simp only [Act.put, List.setIfInBounds_toArray, List.set_cons_zero, List.set_cons_succ])
            refine (HF.out _ HW3.out).mono ?_
            rintro e w4 ⟨rfl, b4⟩
            have H4 := hide (below_blk b4 H3.out (Nat.le_refl _))
            have HB4 := hide (HB3.out.trans (b4.mono HB3.out.size))
            have HW4 := hide (HW3.out.below b4 (Nat.le_refl _))
            have d27 := H27.out w4 H4.out
            clear b4 HF
            go_wp2_with (refine ld_cfg (.tmp 1) rfl (by rfl) B rfl cs H4.out HSZ.out ?_; try simp only [Act.put, List.setIfInBounds_toArray, List.set_cons_zero, List.set_cons_succ])
            refine (HD.out _).mono ?_
            rintro e w5 ⟨rfl, b5⟩
            have H5 := hide (below_blk b5 H4.out (Nat.le_refl _))
            have HB5 := hide (HB4.out.trans (b5.mono HB4.out.size))
            have HW5 := hide (HW4.out.below b5 (Nat.le_refl _))
            have d27 := H27.out w5 H5.out
            clear b5 HD
            go_wp2_with fail
            go_ret
            exact ⟨by rw [HR.out]; simp [errB], HB5.out⟩
          | true =>
            cases xu with
            | false =>
              go_enter Try.func10, Try.ntmps10
              go_upto_region 1 with (fail)
              rw [HEQ.out.2, HEQ.out.1]
              clear HEQ
              go_wp2_with (refine ld_cfg (.tmp 1) rfl (by rfl) B rfl cs H0.out HSZ.out ?_; try simp only [Act.put, List.setIfInBounds_toArray, List.set_cons_zero, List.set_cons_succ])
              refine (HA.out _).mono ?_
              rintro e w1 ⟨rfl, b1⟩
              have H1 := hide (below_blk b1 H0.out (Nat.le_refl _))
              have HB1 := hide (HB0.out.trans (b1.mono HB0.out.size))
              have HW1 := hide (HW0.out.below b1 (Nat.le_refl _))
              have d27 := H27.out w1 H1.out
              clear b1 HA
              go_wp2_with (refine ld_cfg (.tmp 1) rfl (by rfl) B rfl cs H1.out HSZ.out ?_; try simp only [Act.put, List.setIfInBounds_toArray, List.set_cons_zero, List.set_cons_succ])
              refine (HM.out _).mono ?_
              rintro e w2 ⟨rfl, b2⟩
              have H2 := hide (below_blk b2 H1.out (Nat.le_refl _))
              have HB2 := hide (HB1.out.trans (b2.mono HB1.out.size))
              have HW2 := hide (HW1.out.below b2 (Nat.le_refl _))
              have d27 := H27.out w2 H2.out
              clear b2 HM
              go_wp2_with (refine ld_cfg (.tmp 1) rfl (by rfl) B rfl cs H2.out HSZ.out ?_; try simp only [Act.put, List.setIfInBounds_toArray, List.set_cons_zero, List.set_cons_succ])
              refine (HO.out _).mono ?_
              rintro e w3 ⟨rfl, b3⟩
              have H3 := hide (below_blk b3 H2.out (Nat.le_refl _))
              have HB3 := hide (HB2.out.trans (b3.mono HB2.out.size))
              have HW3 := hide (HW2.out.below b3 (Nat.le_refl _))
              have d27 := H27.out w3 H3.out
              clear b3 HO
              go_wp2_with (refine ld_cfg (.tmp 1) rfl (by rfl) B rfl cs H3.out HSZ.out ?_; try simp only [Act.put, List.setIfInBounds_toArray, List.set_cons_zero, List.set_cons_succ])
              refine (HF.out _ HW3.out).mono ?_
              rintro e w4 ⟨rfl, b4⟩
              have H4 := hide (below_blk b4 H3.out (Nat.le_refl _))
              have HB4 := hide (HB3.out.trans (b4.mono HB3.out.size))
              have HW4 := hide (HW3.out.below b4 (Nat.le_refl _))
              have d27 := H27.out w4 H4.out
              clear b4 HF
              go_wp2_with (refine ld_cfg (.tmp 1) rfl (by rfl) B rfl cs H4.out HSZ.out ?_; try simp only [Act.put, List.setIfInBounds_toArray, List.set_cons_zero, List.set_cons_succ])
              refine (HD.out _).mono ?_
              rintro e w5 ⟨rfl, b5⟩
              have H5 := hide (below_blk b5 H4.out (Nat.le_refl _))
              have HB5 := hide (HB4.out.trans (b5.mono HB4.out.size))
              have HW5 := hide (HW4.out.below b5 (Nat.le_refl _))
              have d27 := H27.out w5 H5.out
              clear b5 HD
              go_wp2_with fail
              refine (HU.out _).mono ?_
              rintro e w6 ⟨rfl, b6⟩
              have H6 := hide (below_blk b6 H5.out (Nat.le_refl _))
              have HB6 := hide (HB5.out.trans (b6.mono HB5.out.size))
              have HW6 := hide (HW5.out.below b6 (Nat.le_refl _))
              have d27 := H27.out w6 H6.out
              clear b6 HU
              go_wp2_with fail
              go_ret
              exact ⟨by rw [HR.out]; simp [errB], HB6.out⟩
            | true =>
              go_enter Try.func10, Try.ntmps10
              go_upto_region 1 with (fail)
              rw [HEQ.out.2, HEQ.out.1]
              clear HEQ
              go_wp2_with (refine ld_cfg (.tmp 1) rfl (by rfl) B rfl cs H0.out HSZ.out ?_; try simp only [Act.put, List.setIfInBounds_toArray, List.set_cons_zero, List.set_cons_succ])
              refine (HA.out _).mono ?_
              rintro e w1 ⟨rfl, b1⟩
              have H1 := hide (below_blk b1 H0.out (Nat.le_refl _))
              have HB1 := hide (HB0.out.trans (b1.mono HB0.out.size))
              have HW1 := hide (HW0.out.below b1 (Nat.le_refl _))
              have d27 := H27.out w1 H1.out
              clear b1 HA
              go_wp2_with (refine ld_cfg (.tmp 1) rfl (by rfl) B rfl cs H1.out HSZ.out ?_; try simp only [Act.put, List.setIfInBounds_toArray, List.set_cons_zero, List.set_cons_succ])
              refine (HM.out _).mono ?_
              rintro e w2 ⟨rfl, b2⟩
              have H2 := hide (below_blk b2 H1.out (Nat.le_refl _))
              have HB2 := hide (HB1.out.trans (b2.mono HB1.out.size))
              have HW2 := hide (HW1.out.below b2 (Nat.le_refl _))
              have d27 := H27.out w2 H2.out
              clear b2 HM
              go_wp2_with (refine ld_cfg (.tmp 1) rfl (by rfl) B rfl cs H2.out HSZ.out ?_; try simp only [Act.put, List.setIfInBounds_toArray, List.set_cons_zero, List.set_cons_succ])
              refine (HO.out _).mono ?_
              rintro e w3 ⟨rfl, b3⟩
              have H3 := hide (below_blk b3 H2.out (Nat.le_refl _))
              have HB3 := hide (HB2.out.trans (b3.mono HB2.out.size))
              have HW3 := hide (HW2.out.below b3 (Nat.le_refl _))
              have d27 := H27.out w3 H3.out
              clear b3 HO
              go_wp2_with (refine ld_cfg (.tmp 1) rfl (by rfl) B rfl cs H3.out HSZ.out ?_; try simp only [Act.put, List.setIfInBounds_toArray, List.set_cons_zero, List.set_cons_succ])
              refine (HF.out _ HW3.out).mono ?_
              rintro e w4 ⟨rfl, b4⟩
              have H4 := hide (below_blk b4 H3.out (Nat.le_refl _))
              have HB4 := hide (HB3.out.trans (b4.mono HB3.out.size))
              have HW4 := hide (HW3.out.below b4 (Nat.le_refl _))
              have d27 := H27.out w4 H4.out
              clear b4 HF
              go_wp2_with (refine ld_cfg (.tmp 1) rfl (by rfl) B rfl cs H4.out HSZ.out ?_; try simp only [Act.put, List.setIfInBounds_toArray, List.set_cons_zero, List.set_cons_succ])
              refine (HD.out _).mono ?_
              rintro e w5 ⟨rfl, b5⟩
              have H5 := hide (below_blk b5 H4.out (Nat.le_refl _))
              have HB5 := hide (HB4.out.trans (b5.mono HB4.out.size))
              have HW5 := hide (HW4.out.below b5 (Nat.le_refl _))
              have d27 := H27.out w5 H5.out
              clear b5 HD
              go_wp2_with fail
              refine (HU.out _).mono ?_
              rintro e w6 ⟨rfl, b6⟩
              have H6 := hide (below_blk b6 H5.out (Nat.le_refl _))
              have HB6 := hide (HB5.out.trans (b6.mono HB5.out.size))
              have HW6 := hide (HW5.out.below b6 (Nat.le_refl _))
              have d27 := H27.out w6 H6.out
              clear b6 HU
              go_wp2_with fail
              go_ret
              exact ⟨by rw [HR.out]; simp [errB], HB6.out⟩
end Go.Proofs.Ytogeggklfcabkaa
