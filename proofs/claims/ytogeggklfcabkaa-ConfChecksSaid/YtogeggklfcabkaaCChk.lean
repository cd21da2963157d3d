/- Whether a configuration is right, part by part: the program's. -/
import Derived.Test.YtogeggklfcabkaaCChkA
import Derived.Test.YtogeggklfcabkaaCFindC
import Derived.Test.YtogeggklfcabkaaCUuidR
import Derived.Laws.BitsAllLaws
namespace Go.Proofs.Ytogeggklfcabkaa
open Go.RowKit
set_option linter.unusedVariables false
set_option linter.unusedSimpArgs false
set_option maxRecDepth 100000
set_option maxHeartbeats 3000000 in
theorem rightFwd_any (cs : Array Value) (c : Cfg) (a : Option Addr) (n cap : Nat) (w : World) (f0 f1 f2 f3 : Nat) (hc : CfA cs c a n cap) (hk : CfOk c) (hf : FwOk (f0, f1, f2, f3)) :
    Calls Try.prog 32 #[.agg cs, .agg #[.int .u8 (f0 : Int), .int .u16 (f1 : Int), .int .u16 (f2 : Int), .int .u32 (f3 : Int)]] w fun e w' => e = .returned (.bool (fwdB c (f0, f1, f2, f3))) ∧ Below w.heap.size w w' := by
  obtain ⟨r, hr⟩ : ∃ r, fwdB c (f0, f1, f2, f3) = r := ⟨_, rfl⟩
  rw [hr]
  have HSZ := hide hc.size
  have hb1 := (Below.refl w.heap.size w).alloc (Nat.le_refl _) (.cells cs 28)
  have HB := hide (hb1.alloc hb1.size (.cells #[.int .u8 (f0 : Int), .int .u16 (f1 : Int), .int .u16 (f2 : Int), .int .u32 (f3 : Int)] 36))
  have HH0 := hide (below_blk ((Below.refl (w.alloc (.cells cs 28)).heap.size _).alloc (Nat.le_refl _) (.cells #[.int .u8 (f0 : Int), .int .u16 (f1 : Int), .int .u16 (f2 : Int), .int .u32 (f3 : Int)] 36)) (heap_alloc_new w (.cells cs 28)) (Nat.le_refl _))
  unfold fwdB at hr
  simp only at hr
  have HH := hide (fun V => host_any cs c.lan c.nb f3 V hc.h hk.lan hf.2.2.2)
  obtain ⟨p, hp⟩ : ∃ x, hostB c.lan c.nb f3 = x := ⟨_, rfl⟩
  rw [hp] at HH hr
  have e1 : ((f0 : Int) == 6) = decide (f0 = 6) := int_beq2 f0 6
  have e2 : ((f0 : Int) == 17) = decide (f0 = 17) := int_beq2 f0 17
  rw [← e1, ← e2] at hr
  obtain ⟨x, hx⟩ : ∃ x, ((f0 : Int) == 6) = x := ⟨_, rfl⟩
  obtain ⟨y, hy⟩ : ∃ x, ((f0 : Int) == 17) = x := ⟨_, rfl⟩
  obtain ⟨z, hz⟩ : ∃ x, decide (0 < f1) = x := ⟨_, rfl⟩
  obtain ⟨u, hu⟩ : ∃ x, decide (0 < f2) = x := ⟨_, rfl⟩
  rw [hx, hy, hz, hu] at hr
  have HR := hide hr
  clear hr hp e1 e2 hc hk hf hb1
  cases x with
  | false =>
    cases y with
    | false =>
      go_enter Try.func32, Try.ntmps32
      go_wp2_with (first | (refine ld_cfg (.tmp 2) rfl (by rfl) w.heap.size rfl cs HH0.out HSZ.out ?_; try simp only [Act.put, List.setIfInBounds_toArray, List.set_cons_zero, List.set_cons_succ]) | (go_at_call 14; refine (HH.out _).mono ?_; rintro e w1 ⟨rfl, b1⟩; have HB1 := hide (HB.out.trans (b1.mono HB.out.size)); clear b1))
      go_ret
      first
        | exact ⟨by rw [← HR.out]; simp, HB.out⟩
        | exact ⟨by rw [← HR.out]; simp, HB1.out⟩
    | true =>
      cases z with
      | false =>
        go_enter Try.func32, Try.ntmps32
        go_wp2_with (first | (refine ld_cfg (.tmp 2) rfl (by rfl) w.heap.size rfl cs HH0.out HSZ.out ?_; try simp only [Act.put, List.setIfInBounds_toArray, List.set_cons_zero, List.set_cons_succ]) | (go_at_call 14; refine (HH.out _).mono ?_; rintro e w1 ⟨rfl, b1⟩; have HB1 := hide (HB.out.trans (b1.mono HB.out.size)); clear b1))
        go_ret
        first
          | exact ⟨by rw [← HR.out]; simp, HB.out⟩
          | exact ⟨by rw [← HR.out]; simp, HB1.out⟩
      | true =>
        cases u with
        | false =>
          go_enter Try.func32, Try.ntmps32
          go_wp2_with (first | (refine ld_cfg (.tmp 2) rfl (by rfl) w.heap.size rfl cs HH0.out HSZ.out ?_; try simp only [Act.put, List.setIfInBounds_toArray, List.set_cons_zero, List.set_cons_succ]) | (go_at_call 14; refine (HH.out _).mono ?_; rintro e w1 ⟨rfl, b1⟩; have HB1 := hide (HB.out.trans (b1.mono HB.out.size)); clear b1))
          go_ret
          first
            | exact ⟨by rw [← HR.out]; simp, HB.out⟩
            | exact ⟨by rw [← HR.out]; simp, HB1.out⟩
        | true =>
          cases p with
          | false =>
            go_enter Try.func32, Try.ntmps32
            go_wp2_with (first | (refine ld_cfg (.tmp 2) rfl (by rfl) w.heap.size rfl cs HH0.out HSZ.out ?_; try simp only [Act.put, List.setIfInBounds_toArray, List.set_cons_zero, List.set_cons_succ]) | (go_at_call 14; refine (HH.out _).mono ?_; rintro e w1 ⟨rfl, b1⟩; have HB1 := hide (HB.out.trans (b1.mono HB.out.size)); clear b1))
            go_ret
            first
              | exact ⟨by rw [← HR.out]; simp, HB.out⟩
              | exact ⟨by rw [← HR.out]; simp, HB1.out⟩
          | true =>
            go_enter Try.func32, Try.ntmps32
            go_wp2_with (first | (refine ld_cfg (.tmp 2) rfl (by rfl) w.heap.size rfl cs HH0.out HSZ.out ?_; try simp only [Act.put, List.setIfInBounds_toArray, List.set_cons_zero, List.set_cons_succ]) | (go_at_call 14; refine (HH.out _).mono ?_; rintro e w1 ⟨rfl, b1⟩; have HB1 := hide (HB.out.trans (b1.mono HB.out.size)); clear b1))
            go_ret
            first
              | exact ⟨by rw [← HR.out]; simp, HB.out⟩
              | exact ⟨by rw [← HR.out]; simp, HB1.out⟩
  | true =>
    cases z with
    | false =>
      go_enter Try.func32, Try.ntmps32
      go_wp2_with (first | (refine ld_cfg (.tmp 2) rfl (by rfl) w.heap.size rfl cs HH0.out HSZ.out ?_; try simp only [Act.put, List.setIfInBounds_toArray, List.set_cons_zero, List.set_cons_succ]) | (go_at_call 14; refine (HH.out _).mono ?_; rintro e w1 ⟨rfl, b1⟩; have HB1 := hide (HB.out.trans (b1.mono HB.out.size)); clear b1))
      go_ret
      first
        | exact ⟨by rw [← HR.out]; simp, HB.out⟩
        | exact ⟨by rw [← HR.out]; simp, HB1.out⟩
    | true =>
      cases u with
      | false =>
        go_enter Try.func32, Try.ntmps32
        go_wp2_with (first | (refine ld_cfg (.tmp 2) rfl (by rfl) w.heap.size rfl cs HH0.out HSZ.out ?_; try simp only [Act.put, List.setIfInBounds_toArray, List.set_cons_zero, List.set_cons_succ]) | (go_at_call 14; refine (HH.out _).mono ?_; rintro e w1 ⟨rfl, b1⟩; have HB1 := hide (HB.out.trans (b1.mono HB.out.size)); clear b1))
        go_ret
        first
          | exact ⟨by rw [← HR.out]; simp, HB.out⟩
          | exact ⟨by rw [← HR.out]; simp, HB1.out⟩
      | true =>
        cases p with
        | false =>
          go_enter Try.func32, Try.ntmps32
          go_wp2_with (first | (refine ld_cfg (.tmp 2) rfl (by rfl) w.heap.size rfl cs HH0.out HSZ.out ?_; try simp only [Act.put, List.setIfInBounds_toArray, List.set_cons_zero, List.set_cons_succ]) | (go_at_call 14; refine (HH.out _).mono ?_; rintro e w1 ⟨rfl, b1⟩; have HB1 := hide (HB.out.trans (b1.mono HB.out.size)); clear b1))
          go_ret
          first
            | exact ⟨by rw [← HR.out]; simp, HB.out⟩
            | exact ⟨by rw [← HR.out]; simp, HB1.out⟩
        | true =>
          go_enter Try.func32, Try.ntmps32
          go_wp2_with (first | (refine ld_cfg (.tmp 2) rfl (by rfl) w.heap.size rfl cs HH0.out HSZ.out ?_; try simp only [Act.put, List.setIfInBounds_toArray, List.set_cons_zero, List.set_cons_succ]) | (go_at_call 14; refine (HH.out _).mono ?_; rintro e w1 ⟨rfl, b1⟩; have HB1 := hide (HB.out.trans (b1.mono HB.out.size)); clear b1))
          go_ret
          first
            | exact ⟨by rw [← HR.out]; simp, HB.out⟩
            | exact ⟨by rw [← HR.out]; simp, HB1.out⟩
end Go.Proofs.Ytogeggklfcabkaa
