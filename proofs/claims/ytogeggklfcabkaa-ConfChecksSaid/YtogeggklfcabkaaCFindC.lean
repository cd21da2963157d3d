/- Which forward a port has, of a configuration. -/
import Derived.Test.YtogeggklfcabkaaCFind
namespace Go.Proofs.Ytogeggklfcabkaa
open Go.RowKit
set_option linter.unusedVariables false
set_option linter.unusedSimpArgs false
set_option maxRecDepth 100000
/-- The cell of a configuration that has its forwards. -/
structure CfF (cs : Array Value) (a : Option Addr) (n cap : Nat) : Prop where
  size : cs.size = 28
  fw : cs[25]? = some (.slice a n cap)
set_option maxHeartbeats 1600000 in
theorem findC_any (cs : Array Value) (w : World) (a : Option Addr) (fs : List Fwd) (n cap p q : Nat) (hc : CfF cs a n cap) (h : FwAt w a fs) (hl : fs.length = n) (hn : n ≤ 1000000) :
    Calls Try.prog 12 #[.agg cs, .int .u8 (p : Int), .int .u16 (q : Int)] w fun e w' => e = .returned (.tuple #[.agg #[.int .u8 ((fwF (findL fs p q)).1 : Int), .int .u16 ((fwF (findL fs p q)).2.1 : Int), .int .u16 ((fwF (findL fs p q)).2.2.1 : Int), .int .u32 ((fwF (findL fs p q)).2.2.2 : Int)], .bool (findL fs p q).isSome]) ∧ Below w.heap.size w w' := by
  obtain ⟨_, c25⟩ := Array.getElem?_eq_some_iff.1 hc.fw
  have hs := hc.size
  have hb1 := (Below.refl w.heap.size w).alloc (Nat.le_refl _) (.cells cs 28)
  have hb2 := hb1.alloc hb1.size (.cells #[.int .u8 0, .int .u16 0, .int .u16 0, .int .u32 0] 36)
  have HF := hide (first_any _ a fs n cap p q (h.below hb2 (Nat.le_refl _)) hl hn)
  have hr := heap_alloc_new (w.alloc (.cells cs 28)) (.cells #[.int .u8 0, .int .u16 0, .int .u16 0, .int .u32 0] 36)
  have hsz : (w.alloc (.cells cs 28)).heap.size = w.heap.size + 1 := by simp
  rw [hsz] at hr
  have HR := hide hr
  have HB := hide hb2
  obtain ⟨f, hf⟩ : ∃ f, fwF (findL fs p q) = f := ⟨_, rfl⟩
  obtain ⟨g, hg⟩ : ∃ f, (findL fs p q).isSome = f := ⟨_, rfl⟩
  rw [hf, hg] at HF
  rw [hf, hg]
  obtain ⟨f0, f1, f2, f3⟩ := f
  simp only at HF
  clear h hl hc hb1 hb2 hr hsz hf hg
  go_enter Try.func12, Try.ntmps12
  go_wp2_with fail
  refine HF.out.mono ?_
  rintro e w1 ⟨rfl, b1⟩
  have HR1 := hide (below_blk b1 HR.out (Nat.le_refl _))
  have HB1 := hide (HB.out.trans (b1.mono HB.out.size))
  clear HF b1 HR HB
  go_wp2_with ((refine st_fwd (.tmp 6) (.tmp 13) rfl (by rfl) (w.heap.size + 1) rfl _ #[.int .u8 (f0 : Int), .int .u16 (f1 : Int), .int .u16 (f2 : Int), .int .u32 (f3 : Int)] rfl HR1.out rfl rfl (all4 _ _ _ _ _ _ _ _) HB1.out (Nat.le_succ _) ?_; rintro w2 hr2 hb2 ho2 hs2; have HB2 := hide hb2; obtain ⟨t0, t1, t2, t3, tf⟩ := four_cells hr2; clear hr2 hb2 ho2 hs2 tf; try simp only [Act.put, List.setIfInBounds_toArray, List.set_cons_zero, List.set_cons_succ]))
  refine bodyPost_ret (v := .tuple #[.agg #[.int .u8 (f0 : Int), .int .u16 (f1 : Int), .int .u16 (f2 : Int), .int .u32 (f3 : Int)], .bool g]) (by simp [results, Try.results12, go_sem, t0, t1, t2, t3]) rfl ⟨rfl, HB2.out⟩
set_option maxHeartbeats 1600000 in
theorem findR_any (cs : Array Value) (w : World) (a : Option Addr) (fs : List Fwd) (n cap p q : Nat) (hc : CfF cs a n cap) (h : FwAt w a fs) (hl : fs.length = n) (hn : n ≤ 1000000) :
    Calls Try.prog 13 #[.agg cs, .int .u8 (p : Int), .int .u16 (q : Int)] w fun e w' => e = .returned (.tuple #[.agg #[.int .u8 ((fwF (findL fs p q)).1 : Int), .int .u16 ((fwF (findL fs p q)).2.1 : Int), .int .u16 ((fwF (findL fs p q)).2.2.1 : Int), .int .u32 ((fwF (findL fs p q)).2.2.2 : Int)], .bool (findL fs p q).isSome]) ∧ Below w.heap.size w w' := by
  obtain ⟨_, c25⟩ := Array.getElem?_eq_some_iff.1 hc.fw
  have hs := hc.size
  have hb1 := (Below.refl w.heap.size w).alloc (Nat.le_refl _) (.cells cs 28)
  have hb2 := hb1.alloc hb1.size (.cells #[.int .u8 0, .int .u16 0, .int .u16 0, .int .u32 0] 36)
  have hr := heap_alloc_new (w.alloc (.cells cs 28)) (.cells #[.int .u8 0, .int .u16 0, .int .u16 0, .int .u32 0] 36)
  have hsz : (w.alloc (.cells cs 28)).heap.size = w.heap.size + 1 := by simp
  rw [hsz] at hr
  have hcc := below_blk ((Below.refl (w.alloc (.cells cs 28)).heap.size _).alloc (Nat.le_refl _) (.cells #[.int .u8 0, .int .u16 0, .int .u16 0, .int .u32 0] 36)) (heap_alloc_new w (.cells cs 28)) (Nat.le_refl _)
  have hcw := h.below hb2 (Nat.le_refl _)
  have HL := hide hl
  obtain ⟨o, ho⟩ : ∃ o, findL fs p q = o := ⟨_, rfl⟩
  rw [ho]
  have HFO := hide ho
  obtain ⟨B, R, w0, hB, hR, hw0, HC0, HR0, HB0, HW0⟩ : ∃ B R wt, w.heap.size = B ∧ w.heap.size + 1 = R ∧ (w.alloc (.cells cs 28)).alloc (.cells #[.int .u8 0, .int .u16 0, .int .u16 0, .int .u32 0] 36) = wt ∧ Hid (wt.heap[B]? = some (.cells cs 28 (0, 0))) ∧ Hid (wt.heap[R]? = some (.cells #[.int .u8 0, .int .u16 0, .int .u16 0, .int .u32 0] 36 (0, 0))) ∧ Hid (Below w.heap.size w wt) ∧ Hid (FwAt wt a fs) := ⟨_, _, _, rfl, rfl, rfl, hide hcc, hide hr, hide hb2, hide hcw⟩
  have HRB := hide (show w.heap.size ≤ R by omega)
  have HEQ := hide (And.intro hB (And.intro hR hw0))
  clear hb1 hb2 hr hsz hcc hcw h hl ho hB hR hw0
  go_enter Try.func13, Try.ntmps13
  go_wp2_with fail
  rw [HEQ.out.2.2, HEQ.out.2.1, HEQ.out.1]
  have d25 : w0.cell? ⟨B, 25, none⟩ = some (.slice a n cap) := by rw [cell_of_row w0 B 25 cs _ _ HC0.out, Array.getElem?_eq_getElem (by omega), c25]
  clear c25 hs hc HEQ
  go_loop [8] (fun i => ∃ j : Nat, j ≤ n ∧ i = .int .i64 j ∧ Hid (∀ i f, i < j → fs[i]? = some f → hitB p q f = false)) (fun i => n - (intOf i).toNat)
  case atStart => exact ⟨0, Nat.zero_le _, rfl, hide (fun i f h => by omega)⟩
  case round =>
    obtain ⟨j, hj, rfl, HI⟩ := hrel
    by_cases hlt : j < n
    · have hjl : j < fs.length := by rw [HL.out]; exact hlt
      obtain ⟨b, off, rfl, hb, d0, d1, d2, d3⟩ := (HW0.out.cells hjl)
      obtain ⟨f, hf⟩ : ∃ f, fs[j]'hjl = f := ⟨_, rfl⟩
      have HMORE := hide (fun hh => hit_more (p := p) (q := q) hjl HI.out hh)
      have HHIT := hide (fun hh => find_hit (p := p) (q := q) hjl HI.out hh)
      rw [hf] at d0 d1 d2 d3 HMORE HHIT
      obtain ⟨f0, f1, f2, f3⟩ := f
      simp only at d0 d1 d2 d3
      clear hf
      by_cases h0 : f0 = p
      · have e0 : ((f0 : Int) == (p : Int)) = true := by simp [h0]
        by_cases h1 : f1 = q
        · have e1 : ((f1 : Int) == (q : Int)) = true := by simp [h1]
          have HE := hide (show o = some (f0, f1, f2, f3) by rw [← HFO.out]; exact HHIT.out (by simp [hitB, h0, h1]))
          clear h0 h1 HMORE HHIT
          go_wp2_with ((refine st_fwd (.tmp 6) (.tmp 38) rfl (by rfl) R rfl _ #[.int .u8 (f0 : Int), .int .u16 (f1 : Int), .int .u16 (f2 : Int), .int .u32 (f3 : Int)] rfl HR0.out rfl rfl (all4 _ _ _ _ _ _ _ _) HB0.out HRB.out ?_; rintro w2 hr2 hb2 ho2 hs2; have HB2 := hide hb2; obtain ⟨t0, t1, t2, t3, tf⟩ := four_cells hr2; clear hr2 hb2 ho2 hs2 tf; try simp only [Act.put, List.setIfInBounds_toArray, List.set_cons_zero, List.set_cons_succ]))
          refine bodyPost_ret (v := .tuple #[.agg #[.int .u8 (f0 : Int), .int .u16 (f1 : Int), .int .u16 (f2 : Int), .int .u32 (f3 : Int)], .bool true]) (by simp [results, Try.results13, go_sem, t0, t1, t2, t3]) rfl ⟨?_, HB2.out⟩
          rw [HE.out]; rfl
        · have e1 : ((f1 : Int) == (q : Int)) = false := by simp; omega
          have HN := hide (HMORE.out (by simp [hitB, h1]))
          clear h0 h1 HMORE HHIT
          go_wp2_with fail
          go_round
          case rel => exact ⟨j + 1, by omega, by go_num, HN⟩
          case measure => simp [intOf]; omega
      · have e0 : ((f0 : Int) == (p : Int)) = false := by simp; omega
        have HN := hide (HMORE.out (by simp [hitB, h0]))
        clear h0 HMORE HHIT
        go_wp2_with fail
        go_round
        case rel => exact ⟨j + 1, by omega, by go_num, HN⟩
        case measure => simp [intOf]; omega
    · have HE := hide (show o = none by rw [← HFO.out]; exact find_none (fun i f hi hf => HI.out i f (by have := HL.out; omega) hf))
      go_wp2_with ((refine st_fwd (.tmp 6) (.tmp 39) rfl (by rfl) R rfl _ #[.int .u8 0, .int .u16 0, .int .u16 0, .int .u32 0] rfl HR0.out rfl rfl (all4 _ _ _ _ _ _ _ _) HB0.out HRB.out ?_; rintro w2 hr2 hb2 ho2 hs2; have HB2 := hide hb2; obtain ⟨t0, t1, t2, t3, tf⟩ := four_cells hr2; clear hr2 hb2 ho2 hs2 tf; try simp only [Act.put, List.setIfInBounds_toArray, List.set_cons_zero, List.set_cons_succ]))
      refine bodyPost_ret (v := .tuple #[.agg #[.int .u8 0, .int .u16 0, .int .u16 0, .int .u32 0], .bool false]) (by simp [results, Try.results13, go_sem, t0, t1, t2, t3]) rfl ⟨?_, HB2.out⟩
      rw [HE.out]; rfl
end Go.Proofs.Ytogeggklfcabkaa
