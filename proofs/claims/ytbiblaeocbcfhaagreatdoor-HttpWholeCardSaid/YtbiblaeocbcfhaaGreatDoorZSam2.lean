/- http: two things that were told are one. -/
import Derived.Test.YtbiblaeocbcfhaaGreatDoorZEnds
namespace Go.Proofs.YtbiblaeocbcfhaaGreatDoor
open Go.RowKit Go.Deep
set_option linter.unusedVariables false
set_option linter.unusedSimpArgs false
set_option maxRecDepth 100000
theorem boxes (w : World) (oA oB oX oY : Obj) : ((((w.alloc oA).alloc oB).alloc oX).alloc oY).heap[w.heap.size + 1 + 1]? = some oX ∧ ((((w.alloc oA).alloc oB).alloc oX).alloc oY).heap[w.heap.size + 1 + 1 + 1]? = some oY ∧ Below w.heap.size w ((((w.alloc oA).alloc oB).alloc oX).alloc oY) ∧ ((((w.alloc oA).alloc oB).alloc oX).alloc oY).heap[w.heap.size]? = some oA ∧ ((((w.alloc oA).alloc oB).alloc oX).alloc oY).heap[w.heap.size + 1]? = some oB := by
  have b1 := (Below.refl w.heap.size w).alloc (Nat.le_refl _) oA
  have b2 := b1.alloc b1.size oB
  have b3 := b2.alloc b2.size oX
  have c1 := (Below.refl (w.alloc oA).heap.size (w.alloc oA)).alloc (Nat.le_refl _) oB
  have c2 := c1.alloc c1.size oX
  have c3 := c2.alloc c2.size oY
  have e1 := (Below.refl ((w.alloc oA).alloc oB).heap.size ((w.alloc oA).alloc oB)).alloc (Nat.le_refl _) oX
  have e2 := e1.alloc e1.size oY
  refine ⟨?_, ?_, b3.alloc b3.size oY, (c3.block _ (by simp)).trans (heap_alloc_new _ _), ?_⟩
  · have h := heap_two ((w.alloc oA).alloc oB) oX oY
    rwa [show ((w.alloc oA).alloc oB).heap.size = w.heap.size + 1 + 1 by simp] at h
  · have h := heap_alloc_new (((w.alloc oA).alloc oB).alloc oX) oY
    rwa [show (((w.alloc oA).alloc oB).alloc oX).heap.size = w.heap.size + 1 + 1 + 1 by simp] at h
  · have h := (e2.block (w.alloc oA).heap.size (by simp)).trans (heap_alloc_new _ _)
    rwa [show (w.alloc oA).heap.size = w.heap.size + 1 by simp] at h
set_option maxHeartbeats 8000000 in
theorem alike_any (t : Told) (tf tb tf' tb' : Value) (w : World) (h1 : FV w tf t.rq.fs) (h2 : U8 w tb t.rq.body) (h3 : FV w tf' t.rq.fs) (h4 : U8 w tb' t.rq.body) (h5 : t.rq.fs.length ≤ 40) :
    Calls Tryz.prog 10 #[.agg (tcells t tf tb), .agg (tcells t tf' tb')] w fun e w' => e = .returned (.bool true) ∧ Below w.heap.size w w' := by
  unfold tcells
  obtain ⟨st, hst⟩ : ∃ x : Int, (t.status : Int) = x := ⟨_, rfl⟩
  obtain ⟨me, hme⟩ : ∃ x, bs t.rq.me = x := ⟨_, rfl⟩
  obtain ⟨ta, hta⟩ : ∃ x, bs t.rq.ta = x := ⟨_, rfl⟩
  obtain ⟨mi, hmi⟩ : ∃ x : Int, (t.rq.minor : Int) = x := ⟨_, rfl⟩
  obtain ⟨kp, hkp⟩ : ∃ x, t.rq.keep = x := ⟨_, rfl⟩
  obtain ⟨fs, hfs⟩ : ∃ x, t.rq.fs = x := ⟨_, rfl⟩
  obtain ⟨bd, hbd⟩ : ∃ x, t.rq.body = x := ⟨_, rfl⟩
  rw [hst, hme, hta, hmi, hkp]
  rw [hfs] at h1 h3 h5
  rw [hbd] at h2 h4
  clear hst hme hta hmi hkp hfs hbd
  obtain ⟨fa, fc, rfl, hf1⟩ := h1
  obtain ⟨ga, gc, rfl, hf2⟩ := h3
  obtain ⟨ba, bc, hb1⟩ := h2.form
  obtain ⟨da, dc, hd1⟩ := h4.form
  subst hb1 hd1
  obtain ⟨n, hn⟩ : ∃ n, fs.length = n := ⟨_, rfl⟩
  obtain ⟨m, hm⟩ : ∃ n, bd.length = n := ⟨_, rfl⟩
  rw [hn, hm]
  rw [hn] at h5
  rw [hm] at h2 h4
  have H := hide (And.intro h2 (And.intro h4 (And.intro hf1 (And.intro hf2 hn))))
  clear h2 h4 hf1 hf2 hn hm
  go_enter Tryz.func10, Tryz.ntmps10
  go_wp2_with fail
  rename_i K hK
  have REST : ∀ (W : World) (g5 g6 : Nat), W.heap[g5]? = some (.cells #[.string me, .string ta, .int .i64 mi, .slice fa n fc, .slice ba m bc, .bool kp] 31 (0, 0)) → W.heap[g6]? = some (.cells #[.string me, .string ta, .int .i64 mi, .slice ga n gc, .slice da m dc, .bool kp] 31 (0, 0)) → Below w.heap.size w W → W.heap[w.heap.size]? = some (.cells #[.int .i64 st, .string me, .string ta, .int .i64 mi, .slice fa n fc, .slice ba m bc, .bool kp] 33 (0, 0)) → W.heap[w.heap.size + 1]? = some (.cells #[.int .i64 st, .string me, .string ta, .int .i64 mi, .slice ga n gc, .slice da m dc, .bool kp] 33 (0, 0)) →
      K { tmps := #[.agg #[.int .i64 st, .string me, .string ta, .int .i64 mi, .slice fa n fc, .slice ba m bc, .bool kp], .agg #[.int .i64 st, .string me, .string ta, .int .i64 mi, .slice ga n gc, .slice da m dc, .bool kp], .pointer (some ⟨w.heap.size, 0, none⟩), .pointer (some ⟨w.heap.size + 1, 0, none⟩), .bool false, .pointer (some ⟨g5, 0, none⟩), .pointer (some ⟨g6, 0, none⟩), undef, .pointer (some ⟨w.heap.size, 1, none⟩), .agg #[.string me, .string ta, .int .i64 mi, .slice fa n fc, .slice ba m bc, .bool kp], .pointer (some ⟨w.heap.size + 1, 1, none⟩), .agg #[.string me, .string ta, .int .i64 mi, .slice ga n gc, .slice da m dc, .bool kp], undef, undef, undef, undef, undef, undef, undef, undef, undef, undef, undef, undef, undef, undef, undef, undef, undef, undef, undef, undef, undef, undef, undef, undef, undef, undef, undef, undef, undef, undef, undef, undef, undef, undef, undef, undef, undef, undef, undef, undef, undef, undef, undef, undef, undef, undef, undef, undef, undef, undef, undef, undef, undef, undef, undef, undef, undef, undef, undef, undef, undef, undef, undef, undef, undef, undef, undef, undef, undef], defers := [] } W.drew := by
    intro W g5 g6 hW5 hW6 hWB hS0 hS1
    refine hK _ _ ?_
    have r0 := cell_at hS0 0 rfl
    have r1 := cell_at hS1 0 rfl
    clear hS0 hS1
    have hc1 := back_u8 (H.out.1.only (OnlyS.of hWB : OnlyS (fun _ => False) _ _) (fun _ _ h => h))
    have hc2 := back_u8 (H.out.2.1.only (OnlyS.of hWB : OnlyS (fun _ => False) _ _) (fun _ _ h => h))
    have hc3 := back_u8 (H.out.1.only (OnlyS.of hWB.drew : OnlyS (fun _ => False) _ _) (fun _ _ h => h))
    have hc4 := back_u8 (H.out.2.1.only (OnlyS.of hWB.drew : OnlyS (fun _ => False) _ _) (fun _ _ h => h))
    have p0 := cell_at hW5 0 rfl
    have p1 := cell_at hW5 1 rfl
    have p2 := cell_at hW5 2 rfl
    have p3 := cell_at hW5 3 rfl
    have p4 := cell_at hW5 4 rfl
    have p5 := cell_at hW5 5 rfl
    have q0 := cell_at hW6 0 rfl
    have q1 := cell_at hW6 1 rfl
    have q2 := cell_at hW6 2 rfl
    have q3 := cell_at hW6 3 rfl
    have q4 := cell_at hW6 4 rfl
    have q5 := cell_at hW6 5 rfl
    have HW := hide (And.intro hW5 (And.intro hW6 hWB))
    clear hW5 hW6 hWB
    have HZ := hide True.intro
    all_goals
      go_wp2_with fail
      go_loopw [7] (fun i wz => ∃ j : Nat, j ≤ n ∧ i = .int .i64 j ∧ Hid (Below W.heap.size W wz)) (fun i _ => n - (Lib.intOf i).toNat)
      case atStart => exact ⟨0, Nat.zero_le _, rfl, hide (Below.refl _ _).drew⟩
      case round =>
        obtain ⟨j, hj, rfl, HB⟩ := hrel
        have hj4 : (0 : Int) ≤ (j : Int) := by omega
        have hj5 : (j : Int) ≤ 40 := by omega
        have z3 : wr.cell? ⟨g5, 3, none⟩ = some (.slice fa n fc) := (World.cell?_of_block (HB.out.block g5 (lt_of_block HW.out.1))).trans p3
        have y3 : wr.cell? ⟨g6, 3, none⟩ = some (.slice ga n gc) := (World.cell?_of_block (HB.out.block g6 (lt_of_block HW.out.2.1))).trans q3
        by_cases hlt : j < n
        · have d1 : decide (j < n) = true := by simp; omega
          obtain ⟨f, hf⟩ : ∃ f, fs[j]? = some f := ⟨_, List.getElem?_eq_getElem (by have := H.out.2.2.2.2; omega)⟩
          have hne : fs.map mkF ≠ [] := fun h => by rw [List.map_eq_nil_iff.1 h] at hf; cases hf
          have hmf : (fs.map mkF)[j]? = some (mkF f) := by rw [List.getElem?_map, hf]; rfl
          obtain ⟨u, o, rfl, hul, hcu⟩ := H.out.2.2.1 hne
          obtain ⟨u2, o2, rfl, hul2, hcu2⟩ := H.out.2.2.2.1 hne
          have hBw := HW.out.2.2.trans (HB.out.mono HW.out.2.2.size)
          have k0 : wr.cell? ⟨u, o + j * 2, none⟩ = some (.string (bs f.1)) := (World.cell?_of_block (hBw.block u hul)).trans (hcu j _ hmf).1
          have k1 : wr.cell? ⟨u, o + j * 2 + 1, none⟩ = some (.string (bs f.2)) := (World.cell?_of_block (hBw.block u hul)).trans (hcu j _ hmf).2
          have l0 : wr.cell? ⟨u2, o2 + j * 2, none⟩ = some (.string (bs f.1)) := (World.cell?_of_block (hBw.block u2 hul2)).trans (hcu2 j _ hmf).1
          have l1 : wr.cell? ⟨u2, o2 + j * 2 + 1, none⟩ = some (.string (bs f.2)) := (World.cell?_of_block (hBw.block u2 hul2)).trans (hcu2 j _ hmf).2
          generalize bs f.1 = s1 at k0 l0
          generalize bs f.2 = s2 at k1 l1
          clear r0 r1 p0 p1 p2 p3 p4 p5 q0 q1 q2 q3 q4 q5 hc1 hc2 hc3 hc4 hBw hcu hcu2 hmf hne hf hul hul2 HW
          go_wp2_with fail
          go_region_with fail
          all_goals
            go_wp2_with fail
            first
            | exact ⟨⟨j + 1, by omega, by go_num, hide HB.out.drew⟩, by simp [Lib.intOf]; omega⟩
            | exact ⟨⟨j + 1, by omega, by go_num, HB⟩, by simp [Lib.intOf]; omega⟩
            | (trace_state; sorry)
        · have d1 : decide (j < n) = false := by simp; omega
          have HFIN := hide (HW.out.2.2.trans (HB.out.mono HW.out.2.2.size))
          clear r0 r1 p0 p1 p2 p3 p4 p5 q0 q1 q2 q3 q4 q5 hc1 hc2 hc3 hc4 HB HW
          go_wp2_with fail
          go_ret
          exact ⟨rfl, HFIN.out⟩
  have HREST := hide REST
  clear REST
  go_region_with fail
  all_goals first
  | (have hb := boxes w (.cells #[.int .i64 st, .string me, .string ta, .int .i64 mi, .slice fa n fc, .slice ba m bc, .bool kp] 33) (.cells #[.int .i64 st, .string me, .string ta, .int .i64 mi, .slice ga n gc, .slice da m dc, .bool kp] 33) (.cells #[.string me, .string ta, .int .i64 mi, .slice fa n fc, .slice ba m bc, .bool kp] 31) (.cells #[.string me, .string ta, .int .i64 mi, .slice ga n gc, .slice da m dc, .bool kp] 31)
     obtain ⟨W, hW⟩ : ∃ W, ((((w.alloc (.cells #[.int .i64 st, .string me, .string ta, .int .i64 mi, .slice fa n fc, .slice ba m bc, .bool kp] 33)).alloc (.cells #[.int .i64 st, .string me, .string ta, .int .i64 mi, .slice ga n gc, .slice da m dc, .bool kp] 33)).alloc (.cells #[.string me, .string ta, .int .i64 mi, .slice fa n fc, .slice ba m bc, .bool kp] 31)).alloc (.cells #[.string me, .string ta, .int .i64 mi, .slice ga n gc, .slice da m dc, .bool kp] 31)) = W := ⟨_, rfl⟩
     rw [hW] at hb ⊢
     obtain ⟨hW5, hW6, hWB, hS0, hS1⟩ := hb
     exact HREST.out W _ _ hW5 hW6 hWB hS0 hS1)
  | (have hb := boxes w (.cells #[.int .i64 st, .string me, .string ta, .int .i64 mi, .slice fa n fc, .slice ba m bc, .bool kp] 33) (.cells #[.int .i64 st, .string me, .string ta, .int .i64 mi, .slice ga n gc, .slice da m dc, .bool kp] 33) (.cells #[.string me, .string ta, .int .i64 mi, .slice ga n gc, .slice da m dc, .bool kp] 31) (.cells #[.string me, .string ta, .int .i64 mi, .slice fa n fc, .slice ba m bc, .bool kp] 31)
     obtain ⟨W, hW⟩ : ∃ W, ((((w.alloc (.cells #[.int .i64 st, .string me, .string ta, .int .i64 mi, .slice fa n fc, .slice ba m bc, .bool kp] 33)).alloc (.cells #[.int .i64 st, .string me, .string ta, .int .i64 mi, .slice ga n gc, .slice da m dc, .bool kp] 33)).alloc (.cells #[.string me, .string ta, .int .i64 mi, .slice ga n gc, .slice da m dc, .bool kp] 31)).alloc (.cells #[.string me, .string ta, .int .i64 mi, .slice fa n fc, .slice ba m bc, .bool kp] 31)) = W := ⟨_, rfl⟩
     rw [hW] at hb ⊢
     obtain ⟨hW6, hW5, hWB, hS0, hS1⟩ := hb
     exact HREST.out W _ _ hW5 hW6 hWB hS0 hS1)
end Go.Proofs.YtbiblaeocbcfhaaGreatDoor
