/- A tree made even: [hearth/api.Addr, hearth/neigh.host]. -/
import Derived.Test.YtbibobjkclgogaaDT
namespace Go.Proofs.Ytbibobjkclgogaa.D
open Go.RowKit Go.Deep
open Go.Proofs.Ytbibobjkclgogaa
set_option linter.unusedVariables false
set_option linter.unusedSimpArgs false
set_option maxRecDepth 100000
theorem weight_q (T : BT KV) (w : World) (h : TIn w T) (hn : nsz T ≤ 1000000) (n : Nat) :
    Calls Try.prog 68 #[.pointer (ad T)] (w.drewN n) fun e w' => e = .returned (.int .i64 ((nsz T : Int) + 1)) ∧ w' = w.drewN n :=
  (weight_any T (w.drewN n) (TIn.keep (NK.drewN w n) h) hn).mono fun e w' ⟨h1, h2⟩ => ⟨h1, h2.symm⟩
theorem idx0 (x y : Option Addr) (W : World) : (Instr.index 109 (.agg #[.pointer x, .pointer y]) (.int .i64 0)).run Try.prog W = .ok (.pointer x) W := by
  first | kernel_rfl | (simp [Instr.index, go_sem]; done)
theorem idx1 (x y : Option Addr) (W : World) : (Instr.index 109 (.agg #[.pointer x, .pointer y]) (.int .i64 1)).run Try.prog W = .ok (.pointer y) W := by
  first | kernel_rfl | (simp [Instr.index, go_sem]; done)
def TreeAns (w : World) (L : List KV) (e : Ending) (w' : World) : Prop := ∃ T', e = .returned (.pointer (ad T')) ∧ TIn w' T' ∧ toL T' = L ∧ Below w.heap.size w w'

set_option maxHeartbeats 3000000 in
theorem even_any (b : Nat) (a : KV) (l r : BT KV) (w : World) (h : TIn w (.node b 0 a l r)) (hn : nsz l + nsz r ≤ 800000) :
    Calls Try.prog 63 #[.pointer (some ⟨b, 0, none⟩)] w (TreeAns w (toL l ++ a :: toL r)) := by
  obtain ⟨c0, c1, c1a, c1b, c1c, c1d, c1e, c1f, c2, c3, c4, cf⟩ := five_cells h.2.1
  have HT := hide h
  have HB := hide (Below.refl w.heap.size w)
  have hi0 := idx0
  have hi1 := idx1
  clear h c0 c1 c1a c1b c1c c1d c1e c1f c2
  go_enter Try.func63, Try.ntmps63
  go_wp2_with fail
  clear c3 c4 cf
  go_loopw [0, 9] (fun z i wz => z = .pointer (some ⟨b, 0, none⟩) ∧ (i = .int .i64 0 ∨ i = .int .i64 1 ∨ i = .int .i64 2) ∧ Hid (TIn wz (.node b 0 a l r)) ∧ Hid (Below w.heap.size w wz)) (fun _ i _ => (2 - intOf i).toNat)
  case atStart => exact ⟨rfl, .inl rfl, HT, HB⟩
  case round =>
    clear HT HB
    obtain ⟨rfl, hi, HT, HB⟩ := hrel
    obtain ⟨c0, c1, c1a, c1b, c1c, c1d, c1e, c1f, c2, c3, c4, cf⟩ := five_cells HT.out.2.1
    clear c0 c1 c1a c1b c1c c1d c1e c1f c2
    rcases hi with rfl | rfl | rfl
    · have HWs := hide (weight_q l wr HT.out.2.2.1 (by omega))
      have HWo := hide (weight_q r wr HT.out.2.2.2 (by omega))
      have g1 : IntKind.i64.wrap (3 * ((nsz r : Int) + 1)) = 3 * ((nsz r : Int) + 1) := IntWalk.i64_in _ (by omega)
      by_cases hc : nsz l + 1 ≤ 3 * (nsz r + 1)
      · have hd : decide ((nsz l : Int) + 1 ≤ 3 * ((nsz r : Int) + 1)) = true := by simp; omega
        clear hc
        go_wp2_with fail
        go_quiet ((first | (go_at_call 68; exact Calls.quiet_of_same (HWs.out _)) | (go_at_call 68; exact Calls.quiet_of_same (HWo.out _))))
        clear hd g1 c3 c4 cf
        go_wp2
        go_roundw
        case rel => exact ⟨rfl, .inr (.inl rfl), hide (TIn.keep (NK.drewN wr _) HT.out), hide (bdrewN HB.out _)⟩
        case measure => simp [intOf]
      · have hd : decide ((nsz l : Int) + 1 ≤ 3 * ((nsz r : Int) + 1)) = false := by simp; omega
        obtain ⟨c, p, sl, sr, hs⟩ : ∃ c p sl sr, l = .node c 0 p sl sr := by
          cases hls : l with
          | nil => rw [hls] at hc; simp [nsz, toL] at hc
          | node c o' p sl sr =>
            have h0 := HT.out.2.2.1
            rw [hls] at h0
            exact ⟨c, p, sl, sr, by rw [h0.1]⟩
        subst hs
        have hns := nsz_node c 0 p sl sr
        have hI := HT.out.2.2.1
        obtain ⟨d0, d1, d1a, d1b, d1c, d1d, d1e, d1f, d2, d3, d4, df⟩ := five_cells hI.2.1
        clear d0 d1 d1a d1b d1c d1d d1e d1f d2 hI
        have HNS := hide hns
        have hnb : nsz sl + 1 + nsz sr + nsz r ≤ 800000 := by omega
        have hge : 3 * (nsz r + 1) < nsz sl + 1 + nsz sr + 1 := by omega
        clear hc hns
        go_wp2_with fail
        go_quiet ((first | (go_at_call 68; exact Calls.quiet_of_same (HWs.out _)) | (go_at_call 68; exact Calls.quiet_of_same (HWo.out _))))
        clear hd g1 HWs HWo
        try rw [show ad (.node c 0 p sl sr) = some ⟨c, 0, none⟩ from rfl]
        obtain ⟨w2, hw2, HT, HB⟩ : ∃ w2, wr.drewN nq = w2 ∧ Hid (TIn w2 (.node b 0 a (.node c 0 p sl sr) r)) ∧ Hid (Below w.heap.size w w2) := ⟨_, rfl, hide (TIn.keep (NK.drewN wr _) HT.out), hide (bdrewN HB.out _)⟩
        rw [hw2]
        clear hw2 c3 c4 cf d3 d4 df
        obtain ⟨_, _, _, _, _, _, _, _, _, d3, d4, df⟩ := five_cells HT.out.2.2.1.2.1
        have HWl := hide (weight_q sl w2 HT.out.2.2.1.2.2.1 (by omega))
        have HWr := hide (weight_q sr w2 HT.out.2.2.1.2.2.2 (by omega))
        have g2 : IntKind.i64.wrap (2 * ((nsz sl : Int) + 1)) = 2 * ((nsz sl : Int) + 1) := IntWalk.i64_in _ (by omega)
        by_cases hv : 2 * (nsz sl + 1) ≤ nsz sr + 1
        · have hd : decide (2 * ((nsz sl : Int) + 1) ≤ (nsz sr : Int) + 1) = true := by simp; omega
          obtain ⟨c2, q, il, ir, hs⟩ : ∃ c2 q il ir, sr = .node c2 0 q il ir := by
            cases hls : sr with
            | nil => rw [hls] at hv; simp [nsz, toL] at hv; omega
            | node c2 o' q il ir =>
              have h0 := HT.out.2.2.1.2.2.2
              rw [hls] at h0
              exact ⟨c2, q, il, ir, by rw [h0.1]⟩
          have HSI := hide hs
          clear hv hge hs
          go_wp2_with fail
          go_quiet ((first | (go_at_call 68; exact Calls.quiet_of_same (HWl.out _)) | (go_at_call 68; exact Calls.quiet_of_same (HWr.out _))))
          clear hd g2 HWl HWr d3 d4 df
          obtain ⟨w3, hw3, HT, HB⟩ : ∃ w3, w2.drewN nq = w3 ∧ Hid (TIn w3 (.node b 0 a (.node c 0 p sl sr) r)) ∧ Hid (Below w.heap.size w w3) := ⟨_, rfl, hide (TIn.keep (NK.drewN w2 _) HT.out), hide (bdrewN HB.out _)⟩
          rw [hw3]
          clear hw3
          obtain rfl := HSI.out
          have HL1 := hide (lift1_any c c2 p q sl il ir w3 HT.out.2.2.1 (by have := nsz_node c2 0 q il ir; omega))
          go_wp2_with fail
          refine HL1.out.mono ?_
          rintro e w4 ⟨b1, b2, rfl, k1, k2⟩
          have HK1 := hide k1
          have HK2 := hide k2
          have HT4 := hide (TIn.keep (NK.of_below k2 (Nat.le_refl _)) HT.out)
          have HB4 := hide (HB.out.trans (k2.mono HB.out.size))
          have HWI := hide (with0_any b a (.node c 0 p sl (.node c2 0 q il ir)) r (.node b1 0 q (.node b2 0 p sl il) ir) w4 HT4.out HK1.out (by have := nsz_node c2 0 q il ir; rw [nsz_node]; omega) (by have := nsz_node c2 0 q il ir; rw [nsz_node, nsz_node]; omega))
          clear k1 k2 HL1 HT HB
          go_wp2_with fail
          refine HWI.out.mono ?_
          rintro e w5 ⟨b3, rfl, k3, k4⟩
          have HL2 := hide (lift0_any b3 b1 a q (.node b2 0 p sl il) ir r w5 k3 (by have := nsz_node c2 0 q il ir; rw [nsz_node]; omega))
          have HB5 := hide (HB4.out.trans (k4.mono HB4.out.size))
          clear k3 k4 HWI HT4 HB4 HK1 HK2
          go_wp2_with fail
          refine HL2.out.mono ?_
          rintro e w6 ⟨b4, b5, rfl, k5, k6⟩
          have HF := hide k5
          have HB6 := hide (HB5.out.trans (k6.mono HB5.out.size))
          clear k5 k6 HL2
          go_wp2
          go_ret
          exact ⟨_, rfl, HF.out, by simp [toL, List.append_assoc], HB6.out⟩
        · have hd : decide (2 * ((nsz sl : Int) + 1) ≤ (nsz sr : Int) + 1) = false := by simp; omega
          clear hv hge
          go_wp2_with fail
          go_quiet ((first | (go_at_call 68; exact Calls.quiet_of_same (HWl.out _)) | (go_at_call 68; exact Calls.quiet_of_same (HWr.out _))))
          clear hd g2 HWl HWr d3 d4 df
          obtain ⟨w3, hw3, HT, HB⟩ : ∃ w3, w2.drewN nq = w3 ∧ Hid (TIn w3 (.node b 0 a (.node c 0 p sl sr) r)) ∧ Hid (Below w.heap.size w w3) := ⟨_, rfl, hide (TIn.keep (NK.drewN w2 _) HT.out), hide (bdrewN HB.out _)⟩
          rw [hw3]
          clear hw3
          have HL2 := hide (lift0_any b c a p sl sr r w3 HT.out (by omega))
          go_wp2_with fail
          refine HL2.out.mono ?_
          rintro e w6 ⟨b4, b5, rfl, k5, k6⟩
          have HF := hide k5
          have HB6 := hide (HB.out.trans (k6.mono HB.out.size))
          clear k5 k6 HL2
          go_wp2
          go_ret
          exact ⟨_, rfl, HF.out, by simp [toL, List.append_assoc], HB6.out⟩
    · have HWs := hide (weight_q r wr HT.out.2.2.2 (by omega))
      have HWo := hide (weight_q l wr HT.out.2.2.1 (by omega))
      have g1 : IntKind.i64.wrap (3 * ((nsz l : Int) + 1)) = 3 * ((nsz l : Int) + 1) := IntWalk.i64_in _ (by omega)
      by_cases hc : nsz r + 1 ≤ 3 * (nsz l + 1)
      · have hd : decide ((nsz r : Int) + 1 ≤ 3 * ((nsz l : Int) + 1)) = true := by simp; omega
        clear hc
        go_wp2_with fail
        go_quiet ((first | (go_at_call 68; exact Calls.quiet_of_same (HWs.out _)) | (go_at_call 68; exact Calls.quiet_of_same (HWo.out _))))
        clear hd g1 c3 c4 cf
        go_wp2
        go_roundw
        case rel => exact ⟨rfl, .inr (.inr rfl), hide (TIn.keep (NK.drewN wr _) HT.out), hide (bdrewN HB.out _)⟩
        case measure => simp [intOf]
      · have hd : decide ((nsz r : Int) + 1 ≤ 3 * ((nsz l : Int) + 1)) = false := by simp; omega
        obtain ⟨c, p, sl, sr, hs⟩ : ∃ c p sl sr, r = .node c 0 p sl sr := by
          cases hls : r with
          | nil => rw [hls] at hc; simp [nsz, toL] at hc
          | node c o' p sl sr =>
            have h0 := HT.out.2.2.2
            rw [hls] at h0
            exact ⟨c, p, sl, sr, by rw [h0.1]⟩
        subst hs
        have hns := nsz_node c 0 p sl sr
        have hI := HT.out.2.2.2
        obtain ⟨d0, d1, d1a, d1b, d1c, d1d, d1e, d1f, d2, d3, d4, df⟩ := five_cells hI.2.1
        clear d0 d1 d1a d1b d1c d1d d1e d1f d2 hI
        have HNS := hide hns
        have hnb : nsz sl + 1 + nsz sr + nsz l ≤ 800000 := by omega
        have hge : 3 * (nsz l + 1) < nsz sl + 1 + nsz sr + 1 := by omega
        clear hc hns
        go_wp2_with fail
        go_quiet ((first | (go_at_call 68; exact Calls.quiet_of_same (HWs.out _)) | (go_at_call 68; exact Calls.quiet_of_same (HWo.out _))))
        clear hd g1 HWs HWo
        try rw [show ad (.node c 0 p sl sr) = some ⟨c, 0, none⟩ from rfl]
        obtain ⟨w2, hw2, HT, HB⟩ : ∃ w2, wr.drewN nq = w2 ∧ Hid (TIn w2 (.node b 0 a l (.node c 0 p sl sr))) ∧ Hid (Below w.heap.size w w2) := ⟨_, rfl, hide (TIn.keep (NK.drewN wr _) HT.out), hide (bdrewN HB.out _)⟩
        rw [hw2]
        clear hw2 c3 c4 cf d3 d4 df
        obtain ⟨_, _, _, _, _, _, _, _, _, d3, d4, df⟩ := five_cells HT.out.2.2.2.2.1
        have HWl := hide (weight_q sl w2 HT.out.2.2.2.2.2.1 (by omega))
        have HWr := hide (weight_q sr w2 HT.out.2.2.2.2.2.2 (by omega))
        have g2 : IntKind.i64.wrap (2 * ((nsz sr : Int) + 1)) = 2 * ((nsz sr : Int) + 1) := IntWalk.i64_in _ (by omega)
        by_cases hv : 2 * (nsz sr + 1) ≤ nsz sl + 1
        · have hd : decide (2 * ((nsz sr : Int) + 1) ≤ (nsz sl : Int) + 1) = true := by simp; omega
          obtain ⟨c2, q, il, ir, hs⟩ : ∃ c2 q il ir, sl = .node c2 0 q il ir := by
            cases hls : sl with
            | nil => rw [hls] at hv; simp [nsz, toL] at hv; omega
            | node c2 o' q il ir =>
              have h0 := HT.out.2.2.2.2.2.1
              rw [hls] at h0
              exact ⟨c2, q, il, ir, by rw [h0.1]⟩
          have HSI := hide hs
          clear hv hge hs
          go_wp2_with fail
          go_quiet ((first | (go_at_call 68; exact Calls.quiet_of_same (HWl.out _)) | (go_at_call 68; exact Calls.quiet_of_same (HWr.out _))))
          clear hd g2 HWl HWr d3 d4 df
          obtain ⟨w3, hw3, HT, HB⟩ : ∃ w3, w2.drewN nq = w3 ∧ Hid (TIn w3 (.node b 0 a l (.node c 0 p sl sr))) ∧ Hid (Below w.heap.size w w3) := ⟨_, rfl, hide (TIn.keep (NK.drewN w2 _) HT.out), hide (bdrewN HB.out _)⟩
          rw [hw3]
          clear hw3
          obtain rfl := HSI.out
          have HL1 := hide (lift0_any c c2 p q il ir sr w3 HT.out.2.2.2 (by have := nsz_node c2 0 q il ir; omega))
          go_wp2_with fail
          refine HL1.out.mono ?_
          rintro e w4 ⟨b1, b2, rfl, k1, k2⟩
          have HK1 := hide k1
          have HK2 := hide k2
          have HT4 := hide (TIn.keep (NK.of_below k2 (Nat.le_refl _)) HT.out)
          have HB4 := hide (HB.out.trans (k2.mono HB.out.size))
          have HWI := hide (with1_any b a l (.node c 0 p (.node c2 0 q il ir) sr) (.node b1 0 q il (.node b2 0 p ir sr)) w4 HT4.out HK1.out (by have := nsz_node c2 0 q il ir; rw [nsz_node]; omega) (by have := nsz_node c2 0 q il ir; rw [nsz_node, nsz_node]; omega))
          clear k1 k2 HL1 HT HB
          go_wp2_with fail
          refine HWI.out.mono ?_
          rintro e w5 ⟨b3, rfl, k3, k4⟩
          have HL2 := hide (lift1_any b3 b1 a q l il (.node b2 0 p ir sr) w5 k3 (by have := nsz_node c2 0 q il ir; rw [nsz_node]; omega))
          have HB5 := hide (HB4.out.trans (k4.mono HB4.out.size))
          clear k3 k4 HWI HT4 HB4 HK1 HK2
          go_wp2_with fail
          refine HL2.out.mono ?_
          rintro e w6 ⟨b4, b5, rfl, k5, k6⟩
          have HF := hide k5
          have HB6 := hide (HB5.out.trans (k6.mono HB5.out.size))
          clear k5 k6 HL2
          go_wp2
          go_ret
          exact ⟨_, rfl, HF.out, by simp [toL, List.append_assoc], HB6.out⟩
        · have hd : decide (2 * ((nsz sr : Int) + 1) ≤ (nsz sl : Int) + 1) = false := by simp; omega
          clear hv hge
          go_wp2_with fail
          go_quiet ((first | (go_at_call 68; exact Calls.quiet_of_same (HWl.out _)) | (go_at_call 68; exact Calls.quiet_of_same (HWr.out _))))
          clear hd g2 HWl HWr d3 d4 df
          obtain ⟨w3, hw3, HT, HB⟩ : ∃ w3, w2.drewN nq = w3 ∧ Hid (TIn w3 (.node b 0 a l (.node c 0 p sl sr))) ∧ Hid (Below w.heap.size w w3) := ⟨_, rfl, hide (TIn.keep (NK.drewN w2 _) HT.out), hide (bdrewN HB.out _)⟩
          rw [hw3]
          clear hw3
          have HL2 := hide (lift1_any b c a p l sl sr w3 HT.out (by omega))
          go_wp2_with fail
          refine HL2.out.mono ?_
          rintro e w6 ⟨b4, b5, rfl, k5, k6⟩
          have HF := hide k5
          have HB6 := hide (HB.out.trans (k6.mono HB.out.size))
          clear k5 k6 HL2
          go_wp2
          go_ret
          exact ⟨_, rfl, HF.out, by simp [toL, List.append_assoc], HB6.out⟩
    · go_wp2
      go_ret
      exact ⟨.node b 0 a l r, rfl, HT.out, rfl, HB.out⟩
end Go.Proofs.Ytbibobjkclgogaa.D
