/- Wheels: Due gives what has ended. -/
import Derived.Test.YtdjkoomgapflcaaWdS
import Derived.Sort.CutIn
namespace Go.Proofs.Ytdjkoomgapflcaa
open Go.RowKit Go.Deep Go.Shelf
set_option linter.unusedVariables false
set_option linter.unusedSimpArgs false
set_option maxRecDepth 100000
attribute [local go_sem] Oper.semAt_some
/-- How a round leaves. -/
def IxD (d : DU) (w : World) (E : EL) (c : Code) (xs : EL) (W : World) : Prop := c = .ret ∧ ∃ pre x, xs = pre ++ [x] ∧ Goes d.now d.most pre ∧ ((d.now < x.1.s ∧ St d w E pre W) ∨ (x.1.s ≤ d.now ∧ ¬ (pre.length : Int) + 1 < d.most ∧ St d w E (pre ++ [x]) W))
def ID (d : DU) (w : World) (E : EL) (pre : EL) (W : World) : Prop := St d w E pre W ∧ Goes d.now d.most pre
/-- What Due leaves. -/
def DueAns (d : DU) (w : World) (E : EL) (e : Ending) (w' : World) : Prop := (∃ v, e = .returned v) ∧ St d w E (E.take (dueN E d.now d.most)) w'
theorem own_off {W W' : World} {row : Option Nat} (hg : W.grownBy W' row) (hr : ∀ r, row = some r → ∃ o : Obj, W.heap[r]? = some o ∧ o.isCells = false) : OnlyS (fun k => row = some k) W W' ∧ Off W (fun k => row = some k) :=
  ⟨⟨hg.os, hg.tape, hg.output, hg.size, fun k hk hx => hg.block k hk (fun e => hx e.symm)⟩, fun k cs T f hx hk => by
    obtain ⟨o, ho, hc⟩ := hr k hx
    rw [hk] at ho; cases ho; cases hc⟩
theorem ID_own (d : DU) (w : World) (E : EL) (B : Nat) (hB : d.base ≤ B) : OwnFrom B (ID d w E) := fun s W W' row hs hg hr => by
  obtain ⟨h1, h2⟩ := own_off hg (fun r e => (hr r e).2)
  exact ⟨hs.1.off h1 h2 (fun k hk => Nat.le_trans hB (hr k hk).1), hs.2⟩
theorem IxD_own (d : DU) (w : World) (E : EL) (B : Nat) (hB : d.base ≤ B) (c : Code) : OwnFrom B (IxD d w E c) := fun s W W' row hs hg hr => by
  obtain ⟨h1, h2⟩ := own_off hg (fun r e => (hr r e).2)
  obtain ⟨hc, pre, x, hx, hG, h⟩ := hs
  refine ⟨hc, pre, x, hx, hG, ?_⟩
  rcases h with ⟨a, b⟩ | ⟨a, b, c⟩
  · exact .inl ⟨a, b.off h1 h2 (fun k hk => Nat.le_trans hB (hr k hk).1)⟩
  · exact .inr ⟨a, b, c.off h1 h2 (fun k hk => Nat.le_trans hB (hr k hk).1)⟩
theorem keepsF {B : Nat} {X : Nat → Prop} {W W' : World} (h : OnlyS X W W') (hX : ∀ k o, X k → W.heap[k]? = some o → o.isCells = false → False) : KeepsFrom B W W' :=
  ⟨h.size, fun k o _ hk ho => h.heap hk (fun hx => hX k o hx hk ho)⟩
theorem keepsTB {B : Nat} {d : DU} {w W W' : World} {E pre : EL} (h : St d w E pre W) (ho : OnlyS (TB d.ta d.tb) W W') : KeepsFrom B W W' := keepsF ho (by
  intro k o hx hk hc
  obtain ⟨L, hW, _⟩ := h.wh
  obtain ⟨_, t1⟩ := hW.tabs.hd
  obtain ⟨_, t2⟩ := hW.ends.hd
  rcases hx with rfl | rfl
  · rw [t1] at hk; cases hk; cases hc
  · rw [t2] at hk; cases hk; cases hc)
theorem keepsTold {B base ob mb : Nat} {W W' : World} {xs : List Int} {most : Int} (hy : YAt base W ob mb xs most) (ho : OnlyS (fun k => base ≤ k ∧ (k = ob ∨ ∃ cs f, W.heap[k]? = some (.cells cs 3 f) ∧ k ≠ mb)) W W') : KeepsFrom B W W' := keepsF ho (by
  rintro k o ⟨_, rfl | ⟨cs', f', hk', _⟩⟩ hk hc
  · obtain ⟨v, hv, _⟩ := hy.out
    rw [hv] at hk; cases hk; cases hc
  · rw [hk'] at hk; cases hk; cases hc)
theorem St.below {d : DU} {w W W' : World} {E pre : EL} (h : St d w E pre W) (hb : Below W.heap.size W W') : St d w E pre W' :=
  h.off (X := fun _ => False) (OnlyS.of hb) (fun _ _ _ _ hx _ => hx) (fun _ hx => hx.elim)
/-- The loop's variable lies in a box of its own. -/
def AxD (d : DU) (b0 : Nat) (u5 u6 u7 u8 u9 : Value) (x : EK × Unit) (a' : Act) (W : World) : Prop := ∃ Bx, b0 ≤ Bx ∧ W.heap[Bx]? = some (.cells #[.int .u64 x.1.s, .int .i64 x.1.k] 52 (0, 0)) ∧ a' = { tmps := #[yF d.ob d.mb, .pointer (some ⟨d.wb, 0, none⟩), .pointer (some ⟨d.nb, 0, none⟩), .pointer (some ⟨d.yb, 0, none⟩), .pointer (some ⟨Bx, 0, none⟩), u5, u6, u7, u8, u9, .agg #[.int .u64 x.1.s, .int .i64 x.1.k], .agg #[], undef, undef, undef, undef, undef, undef, undef, undef, undef, undef, undef, undef, undef], defers := [] }
theorem AxD_own (d : DU) (b0 : Nat) (u5 u6 u7 u8 u9 : Value) (B : Nat) (x : EK × Unit) (a' : Act) : OwnFrom B (fun (_ : Unit) W => AxD d b0 u5 u6 u7 u8 u9 x a' W) := fun s W W' row hs hg hr => by
  obtain ⟨h1, h2⟩ := own_off hg (fun r e => (hr r e).2)
  obtain ⟨Bx, hB, hx, ha⟩ := hs
  exact ⟨Bx, hB, h1.heap hx (fun h => h2 _ _ _ _ h hx), ha⟩
theorem nkB_b {w : World} (W : World) (l : Nat) (o o' : Obj) (_ : w.heap.size ≤ l) (h : W.heap[l]? = some o) (ho : o.isCells = false) (_ : o.isWalk = false) : B.NK W (W.putObj l o') := fun b cs hb => by
  have hne : b ≠ l := by
    intro e; subst e
    rw [h] at hb; cases hb; cases ho
  exact (World.putObj_heap_other hne).trans hb
set_option maxHeartbeats 4000000 in
theorem due1_any (d : DU) (E : EL) (w : World) (hw : WAt w d.p d.ta d.tb E) (hy : YAt d.base w d.ob d.mb [] d.most) (h1 : w.heap[d.wb]? = some (.cells #[.pointer (some ⟨d.p, 0, none⟩)] 24 (0, 0))) (h2 : w.heap[d.nb]? = some (.cells #[.int .u64 d.now] 31 (0, 0))) (h3 : d.yb = w.heap.size) (hb : d.base ≤ w.heap.size) (hn : E.length ≤ 500000) :
    Calls Try.prog 39 #[yF d.ob d.mb, .pointer (some ⟨d.wb, 0, none⟩), .pointer (some ⟨d.nb, 0, none⟩)] w (DueAns d w E) := by
  obtain ⟨V, hV, hS⟩ : ∃ V, w.alloc (.cells #[yF d.ob d.mb] 34) = V ∧ St d w E [] V := by
    have hbl := (Below.refl w.heap.size w).alloc (Nat.le_refl _) (.cells #[yF d.ob d.mb] 34)
    obtain ⟨v, hv, hr⟩ := hy.out
    exact ⟨_, rfl, hw.below hbl, hy.only (X := fun _ => False) (OnlyS.of hbl) id id (fun _ _ _ hx _ => hx), below_block hbl h1 (Nat.le_refl _), below_block hbl h2 (Nat.le_refl _), by rw [h3]; exact heap_alloc_new _ _, OnlyS.of hbl, hb⟩
  have hH := hS.wh
  obtain ⟨L, hW, hR⟩ := hH
  obtain ⟨w0, w1, wf⟩ := two_cells hW.blk
  obtain ⟨b0, bf⟩ := one_cell hS.wb
  have HA := hide (B.all_any d.tb V)
  have HS := hide hS
  have HW := hide hW
  have HR := hide hR
  unfold yF at hV
  have HV := hide hV
  unfold yF
  have HY := hide h3
  clear hw hy h1 h2 hV hS hW hR w0 h3
  refine (callsIn_wide (n := 8)).1 ?_
  have hro : Fence.wide.round = none := rfl
  refine callsIn_of_wp_marks Try.func39 rfl trivial ?_ hro
  simp only [Try.ntmps39, List.size_toArray, List.length_cons, List.length_nil, Nat.reduceAdd, Nat.reduceSub, Array.replicate_succ, Array.replicate_zero, List.push_toArray, List.append_toArray, List.nil_append, List.cons_append]
  gi_upto_region 1 with (fail)
  rw [HV.out]
  rw [← HY.out]
  gi_wp2_with fail
  refine ⟨trivial, ?_⟩
  refine (callsIn_wide.2 HA.out).mono ?_
  rintro e w2 ⟨rfl, hw2⟩
  have hbl : Below V.heap.size V w2 := by rw [hw2]; exact (Below.refl V.heap.size V).alloc (Nat.le_refl _) _
  have hbx : w2.heap[V.heap.size]? = some (.cells #[.pointer (some ⟨d.tb, 0, none⟩)] 49 (0, 0)) := by rw [hw2]; exact heap_alloc_new _ _
  obtain ⟨bx, hbxe⟩ : ∃ b, V.heap.size = b := ⟨_, rfl⟩
  rw [hbxe] at hbx
  try rw [hbxe]
  have HBX := hide hbx
  have HS2 := hide (HS.out.below hbl)
  have HL2 := hide (show d.base ≤ w2.heap.size from Nat.le_trans HS2.out.base HS2.out.only.size)
  have HE2 := hide (HW.out.ends.below hbl (Nat.le_refl _))
  clear hw2 hbl hbx hbxe w1 wf b0 bf HA
  gi_wp2_with fail
  obtain ⟨T, hT1, hT2, hT3, hT4⟩ := HE2.out
  have hTE : toL T = E := hT3
  have hlen : B.nsz T = E.length := by rw [← hTE]; rfl
  refine wpIn_rangeFunc_ownH hro (by omega) (gf := 55) (lb := #[.pointer (some ⟨bx, 0, none⟩)]) rfl trivial (enters_of Try.func55 (by kernel_rfl) rfl)
    (B.all_stops Fence.wide rfl 7 trivial trivial hro bx d.tb MX B.oF T w2 HBX.out hT1 hT2) B.NK.trans nkB_b (Below.refl _ _) (fun _ => rfl)
    (ID d w E) (IxD d w E) (ID_own d w E _ HL2.out) (fun c => IxD_own d w E _ HL2.out c) ⟨HS2.out, by unfold Goes; simp⟩
    (AxD d 0 (.pointer (some ⟨d.p, 0, none⟩)) (.pointer (some ⟨d.p, 0, none⟩)) (.pointer (some ⟨d.p, 1, none⟩)) (.pointer (some ⟨d.tb, 0, none⟩)) (.func (.func 55) #[] #[.pointer (some ⟨bx, 0, none⟩)])) (fun x a' => AxD_own d _ _ _ _ _ _ _ x a') ?assign ?body ?done ?stop
  case assign =>
    intro l pre x W K hi hK
    have hbl := (Below.refl W.heap.size W).alloc (Nat.le_refl _) (.cells #[.int .u64 x.1.s, .int .i64 x.1.k] 52)
    have HI := hide (show ID d w E pre _ from ⟨hi.1.below hbl, hi.2⟩)
    have HK := hide hK
    clear hi hK hT1 hT2 hT3 hT4
    gi_wp2
    exact HK.out _ _ ((KeepsOthers.alloc _ _).from _) (B.NK.of_below hbl (Nat.le_refl _)) HI.out ⟨W.heap.size, Nat.zero_le _, heap_alloc_new _ _, rfl⟩
  case body =>
    rintro l pre x a' W hl ⟨r, hr⟩ ⟨hSt, hGo⟩ ⟨Bx, _, hBx, rfl⟩ hlt
    obtain ⟨x0, x1, xf⟩ := B.key_cells hBx
    obtain ⟨n0, nf⟩ := one_cell hSt.nb
    obtain ⟨b0, bf⟩ := one_cell hSt.wb
    have HS := hide hSt
    have HG := hide hGo
    have HX := hide hBx
    unfold yF
    clear hSt hGo hBx hT1 hT2 hT3 hT4 hr hl xf nf bf
    by_cases hc : d.now < x.1.s
    · have hd : decide (d.now < x.1.s) = true := by simpa using hc
      have HC := hide hc
      clear hc
      gi_wp2
      exact ⟨KeepsFrom.refl _ _, rfl, pre, x, rfl, HG.out, .inl ⟨HC.out, HS.out⟩⟩
    · have hd : decide (d.now < x.1.s) = false := by simpa using hc
      have HC := hide hc
      have hml := minus_len E pre
      have HCA := hide (cancel_any W d.p d.ta d.tb (minus E pre) x.1.k HS.out.wh (by omega))
      clear hc
      gi_wp2_with fail
      refine ⟨trivial, ?_⟩
      refine (CallsIn.inRound l (callsIn_wide.2 HCA.out)).mono ?_
      rintro e W1 ⟨rfl, hw1, ho1⟩
      have hcc := HS.out.cancel hw1 ho1
      have HK1 := hide (keepsTB (B := w2.heap.size) HS.out ho1)
      have HN1 := hide (HS.out.wh.nkB ho1)
      have HX1 := hide (ho1.heap HX.out (HS.out.notTB HX.out (by decide) (by decide)))
      have HCC := hide hcc
      obtain ⟨y0, yf⟩ := one_cell hcc.2.2.2.2.1
      obtain ⟨z0, z1, zf⟩ := B.key_cells HX1.out
      have HYY := hide (dueY_any d.base d.ob d.mb (pre.map (·.1.k)) d.most x.1.k W1 hcc.2.1 (by rw [List.length_map]; omega) (Nat.le_trans HS.out.base hcc.2.2.2.2.2.size))
      unfold yF at y0
      clear hw1 ho1 hcc HCA x0 x1 n0 b0 hd yf zf
      gi_wp2_with fail
      refine ⟨trivial, ?_⟩
      refine (CallsIn.inRound l (callsIn_wide.2 HYY.out)).mono ?_
      rintro e W2 ⟨rfl, hy2, ho2⟩
      have HT := hide (St.told (x := x) HCC.out HS.out.base hy2 ho2)
      have HK2 := hide (HK1.out.trans (keepsTold HCC.out.2.1 ho2))
      have HN2 := hide (HN1.out.trans (nkB_told HCC.out.2.1 ho2))
      rw [List.length_map]
      clear hy2 ho2 HYY y0 z0 z1
      by_cases hm : (pre.length : Int) + 1 < d.most
      · have hd : decide ((pre.length : Int) + 1 < d.most) = true := by simpa using hm
        have HM := hide hm
        clear hm
        gi_wp2
        refine ⟨HK2.out, HN2.out, HT.out, ?_, .inr (by rw [List.length_append, List.length_singleton]; have := HM.out; omega)⟩
        intro y hy
        rcases List.mem_append.1 hy with hy | hy
        · exact HG.out.1 y hy
        · rw [List.mem_singleton.1 hy]; have := HC.out; omega
      · have hd : decide ((pre.length : Int) + 1 < d.most) = false := by simpa using hm
        have HM := hide hm
        clear hm
        gi_wp2
        exact ⟨HK2.out, rfl, pre, x, rfl, HG.out, .inr ⟨by have := HC.out; omega, by have := HM.out; omega, HT.out⟩⟩
  case done =>
    rintro D ys W hD rfl ⟨hSt, hGo⟩ hKD
    rw [hTE] at hSt hGo
    have HS := hide hSt
    have HG := hide hGo
    obtain ⟨ho, hof⟩ := own_off (grownBy_putObj' W D (.deferred none)) (fun r e => by cases e; exact ⟨_, hKD, rfl⟩)
    have HF := hide (hSt.off ho hof (fun k hk => by cases hk; exact Nat.le_trans HL2.out hD))
    clear hSt hGo ho hof hT1 hT2 hT3 hT4
    gi_wp2
    refine ⟨by simp, .inl ⟨_, _, rfl, run_takeDeferred hKD, ?_⟩⟩
    refine ⟨_, results_none rfl _ _ _, ⟨_, rfl⟩, ?_⟩
    rw [due_done HG.out, List.take_length]
    exact HF.out
  case stop =>
    rintro D c pre W hD hpre ⟨rfl, pr, x, rfl, hG, h⟩ hKD
    rw [hTE] at hpre
    obtain ⟨r, hr⟩ := hpre
    have hE : E = pr ++ x :: r := by rw [← hr]; simp
    obtain ⟨ho, hof⟩ := own_off (grownBy_putObj' W D (.deferred none)) (fun r e => by cases e; exact ⟨_, hKD, rfl⟩)
    have HF : Hid (St d w E (E.take (dueN E d.now d.most)) (W.putObj D (.deferred none))) := by
      rcases h with ⟨h1, h2⟩ | ⟨h1, h2, h3⟩
      · rw [due_late hE hG h1]
        have h4 : E.take pr.length = pr := by rw [hE, List.take_left]
        rw [h4]
        exact hide (h2.off ho hof (fun k hk => by cases hk; exact Nat.le_trans HL2.out hD))
      · rw [due_full hE hG h1 h2]
        have h4 : E.take (pr.length + 1) = pr ++ [x] := by rw [← hr]; exact List.take_left' (by simp)
        rw [h4]
        exact hide (h3.off ho hof (fun k hk => by cases hk; exact Nat.le_trans HL2.out hD))
    clear h ho hof hT1 hT2 hT3 hT4 hr hE hG
    gi_wp2
    refine ⟨by simp, .inl ⟨_, _, rfl, run_takeDeferred hKD, ?_⟩⟩
    exact ⟨_, results_none rfl _ _ _, ⟨_, rfl⟩, HF.out⟩
end Go.Proofs.Ytdjkoomgapflcaa
