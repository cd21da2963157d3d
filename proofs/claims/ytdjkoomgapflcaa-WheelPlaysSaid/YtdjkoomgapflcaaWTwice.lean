/- The law of what has ended by a second, and by a later one. -/
import Derived.Test.YtdjkoomgapflcaaWAgain
namespace Go.Proofs.Ytdjkoomgapflcaa
open Go.RowKit Go.Deep
set_option linter.unusedVariables false
set_option linter.unusedSimpArgs false
set_option maxRecDepth 100000
theorem due_split {a b : Int} (hab : a ≤ b) : ∀ E : EL, (dueD E b).length = (dueD E a).length + (dueD (E.drop (dueD E a).length) b).length
  | [] => rfl
  | x :: E => by
    unfold dueD
    by_cases h : x.1.s ≤ a
    · rw [List.takeWhile_cons, if_pos (by simp; omega), List.takeWhile_cons, if_pos (by simpa using h), List.length_cons, List.length_cons, List.drop_succ_cons]
      have := due_split hab E
      unfold dueD at this
      omega
    · have : (x :: E).takeWhile (fun y => decide (y.1.s ≤ a)) = [] := by rw [List.takeWhile_cons, if_neg (by simpa using h)]
      rw [this]
      simp
theorem dueN_most {E : EL} {now : Int} (hl : E.length ≤ 1000) : dueN E now 1000 = (dueD E now).length := by
  have : (dueD E now).length ≤ E.length := (List.takeWhile_sublist _).length_le
  have h1 : (1000 : Int).toNat = 1000 := rfl
  unfold dueN
  omega
theorem dueN_none {E : EL} {now most : Int} : dueN (E.drop (dueD E now).length) now most = 0 := by
  have := due_split (Int.le_refl now) E
  unfold dueN
  omega
/-- A row behind another one. -/
theorem appI (base : Nat) (V : World) (a : Option Addr) (c : Nat) (xs : List Int) (hV : IRow base V (.slice a xs.length c) xs) (s m cc : Nat) (ys : List Int) (hm : ys.length = m) (hc : ∀ j (hj : j < ys.length), V.cell? ⟨s, j, none⟩ = some (.int .i64 ys[j])) (hs : xs.length + m ≤ 1000000) (hb : base ≤ V.heap.size) :
    ∃ a' c' w', (Builtin.append_ #[27, 27] 27 #[.slice a xs.length c, .slice (some ⟨s, 0, none⟩) m cc]).run Try.prog V = .ok (.slice a' (xs.length + m) c') w' ∧
      IRow base w' (.slice a' (xs.length + m) c') (xs ++ ys) ∧ OnlyS (fun j => (Value.slice a xs.length c).ownBlock = some j) V w' := by
  obtain ⟨i0, hi, hz0, hz1, hz2⟩ := info_parts infoInt
  obtain ⟨v', w', h1, h2, h3, _, h5⟩ := run_append_own_at (P := Try.prog) V base 27 27 3 i0 (.int .i64 0) 1 8 Try.underlying27 hi hz0 hz1 hz2 rfl (by omega) (.slice a xs.length c) xs.length (intsV xs) hV ⟨s, 0, none⟩ m cc (intsV ys) (by unfold intsV; rw [List.length_map, hm, Nat.mul_one]) (by
    intro j u hj
    unfold intsV at hj
    rw [List.getElem?_map] at hj
    cases hy : ys[j]? with
    | none => rw [hy] at hj; cases hj
    | some y =>
      rw [hy] at hj; cases hj
      obtain ⟨hjl, rfl⟩ := List.getElem?_eq_some_iff.1 hy
      have := hc j hjl
      simpa [Addr.add_lit] using this) (by intro u hu; obtain ⟨y, _, rfl⟩ := List.mem_map.1 hu; rfl) (by unfold maxLen; omega) (by omega) hb
  obtain ⟨a', c', rfl⟩ := slice_form h2
  refine ⟨a', c', w', h1, ?_, ⟨h3.os, h3.tape, h3.output, h3.size, fun k hk hx => h3.block k hk (fun e => hx e.symm)⟩⟩
  unfold IRow intsV
  rw [List.length_append, hm, List.map_append]
  exact h2
theorem IRow.cells' {base : Nat} {w : World} {v : Value} {xs : List Int} (h : IRow base w v xs) {g : Nat} (hg : v.ownBlock = some g) : ∃ c, v = .slice (some ⟨g, 0, none⟩) xs.length c ∧ ∀ i (hi : i < xs.length), w.cell? ⟨g, i, none⟩ = some (.int .i64 xs[i]) := by
  obtain ⟨a, c, rfl⟩ := h.form
  rcases h.2 with ⟨h3, h4⟩ | ⟨g', cap, cur, h3, _⟩
  · rw [h3] at hg; cases hg
  · injection h3 with h3 _ _
    subst h3
    have : g' = g := by simpa [Value.ownBlock] using hg
    subst this
    refine ⟨c, rfl, fun i hi => ?_⟩
    rw [World.ownsRow.cellAt h i (by omega)]
    simp [intsV]
theorem irow_tab {base : Nat} {w : World} {v : Value} {xs : List Int} {p ta tb : Nat} {E : EL} (hr : IRow base w v xs) (hW : WAt w p ta tb E) : ∀ k, v.ownBlock = some k → ¬ TB ta tb k := fun k hk hx => by
  obtain ⟨cs, f, h⟩ := hr.ty hk
  obtain ⟨L, h0, _⟩ := hW
  obtain ⟨_, t1⟩ := h0.tabs.hd
  obtain ⟨_, t2⟩ := h0.ends.hd
  rcases hx with rfl | rfl
  · exact blk_ne h t1 (by decide) rfl
  · exact blk_ne h t2 (by decide) rfl
theorem wat_row {base : Nat} {w w' : World} {v : Value} {xs : List Int} {p ta tb : Nat} {E : EL} (hr : IRow base w v xs) (hW : WAt w p ta tb E) (ho : OnlyS (fun j => v.ownBlock = some j) w w') : WAt w' p ta tb E := by
  have hW0 := hW
  obtain ⟨L, h0, _⟩ := hW0
  refine hW.only ho (fun hx => ?_) (fun hx => irow_tab hr hW _ hx (.inl rfl)) (fun hx => irow_tab hr hW _ hx (.inr rfl)) (fun k hx _ => ?_)
  · obtain ⟨cs, f, h⟩ := hr.ty hx
    exact blk_ne h h0.blk (by decide) rfl
  · obtain ⟨cs, f, h⟩ := hr.ty hx
    exact ⟨_, _, _, h, by decide, by decide⟩
set_option maxHeartbeats 4000000 in
theorem wheelTwice_any (w : World) (a : Option Addr) (len cap : Nat) (ops : List Op4) (s t : Int) (hl : ops.length = len) (hO : OAt w a ops) (hm : len ≤ 9223372036854775807) :
    Calls Try.prog 4 #[.slice a len cap, .int .u64 s, .int .u64 t] w fun e w' => e = .returned (.bool true) ∧ Below w.heap.size w w' := by
  have HSP := hide (speaks8_any w)
  have HO := hide hO
  have HLN := hide hl
  clear hO hl
  by_cases h200 : 200 < len
  · have hd : decide ((200 : Int) < (len : Int)) = true := by simp; omega
    go_enter Try.func4, Try.ntmps4
    go_wp2_with fail
    refine HSP.out.mono ?_
    rintro e w1 ⟨rfl, b1⟩
    have HB1 := hide b1
    clear b1 HSP
    go_wp2
    go_ret
    exact ⟨rfl, HB1.out⟩
  · have hd : decide ((200 : Int) < (len : Int)) = false := by simp; omega
    have hm2 : len ≤ 200 := by omega
    clear h200 hm
    by_cases hst : t < s
    · have hd1 : decide (t < s) = true := by simpa using hst
      clear hst
      go_enter Try.func4, Try.ntmps4
      go_wp2_with fail
      refine HSP.out.mono ?_
      rintro e w1 ⟨rfl, b1⟩
      have HB1 := hide b1
      clear b1 HSP
      go_wp2
      go_ret
      exact ⟨rfl, HB1.out⟩
    · have hd1 : decide (t < s) = false := by simpa using hst
      have HST := hide (show s ≤ t by omega)
      clear hst
      go_enter Try.func4, Try.ntmps4
      go_wp2_with fail
      refine HSP.out.mono ?_
      rintro e w1 ⟨rfl, b1⟩
      have HB1 := hide b1
      have HN := hide (new_any w1)
      clear b1 HSP
      go_wp2_with fail
      refine HN.out.mono ?_
      rintro e w2 ⟨p, ta, tb, rfl, h2, b2, _, l2, l3⟩
      have HB2 := hide (HB1.out.trans (b2.mono HB1.out.size))
      have HW2 := hide h2
      have HL := hide (show w.heap.size ≤ ta ∧ w.heap.size ≤ tb from ⟨Nat.le_trans HB1.out.size l2, Nat.le_trans HB1.out.size l3⟩)
      have HN2 := hide (new_any w2)
      clear h2 b2 l2 l3 HN HB1
      go_wp2_with fail
      refine HN2.out.mono ?_
      rintro e w3 ⟨q, sa, sb, rfl, h3, b3, _, k2, k3⟩
      have HB3 := hide (HB2.out.trans (b3.mono HB2.out.size))
      have HY3 := hide h3
      have HX3 := hide (HW2.out.below b3)
      have HM := hide (show w.heap.size ≤ sa ∧ w.heap.size ≤ sb ∧ sa ≠ ta ∧ sb ≠ tb from ⟨Nat.le_trans HB2.out.size k2, Nat.le_trans HB2.out.size k3, by have := HW2.out.lt; omega, by have := HW2.out.lt; omega⟩)
      clear h3 b3 k2 k3 HN2 HB2 HW2 hd hd1
      go_wp2_with fail
      go_loopw [34] (fun i wr => ∃ k : Nat, k ≤ len ∧ i = .int .i64 k ∧ Hid (WAt wr p ta tb (setsE [] (ops.take k))) ∧ Hid (WAt wr q sa sb (setsE [] (ops.take k))) ∧ Hid (Below w.heap.size w wr)) (fun i _ => len - (intOf i).toNat)
      case atStart => exact ⟨0, Nat.zero_le _, rfl, HX3, HY3, HB3⟩
      case round =>
        clear HX3 HY3 HB3
        obtain ⟨k, hk, rfl, HX, HY, HB⟩ := hrel
        have hEl : (setsE [] (ops.take k)).length ≤ 200 := by have := setsE_take0 ops k; have := HLN.out; omega
        by_cases hlt : k < len
        · obtain ⟨b, off, o, ho, rfl, c0, c1, c2, c3, W, hW, bW, hx⟩ := op_box w wr a ops k HO.out HB.out (by have := HLN.out; omega)
          obtain ⟨R, hR⟩ : ∃ R, wr.heap.size = R := ⟨_, rfl⟩
          have hRt : R ≠ ta ∧ R ≠ tb := by have := HX.out.lt; omega
          rw [hR] at hx
          obtain ⟨x0, x1, x2, x3, xf⟩ := four_cells hx
          have HS := hide (set_any W p ta tb (setsE [] (ops.take k)) o.e (HX.out.below bW) (by omega))
          have HXW := hide (HX.out.below bW)
          have HYW := hide (HY.out.below bW)
          have HBX := hide hx
          have HRT := hide hRt
          have HE := hide (And.intro hW hR)
          have HBW := hide (HB.out.trans (bW.mono HB.out.size))
          have HT := hide (setsE_take [] ops k o ho)
          clear ho hW bW hx hR hRt xf x0 x2
          go_upto_region 11 with (fail)
          rw [HE.out.1, HE.out.2]
          clear c0 c1 c2 c3 HE
          go_wp2_with fail
          refine HS.out.mono ?_
          rintro e w4 ⟨⟨v, rfl⟩, h4, o4⟩
          have HX4 := hide h4
          have HY4 := hide (HXW.out.other HYW.out o4 HM.out.2.2.1 HM.out.2.2.2)
          have HB4 := hide (HBW.out.trans (only_below o4 HL.out.1 HL.out.2 HBW.out.size))
          obtain ⟨y0, y1, y2, y3, yf⟩ := four_cells (o4.heap HBX.out (by rintro (e | e) <;> (have := HRT.out; omega)))
          have HS2 := hide (set_any w4 q sa sb (setsE [] (ops.take k)) o.e HY4.out (by omega))
          clear h4 o4 HS x1 x3 yf y0 y2
          go_wp2_with fail
          refine HS2.out.mono ?_
          rintro e w5 ⟨⟨v5, rfl⟩, h5, o5⟩
          have HX5 := hide (HY4.out.other HX4.out o5 HM.out.2.2.1.symm HM.out.2.2.2.symm)
          have HB5 := hide (HB4.out.trans (only_below o5 HM.out.1 HM.out.2.1 HB4.out.size))
          have HY5 := hide h5
          rw [← HT.out] at HX5 HY5
          clear h5 o5 HS2 y1 y3
          go_wp2_with fail
          go_roundw
          case rel => exact ⟨k + 1, by omega, by go_num, HX5, HY5, HB5⟩
          case measure => simp [intOf]; omega
        · obtain rfl : k = len := by omega
          obtain ⟨E, hE⟩ : ∃ E, setsE [] (ops.take k) = E := ⟨_, rfl⟩
          rw [hE] at HX HY hEl
          have HD1 := hide (due_any p ta tb E s 1000 wr HX.out (by omega))
          clear hE
          go_wp2_with fail
          refine HD1.out.mono ?_
          rintro e w6 ⟨u6, rfl, ⟨g6, hg6⟩, r6, h6, o6⟩
          rw [dueN_most (by omega)] at r6 h6
          obtain ⟨Na, hNa⟩ : ∃ n, (dueD E s).length = n := ⟨_, rfl⟩
          have HNA := hide hNa
          rw [hNa] at r6 h6
          have HB6 := hide (HB.out.trans (only_below o6 HL.out.1 HL.out.2 HB.out.size))
          have HX6 := hide h6
          have HY6 := hide (HX.out.other HY.out o6 HM.out.2.2.1 HM.out.2.2.2)
          have hdl : (E.drop Na).length ≤ 200 := by rw [List.length_drop]; omega
          have HD2 := hide (due_any p ta tb (E.drop Na) t 1000 w6 h6 (by omega))
          have HR6 := hide r6
          have HZ6 := hide o6.size
          clear HD1 r6 h6 o6 hNa hg6
          go_wp2_with fail
          refine HD2.out.mono ?_
          rintro e w7 ⟨u7, rfl, ⟨g7, hg7⟩, r7, h7, o7⟩
          rw [dueN_most (by omega)] at r7 h7
          obtain ⟨Nb, hNb⟩ : ∃ n, (dueD (E.drop Na) t).length = n := ⟨_, rfl⟩
          have HNB := hide hNb
          rw [hNb] at r7 h7
          rw [List.drop_drop] at h7
          have HB7 := hide (HB6.out.trans (only_below o7 HL.out.1 HL.out.2 HB6.out.size))
          have HX7 := hide h7
          have HY7 := hide (HX6.out.other HY6.out o7 HM.out.2.2.1 HM.out.2.2.2)
          have HR67 := hide (HR6.out.only o7 (irow_tab HR6.out HX6.out))
          obtain ⟨ks, hks⟩ : ∃ l, (E.take Na).map (·.1.k) = l := ⟨_, rfl⟩
          obtain ⟨ls, hls⟩ : ∃ l, ((E.drop Na).take Nb).map (·.1.k) = l := ⟨_, rfl⟩
          have HKS := hide (show ks ++ ls = (E.take (Na + Nb)).map (·.1.k) by rw [← hks, ← hls, ← List.map_append, List.take_add])
          have hlk : ks.length + ls.length ≤ 200 := by
            have h1 := congrArg List.length HKS.out
            rw [List.length_append, List.length_map, List.length_take] at h1
            omega
          rw [hks] at HR67 HR6
          rw [hls] at r7
          obtain ⟨a6, c6, rfl⟩ := HR67.out.form
          obtain ⟨c7, rfl, hc7⟩ := r7.cells' hg7
          obtain ⟨a8, c8, w8, hrun, r8, o8⟩ := appI wr.heap.size w7 a6 c6 ks HR67.out g7 ls.length c7 ls rfl hc7 (by omega) (Nat.le_trans HZ6.out o7.size)
          have HRUN := hide hrun
          have HX8 := hide (wat_row HR67.out HX7.out o8)
          have HY8 := hide (wat_row HR67.out HY7.out o8)
          have HB8 := hide (show Below w.heap.size w w8 from ⟨o8.os.trans HB7.out.os, o8.tape.trans HB7.out.tape, o8.output.trans HB7.out.output, Nat.le_trans HB7.out.size o8.size, fun k hk => (o8.block k (Nat.lt_of_lt_of_le hk HB7.out.size) (fun hx => by have h1 := HR67.out.lt k hx; have h2 := HB.out.size; omega)).trans (HB7.out.block k hk)⟩)
          have HR8 := hide r8
          rw [HKS.out] at HR8
          obtain ⟨N, hN⟩ : ∃ N, Na + Nb = N := ⟨_, rfl⟩
          have HN := hide (show (dueD E t).length = N by rw [due_split HST.out E, HNA.out, HNB.out, hN])
          rw [hN] at HR8 HX8
          have hkl : ks.length + ls.length = ((E.take N).map (·.1.k)).length := by have h1 := congrArg List.length HKS.out; rw [List.length_append, hN] at h1; exact h1
          obtain ⟨ns, hns⟩ : ∃ l, (E.take N).map (·.1.k) = l := ⟨_, rfl⟩
          have HNS := hide hns
          rw [hns] at HR8 hkl
          obtain ⟨n, hn⟩ : ∃ n, ns.length = n := ⟨_, rfl⟩
          have HNN := hide hn
          rw [hn] at hkl
          have hn2 : n ≤ 200 := by omega
          obtain ⟨m1, hm1⟩ : ∃ m, ks.length = m := ⟨_, rfl⟩
          obtain ⟨m2, hm2⟩ : ∃ m, ls.length = m := ⟨_, rfl⟩
          rw [hm1, hm2] at HRUN
          rw [hm1]
          rw [hm2]
          rw [hm1, hm2] at hkl
          rw [hkl] at HRUN
          rw [hm1, hm2, hkl] at HR8
          have HD3 := hide (due_any q sa sb E t 1000 w8 HY8.out (by omega))
          clear HD2 r7 h7 o7 hNb hg7 hks hls hc7 hlk hrun r8 o8 hN hns hn hm1 hm2 hkl hdl
          go_upto_region 15 with (at_builtin; refine Lib.wpList_append_run _ rfl _ _ _ _ rfl _ _ rfl rfl _ _ HRUN.out ?_)
          clear HRUN
          go_wp2_with fail
          refine HD3.out.mono ?_
          rintro e w9 ⟨u9, rfl, ⟨g9, hg9⟩, r9, h9, o9⟩
          rw [dueN_most (by omega), HN.out] at r9 h9
          rw [HNS.out] at r9
          have HB9 := hide (HB8.out.trans (only_below o9 HM.out.1 HM.out.2.1 HB8.out.size))
          have HX9 := hide (HY8.out.other HX8.out o9 HM.out.2.2.1.symm HM.out.2.2.2.symm)
          have HY9 := hide h9
          have HR9 := hide (HR8.out.only o9 (irow_tab HR8.out HY8.out))
          obtain ⟨c9, rfl, hc9⟩ := r9.cells' hg9
          rw [HNN.out]
          have HC9 := hide hc9
          have HL1 := hide (len_any w9 p ta tb (E.drop N) HX9.out)
          have HL2 := hide (len_any w9 q sa sb (E.drop N) HY9.out)
          obtain ⟨dl, hdl⟩ : ∃ d, (E.drop N).length = d := ⟨_, rfl⟩
          have HDL := hide hdl
          rw [hdl] at HL1 HL2
          clear HD3 r9 h9 o9 hg9 hc9 hdl
          go_wp2_with fail
          refine HL1.out.mono ?_
          rintro e w10 ⟨rfl, rfl⟩
          clear HL1
          go_wp2_with fail
          refine HL2.out.mono ?_
          rintro e w10 ⟨rfl, rfl⟩
          clear HL2
          go_wp2_with fail
          go_loopw [75] (fun i wr => ∃ z : Nat, z ≤ n ∧ i = .int .i64 z ∧ Hid (∃ d, wr = w9.drewN d)) (fun i _ => n - (intOf i).toNat)
          case atStart => exact ⟨0, Nat.zero_le _, rfl, hide ⟨0, rfl⟩⟩
          case round =>
            obtain ⟨z, hz, rfl, HDR⟩ := hrel
            by_cases hlt : z < n
            · have hzk : z < ns.length := by have := HNN.out; omega
              obtain ⟨g8, rfl, _, hc8⟩ := HR9.out.cells (by omega)
              obtain ⟨d, hd⟩ := HDR.out
              have r8 : wr.cell? ⟨g8, z, none⟩ = some (.int .i64 ns[z]) := by rw [hd]; exact hc8 z hzk
              have r9 : wr.cell? ⟨g9, z, none⟩ = some (.int .i64 ns[z]) := by rw [hd]; exact HC9.out z hzk
              obtain ⟨y, hy⟩ : ∃ y, ns[z] = y := ⟨_, rfl⟩
              rw [hy] at r8 r9
              have hi0 : (0 : Int) ≤ (z : Int) := by omega
              have hi1 : (z : Int) < (n : Int) := by omega
              clear hzk hc8 hd hy
              go_wp2_with fail
              go_quiet (fail)
              have HDR2 := hide (show ∃ d, wr.drewN nq = w9.drewN d by obtain ⟨d, hd⟩ := HDR.out; exact ⟨d + nq, by rw [hd, World.drewN_drewN]⟩)
              clear r8 r9
              go_wp2_with fail
              go_roundw
              case rel => exact ⟨z + 1, by omega, by go_num, HDR2⟩
              case measure => simp [intOf]; omega
            · obtain rfl : z = n := by omega
              obtain ⟨d, hd⟩ := HDR.out
              have HBD := hide (show Below w9.heap.size w9 wr by rw [hd]; exact bdrewN (Below.refl _ _) d)
              have HD4 := hide (due_any p ta tb (E.drop N) t 9 wr (HX9.out.below HBD.out) (by have := HDL.out; rw [List.length_drop]; omega))
              have HBB := hide (HB9.out.trans (HBD.out.mono HB9.out.size))
              clear hd
              go_wp2_with fail
              refine HD4.out.mono ?_
              rintro e w11 ⟨u11, rfl, _, r11, h11, o11⟩
              rw [← HN.out, dueN_none, List.take_zero, List.map_nil] at r11
              obtain ⟨a11, c11, rfl⟩ := r11.form
              rw [show ([] : List Int).length = 0 from rfl]
              have HBE := hide (HBB.out.trans (only_below o11 HL.out.1 HL.out.2 HBB.out.size))
              clear HD4 r11 h11 o11
              go_wp2
              go_ret
              exact ⟨rfl, HBE.out⟩
end Go.Proofs.Ytdjkoomgapflcaa
