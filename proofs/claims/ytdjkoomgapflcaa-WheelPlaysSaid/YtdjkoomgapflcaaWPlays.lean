/- The law of every call of any script. -/
import Derived.Test.YtdjkoomgapflcaaWxl
import Derived.Deep.CutRange
import Derived.Deep.CutBlock
import Derived.Deep.LoopGhost
import Derived.BigQuiet
namespace Go.Proofs.Ytdjkoomgapflcaa
open Go.RowKit Go.Deep
set_option linter.unusedVariables false
set_option linter.unusedSimpArgs false
set_option maxRecDepth 100000
set_option maxHeartbeats 8000000 in
theorem wheelPlays_any (w : World) (a : Option Addr) (len cap : Nat) (ops : List Op4) (hl : ops.length = len) (hO : OAt w a ops) (hm : len ≤ 9223372036854775807) :
    Calls Try.prog 3 #[.slice a len cap] w fun e w' => e = .returned (.bool true) ∧ Below w.heap.size w w' := by
  have HSP := hide (speaks8_any w)
  have HO := hide hO
  have HLN := hide hl
  clear hO hl
  by_cases h200 : 200 < len
  · have hd : decide ((200 : Int) < (len : Int)) = true := by simp; omega
    go_enter Try.func3, Try.ntmps3
    go_wp2_with fail
    refine HSP.out.mono ?_
    rintro e w1 ⟨rfl, b1⟩
    have HB1 := hide b1
    clear b1 HSP
    go_wp2
    go_ret
    exact ⟨rfl, HB1.out⟩
  · have hd : decide ((200 : Int) < (len : Int)) = false := by simp; omega
    have hm2 : len ≤ 200 := by omega
    clear h200 hm
    go_enter Try.func3, Try.ntmps3
    go_wp2_with fail
    refine HSP.out.mono ?_
    rintro e w1 ⟨rfl, b1⟩
    have HB1 := hide b1
    have HN := hide (new_any w1)
    clear b1 HSP
    go_wp2_with fail
    refine HN.out.mono ?_
    rintro e w2 ⟨p, ta, tb, rfl, h2, b2, _, l2, l3⟩
    obtain ⟨W0, hW0⟩ : ∃ X, w2.alloc (.cells #[.slice none 0 0, .slice none 0 0] 30) = X := ⟨_, rfl⟩
    obtain ⟨rp, hrp⟩ : ∃ r, w2.heap.size = r := ⟨_, rfl⟩
    obtain ⟨base, hbase⟩ : ∃ r, w.heap.size = r := ⟨_, rfl⟩
    have hB2 := HB1.out.trans (b2.mono HB1.out.size)
    have hz1 := HB1.out.size
    have hz2 := hB2.size
    have HW0 := hide (show WW base w p ta tb rp [] [] W0 from ⟨by rw [← hW0]; exact h2.below ((Below.refl _ _).alloc (Nat.le_refl _) _), ⟨none, 0, none, 0, by rw [← hW0, ← hrp]; exact rw_new w2 base⟩, by rw [← hW0]; exact hB2.trans ((Below.refl _ _).alloc hz2 _), hbase.symm, by omega, by omega, by omega⟩)
    have HREL0 := hide (show Rel [] [] from List.Perm.refl _)
    have HE0 := hide (And.intro hW0 hrp)
    clear h2 b2 l2 l3 HN HB1 hd hW0 hrp hbase hB2 hz1 hz2
    go_wp2_with fail
    rw [HE0.out.1, HE0.out.2]
    clear HE0
    go_wp2_with fail
    go_loopw [29] (fun i wr => ∃ k : Nat, ∃ E : EL, ∃ R : RL, k ≤ len ∧ E.length ≤ k ∧ i = .int .i64 k ∧ Hid (Rel R E) ∧ Hid (WW base w p ta tb rp E R wr)) (fun i _ => len - (intOf i).toNat)
    case atStart => exact ⟨0, [], [], Nat.zero_le _, Nat.le_refl _, rfl, HREL0, HW0⟩
    case round =>
      clear HW0 HREL0
      obtain ⟨k, E, R, hk, hEl, rfl, HREL, HW⟩ := hrel
      by_cases hlt : k < len
      · obtain ⟨b, off, o, ho, rfl, c0, c1, c2, c3, W, hW, bW, hx⟩ := op_box w wr a ops k HO.out HW.out.below (by have := HLN.out; omega)
        obtain ⟨X, hX⟩ : ∃ X, wr.heap.size = X := ⟨_, rfl⟩
        rw [hX] at hx
        have HE := hide (And.intro hW hX)
        have HWX := hide (show WX base w p ta tb rp E R X o W from ⟨HW.out.q bW, hx⟩)
        clear hW bW hX hx ho
        go_upto_region 11 with (fail)
        rw [HE.out.1, HE.out.2]
        clear c0 c1 c2 c3 HE HW
        obtain ⟨x0, x1, x2, x3⟩ := HWX.out.cells
        have hR1 := rel_len HREL.out
        have hDK := HWX.out.ww.wat.dk
        have hRn := rel_nodup HREL.out hDK
        have hRl : R.length ≤ 1000000 := by omega
        have hEl2 : E.length ≤ 500000 := by omega
        have HDK := hide hDK
        have HWA := hide HWX.out.ww.wat.asc
        have HRN := hide hRn
        clear hDK hRn
        go_upto_block 2 with (fail)
        generalize bits BinOp.and IntKind.i64 o.kd 3 = kz
        go_cut [29] from 29 to 207 (fun v wz => v = .int .i64 (k : Int) ∧ ∃ (E2 : EL) (R2 : RL), E2.length ≤ k + 1 ∧ Hid (Rel R2 E2) ∧ Hid (WX base w p ta tb rp E2 R2 X o wz))
        case first =>
          by_cases hz0 : kz = 0
          · as_aux_lemma =>
            have hkk : (kz == (0 : Int)) = true := by simpa using hz0
            obtain ⟨x, hx⟩ : ∃ x, hK o.e.k E = x := ⟨_, rfl⟩
            have HXK := hide hx
            have HXR := hide (show decide (o.e.k ∈ R.map (·.1)) = x by rw [rel_mem_iff HREL.out, hx])
            have hxx : (x != x) = false := by cases x <;> rfl
            have HQ0 := hide (HWX.out.q (Below.refl W.heap.size W).drew)
            clear hx hz0
            go_upto_region 15 with (fail)
            refine wp_region_held_drew (S := fun w' => w'.cell? ⟨X, 1, none⟩ = some (.int .i64 o.e.k)) (by kernel_rfl) (by exact HQ0.out.cells.2.1) (fun hHeld => ?_)
            refine wpAnyH_take (i := 0) (oi := { dst := some 50, op := Op.move (Operand.tmp 3), type := 24, pos := "law.go:53", after := #[], guard := none }) (v := ?_) rfl (by kernel_rfl) (by kernel_rfl) (by kernel_rfl) (fun _ _ _ h => h) (Or.inl ⟨by rfl, ?_⟩) (by assumption) ?_
            rotate_left
            · intro wS hSw
              try dsimp only at hSw
              go_simp
              try with_reducible rfl
            try simp only [Act.put, List.setIfInBounds_toArray, List.set_cons_zero, List.set_cons_succ]
            refine wpAnyH_take (i := 1) (oi := { dst := some 51, op := Op.fieldAddr 33 (Operand.tmp 6) 1, type := 0, pos := "law.go:53", after := #[], guard := none }) (v := ?_) rfl (by kernel_rfl) (by kernel_rfl) (by kernel_rfl) (fun _ _ _ h => h) (Or.inl ⟨by rfl, ?_⟩) (by assumption) ?_
            rotate_left
            · intro wS hSw
              try dsimp only at hSw
              go_simp
              try with_reducible rfl
            try simp only [Act.put, List.setIfInBounds_toArray, List.set_cons_zero, List.set_cons_succ]
            refine wpAnyH_take (i := 2) (oi := { dst := some 52, op := Op.load 3 (Operand.tmp 51), type := 3, pos := "law.go:53", after := #[{ on := 1, ground := Ground.data }], guard := none }) (v := ?_) rfl (by kernel_rfl) (by kernel_rfl) (by kernel_rfl) (fun _ _ _ h => h) (Or.inl ⟨by rfl, ?_⟩) (by assumption) ?_
            rotate_left
            · intro wS hSw
              try dsimp only at hSw
              go_simp
              try with_reducible rfl
            try simp only [Act.put, List.setIfInBounds_toArray, List.set_cons_zero, List.set_cons_succ]
            refine wpAnyH_take (i := 4) (oi := { dst := some 54, op := Op.move (Operand.tmp 4), type := 26, pos := "law.go:53", after := #[], guard := none }) (v := ?_) rfl (by kernel_rfl) (by kernel_rfl) (by kernel_rfl) (fun _ _ _ h => h) (Or.inl ⟨by rfl, ?_⟩) (by assumption) ?_
            rotate_left
            · intro wS hSw
              try dsimp only at hSw
              go_simp
              try with_reducible rfl
            try simp only [Act.put, List.setIfInBounds_toArray, List.set_cons_zero, List.set_cons_succ]
            refine wpAnyH_take (i := 5) (oi := { dst := some 55, op := Op.fieldAddr 33 (Operand.tmp 6) 1, type := 0, pos := "law.go:53", after := #[], guard := none }) (v := ?_) rfl (by kernel_rfl) (by kernel_rfl) (by kernel_rfl) (fun _ _ _ h => h) (Or.inl ⟨by rfl, ?_⟩) (by assumption) ?_
            rotate_left
            · intro wS hSw
              try dsimp only at hSw
              go_simp
              try with_reducible rfl
            try simp only [Act.put, List.setIfInBounds_toArray, List.set_cons_zero, List.set_cons_succ]
            refine wpAnyH_take (i := 6) (oi := { dst := some 56, op := Op.load 3 (Operand.tmp 55), type := 3, pos := "law.go:53", after := #[{ on := 5, ground := Ground.data }], guard := none }) (v := ?_) rfl (by kernel_rfl) (by kernel_rfl) (by kernel_rfl) (fun _ _ _ h => h) (Or.inl ⟨by rfl, ?_⟩) (by assumption) ?_
            rotate_left
            · intro wS hSw
              try dsimp only at hSw
              go_simp
              try with_reducible rfl
            try simp only [Act.put, List.setIfInBounds_toArray, List.set_cons_zero, List.set_cons_succ]
            refine wpAnyH_ready (rs := [3]) (by kernel_rfl) (by simp) ?_
            refine AllReadyH.cons (o := { dst := some 53, op := Op.call { callee := Callee.value (Operand.func 9), args := #[Operand.tmp 50, Operand.tmp 52], argTypes := #[24, 3] }, type := 4, pos := "law.go:53", after := #[{ on := 0, ground := Ground.data }, { on := 2, ground := Ground.data }], guard := none }) rfl (fun K hK => ?_) ?_
            ·
              go_simp
              go_at_call 9
              refine (cancel_wx HQ0.out (by omega) o.e.k).mono ?_
              rintro e z1 ⟨rfl, hq1⟩
              rw [HXK.out]
              have HQ1 := hide hq1
              clear hq1
              refine hK.out _ _ (HQ1.out.cells.2.1) (fun hHeld1 => ?_)
              clear hK K
              try simp only [Act.put, List.setIfInBounds_toArray, List.set_cons_zero, List.set_cons_succ]
              refine wpAnyH_ready (rs := [7]) (by kernel_rfl) (by simp) ?_
              refine AllReadyH.cons (o := { dst := some 57, op := Op.call { callee := Callee.value (Operand.func 10), args := #[Operand.tmp 54, Operand.tmp 56], argTypes := #[26, 3] }, type := 4, pos := "law.go:53", after := #[{ on := 4, ground := Ground.data }, { on := 6, ground := Ground.data }, { on := 3, ground := Ground.chain }], guard := none }) rfl (fun K hK => ?_) ?_
              ·
                go_simp
                go_at_call 10
                refine (cancelR_wx HQ1.out HRN.out (by omega) o.e.k).mono ?_
                rintro e z2 ⟨rfl, hq2, _⟩
                rw [HXR.out]
                have HQ2 := hide hq2
                clear hq2
                refine hK.out _ _ (HQ2.out.cells.2.1) (fun hHeld2 => ?_)
                clear hK K
                try simp only [Act.put, List.setIfInBounds_toArray, List.set_cons_zero, List.set_cons_succ]
                refine wpAnyH_take (i := 8) (oi := { dst := some 58, op := Op.binOp BinOp.neq 4 (Operand.tmp 53) (Operand.tmp 57) 4, type := 4, pos := "law.go:53", after := #[{ on := 3, ground := Ground.data }, { on := 7, ground := Ground.data }], guard := none }) (v := ?_) rfl (by kernel_rfl) (by kernel_rfl) (by kernel_rfl) (fun _ _ _ h => h) (Or.inl ⟨by rfl, ?_⟩) (by assumption) ?_
                rotate_left
                · intro wS hSw
                  try dsimp only at hSw
                  go_simp
                  try with_reducible rfl
                try simp only [Act.put, List.setIfInBounds_toArray, List.set_cons_zero, List.set_cons_succ]
                refine wpAnyH_done (by kernel_rfl) ?_ _
                go_wp2_with fail
                go_meet
                case rel => exact ⟨rfl, cK o.e.k E, cR o.e.k R, by have := cK_len o.e.k E; omega, hide (rel_cR HREL.out _), HQ2⟩
              exact AllReadyH.nil
            exact AllReadyH.nil
          · by_cases hz1 : kz = 1
            · as_aux_lemma =>
              have hkk0 : (kz == (0 : Int)) = false := by simpa using hz0
              have hkk1 : (kz == (1 : Int)) = true := by simpa using hz1
              clear hz0 hz1
              go_upto_region 19 with (fail)
              generalize bits BinOp.and IntKind.i64 o.n 7 = most
              have HDU := hide (due_wx HWX.out hEl2 o.e.s most)
              go_wp2_with fail
              refine HDU.out.mono ?_
              rintro e z1 ⟨v, rfl, hrow, hq⟩
              obtain ⟨N, hN⟩ : ∃ N, dueN E o.e.s most = N := ⟨_, rfl⟩
              have HN := hide hN
              have hNE : N ≤ E.length := by rw [← hN]; exact dueN_le _ _ _
              have hxl := due_len E o.e.s most
              rw [hN] at hrow hq hxl
              obtain ⟨ga, gc, rfl⟩ := hrow.form
              rw [hxl] at hrow ⊢
              have HXL := hide hxl
              have HROW := hide hrow
              have HQ1 := hide hq
              clear hrow hq hN hxl x0 x1 x2 x3 HDU
              go_wp2_with fail
              go_loopw [9] (fun iv wz => ∃ (i : Nat) (R' : RL), i ≤ N ∧ iv = .int .i64 i ∧ Hid (Rel R' (E.drop i)) ∧ Hid (WX base w p ta tb rp (E.drop N) R' X o wz) ∧ Hid (IRow base wz (.slice ga N gc) ((E.take N).map (·.1.k)))) (fun iv _ => N + 1 - (intOf iv).toNat)
              case atStart => exact ⟨0, R, Nat.zero_le _, rfl, HREL, HQ1, HROW⟩
              case round =>
                clear HQ1 HROW
                obtain ⟨i, R', hiN, rfl, HREL', HX', HROW'⟩ := hrel
                by_cases hc : i = 0 ∨ (i : Int) < most
                · go_upto_region 21 with (fail)
                  go_cut [75] from 69 to 124 (fun v q => v = .bool true ∧ Hid (WX base w p ta tb rp (E.drop N) R' X o q) ∧ Hid (IRow base q (.slice ga N gc) ((E.take N).map (·.1.k))))
                  case first =>
                    by_cases hi0 : i = 0
                    · subst hi0
                      have hq0 : (((0 : Nat) : Int) == 0) = true := by simp
                      go_wp2_with fail
                      go_meet
                      case rel => exact ⟨rfl, HX', HROW'⟩
                    · have hq0 : ((i : Int) == 0) = false := by simpa using hi0
                      have hq1 : decide ((i : Int) < most) = true := by simp; omega
                      go_wp2_with fail
                      go_meet
                      case rel => exact ⟨rfl, HX', HROW'⟩
                  case rest =>
                    clear HX' HROW'
                    obtain ⟨rfl, HX', HROW'⟩ := hcut
                    have hRl' : R'.length ≤ 1000000 := by have := rel_len HREL'.out; rw [List.length_drop] at this; omega
                    have HFR := hide (first_wx HX'.out hRl')
                    go_wp2_with fail
                    refine HFR.out.mono ?_
                    rintro e z4 ⟨b4, rfl, hbest, h4, hrow4⟩
                    have HX4 := hide h4
                    have HROW4 := hide (hrow4 _ _ HROW'.out)
                    have hfirst := rel_first HREL'.out (dk_asc_drop HWA.out i) hbest
                    clear h4 hrow4 hbest HFR
                    rcases hfirst with ⟨hnil, rfl⟩ | ⟨x, E', j, hcons, rfl, hj, hxj⟩
                    · have HNI := hide (show N = i by rw [← HN.out]; exact due_nil hnil (by rw [HN.out]; exact hiN))
                      have hd0 : decide ((-1 : Int) < 0) = true := by decide
                      have hne : ((N : Int) != (i : Int)) = false := by rw [HNI.out]; simp
                      clear hnil
                      go_wp2_with fail
                      go_quiet (fail)
                      obtain ⟨z5, hz5, HX5⟩ : ∃ z5, z4.drewN nq = z5 ∧ Hid (WX base w p ta tb rp (E.drop N) R' X o z5) := ⟨_, rfl, hide (HX4.out.dr _)⟩
                      rw [hz5]
                      clear hz5
                      go_wp2_with fail
                      go_meet
                      case rel => exact ⟨rfl, E.drop N, R', by rw [List.length_drop]; omega, hide (by have := HREL'.out; rw [HNI.out]; exact this), HX5⟩
                    · obtain ⟨kg, kc, vg, vc, t0, t1, hc4⟩ := HX4.out.place2 (by omega)
                      obtain ⟨ck, cv⟩ := hc4 j _ hxj
                      obtain ⟨rn, hrn⟩ : ∃ rn, R'.length = rn := ⟨_, rfl⟩
                      rw [hrn] at t0 t1 hj
                      obtain ⟨sx, hsx⟩ : ∃ s, x.1.s = s := ⟨_, rfl⟩
                      obtain ⟨kx, hkx⟩ : ∃ s, x.1.k = s := ⟨_, rfl⟩
                      rw [hsx] at cv
                      rw [hkx] at ck
                      dsimp only at ck cv
                      obtain ⟨y0, y1, y2, y3⟩ := HX4.out.cells
                      have hd0 : decide ((j : Int) < 0) = false := by simp
                      have HCONS := hide hcons
                      have HSX := hide hsx
                      have HKX := hide hkx
                      clear hc4 hxj hrn hcons hsx hkx y0 y1 y2
                      by_cases hlate : o.e.s < sx
                      · have HNI := hide (show N = i by rw [← HN.out]; exact due_stop HCONS.out (by rw [HN.out]; exact hiN) (by rw [HSX.out]; exact hlate))
                        have hd1 : decide (o.e.s < sx) = true := decide_eq_true hlate
                        have hne : ((N : Int) != (i : Int)) = false := by rw [HNI.out]; simp
                        go_wp2_with fail
                        go_quiet (fail)
                        obtain ⟨z5, hz5, HX5⟩ : ∃ z5, z4.drewN nq = z5 ∧ Hid (WX base w p ta tb rp (E.drop N) R' X o z5) := ⟨_, rfl, hide (HX4.out.dr _)⟩
                        rw [hz5]
                        clear hz5
                        go_wp2_with fail
                        go_meet
                        case rel => exact ⟨rfl, E.drop N, R', by rw [List.length_drop]; omega, hide (by have := HREL'.out; rw [HNI.out]; exact this), HX5⟩
                      · have hlt' : i < N := by rw [← HN.out]; exact due_go HCONS.out (by rw [HN.out]; exact hiN) (by rw [HSX.out]; omega) hc
                        have hd1 : decide (o.e.s < sx) = false := decide_eq_false hlate
                        obtain ⟨gg, hgg⟩ := HROW4.out.hasBlk (by rw [HXL.out]; omega)
                        obtain ⟨gc', hgc, hcg⟩ := HROW4.out.cells' hgg
                        rw [HXL.out] at hgc
                        injection hgc with hga _ hgc
                        subst hga
                        have hki := due_key HCONS.out hlt'
                        have hgi := hcg i (by rw [HXL.out]; exact hlt')
                        have hgk : z4.cell? ⟨gg, i, none⟩ = some (.int .i64 kx) := by
                          rw [hgi, ← HKX.out]
                          obtain ⟨_, h7⟩ := List.getElem?_eq_some_iff.1 hki
                          rw [h7]
                        have hd2 : decide ((N : Int) ≤ (i : Int)) = false := by simp; omega
                        have hkn : (kx != kx) = false := by simp
                        clear hgc hcg hki hgi hlate hgg
                        go_wp2_with fail
                        go_quiet (fail)
                        obtain ⟨z5, hz5, HX5, HROW5, s0, s1, s2, s3, s4⟩ : ∃ z5, z4.drewN nq = z5 ∧ Hid (WX base w p ta tb rp (E.drop N) R' X o z5) ∧ Hid (IRow base z5 (.slice (some ⟨gg, 0, none⟩) N gc) ((E.take N).map (·.1.k))) ∧ z5.cell? ⟨rp, 0, none⟩ = some (.slice (some ⟨kg, 0, none⟩) rn kc) ∧ z5.cell? ⟨rp, 1, none⟩ = some (.slice (some ⟨vg, 0, none⟩) rn vc) ∧ z5.cell? ⟨kg, j, none⟩ = some (.int .i64 kx) ∧ z5.cell? ⟨gg, i, none⟩ = some (.int .i64 kx) ∧ z5.cell? ⟨vg, j, none⟩ = some (.int .u64 sx) := ⟨_, rfl, hide (HX4.out.dr _), hide (HROW4.out.dr _), t0, t1, ck, hgk, cv⟩
                        rw [hz5]
                        clear hz5 t0 t1 ck hgk cv y3 HX4 HROW4
                        go_wp2_with fail
                        go_quiet (fail)
                        obtain ⟨z6, hz6, HX6, HROW6, s0', s1', s2'⟩ : ∃ z6, z5.drewN nq = z6 ∧ Hid (WX base w p ta tb rp (E.drop N) R' X o z6) ∧ Hid (IRow base z6 (.slice (some ⟨gg, 0, none⟩) N gc) ((E.take N).map (·.1.k))) ∧ z6.cell? ⟨rp, 0, none⟩ = some (.slice (some ⟨kg, 0, none⟩) rn kc) ∧ z6.cell? ⟨kg, j, none⟩ = some (.int .i64 kx) ∧ True := ⟨_, rfl, hide (HX5.out.dr _), hide (HROW5.out.dr _), s0, s2, trivial⟩
                        rw [hz6]
                        clear hz6 s0 s1 s2 s3 s4 HX5 HROW5
                        have HCA := hide (cancelR_wx HX6.out (rel_nodup HREL'.out (dk_drop HDK.out i)) hRl' kx)
                        go_wp2_with fail
                        refine HCA.out.mono ?_
                        rintro e z7 ⟨rfl, h7, hrow7⟩
                        have HX7 := hide h7
                        have HROW7 := hide (hrow7 _ _ HROW6.out)
                        have HREL7 := hide (show Rel (cR kx R') (E.drop (i + 1)) by
                          have h8 := rel_cR HREL'.out kx
                          rw [HCONS.out, ← HKX.out, cK_first (by rw [← HCONS.out]; exact dk_drop HDK.out i)] at h8
                          rw [(drop_at HCONS.out).2, ← HKX.out]; exact h8)
                        clear h7 hrow7 HCA s0' s1' s2'
                        go_wp2_with fail
                        go_roundw
                        case rel => exact ⟨i + 1, cR kx R', by omega, by go_num, HREL7, HX7, HROW7⟩
                        case measure => simp [intOf]; omega
                · have HNI := hide (show N = i by rw [← HN.out]; exact due_end (by rw [HN.out]; exact hiN) (fun e => hc (.inl e)) (fun e => hc (.inr e)))
                  have hq0 : ((i : Int) == 0) = false := by
                    have : i ≠ 0 := fun e => hc (.inl e)
                    simpa using this
                  have hq1 : decide ((i : Int) < most) = false := by
                    have : ¬ (i : Int) < most := fun e => hc (.inr e)
                    exact decide_eq_false this
                  go_wp2_with fail
                  go_meet
                  case rel => exact ⟨rfl, E.drop N, R', by rw [List.length_drop]; omega, hide (by have := HREL'.out; rw [HNI.out]; exact this), HX'⟩
            · as_aux_lemma =>
              have hkk0 : (kz == (0 : Int)) = false := by simpa using hz0
              have hkk1 : (kz == (1 : Int)) = false := by simpa using hz1
              clear hz0 hz1
              have HST := hide (set_wx HWX.out hEl2 o.e)
              go_wp2_with fail
              refine HST.out.mono ?_
              rintro e z1 ⟨⟨v, rfl⟩, hq⟩
              have HQ1 := hide hq
              have HSR := hide (setR_wx hq HRN.out hRl o.e.k o.e.s)
              clear x0 x1 x2 x3 HST
              obtain ⟨x0, x1, x2, x3⟩ := hq.cells
              clear hq
              go_wp2_with fail
              refine HSR.out.mono ?_
              rintro e z2 ⟨⟨v2, rfl⟩, hq⟩
              have HQ2 := hide hq
              clear hq x0 x1 x2 x3 HSR
              go_wp2_with fail
              go_meet
              case rel => exact ⟨rfl, sK o.e E, cR o.e.k R ++ [(o.e.k, o.e.s)], by have := sK_len o.e E; omega, hide (rel_setR HREL.out o.e), HQ2⟩
        case rest => as_aux_lemma =>
          obtain ⟨rfl, E2, R2, hE2, HR2, HX2⟩ := hcut
          clear x0 x1 x2 x3 HREL HWX hR1 hRl hEl2 HDK HRN HWA
          obtain ⟨n2, hn2⟩ : ∃ n2, R2.length = n2 := ⟨_, rfl⟩
          have hE2n : E2.length = n2 := by rw [← hn2]; exact (rel_len HR2.out).symm
          have HN2 := hide hn2
          have hRl : R2.length ≤ 1000000 := by omega
          obtain ⟨g, hb, fi', hg, hhb, hfi', hfind⟩ := find_form HR2.out HX2.out.ww.wat.dk o.e.k
          obtain ⟨nx, is, hnx, hnf⟩ := next_form E2
          have HAT := hide (at_wx HX2.out o.e.k)
          rw [hg, hhb] at HAT
          have HNF := hide hnf
          have HFIND := hide hfind
          have HGF := hide hfi'
          have HNX0 := hide hnx
          obtain ⟨x0, x1, x2, x3⟩ := HX2.out.cells
          clear hn2 hg hhb hfi' hfind hnx hnf
          go_wp2_with fail
          refine HAT.out.mono ?_
          rintro e z1 ⟨rfl, h1⟩
          have HX3 := hide h1
          clear h1 x0 x1 x2 x3 HAT
          obtain ⟨x0, x1, x2, x3⟩ := HX3.out.cells
          have HFI := hide (find_wx HX3.out hRl o.e.k)
          rw [HGF.out] at HFI
          go_wp2_with fail
          refine HFI.out.mono ?_
          rintro e z2 ⟨rfl, rfl⟩
          have HNX := hide (next_wx HX3.out (by omega))
          rw [HNX0.out] at HNX
          clear HFI x0 x1 x2 x3
          go_wp2_with fail
          refine HNX.out.mono ?_
          rintro e z3 ⟨rfl, h3⟩
          have HX4 := hide h3
          have HFR := hide (first_wx h3 hRl)
          clear h3 HNX
          go_wp2_with fail
          refine HFR.out.mono ?_
          rintro e z4 ⟨b4, rfl, hbest, h4, _⟩
          have HX5 := hide h4
          have hnext := next_first HR2.out h4.ww.wat.asc hbest HNF.out
          have HLE := hide (fun m => len_q h4 m)
          rw [hE2n] at HLE
          have hnn : ((n2 : Int) != (n2 : Int)) = false := by simp
          have hgg : (g != g) = false := by simp
          have hxx : (nx != nx) = false := by simp
          have hfind := HFIND.out
          rw [HN2.out] at hfind hnext
          clear hbest h4 HFR HX4 HX3 HX2 HNF HFIND
          go_wp2_with fail
          refine wp_region_quiet_lit (by kernel_rfl) (by kernel_rfl) ?_
          rcases hfind with ⟨rfl, rfl, rfl⟩ | ⟨fi, rfl, rfl, hfi, hRf⟩
          · rcases hnext with ⟨rfl, rfl, rfl⟩ | ⟨ni, kk, rfl, rfl, hni, hRn'⟩
            · as_aux_lemma =>
              have hf0 : decide ((0 : Int) ≤ (-1 : Int)) = false := by decide
              have hn0' : decide ((0 : Int) ≤ (-1 : Int)) = false := by decide
              obtain ⟨ka, kc, t0⟩ := HX5.out.len
              rw [HN2.out] at t0
              repeat (go_big_quiet_step ((go_at_call 18; exact Calls.quiet_of_same (HLE.out _))))
              refine wpQuiet_nil ?_
              intro _ hw'
              obtain ⟨nq, hw''⟩ := hw'
              subst hw''
              go_wp2_with fail
              go_roundw
              case rel => exact ⟨k + 1, E2, R2, by omega, hE2, by go_num, HR2, hide (HX5.out.dr _).ww⟩
              case measure => simp [intOf]; omega
            · as_aux_lemma =>
              have hf0 : decide ((0 : Int) ≤ (-1 : Int)) = false := by decide
              have hn0 : decide ((0 : Int) ≤ (ni : Int)) = true := by simp
              obtain ⟨kg, kc, vg, vc, t0, t1, hc4⟩ := HX5.out.place2 (by rw [HN2.out]; omega)
              rw [HN2.out] at t0 t1
              have cn := (hc4 ni _ hRn').2
              dsimp only at cn
              clear hc4 hRn'
              repeat (go_big_quiet_step ((go_at_call 18; exact Calls.quiet_of_same (HLE.out _))))
              refine wpQuiet_nil ?_
              intro _ hw'
              obtain ⟨nq, hw''⟩ := hw'
              subst hw''
              go_wp2_with fail
              go_roundw
              case rel => exact ⟨k + 1, E2, R2, by omega, hE2, by go_num, HR2, hide (HX5.out.dr _).ww⟩
              case measure => simp [intOf]; omega
          · rcases hnext with ⟨rfl, rfl, rfl⟩ | ⟨ni, kk, rfl, rfl, hni, hRn'⟩
            · as_aux_lemma =>
              have hf0 : decide ((0 : Int) ≤ (fi : Int)) = true := by simp
              have hn0' : decide ((0 : Int) ≤ (-1 : Int)) = false := by decide
              obtain ⟨kg, kc, vg, vc, t0, t1, hc4⟩ := HX5.out.place2 (by rw [HN2.out]; omega)
              rw [HN2.out] at t0 t1
              have cf := (hc4 fi _ hRf).2
              dsimp only at cf
              clear hc4 hRf
              repeat (go_big_quiet_step ((go_at_call 18; exact Calls.quiet_of_same (HLE.out _))))
              refine wpQuiet_nil ?_
              intro _ hw'
              obtain ⟨nq, hw''⟩ := hw'
              subst hw''
              go_wp2_with fail
              go_roundw
              case rel => exact ⟨k + 1, E2, R2, by omega, hE2, by go_num, HR2, hide (HX5.out.dr _).ww⟩
              case measure => simp [intOf]; omega
            · as_aux_lemma =>
              have hf0 : decide ((0 : Int) ≤ (fi : Int)) = true := by simp
              have hn0 : decide ((0 : Int) ≤ (ni : Int)) = true := by simp
              obtain ⟨kg, kc, vg, vc, t0, t1, hc4⟩ := HX5.out.place2 (by rw [HN2.out]; omega)
              rw [HN2.out] at t0 t1
              have cf := (hc4 fi _ hRf).2
              dsimp only at cf
              have cn := (hc4 ni _ hRn').2
              dsimp only at cn
              clear hc4 hRf hRn'
              repeat (go_big_quiet_step ((go_at_call 18; exact Calls.quiet_of_same (HLE.out _))))
              refine wpQuiet_nil ?_
              intro _ hw'
              obtain ⟨nq, hw''⟩ := hw'
              subst hw''
              go_wp2_with fail
              go_roundw
              case rel => exact ⟨k + 1, E2, R2, by omega, hE2, by go_num, HR2, hide (HX5.out.dr _).ww⟩
              case measure => simp [intOf]; omega
      · obtain rfl : k = len := by omega
        go_wp2_with fail
        go_ret
        exact ⟨rfl, HW.out.below⟩
end Go.Proofs.Ytdjkoomgapflcaa
