/- What is never answered is given up: the law walked. -/
import Derived.Test.YthkadjjkoomcgaaStTick
import Derived.Test.YthkadjjkoomcgaaStOps
namespace Go.Proofs.Ythkadjjkoomcgaa
open Go.RowKit Go.Deep
set_option linter.unusedVariables false
set_option linter.unusedSimpArgs false
set_option maxRecDepth 100000
theorem ret_bool {a b : Bool} (h : a = b) : Ending.returned (.bool a) = .returned (.bool b) := by rw [h]
/-- How far the giving up has come. -/
def GvAt (w wz : World) (B : Nat) (D T : Nat) : Prop := ∃ c : Cn, CnAt wz B c ∧ c.ib = .slice none 0 0 ∧ (T = 6 → c.ph = 4) ∧ (T < 6 → c.ph = 0 ∧ c.on = true ∧ c.at_ = (D : Int) ∧ c.tries = (T : Int)) ∧ w.heap.size ≤ B ∧ Below w.heap.size w wz
theorem gives_long (w : World) (own : Int) (a : Option Addr) (n cap : Nat) (hn : n ≤ 9223372036854775807) (h : 300 < n) :
    Calls Try.prog 4 #[.int .u32 own, .slice a n cap] w fun e w' => e = .returned (.bool true) ∧ Below w.heap.size w w' := by
  go_enter Try.func4, Try.ntmps4
  go_wp2_with fail
  refine (speaks14_any w).mono ?_
  rintro e w1 ⟨rfl, b1⟩
  go_wp2_with fail
  go_ret
  exact ⟨rfl, b1⟩
set_option maxHeartbeats 4000000 in
theorem gives_main (w : World) (own : Int) (a : Option Addr) (n cap : Nat) (xs : List Int) (hr : Row .u64 w a xs) (hl : xs.length = n) (hb : ∀ x ∈ xs, 0 ≤ x ∧ x < 18446744073709551616) (h : n ≤ 300) :
    Calls Try.prog 4 #[.int .u32 own, .slice a n cap] w fun e w' => e = .returned (.bool true) ∧ Below w.heap.size w w' := by
  have HR := hide hr
  have HL := hide hl
  have HXB := hide hb
  clear hr hl hb
  go_enter Try.func4, Try.ntmps4
  go_wp2_with fail
  refine (speaks14_any w).mono ?_
  rintro e w1 ⟨rfl, b1⟩
  have HB1 := hide b1
  clear b1
  go_wp2_with fail
  refine (dial_any 5000 80 own w1).mono ?_
  rintro e w2 ⟨a0, cp, B, R, rfl, hB, hC, hR, hs, hb⟩
  have HX := hide (show GvAt w w2 B 3 0 from ⟨dialed 5000 80 own, hC, rfl, (fun h => nomatch h), (fun _ => ⟨rfl, rfl, rfl, rfl⟩), Nat.le_trans HB1.out.size hB, HB1.out.trans (hb.mono HB1.out.size)⟩)
  clear hB hC hR hs hb HB1
  go_wp2_with fail
  go_loopw [7, 8, 9, 27] (fun nw du tr i wz => ∃ (j N D T : Nat), j ≤ n ∧ i = .int .i64 j ∧ nw = .int .u64 N ∧ du = .int .u64 D ∧ tr = .int .i64 T ∧ N ≤ j * 65535 ∧ T ≤ 6 ∧ D ≤ N + 192 ∧ Hid (GvAt w wz B D T)) (fun _ _ _ i _ => n - (intOf i).toNat)
  case atStart => exact ⟨0, 0, 3, 0, Nat.zero_le _, rfl, rfl, rfl, rfl, by omega, by omega, by omega, HX⟩
  case round =>
    clear HX
    obtain ⟨j, N, D, T, hj, rfl, rfl, rfl, rfl, hN, hT, hD, HX⟩ := hrel
    by_cases hlt : j < n
    · obtain ⟨b, off, rfl, hbl, hcell⟩ := Row.at HR.out (i := j) (by rw [HL.out]; exact hlt)
      obtain ⟨c, hC, hib, h6, h5, hB, hbw⟩ := HX.out
      obtain ⟨x, hx⟩ : ∃ x, xs[j]?.getD 0 = x := ⟨_, rfl⟩
      have cj := (hbw.cell (p := ⟨b, off + j, none⟩) hbl).trans (hcell j (by rw [HL.out]; exact hlt))
      rw [hx] at cj
      have HC := hide hC
      have HW := hide (And.intro hB hbw)
      have hxr : 0 ≤ x ∧ x < 18446744073709551616 := by
        rw [← hx, List.getElem?_eq_getElem (by rw [HL.out]; exact hlt)]
        exact HXB.out _ (List.getElem_mem _)
      obtain ⟨v, hv, hv2⟩ : ∃ v : Nat, bits .and .u64 x 65535 = (v : Int) ∧ v ≤ 65535 := ⟨x.toNat &&& 65535, u64_and x 65535 hxr.1 hxr.2 (by omega) (by omega), Nat.and_le_right⟩
      have hN2 : N + v ≤ (j + 1) * 65535 := by omega
      have hN3 : N + v ≤ 20000000 := by omega
      clear hx hcell hC hbw hxr
      by_cases hT6 : T = 6
      · subst hT6
        have hov := hide (fun (now : Int) => tick_over B c now wr HC.out (.inr (h6 rfl)))
        have h6o := hide (h6 rfl)
        clear h5 h6
        go_wp2_with ((with_reducible refine (hov.out _).mono ?_); rintro e w3 ⟨rfl, c3, o3⟩; have HX3 := hide (show GvAt w w3 B D 6 from ⟨c, c3, hib, (fun _ => h6o.out), (fun h => absurd h (by omega)), HW.out.1, HW.out.2.trans (o3.below HW.out.1 HW.out.2.size)⟩); clear c3 o3 cj)
        go_roundw
        case rel => exact ⟨j + 1, N + v, D, 6, by omega, by go_num, by go_num, rfl, rfl, hN2, by omega, by omega, HX3⟩
        case measure => simp [intOf]; omega
      · obtain ⟨p0, p1, p2, p3⟩ := h5 (by omega)
        by_cases hdu : D ≤ N + v
        · by_cases hT5 : T = 5
          · subst hT5
            have hlast := hide (tick_last B c ((N : Int) + v) p3 (by omega) wr HC.out p0 hib p1 (by rw [p2]; omega))
            have hib2 := hide hib
            have hb4 : bits .and .u8 20 4 = 4 := by decide
            clear h5 h6 p0 p1 p2 p3 hT6 hib
            go_wp2_with ((with_reducible refine hlast.out.mono ?_); rintro e w3 ⟨R3, x0, x1, x2, x3, x5, x6, x7, x8, rfl, hR3, hsg, c3, o3⟩; have z4 := cell_at hsg 4 rfl; have hph := c3.all.2.2.1; have HX3 := hide (show GvAt w w3 B (N + v + 192) 6 from ⟨_, c3, hib2.out, (fun _ => rfl), (fun h => absurd h (by omega)), HW.out.1, HW.out.2.trans (o3.below HW.out.1 HW.out.2.size)⟩); clear c3 o3 cj hsg hR3)
            refine (phase_any B 4 w3 hph).mono ?_
            rintro e w4 ⟨rfl, rfl⟩
            clear hph z4
            go_wp2_with fail
            go_roundw
            case rel => exact ⟨j + 1, N + v, N + v + 192, 6, by omega, by go_num, by go_num, by go_num, rfl, hN2, by omega, by omega, HX3⟩
            case measure => simp [intOf]; omega
          · have ht : T = 0 ∨ T = 1 ∨ T = 2 ∨ T = 3 ∨ T = 4 := by omega
            clear h5 h6 hT hT5 hT6
            rcases ht with rfl | rfl | rfl | rfl | rfl
            all_goals
              have hag := hide (tick_again B c ((N : Int) + v) _ p3 (by omega) (by omega) (by omega) wr HC.out p0 hib p1 (by rw [p2]; omega))
              have hib2 := hide hib
              have hp0 := hide p0
              have hb4 : bits .and .u8 2 4 = 0 := by decide
              clear p0 p1 p2 p3 hib
              go_wp2_with ((with_reducible refine hag.out.mono ?_); rintro e w3 ⟨R3, x0, x1, x2, x3, x5, x6, x7, x8, rfl, hR3, hsg, c3, o3⟩; have z4 := cell_at hsg 4 rfl; have hph := (c3.at 2 (v := .int .i64 0) (by rw [← hp0.out]; rfl)); have HX3 := hide (show GvAt w w3 B (N + v + _) (_ + 1) from ⟨_, c3, hib2.out, (fun h => absurd h (by omega)), (fun h => ⟨hp0.out, rfl, rfl, rfl⟩), HW.out.1, HW.out.2.trans (o3.below HW.out.1 HW.out.2.size)⟩); clear c3 o3 cj hsg hR3)
              refine (phase_any B 0 w3 hph).mono ?_
              rintro e w4 ⟨rfl, rfl⟩
              clear hph z4
              go_wp2_with fail
              go_roundw
              case rel => exact ⟨j + 1, N + v, _, _, by omega, by go_num, by go_num, by go_num, by go_num, hN2, by omega, by omega, HX3⟩
              case measure => simp [intOf]; omega
        · have hov := hide (tick_early B c ((N : Int) + v) wr HC.out (by rw [p0]; rfl) (by rw [p1, p2]; simp; omega))
          have hpp := hide (And.intro (And.intro p0 p1) (And.intro p2 p3))
          have hib2 := hide hib
          clear h5 h6 p0 p1 p2 p3 hib
          go_wp2_with ((with_reducible refine hov.out.mono ?_); rintro e w3 ⟨rfl, c3, o3⟩; have HX3 := hide (show GvAt w w3 B D T from ⟨c, c3, hib2.out, (fun h => absurd h hT6), (fun h => ⟨hpp.out.1.1, hpp.out.1.2, hpp.out.2.1, hpp.out.2.2⟩), HW.out.1, HW.out.2.trans (o3.below HW.out.1 HW.out.2.size)⟩); clear c3 o3 cj)
          go_roundw
          case rel => exact ⟨j + 1, N + v, D, T, by omega, by go_num, by go_num, rfl, rfl, hN2, by omega, by omega, HX3⟩
          case measure => simp [intOf]; omega
    · obtain ⟨c, hC, hib, h6, h5, hB, hbw⟩ := HX.out
      have hjn : j = n := by omega
      have hph := hC.all.2.2.1
      have HE := hide hbw
      by_cases hT6 : T = 6
      · subst hT6
        rw [h6 rfl] at hph
        clear hC hib h6 h5 hB hbw HX
        go_wp2_with ((with_reducible refine (phase_any B 4 _ hph).mono ?_); rintro e w4 ⟨rfl, rfl⟩)
        go_ret
        exact ⟨rfl, HE.out⟩
      · rw [(h5 (by omega)).1] at hph
        have hT5 : T ≤ 5 := by omega
        clear hC hib h6 h5 hB hbw HX hT6
        go_wp2_with ((with_reducible refine (phase_any B 0 _ hph).mono ?_); rintro e w4 ⟨rfl, rfl⟩)
        go_ret
        exact ⟨ret_bool (by simp; omega), HE.out⟩
end Go.Proofs.Ythkadjjkoomcgaa
