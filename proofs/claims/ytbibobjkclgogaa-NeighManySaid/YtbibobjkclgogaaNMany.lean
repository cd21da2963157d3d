/- neigh: NeighMany. -/
import Derived.Test.YtbibobjkclgogaaNSp
import Derived.Test.YtbibobjkclgogaaNMp
import Derived.Deep.LoopGhost
namespace Go.Proofs.Ytbibobjkclgogaa
open Go.RowKit Go.Deep
set_option linter.unusedVariables false
set_option linter.unusedSimpArgs false
set_option maxRecDepth 100000
set_option maxHeartbeats 4000000 in
theorem neighMany_any (w : World) (n : Int) (st fi : Nat) (hn0 : -9223372036854775808 ≤ n) (hn1 : n ≤ 9223372036854775807) (hs : st ≤ 4294967295) (hf : fi ≤ 4294967295) :
    Calls Try.prog 4 #[.int .i64 n, .int .u32 (st : Int), .int .u32 (fi : Int)] w fun e w' => e = .returned (.bool true) ∧ Below w.heap.size w w' := by
  have HSP := hide (speaks_any w)
  obtain ⟨m, hand, hm⟩ : ∃ m : Nat, bits .and .i64 n 511 = (m : Int) ∧ m ≤ 511 := ⟨(n % 512).toNat, by rw [and511]; omega, by omega⟩
  obtain ⟨s, hor, hso⟩ : ∃ s : Nat, bits .or .u32 (st : Int) 1 = (s : Int) ∧ s % 2 = 1 := ⟨st ||| 1, by rw [show (1 : Int) = ((1 : Nat) : Int) from rfl, u32_or_nat _ _ (by omega) (by omega)], or1_odd st⟩
  have HSO := hide hso
  clear hso hn0 hn1
  go_enter Try.func4, Try.ntmps4
  go_wp2_with fail
  refine HSP.out.mono ?_
  rintro e w1 ⟨rfl, b1⟩
  have HB1 := hide b1
  have HNW := hide (new_any w1)
  clear b1 HSP
  go_wp2_with fail
  refine HNW.out.mono ?_
  rintro e w2 ⟨c, rfl, h2, b2⟩
  have HC := hide h2
  have HB2 := hide (HB1.out.trans (b2.mono HB1.out.size))
  have HKS := hide b2.size
  clear h2 b2 HNW
  go_wp2_with fail
  go_loopg [9, 10, 11, 12, 13] (m + 1) (fun gg s9 _ _ _ _ wz => ∃ (i : Nat) (L : List D.KV), s9 = .int .i64 i ∧ i ≤ m + 1 ∧ m + 1 - i ≤ gg ∧ Hid (CAt wz w1.heap.size c L []) ∧ Hid (L.length = min i 256) ∧ Hid (∀ y ∈ L, ∃ j, j < i ∧ y.1 = ((aN fi s j : Nat) : Int)) ∧ Hid (Below w.heap.size w wz) ∧ Hid (w1.heap.size ≤ wz.heap.size))
  case atStart => exact ⟨0, [], rfl, Nat.zero_le _, by omega, HC, hide (by simp), hide (fun y hy => by cases hy), HB2, HKS⟩
  case round =>
    clear HC HB2 HKS
    obtain ⟨i, L, rfl, hi, hgg, HC, HL, HKY, HB, HKS⟩ := hrel
    by_cases hlt : i < m + 1
    · have hltz : (i : Int) < 1 + (m : Int) := by omega
      have hi5 : i < 512 := by omega
      have hw32 : IntKind.u32.wrap (i : Int) = (i : Int) := by rw [IntKind.wrap_u32]; omega
      have hw16 : IntKind.u16.wrap (i : Int) = (i : Int) := by rw [IntKind.wrap_u16]; omega
      have hw64 : IntKind.u64.wrap (i : Int) = (i : Int) := by rw [IntKind.wrap_u64]; omega
      obtain ⟨b1, hw8⟩ : ∃ b, IntKind.u8.wrap (i : Int) = b := ⟨_, rfl⟩
      obtain ⟨p, hp, hpe⟩ : ∃ p : Nat, IntKind.u32.wrap ((i : Int) * (s : Int)) = (p : Int) ∧ p = i * s % 4294967296 := ⟨i * s % 4294967296, by rw [IntKind.wrap_u32, ← Int.natCast_mul]; omega, rfl⟩
      obtain ⟨ad, had, hade⟩ : ∃ ad : Nat, IntKind.u32.wrap ((fi : Int) + (p : Int)) = (ad : Int) ∧ ad = aN fi s i := ⟨aN fi s i, by rw [IntKind.wrap_u32, hpe]; unfold aN; omega, rfl⟩
      have HAD := hide hade
      clear hpe hade
      have HHO := hide (show Calls Try.prog 13 #[.pointer (some ⟨c, 0, none⟩), .agg #[.int .u8 0, .int .u8 0, .int .u16 (i : Int), .int .u32 0, .int .u32 (ad : Int), .slice none 0 0], .int .u64 (i : Int)] wr fun e w' => e = .returned (.bool true) ∧ HoldAns w1.heap.size c L [] ⟨0, 0, (i : Int), 0, (ad : Int), none, 0, 0, (i : Int), []⟩ (i : Int) w' ∧ Below w1.heap.size wr w' ∧ KO wr w' from
        hold_any w1.heap.size c L [] ⟨0, 0, (i : Int), 0, (ad : Int), none, 0, 0, (i : Int), []⟩ (i : Int) wr HC.out HKS.out (row_nil _) rfl (Nat.zero_le _) (by decide))
      go_wp2_with fail
      refine HHO.out.mono ?_
      rintro e w3 ⟨rfl, hh, b3, _⟩
      obtain ⟨H2, hc3, hh2, _⟩ := hh
      obtain ⟨a2, c2, e2⟩ := hh2 (by decide)
      have e2 : H2 = [⟨0, 0, (i : Int), 0, (ad : Int), a2, 0, c2, (i : Int), []⟩] := e2
      subst e2
      have HC3 := hide hc3
      have HB3 := hide b3
      clear hh2 hc3 b3 HHO
      have hno : hasL id (ad : Int) L = false := by
        cases hh : hasL id (ad : Int) L with
        | false => rfl
        | true =>
          exfalso
          obtain ⟨y, hy, e⟩ := hasL_iff.1 hh
          obtain ⟨j, hj, e2⟩ := HKY.out y hy
          have e3 : (ad : Int) = y.1 := e
          rw [e2, HAD.out] at e3
          exact aN_ne HSO.out hj hi5 (Int.ofNat_inj.1 e3)
      have hasc : Asc id L := by
        obtain ⟨tb, a, n, cap, hx⟩ := HC.out
        exact hx.tab.asc
      obtain ⟨L2, l1, l2, l3, l4⟩ := learn_more w1.heap.size c L (ad : Int) ⟨2, b1, (i : Int) / 256, 0, 0, 0, 0⟩ (i : Int) i HL.out hno hasc (by omega) (by omega)
      have hK3 : w1.heap.size ≤ w3.heap.size := Nat.le_trans HKS.out HB3.out.size
      have HLE := hide (show Calls Try.prog 14 #[.pointer (some ⟨c, 0, none⟩), .int .u32 (ad : Int), .agg #[.int .u8 2, .int .u8 b1, .int .u8 ((i : Int) / 256), .int .u8 0, .int .u8 0, .int .u8 0], .int .u64 (i : Int)] w3 fun e w' => ∃ b c4, e = .returned (.slice (some ⟨b, 0, none⟩) 1 c4) ∧ w'.cell? ⟨b, 2, none⟩ = some (.int .u16 (i : Int)) ∧ CAt w' w1.heap.size c L2 [] ∧ Below w1.heap.size w3 w' from
        (l4 _ w3 HC3.out hK3 (by simp)).mono fun e w' hg => by
          obtain ⟨a4, n4, c4, h0, g1, g2, g3, _, g5, _⟩ := hg
          have hfl : ([⟨0, 0, (i : Int), 0, (ad : Int), a2, 0, c2, (i : Int), []⟩] : List HV).filter (pGive (ad : Int)) = [⟨0, 0, (i : Int), 0, (ad : Int), a2, 0, c2, (i : Int), []⟩] := by
            rw [List.filter_cons_of_pos (by unfold pGive; exact beq_self_eq_true _), List.filter_nil]
          have hfn : (([⟨0, 0, (i : Int), 0, (ad : Int), a2, 0, c2, (i : Int), []⟩] : List HV).filter fun x => !pGive (ad : Int) x) = [] := by
            rw [List.filter_cons_of_neg (by unfold pGive; rw [beq_self_eq_true]; decide), List.filter_nil]
          rw [hfl] at g1 g2
          rw [hfn] at g3
          have g1 : n4 = 1 := g1
          subst g1
          obtain ⟨b, hab⟩ : ∃ b, a4 = some ⟨b, 0, none⟩ := by
            rcases g2.2 with ⟨h1, h2⟩ | ⟨g, cap, cur, h1, _⟩
            · cases h2
            · simp at h1; exact ⟨g, h1.1⟩
          subst hab
          obtain ⟨_, _, hc2, _⟩ := g2.cells (j := 0) (Nat.zero_lt_one)
          exact ⟨b, c4, h0, hc2, g3, g5⟩)
      have HL2 := hide l1
      have HKY2 := hide (show ∀ y ∈ L2, ∃ j, j < i + 1 ∧ y.1 = ((aN fi s j : Nat) : Int) from fun y hy => by
        rcases l3 y hy with h | ⟨z, hz, h⟩
        · exact ⟨i, Nat.lt_succ_self _, by rw [h, HAD.out]⟩
        · obtain ⟨j, hj, e⟩ := HKY.out z hz
          exact ⟨j, by omega, by rw [h, e]⟩)
      have HFN := hide (show fnd L2 (ad : Int) (i : Int) = some ⟨2, b1, (i : Int) / 256, 0, 0, 0, laterI (i : Int)⟩ by
        unfold fnd
        rw [l2]
        exact if_neg (by show ¬ laterI (i : Int) ≤ (i : Int); unfold laterI; omega))
      have HKK := hide hK3
      clear hno hasc l1 l2 l3 l4 hK3
      go_wp2_with fail
      refine HLE.out.mono ?_
      rintro e w4 ⟨b, c4, rfl, hc2, g3, g5⟩
      have HC4 := hide g3
      have HB4 := hide g5
      have HFF := hide (find2_any w1.heap.size c L2 [] (ad : Int) (i : Int) w4 g3)
      rw [HFN.out] at HFF
      unfold MV at HFF
      clear g3 g5 HLE
      go_wp2_with fail
      refine HFF.out.mono ?_
      rintro e w5 ⟨rfl, b5⟩
      have HC5 := hide (HC4.out.below b5)
      have HB5 := hide b5
      have hm1 : ∀ W, Sem.run Try.prog (Op.equalIn 10000 23 (.agg #[.int .u8 2, .int .u8 b1, .int .u8 ((i : Int) / 256), .int .u8 0, .int .u8 0, .int .u8 0]) (.agg #[.int .u8 2, .int .u8 b1, .int .u8 ((i : Int) / 256), .int .u8 0, .int .u8 0, .int .u8 0])) W = .ok true W := fun W => mac_self _ _ _ _ _ _ W
      clear b5 HFF hc2
      go_wp2_with fail
      go_roundg (m + 1 - (i + 1))
      case measure => omega
      case rel =>
        have hal := (Below.refl w5.heap.size w5).alloc (Nat.le_refl _) (.cells #[.int .u8 2, .int .u8 b1, .int .u8 ((i : Int) / 256), .int .u8 0, .int .u8 0, .int .u8 0] 23)
        have hb6 := ((HB3.out.trans HB4.out).trans (HB5.out.mono (Nat.le_trans HKK.out HB4.out.size))).trans (hal.mono (Nat.le_trans (Nat.le_trans HKK.out HB4.out.size) HB5.out.size))
        exact ⟨i + 1, L2, by go_num, by omega, Nat.le_refl _, hide (HC5.out.below hal), HL2, HKY2, hide (HB.out.trans (hb6.mono HB1.out.size)), hide (Nat.le_trans HKS.out hb6.size)⟩
    · have hltz : ¬ (i : Int) < 1 + (m : Int) := by omega
      have hie : i = m + 1 := by omega
      have HLE := hide (len2_any w1.heap.size c L [] wr HC.out)
      obtain ⟨ll, hll⟩ : ∃ ll, L.length = ll := ⟨_, rfl⟩
      rw [hll] at HLE
      have hl2 : ll = min (m + 1) 256 := by rw [← hll, HL.out, hie]
      by_cases h6 : m + 1 ≤ 256
      · have hd : (ll : Int) = 1 + (m : Int) := by omega
        have hmin : min (1 + (m : Int)) 256 = 1 + (m : Int) := by omega
        rw [hd] at HLE
        clear hll hl2 hie hd h6
        go_wp2_with fail
        refine HLE.out.mono ?_
        rintro e w6 ⟨rfl, b6⟩
        have HB6 := hide (HB.out.trans (b6.mono HB.out.size))
        clear b6 HLE
        go_wp2_with fail
        go_ret
        exact ⟨rfl, HB6.out⟩
      · have hd : (ll : Int) = 256 := by omega
        have hmin : min (1 + (m : Int)) 256 = 256 := by omega
        rw [hd] at HLE
        clear hll hl2 hie hd
        go_wp2_with fail
        refine HLE.out.mono ?_
        rintro e w6 ⟨rfl, b6⟩
        have HB6 := hide (HB.out.trans (b6.mono HB.out.size))
        clear b6 HLE
        go_wp2_with fail
        go_ret
        exact ⟨rfl, HB6.out⟩
end Go.Proofs.Ytbibobjkclgogaa
