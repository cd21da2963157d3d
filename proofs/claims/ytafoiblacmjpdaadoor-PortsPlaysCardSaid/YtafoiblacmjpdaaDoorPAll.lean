/- Ports: PortsAll. -/
import Derived.Test.YtafoiblacmjpdaaDoorPRow
namespace Go.Proofs.YtafoiblacmjpdaaDoor
open Go.RowKit
set_option linter.unusedVariables false
set_option linter.unusedSimpArgs false
set_option maxRecDepth 100000
def Yes (w : World) (e : Ending) (w' : World) : Prop := e = .returned (.bool true) ∧ Below w.heap.size w w'
theorem all_of_cnt (t : Nat → Bool) (C : Nat) (hC : C = 64512) (h : cnt t C = C) : NoneFrom t 0 := by
  intro q _ hq
  cases hb : t q with
  | true => rfl
  | false => have := cnt_some t C q (by omega) hb; omega
/-- The loop's state: the set, and what was seen. -/
def AllSt (w wz : World) (B g N C j : Nat) : Prop := ∃ t s : Nat → Bool, PAt wz B t (j : Int) ∧ SeenAt wz g N s ∧ (∀ q, q < C → s (1024 + q) = t q) ∧ cnt t C = j ∧ Below w.heap.size w wz ∧ PtT wz
theorem put_shift (s t : Nat → Bool) (C p : Nat) (h : ∀ q, q < C → s (1024 + q) = t q) (v : Bool) : ∀ q, q < C → put s (1024 + p) v (1024 + q) = put t p v q := by
  intro q hq
  unfold put
  by_cases e : q = p
  · rw [if_pos (by omega), if_pos e]
  · rw [if_neg (by omega), if_neg e]; exact h q hq
set_option maxHeartbeats 8000000 in
theorem portsAll_any (w : World) (dr bk : Nat) (hd : dr < 18446744073709551616) (hb : bk ≤ 65535) (hT : PtT w) :
    Calls Tryd.prog 4 #[.int .u64 (dr : Int), .int .u16 (bk : Int)] w (Yes w) := by
  have HS := hide (speaks7_any w hT)
  have HT := hide hT
  have H0 := hide (show 0 < w.heap.size from World.block_lt_of_cell? w ⟨0, 0, none⟩ (hT 0 (by omega)))
  have HD := hide hd
  obtain ⟨N, hN⟩ : ∃ N : Nat, N = 65536 := ⟨_, rfl⟩
  obtain ⟨C, hC⟩ : ∃ C : Nat, C = 64512 := ⟨_, rfl⟩
  obtain ⟨Z, hmk, hseen⟩ := make_seen N hN
  have HSN := hide hseen
  have HN := hide hN
  have HC := hide hC
  clear hT hd hseen hN hC
  go_enter Tryd.func4, Tryd.ntmps4
  go_wp2_with fail
  refine HS.out.mono ?_
  rintro e w1 ⟨rfl, b1⟩
  have HB1 := hide b1
  clear b1 HS
  go_wp2_with fail
  refine (new_any w1).mono ?_
  rintro e w2 ⟨B, rfl, hB, h2, b2⟩
  have HBw := hide (show w.heap.size ≤ B by have := HB1.out.size; omega)
  have HB2 := hide (HB1.out.trans (b2.mono HB1.out.size))
  have HP2 := hide h2
  clear hB h2 b2 HB1
  go_upto_region 7 with (fail)
  obtain ⟨g, hg⟩ : ∃ g, w2.heap.size = g := ⟨_, rfl⟩
  obtain ⟨w3, hw3⟩ : ∃ V, w2.alloc (.cells Z 4) = V := ⟨_, rfl⟩
  have hb3 : Below w2.heap.size w2 w3 := by rw [← hw3]; exact (Below.refl _ _).alloc (Nat.le_refl _) _
  have hs3 := HSN.out w2
  rw [hw3] at hs3 ⊢
  rw [hg] at hs3 ⊢
  have HBg := hide (show B < g by have := HP2.out.lt; omega)
  have HX := hide (show AllSt w w3 B g N C 0 from ⟨none_, none_, HP2.out.below hb3 (Nat.le_refl _), hs3, fun q hq => rfl, by
    have : ∀ k, cnt none_ k = 0 := fun k => by
      induction k with
      | zero => rfl
      | succ k ih => unfold cnt; rw [ih]; rfl
    exact this C, HB2.out.trans (hb3.mono HB2.out.size), HT.out.below (HB2.out.trans (hb3.mono HB2.out.size)) (Nat.le_refl _)⟩)
  clear hg hw3 hb3 hs3 hmk HSN HP2 HB2 HT
  go_wp2_with fail
  go_loopw [7] (fun i wz => ∃ j : Nat, j ≤ C ∧ i = .int .u64 j ∧ Hid (AllSt w wz B g N C j)) (fun i _ => C - (intOf i).toNat)
  case atStart => exact ⟨0, Nat.zero_le _, rfl, HX⟩
  case round =>
    clear HX
    obtain ⟨j, hj, rfl, HX⟩ := hrel
    by_cases hlt : j < C
    · have d1 : decide ((j : Int) < 64512) = true := by have := HC.out; simp; omega
      have HLT := hide hlt
      have hj0 : (0 : Int) ≤ (j : Int) := by omega
      clear hj hlt
      obtain ⟨D, hD⟩ : ∃ D : Nat, IntKind.u64.wrap ((dr : Int) * (j : Int)) = (D : Int) := ⟨((dr : Int) * (j : Int) % 18446744073709551616).toNat, by rw [IntKind.wrap_u64]; omega⟩
      obtain ⟨t, s, hp, hs, hst, hc, hbw, hpt⟩ := HX.out
      have HPK := hide (pick_any B D t (j : Int) hj0 (by have := HC.out; have := HLT.out; omega) wr hp hpt)
      have HI := hide (And.intro hs (And.intro hst (And.intro hc (And.intro hbw hpt))))
      have HNN := hide (show ¬ NoneFrom t 0 from fun hn => by
        have h1 := cnt_all t C (fun q hq => hn q (by omega) (by have := HC.out; omega))
        have h3 := HLT.out
        omega)
      clear hp hs hst hc hbw hpt HX
      go_wp2_with fail
      (with_reducible refine HPK.out.mono ?_)
      clear hD
      rintro e w4 (⟨p, hpi, rfl, h4, o4⟩ | ⟨hn, _⟩)
      case inr => exact absurd hn HNN.out
      have hpl := hpi.lt
      obtain ⟨P, hPe⟩ : ∃ P, 1024 + p = P := ⟨_, rfl⟩
      rw [hPe]
      have hne : g ≠ B := by have := HBg.out; omega
      have hs4 := HI.out.1.only o4 hne
      obtain ⟨sc, sf⟩ := hs4.at P (by have := HN.out; omega)
      have hsP : s P = false := by rw [← hPe, HI.out.2.1 p (by have := HC.out; omega)]; exact hpl.2
      rw [hsP] at sc
      have HS4 := hide (show AllSt w (w4.setCell ⟨g, P, none⟩ (.bool true)) B g N C (j + 1) from ⟨put t p true, put s P true, (show PAt _ B (put t p true) ((j + 1 : Nat) : Int) from h4.only ((OnlyB.refl g w4).setCell P _) (Ne.symm hne)), hs4.put P true, by rw [← hPe]; exact put_shift s t C p HI.out.2.1 true, by
        rw [cnt_put_true t C p (by have := HC.out; omega) hpl.2, HI.out.2.2.1], (HI.out.2.2.2.1.trans (o4.below HBw.out HI.out.2.2.2.1.size)).setCell (p := ⟨g, P, none⟩) (show w.heap.size ≤ g by have := HBw.out; have := HBg.out; omega) _,
        (HI.out.2.2.2.2.only o4 (by have := H0.out; have := HBw.out; omega)).only ((OnlyB.refl g w4).setCell P (.bool true)) (by have := H0.out; have := HBw.out; have := HBg.out; omega)⟩)
      have p1 : decide ((P : Int) < 1024) = false := by simp; omega
      have p2 : (P : Int) < (N : Int) := by have := HN.out; omega
      have p3 : (0 : Int) ≤ (P : Int) := by omega
      have HJC := hide (show j + 1 ≤ C by have := HLT.out; omega)
      have hjb : (j : Int) < 64512 := by have := HLT.out; have := HC.out; omega
      clear hpi h4 o4 hpl hPe hne hs4 hsP HPK HI HNN
      go_wp2_with fail
      go_roundw
      case rel => exact ⟨j + 1, HJC.out, by go_num, HS4⟩
      case measure => have := HLT.out; simp [intOf]; omega
    · have hjC : j = C := by omega
      have d1 : decide ((j : Int) < 64512) = false := by have := HC.out; simp; omega
      have d2 : ((j : Int) != 64512) = false := by have := HC.out; simp; omega
      have hj0 : (0 : Int) ≤ (j : Int) := by omega
      have hj1 : (j : Int) ≤ 1000000 := by have := HC.out; omega
      have hj2 : (1 : Int) ≤ (j : Int) := by have := HC.out; omega
      obtain ⟨t, s, hp, hs, hst, hc, hbw, hpt⟩ := HX.out
      have HAL := hide (all_of_cnt t C HC.out (by rw [hc]; exact hjC))
      have HPK := hide (pick_any B dr t (j : Int) hj0 hj1 wr hp hpt)
      have HLN := hide (len_any B t (j : Int) wr hp)
      have HBW := hide hbw
      have HPT := hide hpt
      have HPP := hide hp
      have hbn : B ≠ 0 := by have := H0.out; have := HBw.out; omega
      have HBN := hide hbn
      have HJ := hide hjC
      clear hp hs hst hc hbw hpt HX hj hlt hjC hbn
      go_wp2_with fail
      (with_reducible refine HPK.out.mono ?_)
      rintro e w4 (⟨p, hpi, _⟩ | ⟨hn, rfl, rfl⟩)
      case inl =>
        exfalso
        have h1 := hpi.lt
        have h2 := HAL.out p (by omega) h1.1
        rw [h1.2] at h2; cases h2
      clear hn HPK
      go_wp2_with fail
      refine HLN.out.mono ?_
      rintro e w5 ⟨rfl, rfl⟩
      by_cases hlow : bk < 1024
      · have HGV := hide (give_low B bk t (j : Int) hlow _ HPP.out)
        have d3 : decide ((1024 : Int) ≤ (bk : Int)) = false := by simp; omega
        go_wp2_with fail
        refine HGV.out.mono ?_
        rintro e w6 ⟨rfl, h6, o6⟩
        have HPK := hide (pick_any B dr t (j : Int) hj0 hj1 w6 h6 (HPT.out.only o6 HBN.out))
        have HB6 := hide (HBW.out.trans (o6.below HBw.out HBW.out.size))
        clear h6 o6
        go_wp2_with fail
        (with_reducible refine HPK.out.mono ?_)
        rintro e w7 (⟨p, hpi, _⟩ | ⟨hn, rfl, rfl⟩)
        case inl =>
          exfalso
          have h1 := hpi.lt
          have h2 := HAL.out p (by omega) h1.1
          rw [h1.2] at h2; cases h2
        go_wp2_with fail
        go_ret
        exact ⟨rfl, HB6.out⟩
      · obtain ⟨b, hb1⟩ : ∃ b, bk - 1024 = b := ⟨_, rfl⟩
        have hb2 : b < 64512 := by omega
        have HGV := hide (give_new B bk b t (j : Int) (by omega) hb hb1 (HAL.out b (by omega) hb2) hj2 hj1 _ HPP.out)
        have d3 : decide ((1024 : Int) ≤ (bk : Int)) = true := by simp; omega
        have HBb := hide (show 1024 + b = bk by omega)
        have HB2 := hide hb2
        clear hlow hb1 hb2
        go_wp2_with fail
        refine HGV.out.mono ?_
        rintro e w6 ⟨rfl, h6, o6⟩
        have HPK := hide (pick_any B dr (put t b false) ((j : Int) - 1) (by omega) (by omega) w6 h6 (HPT.out.only o6 HBN.out))
        have HB6 := hide (HBW.out.trans (o6.below HBw.out HBW.out.size))
        clear h6 o6
        go_wp2_with fail
        (with_reducible refine HPK.out.mono ?_)
        rintro e w7 (⟨p, hpi, rfl, h7, o7⟩ | ⟨hn, _, _⟩)
        case inr =>
          exfalso
          have h2 := hn b (by omega) HB2.out
          simp [put] at h2
        have hpb : p = b := by
          have h1 := hpi.lt
          unfold put at h1
          by_cases e : p = b
          · exact e
          · rw [if_neg e, HAL.out p (by omega) h1.1] at h1; cases h1.2
        have HB7 := hide (HB6.out.trans (o7.below HBw.out HB6.out.size))
        subst hpb
        rw [HBb.out]
        have d4 : ((bk : Int) == (bk : Int)) = true := by simp
        clear hpi h7 o7
        go_wp2_with fail
        go_ret
        exact ⟨rfl, HB7.out⟩
end Go.Proofs.YtafoiblacmjpdaaDoor
