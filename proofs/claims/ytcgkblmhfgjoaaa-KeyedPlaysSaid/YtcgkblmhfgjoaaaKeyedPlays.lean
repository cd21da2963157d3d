/- The law that every call on a table answers as the document says, walked. -/
import Derived.Test.YtcgkblmhfgjoaaaKP8
namespace Go.Proofs.Ytcgkblmhfgjoaaa
open Go.RowKit Go.Deep
set_option linter.unusedVariables false
set_option linter.unusedSimpArgs false
set_option maxRecDepth 100000
set_option maxHeartbeats 800000 in
theorem kplays_long (w : World) (a : Option Addr) (ops : List Op3) (n cap : Nat) (most : Int) (hO : OpsAt w a ops) (hl : ops.length = n) (hn : n ≤ 9223372036854775807) (h : 200 < n) :
    Calls Try.prog 3 #[.int .i64 most, .slice a n cap] w fun e w' => e = .returned (.bool true) ∧ Below w.heap.size w w' := by
  clear hO hl
  go_enter Try.func3, Try.ntmps3
  go_wp2_with fail
  refine (speaks6_any _).mono ?_
  rintro e w1 ⟨rfl, b1⟩
  go_wp2
  go_ret
  exact ⟨rfl, b1⟩
set_option maxHeartbeats 4000000 in
theorem kplays_main (w : World) (a : Option Addr) (ops : List Op3) (n cap : Nat) (most : Int) (hO : OpsAt w a ops) (hl : ops.length = n) (hn : n ≤ 9223372036854775807) (h : n ≤ 200) :
    Calls Try.prog 3 #[.int .i64 most, .slice a n cap] w fun e w' => e = .returned (.bool true) ∧ Below w.heap.size w w' := by
  obtain ⟨m, hm⟩ : ∃ m : Nat, (if most < 0 then 0 else most) = (m : Int) := by
    split
    · exact ⟨0, rfl⟩
    · exact Int.eq_ofNat_of_zero_le (by omega)
  have HO := hide hO
  have HL := hide hl
  have HM := hide hm
  clear hO hl hn hm
  go_enter Try.func3, Try.ntmps3
  go_wp2_with fail
  refine (speaks6_any _).mono ?_
  rintro e w1 ⟨rfl, b1⟩
  have HB1 := hide b1
  have HN := hide (newI most (.func (.func 10) #[] #[]) id w1 o_ord)
  rw [HM.out] at HN
  clear b1
  go_wp2_with fail
  refine HN.out.mono ?_
  rintro e w2 ⟨rfl, h2, b2⟩
  obtain ⟨t, ht⟩ : ∃ t, w1.heap.size = t := ⟨_, rfl⟩
  rw [ht] at h2
  try rw [ht]
  have hwt : w.heap.size ≤ t := by rw [← ht]; exact HB1.out.size
  have HB2 := hide (HB1.out.trans (b2.mono HB1.out.size))
  have htl := h2.lt
  have HT2 := hide h2
  have HR := hide (newR_any most w2)
  rw [HM.out] at HR
  clear HN h2 b2 ht HB1
  go_wp2_with fail
  refine HR.out.mono ?_
  rintro e w3 ⟨rfl, h3, b3, s3⟩
  obtain ⟨p, hp⟩ : ∃ p, w2.heap.size = p := ⟨_, rfl⟩
  rw [hp] at h3 htl
  try rw [hp]
  have HS := hide (show SP w t p m 0 [] w3 from ⟨HT2.out.below b3 (Nat.le_refl _), by simp, by simp, ⟨[], [], none, 0, none, 0, h3, fun a b h => (by cases h), Lk.nil⟩, HB2.out.trans (b3.mono HB2.out.size), hwt, htl⟩)
  clear HR h3 b3 s3 hp HB2 HT2
  go_wp2_with fail
  go_loopw [25] (fun i wz => ∃ (j : Nat) (L : List KV), j ≤ n ∧ i = .int .i64 j ∧ Hid (SP w t p m j L wz)) (fun i _ => n - (intOf i).toNat)
  case atStart => exact ⟨0, [], Nat.zero_le _, rfl, HS⟩
  case round =>
    clear HS
    obtain ⟨j, L, hj, rfl, HS⟩ := hrel
    by_cases hlt : j < n
    · obtain ⟨o, ho⟩ : ∃ o, ops[j]? = some o := ⟨ops[j]'(by rw [HL.out]; exact hlt), List.getElem?_eq_getElem _⟩
      obtain ⟨b, off, rfl, hbl, hcell⟩ := HO.out (by intro e; subst e; simp at ho)
      obtain ⟨p0, p1, p2⟩ := hcell j o ho
      have c0 := (HS.out.below.cell (p := ⟨b, off + j * 3, none⟩) hbl).trans p0
      have c1 := (HS.out.below.cell (p := ⟨b, off + j * 3 + 1, none⟩) hbl).trans p1
      have c2 := (HS.out.below.cell (p := ⟨b, off + j * 3 + 2, none⟩) hbl).trans p2
      clear hcell p0 p1 p2 ho
      obtain ⟨o0, o1, o2⟩ := o
      simp only at c0 c1 c2
      obtain ⟨q, hq⟩ : ∃ q, bits .and .i64 o0 3 = q := ⟨_, rfl⟩
      by_cases hz : q = 0
      · have hd : (q == 0) = true := by simpa using hz
        clear hz
        go_wp2_with fail
        obtain ⟨B, w4, hB, hw4, HC, HST, hBt, hBp⟩ : ∃ B wt, wr.heap.size = B ∧ wr.alloc (.cells #[.int .i64 o0, .int .i64 o1, .int .i64 o2] 30) = wt ∧ Hid (wt.heap[B]? = some (.cells #[.int .i64 o0, .int .i64 o1, .int .i64 o2] 30 (0, 0))) ∧ Hid (SP w t p m j L wt.drew) ∧ B ≠ t ∧ B ≠ p := by
          have hb := (Below.refl wr.heap.size wr).alloc (Nat.le_refl _) (.cells #[.int .i64 o0, .int .i64 o1, .int .i64 o2] 30)
          have h1 := HS.out.pl
          have h2 := HS.out.l1
          exact ⟨_, _, rfl, rfl, hide (heap_alloc_new _ _), hide (HS.out.below' hb.drew), by omega, by omega⟩
        try rw [hw4]
        try rw [hB]
        clear hw4 hB c0 c1 c2 HS
        obtain ⟨k0, k1, k2, kf⟩ := three_cells HC.out
        have HPA := hide (DropL HST.out.tab o_ord o1 (by have := HST.out.len; omega))
        have hlen' : (delL id o1 L).length ≤ j + 1 ∧ (delL id o1 L).length ≤ m := by have := del_le (τ := id) (k := o1) L; have := HST.out.len; have := HST.out.cap; omega
        obtain ⟨c, hc⟩ : ∃ c, hasL id o1 L = c := ⟨_, rfl⟩
        obtain ⟨L', hL'⟩ : ∃ L', delL id o1 L = L' := ⟨_, rfl⟩
        have HRF := hide (fun (w5 : World) ks vs ka kc va vc (h : RT w5 (p + 1) p (m : Int) ks vs ka kc va vc) (hap : Apart ka va) (hL : Lk L ks vs) (hb : p + 1 ≤ w5.heap.size) => dropR_all w5 (p + 1) p m L ks vs ka kc va vc o1 h hap hL (by have := HST.out.len; omega) hb)
        rw [hc, hL'] at HPA HRF
        rw [hL'] at hlen'
        clear hc hL'
        go_region_held3 (fun w' => w'.cell? ⟨B, 1, none⟩ = some (.int .i64 o1)) (go_keep) (first
          | (go_at_call 12; (with_reducible refine HPA.out.mono ?_); rintro e w5 ⟨rfl, h5, g5⟩;
              have HX5 := hide (gb_block g5 (show w4.drew.heap[B]? = _ from HC.out) hBt);
              have m1 : w5.cell? ⟨B, 1, none⟩ = some (.int .i64 o1) := (three_cells HX5.out).2.1;
              obtain ⟨ks, vs, ka, kc, va, vc, r1, r2, r3⟩ := HST.out.ref;
              have HRT := hide (HRF.out w5 ks vs ka kc va vc (r1.grown g5 HST.out.l1) r2 r3 (Nat.le_trans HST.out.pl g5.size));
              have H5 := hide h5; have HG5 := hide g5;
              clear h5 g5 r1 r2 r3)
          | (go_at_call 13; (with_reducible refine HRT.out.mono ?_); rintro e w6 ⟨rfl, fr, hr⟩;
              have HX6 := hide (fr.block B _ HX5.out hBp (.inr (fun cs fz e => by cases e)));
              have n1 : w6.cell? ⟨B, 1, none⟩ = some (.int .i64 o1) := (three_cells HX6.out).2.1;
              have HS6 := hide (HST.out.step H5.out HG5.out fr hr hlen'.1 hlen'.2);
              clear fr hr)
          | fail)
        all_goals
          rcases HS6.out.look (by have := HS6.out.len; omega) o1 with ⟨l1, l2, l3⟩ | ⟨i, nn, vg, vo, vc, v, l0, l00, l1, l2, l3, l4, l5⟩
          · have HG := hide (GetD HS6.out.tab o_ord o1)
            rw [l1, l2] at HG
            have HAT := hide l3
            have HSM := hide (fun (q : Nat) => (HS6.out.below' (bdrewN (Below.refl w6.heap.size w6) q)).same (by have := HS6.out.len; omega))
            clear l1 l2 l3
            go_wp2_with fail
            refine HG.out.mono ?_
            rintro e w7 ⟨rfl, q, rfl⟩
            go_wp2_with fail
            refine (HAT.out q).mono ?_
            rintro e w8 ⟨rfl, rfl⟩
            go_wp2_with fail
            refine (HSM.out q).mono ?_
            rintro e w9 ⟨rfl, b9⟩
            have HS9 := hide ((HS6.out.below' (bdrewN (Below.refl w6.heap.size w6) q)).below' b9)
            clear b9
            go_wp2_with fail
            go_roundw
            case rel => exact ⟨j + 1, L', by omega, by go_num, HS9⟩
            case measure => simp [intOf]; omega
          · have HG := hide (GetD HS6.out.tab o_ord o1)
            rw [l1, l2] at HG
            have HAT := hide l5
            have HSM := hide (fun (q : Nat) => (HS6.out.below' (bdrewN (Below.refl w6.heap.size w6) q)).same (by have := HS6.out.len; omega))
            clear l1 l2 l5
            have i0 : (0 : Int) ≤ (i : Int) := by omega
            have i1 : (i : Int) < (nn : Int) := by omega
            go_wp2_with fail
            refine HG.out.mono ?_
            rintro e w7 ⟨rfl, q, rfl⟩
            go_wp2_with fail
            refine (HAT.out q).mono ?_
            rintro e w8 ⟨rfl, rfl⟩
            go_wp2_with fail
            refine (HSM.out q).mono ?_
            rintro e w9 ⟨rfl, b9⟩
            have HS9 := hide ((HS6.out.below' (bdrewN (Below.refl w6.heap.size w6) q)).below' b9)
            clear b9
            go_wp2_with fail
            go_roundw
            case rel => exact ⟨j + 1, L', by omega, by go_num, HS9⟩
            case measure => simp [intOf]; omega
      · have hd : (q == 0) = false := by simpa using hz
        clear hz
        go_wp2_with fail
        obtain ⟨B, w4, hB, hw4, HC, HST, hBt, hBp⟩ : ∃ B wt, wr.heap.size = B ∧ wr.alloc (.cells #[.int .i64 o0, .int .i64 o1, .int .i64 o2] 30) = wt ∧ Hid (wt.heap[B]? = some (.cells #[.int .i64 o0, .int .i64 o1, .int .i64 o2] 30 (0, 0))) ∧ Hid (SP w t p m j L wt.drew) ∧ B ≠ t ∧ B ≠ p := by
          have hb := (Below.refl wr.heap.size wr).alloc (Nat.le_refl _) (.cells #[.int .i64 o0, .int .i64 o1, .int .i64 o2] 30)
          have h1 := HS.out.pl
          have h2 := HS.out.l1
          exact ⟨_, _, rfl, rfl, hide (heap_alloc_new _ _), hide (HS.out.below' hb.drew), by omega, by omega⟩
        try rw [hw4]
        try rw [hB]
        clear hw4 hB c0 c1 c2 HS
        obtain ⟨k0, k1, k2, kf⟩ := three_cells HC.out
        have HPA := hide (PutC (m := m) HST.out.tab o_ord o1 o2 (by have := HST.out.len; omega))
        have hlen' : (putC id m o1 o2 L).2.length ≤ j + 1 ∧ (putC id m o1 o2 L).2.length ≤ m := by
          refine ⟨?_, putC_len HST.out.tab.asc HST.out.cap⟩
          unfold putC
          split
          · show (insL id o1 o2 L).length ≤ j + 1
            have := ins_le (τ := id) (k := o1) (v := o2) L; have := HST.out.len; omega
          · show L.length ≤ j + 1
            have := HST.out.len; omega
        obtain ⟨c, hc⟩ : ∃ c, (putC id m o1 o2 L).1 = c := ⟨_, rfl⟩
        obtain ⟨L', hL'⟩ : ∃ L', (putC id m o1 o2 L).2 = L' := ⟨_, rfl⟩
        have HRF := hide (fun (w5 : World) ks vs ka kc va vc (h : RT w5 (p + 1) p (m : Int) ks vs ka kc va vc) (hap : Apart ka va) (hL : Lk L ks vs) (hb : p + 1 ≤ w5.heap.size) => putR_all w5 (p + 1) p m L ks vs ka kc va vc o1 o2 h hap hL HST.out.cap (by have := HST.out.len; omega) hb)
        rw [hc, hL'] at HPA HRF
        rw [hL'] at hlen'
        clear hc hL'
        go_region_held3 (fun w' => w'.cell? ⟨B, 1, none⟩ = some (.int .i64 o1) ∧ w'.cell? ⟨B, 2, none⟩ = some (.int .i64 o2)) (go_keep) (first
          | (go_at_call 14; (with_reducible refine HPA.out.mono ?_); rintro e w5 ⟨rfl, h5, g5⟩;
              have HX5 := hide (gb_block g5 (show w4.drew.heap[B]? = _ from HC.out) hBt);
              have m1 : w5.cell? ⟨B, 1, none⟩ = some (.int .i64 o1) := (three_cells HX5.out).2.1; have m2 : w5.cell? ⟨B, 2, none⟩ = some (.int .i64 o2) := (three_cells HX5.out).2.2.1;
              obtain ⟨ks, vs, ka, kc, va, vc, r1, r2, r3⟩ := HST.out.ref;
              have HRT := hide (HRF.out w5 ks vs ka kc va vc (r1.grown g5 HST.out.l1) r2 r3 (Nat.le_trans HST.out.pl g5.size));
              have H5 := hide h5; have HG5 := hide g5;
              clear h5 g5 r1 r2 r3)
          | (go_at_call 15; (with_reducible refine HRT.out.mono ?_); rintro e w6 ⟨rfl, fr, hr⟩;
              have HX6 := hide (fr.block B _ HX5.out hBp (.inr (fun cs fz e => by cases e)));
              have n1 : w6.cell? ⟨B, 1, none⟩ = some (.int .i64 o1) := (three_cells HX6.out).2.1; have n2 : w6.cell? ⟨B, 2, none⟩ = some (.int .i64 o2) := (three_cells HX6.out).2.2.1;
              have HS6 := hide (HST.out.step H5.out HG5.out fr hr hlen'.1 hlen'.2);
              clear fr hr)
          | fail)
        all_goals
          rcases HS6.out.look (by have := HS6.out.len; omega) o1 with ⟨l1, l2, l3⟩ | ⟨i, nn, vg, vo, vc, v, l0, l00, l1, l2, l3, l4, l5⟩
          · have HG := hide (GetD HS6.out.tab o_ord o1)
            rw [l1, l2] at HG
            have HAT := hide l3
            have HSM := hide (fun (q : Nat) => (HS6.out.below' (bdrewN (Below.refl w6.heap.size w6) q)).same (by have := HS6.out.len; omega))
            clear l1 l2 l3
            go_wp2_with fail
            refine HG.out.mono ?_
            rintro e w7 ⟨rfl, q, rfl⟩
            go_wp2_with fail
            refine (HAT.out q).mono ?_
            rintro e w8 ⟨rfl, rfl⟩
            go_wp2_with fail
            refine (HSM.out q).mono ?_
            rintro e w9 ⟨rfl, b9⟩
            have HS9 := hide ((HS6.out.below' (bdrewN (Below.refl w6.heap.size w6) q)).below' b9)
            clear b9
            go_wp2_with fail
            go_roundw
            case rel => exact ⟨j + 1, L', by omega, by go_num, HS9⟩
            case measure => simp [intOf]; omega
          · have HG := hide (GetD HS6.out.tab o_ord o1)
            rw [l1, l2] at HG
            have HAT := hide l5
            have HSM := hide (fun (q : Nat) => (HS6.out.below' (bdrewN (Below.refl w6.heap.size w6) q)).same (by have := HS6.out.len; omega))
            clear l1 l2 l5
            have i0 : (0 : Int) ≤ (i : Int) := by omega
            have i1 : (i : Int) < (nn : Int) := by omega
            go_wp2_with fail
            refine HG.out.mono ?_
            rintro e w7 ⟨rfl, q, rfl⟩
            go_wp2_with fail
            refine (HAT.out q).mono ?_
            rintro e w8 ⟨rfl, rfl⟩
            go_wp2_with fail
            refine (HSM.out q).mono ?_
            rintro e w9 ⟨rfl, b9⟩
            have HS9 := hide ((HS6.out.below' (bdrewN (Below.refl w6.heap.size w6) q)).below' b9)
            clear b9
            go_wp2_with fail
            go_roundw
            case rel => exact ⟨j + 1, L', by omega, by go_num, HS9⟩
            case measure => simp [intOf]; omega
    · obtain ⟨wb, rfl⟩ : ∃ wb, wb = wr := ⟨_, rfl⟩
      have HSM := hide (HS.out.same (by have := HS.out.len; omega))
      go_wp2_with fail
      refine HSM.out.mono ?_
      rintro e w5 ⟨rfl, b5⟩
      have HE := hide (HS.out.below.trans (b5.mono HS.out.below.size))
      clear b5
      go_wp2_with fail
      go_ret
      exact ⟨rfl, HE.out⟩
theorem keyedPlays_any (w : World) (a : Option Addr) (ops : List Op3) (n cap : Nat) (most : Int) (hO : OpsAt w a ops) (hl : ops.length = n) (hn : n ≤ 9223372036854775807) :
    Calls Try.prog 3 #[.int .i64 most, .slice a n cap] w fun e w' => e = .returned (.bool true) ∧ Below w.heap.size w w' := by
  by_cases h : 200 < n
  · exact kplays_long w a ops n cap most hO hl hn h
  · exact kplays_main w a ops n cap most hO hl hn (by omega)
end Go.Proofs.Ytcgkblmhfgjoaaa
