/- The law that what goes through a table ends when it is told so, walked. -/
import Derived.Test.YtacoabdafnnhpaaKS
namespace Go.Proofs.Ytacoabdafnnhpaa
open Go.RowKit Go.Deep
set_option linter.unusedVariables false
set_option linter.unusedSimpArgs false
set_option maxRecDepth 100000
set_option maxHeartbeats 800000 in
theorem kstop_long (w : World) (a : Option Addr) (xs : List Int) (n cap : Nat) (most : Int) (hO : Row .i64 w a xs) (hl : xs.length = n) (hn : n ≤ 9223372036854775807) (h : 200 < n) :
    Calls Try.prog 4 #[.slice a n cap, .int .i64 most] w fun e w' => e = .returned (.bool true) ∧ Below w.heap.size w w' := by
  clear hO hl
  go_enter Try.func4, Try.ntmps4
  go_wp2_with fail
  refine (speaks6_any _).mono ?_
  rintro e w1 ⟨rfl, b1⟩
  have hb := ((Below.refl w.heap.size w).alloc (Nat.le_refl _) (.cells #[.int .i64 most] 3)).trans (b1.mono (by simp))
  go_wp2
  go_ret
  exact ⟨rfl, hb⟩
theorem FR.below {base p : Nat} {w0 w w' : World} (h : FR base p w w') (hb : Below w0.heap.size w0 w) (h1 : w0.heap.size ≤ p) (h2 : p < base) : Below w0.heap.size w0 w' :=
  hb.trans ⟨h.os, h.tape, h.output, h.size, fun i hi => by
    have hlt : i < w.heap.size := Nat.lt_of_lt_of_le hi hb.size
    have := h.block i (w.heap[i]'hlt) (Array.getElem?_eq_getElem hlt) (by omega) (.inl (by omega))
    rw [this, Array.getElem?_eq_getElem hlt]⟩
/-- What stands while the list is put. -/
structure SL (w0 : World) (t p bq bt bm : Nat) (most : Int) (j : Nat) (L : List KV) (wz : World) : Prop where
  tab : Tab wz t 1000 (.func (.func 10) #[] #[]) id L
  len : L.length ≤ j
  ref : ∃ ks vs ka kc va vc, RT wz (p + 1) p 1000 ks vs ka kc va vc ∧ Apart ka va ∧ Lk L ks vs
  ct : wz.heap[bt]? = some (.cells #[.pointer (some ⟨t, 0, none⟩)] 24 (0, 0))
  cm : wz.heap[bm]? = some (.cells #[.pointer (some ⟨p, 0, none⟩)] 27 (0, 0))
  cq : wz.heap[bq]? = some (.cells #[.int .i64 most] 3 (0, 0))
  below : Below w0.heap.size w0 wz
  l0 : w0.heap.size ≤ bq
  l1 : bq < t
  l2 : t < p
  l3 : p < bt
  l4 : p < bm
theorem SL.below' {w0 wz wy : World} {t p bq bt bm j : Nat} {most : Int} {L : List KV} (h : SL w0 t p bq bt bm most j L wz) (hb : Below wz.heap.size wz wy) : SL w0 t p bq bt bm most j L wy := by
  obtain ⟨ks, vs, ka, kc, va, vc, g1, g2, g3⟩ := h.ref
  exact ⟨h.tab.below hb (Nat.le_refl _), h.len, ⟨ks, vs, ka, kc, va, vc, g1.grown (gb_of_below hb (Nat.le_refl _)) h.l2, g2, g3⟩, below_block hb h.ct (Nat.le_refl _), below_block hb h.cm (Nat.le_refl _), below_block hb h.cq (Nat.le_refl _), h.below.trans (hb.mono h.below.size), h.l0, h.l1, h.l2, h.l3, h.l4⟩
set_option maxHeartbeats 3000000 in
theorem kstop_main (w : World) (a : Option Addr) (xs : List Int) (n cap : Nat) (most : Int) (hO : Row .i64 w a xs) (hl : xs.length = n) (hn : n ≤ 9223372036854775807) (h : n ≤ 200) :
    Calls Try.prog 4 #[.slice a n cap, .int .i64 most] w fun e w' => e = .returned (.bool true) ∧ Below w.heap.size w w' := by
  have HO := hide hO
  have HL := hide hl
  clear hO hl hn
  go_enter Try.func4, Try.ntmps4
  go_wp2_with fail
  have hq0 := heap_alloc_new w (.cells #[.int .i64 most] 3)
  have hbq := (Below.refl w.heap.size w).alloc (Nat.le_refl _) (.cells #[.int .i64 most] 3)
  obtain ⟨bq, wq, hB, hw, HQ0, HBQ, hq⟩ : ∃ bq wt, w.heap.size = bq ∧ w.alloc (.cells #[.int .i64 most] 3) = wt ∧ Hid (wt.heap[bq]? = some (.cells #[.int .i64 most] 3 (0, 0))) ∧ Hid (Below w.heap.size w wt) ∧ w.heap.size ≤ bq := ⟨_, _, rfl, rfl, hide hq0, hide hbq, Nat.le_refl _⟩
  try rw [hw]
  try rw [hB]
  have hbqs : bq < wq.heap.size := lt_of_block HQ0.out
  clear hq0 hbq hB hw
  refine (speaks6_any _).mono ?_
  rintro e w1 ⟨rfl, b1⟩
  have HQ1 := hide (below_block b1 HQ0.out (Nat.le_refl _))
  have HB1 := hide (HBQ.out.trans (b1.mono HBQ.out.size))
  have hbq1 : bq < w1.heap.size := lt_of_block HQ1.out
  have HN := hide (newL 1000 (by omega) (.func (.func 10) #[] #[]) id w1 o_ord)
  clear b1 HQ0 HBQ hbqs
  go_wp2_with fail
  refine HN.out.mono ?_
  rintro e w2 ⟨rfl, h2, b2⟩
  obtain ⟨t, ht⟩ : ∃ t, w1.heap.size = t := ⟨_, rfl⟩
  rw [ht] at h2 hbq1
  try rw [ht]
  have HQ2 := hide (below_block b2 HQ1.out (Nat.le_refl _))
  have HB2 := hide (HB1.out.trans (b2.mono HB1.out.size))
  have htl := h2.lt
  have HT2 := hide h2
  have HR := hide (newR_any 1000 w2)
  clear HN h2 b2 ht HB1 HQ1
  go_wp2_with fail
  refine HR.out.mono ?_
  rintro e w3 ⟨rfl, h3, b3, s3⟩
  obtain ⟨p, hp⟩ : ∃ p, w2.heap.size = p := ⟨_, rfl⟩
  rw [hp] at h3 htl s3
  try rw [hp]
  have h3' : RT w3 (p + 1) p 1000 [] [] none 0 none 0 := by simpa using h3
  have HQ3 := hide (below_block b3 HQ2.out (Nat.le_refl _))
  have HB3 := hide (HB2.out.trans (b3.mono HB2.out.size))
  have HT3 := hide (HT2.out.below b3 (Nat.le_refl _))
  have HR3 := hide h3'
  clear HR h3 h3' b3 hp HB2 HQ2 HT2
  go_wp2_with fail
  have ha1 : Below w3.heap.size w3 (w3.alloc (.cells #[.pointer (some ⟨t, 0, none⟩)] 24)) := (Below.refl _ _).alloc (Nat.le_refl _) _
  have ha2 := ha1.alloc ha1.size (.cells #[.pointer (some ⟨p, 0, none⟩)] 27)
  have hc1 := heap_alloc_new w3 (.cells #[.pointer (some ⟨t, 0, none⟩)] 24)
  have hc2 := heap_alloc_new (w3.alloc (.cells #[.pointer (some ⟨t, 0, none⟩)] 24)) (.cells #[.pointer (some ⟨p, 0, none⟩)] 27)
  have hc3 := below_block ((Below.refl _ _).alloc (Nat.le_refl _) (.cells #[.pointer (some ⟨p, 0, none⟩)] 27)) hc1 (Nat.le_refl _)
  have z1 : (w3.alloc (.cells #[.pointer (some ⟨t, 0, none⟩)] 24)).heap.size = p + 1 + 1 := by simp; omega
  rw [z1] at hc2
  rw [s3] at hc3
  have HSL0 : SL w t p bq (p + 1) (p + 1 + 1) most 0 [] ((w3.alloc (.cells #[.pointer (some ⟨t, 0, none⟩)] 24)).alloc (.cells #[.pointer (some ⟨p, 0, none⟩)] 27)) :=
    ⟨HT3.out.below ha2 (Nat.le_refl _), by simp, ⟨[], [], none, 0, none, 0, HR3.out.grown (gb_of_below ha2 (Nat.le_refl _)) htl, fun a b h => (by cases h), Lk.nil⟩, hc3, hc2, below_block ha2 HQ3.out (Nat.le_refl _), HB3.out.trans (ha2.mono HB3.out.size), hq, hbq1, htl, by omega, by omega⟩
  obtain ⟨bt, bm, w5, hbt, hbm, hw5, HS⟩ : ∃ bt bm wt, p + 1 = bt ∧ p + 1 + 1 = bm ∧ (w3.alloc (.cells #[.pointer (some ⟨t, 0, none⟩)] 24)).alloc (.cells #[.pointer (some ⟨p, 0, none⟩)] 27) = wt ∧ Hid (SL w t p bq bt bm most 0 [] wt) := ⟨_, _, _, rfl, rfl, rfl, hide HSL0⟩
  rw [hw5, hbm, hbt]
  clear ha1 ha2 hc1 hc2 hc3 z1 HSL0 hw5 hbt hbm HT3 HQ3 HB3 HR3 s3
  go_loopw [24] (fun i wz => ∃ (j : Nat) (L : List KV), j ≤ n ∧ i = .int .i64 j ∧ Hid (SL w t p bq bt bm most j L wz)) (fun i _ => n - (intOf i).toNat)
  case atStart => exact ⟨0, [], Nat.zero_le _, rfl, HS⟩
  case round =>
    clear HS
    obtain ⟨j, L, hj, rfl, HS⟩ := hrel
    obtain ⟨wa, rfl⟩ : ∃ wa, wa = wr := ⟨_, rfl⟩
    by_cases hlt : j < n
    · obtain ⟨lb, loff, rfl, hlb, hcell⟩ := HO.out.at (i := j) (by rw [HL.out]; exact hlt)
      have c0 := (HS.out.below.cell (p := ⟨lb, loff + j, none⟩) hlb).trans (hcell j (by rw [HL.out]; exact hlt))
      obtain ⟨k, hk⟩ : ∃ k, xs[j]?.getD 0 = k := ⟨_, rfl⟩
      rw [hk] at c0
      obtain ⟨t0, tf⟩ := one_cell HS.out.ct
      have HP := hide (PutC (m := 1000) HS.out.tab o_ord k (j : Int) (by have := HS.out.len; omega))
      clear hcell hk tf
      go_wp2_with fail
      refine HP.out.mono ?_
      rintro e w6 ⟨rfl, h6, g6⟩
      have hs := HS.out
      have hx1 := hs.l1
      have hx2 := hs.l2
      have hx3 := hs.l3
      have hx4 := hs.l4
      have hx0 := hs.l0
      have HCT := hide (gb_block g6 hs.ct (by omega))
      have HCM := hide (gb_block g6 hs.cm (by omega))
      have HCQ := hide (gb_block g6 hs.cq (by omega))
      have HBZ := hide (hs.below.grown g6 hs.below.size (fun j e => by cases e; omega))
      obtain ⟨m0, mf⟩ := one_cell HCM.out
      have H6 := hide h6
      obtain ⟨ks, vs, ka, kc, va, vc, hrt, hap, hlk⟩ := hs.ref
      have hrt6 := hrt.grown g6 hs.l2
      have hpl : p < w6.heap.size := lt_of_block hrt6.tab
      have HPR := hide (putR_any w6 (p + 1) p 1000 L ks vs ka kc va vc k (j : Int) hrt6 hap hlk (by have := hs.len; omega) (by omega) (by omega))
      have hpl2 : (putC id 1000 k (j : Int) L).2.length ≤ j + 1 := by
        unfold putC
        split
        · show (insL id k (j : Int) L).length ≤ j + 1
          have := ins_le (τ := id) (k := k) (v := (j : Int)) L; have := hs.len; omega
        · show L.length ≤ j + 1
          have := hs.len; omega
      have HPT := hide hrt6.tab
      clear HP h6 g6 hs hrt hap hlk hrt6 mf t0 c0
      go_wp2_with fail
      refine HPR.out.mono ?_
      rintro e w7 ⟨rfl, fr, ks', vs', ka', kc', va', vc', r1, r2, r3⟩
      have H7 := hide (show SL w t p bq bt bm most (j + 1) (putC id 1000 k (j : Int) L).2 w7 from
        ⟨fr.tab HPT.out hx2 (by omega) H6.out, hpl2, ⟨ks', vs', ka', kc', va', vc', r1, r2, r3⟩, fr.block _ _ HCT.out (by omega) (.inr (fun cs fz e => by cases e)), fr.block _ _ HCM.out (by omega) (.inr (fun cs fz e => by cases e)), fr.block _ _ HCQ.out (by omega) (.inl (by omega)), fr.below HBZ.out (by omega) (by omega), hx0, hx1, hx2, hx3, hx4⟩)
      clear HPR fr r1 r2 r3 HCT HCM HCQ HBZ HPT H6 m0
      go_wp2_with fail
      go_roundw
      case rel => exact ⟨j + 1, _, by omega, by go_num, H7⟩
      case measure => simp [intOf]; omega
    · obtain ⟨ks, vs, ka, kc, va, vc, hrt, hap, hlk⟩ := HS.out.ref
      have hlen := HS.out.len
      have hS := hlk.rising
      have HK := hide (keysR_any wa p 1000 ks vs ka kc va vc hrt.r (by have := hlk.cnt; omega) (L.map (·.1)) hS hlk.key (by rw [List.length_map]; omega))
      obtain ⟨m0, mf⟩ := one_cell HS.out.cm
      have HLK := hide hlk
      have HRT := hide hrt
      clear hrt hap hlk hS mf
      go_wp2_with fail
      refine HK.out.mono ?_
      rintro e w6 ⟨aa, cc, rfl, hrow, b6⟩
      rw [List.length_map] at hrow
      try rw [List.length_map]
      have HS6 := hide (HS.out.below' b6)
      have HRT6 := hide (HRT.out.grown (gb_of_below b6 (Nat.le_refl _)) HS.out.l2)
      have hbase : p + 1 ≤ wa.heap.size := by have := lt_of_block HS.out.ct; have := HS.out.l3; omega
      have HROW := hide (owns_mono hrow hbase)
      have q1 := heap_alloc_new w6 (.cells #[.slice aa L.length cc] 37)
      have ha1 : Below w6.heap.size w6 (w6.alloc (.cells #[.slice aa L.length cc] 37)) := (Below.refl _ _).alloc (Nat.le_refl _) _
      have ha2 := (Below.refl (w6.alloc (.cells #[.slice aa L.length cc] 37)).heap.size (w6.alloc (.cells #[.slice aa L.length cc] 37))).alloc (Nat.le_refl _) (.cells #[.int .i64 0] 3)
      have q2 := heap_alloc_new (w6.alloc (.cells #[.slice aa L.length cc] 37)) (.cells #[.int .i64 0] 3)
      have ha3 := ha2.alloc ha2.size (.cells #[.bool true] 4)
      have q3 := heap_alloc_new ((w6.alloc (.cells #[.slice aa L.length cc] 37)).alloc (.cells #[.int .i64 0] 3)) (.cells #[.bool true] 4)
      have q4 := below_block ((Below.refl _ _).alloc (Nat.le_refl _) (.cells #[.bool true] 4)) q2 (Nat.le_refl _)
      have s1 : (w6.alloc (.cells #[.slice aa L.length cc] 37)).heap.size = w6.heap.size + 1 := by first | (simp; done) | (simp; omega)
      have s2 : ((w6.alloc (.cells #[.slice aa L.length cc] 37)).alloc (.cells #[.int .i64 0] 3)).heap.size = w6.heap.size + 1 + 1 := by first | (simp; done) | (simp; omega)
      rw [s2] at q3
      rw [s1] at q4
      have hbt6 : bt < w6.heap.size ∧ bm < w6.heap.size ∧ t < bt ∧ t < bm := ⟨lt_of_block HS6.out.ct, lt_of_block HS6.out.cm, by have := HS.out.l2; have := HS.out.l3; omega, by have := HS.out.l2; have := HS.out.l4; omega⟩
      have hSC : SC (w6.alloc (.cells #[.slice aa L.length cc] 37)) t p (p + 1) bt bm w6.heap.size bq most L ks vs ka kc va vc aa cc :=
        ⟨HRT6.out.grown (gb_of_below ha1 (Nat.le_refl _)) HS.out.l2, HLK.out, owns_below HROW.out ha1 (Nat.le_refl _), below_block ha1 HS6.out.ct (Nat.le_refl _), below_block ha1 HS6.out.cm (Nat.le_refl _), q1, below_block ha1 HS6.out.cq (Nat.le_refl _), HS.out.l1, HS.out.l2, ⟨by omega, by omega, by omega⟩, by omega⟩
      have hTb := (HS6.out.tab.below ha1 (Nat.le_refl _)).below ha3 (Nat.le_refl _)
      have hBel := (HS6.out.below.trans (ha1.mono HS6.out.below.size))
      obtain ⟨wp, wo, bw, bn, bo, hwp, hwo, hbw, hbn, hbo, hsz, HSC, HTB, HGB, HN0, HO0, HBL⟩ : ∃ wp wo bw bn bo, w6.alloc (.cells #[.slice aa L.length cc] 37) = wp ∧ (wp.alloc (.cells #[.int .i64 0] 3)).alloc (.cells #[.bool true] 4) = wo ∧ w6.heap.size = bw ∧ w6.heap.size + 1 = bn ∧ w6.heap.size + 1 + 1 = bo ∧ wp.heap.size ≤ bn ∧ Hid (SC wp t p (p + 1) bt bm bw bq most L ks vs ka kc va vc aa cc) ∧ Hid (Tab wo t 1000 (.func (.func 10) #[] #[]) id L) ∧ Hid (Below wp.heap.size wp wo) ∧ Hid (wo.heap[bn]? = some (.cells #[.int .i64 0] 3 (0, 0))) ∧ Hid (wo.heap[bo]? = some (.cells #[.bool true] 4 (0, 0))) ∧ Hid (Below w.heap.size w wp) :=
        ⟨_, _, _, _, _, rfl, rfl, rfl, rfl, rfl, by omega, hide hSC, hide hTb, hide ha3, hide q4, hide q3, hide hBel⟩
      have hnb : bn < bo := by omega
      have HWO := hide (show ((w6.alloc (.cells #[.slice aa L.length cc] 37)).alloc (.cells #[.int .i64 0] 3)).alloc (.cells #[.bool true] 4) = wo by rw [hwp]; exact hwo)
      have HEQ := hide (And.intro hbw (And.intro hbn hbo))
      obtain ⟨tt0, ttf⟩ := one_cell (below_block HGB.out HSC.out.ct (Nat.le_refl _))
      have z0 : (((w6.alloc (.cells #[.slice aa L.length cc] 37)).alloc (.cells #[.int .i64 0] 3)).alloc (.cells #[.bool true] 4)).cell? ⟨bt, 0, none⟩ = some (.pointer (some ⟨t, 0, none⟩)) := by rw [HWO.out]; exact tt0
      have HAL := hide (all_any t wo)
      have hbtw : bt < w6.heap.size := hbt6.1
      clear hwp hwo hbw hbn hbo q1 q2 q3 q4 s1 s2 ha1 ha2 ha3 hSC hTb hBel hrow b6 HROW HRT6 HRT HLK HK hbase hbt6 m0 ttf
      go_wp2_with fail
      rw [HWO.out]
      try rw [HEQ.out.2.2]
      try rw [HEQ.out.2.1]
      try rw [HEQ.out.1]
      clear z0
      refine HAL.out.mono ?_
      rintro e w7 ⟨rfl, hw7⟩
      obtain ⟨bx, hbx⟩ : ∃ bx, wo.heap.size = bx := ⟨_, rfl⟩
      try rw [hbx]
      have hb67 : Below wo.heap.size wo w7 := by rw [hw7]; exact (Below.refl _ _).alloc (Nat.le_refl _) _
      have hx7 : w7.heap[bx]? = some (.cells #[.pointer (some ⟨t, 0, none⟩)] 24 (0, 0)) := by rw [hw7, ← hbx]; exact heap_alloc_new wo _
      have hsi : SI wp t bn bo 0 w7 := ⟨⟨L, HTB.out.below hb67 (Nat.le_refl _), by omega⟩, gb_of_below (HGB.out.trans (hb67.mono HGB.out.size)) (Nat.le_refl _), below_block hb67 HN0.out (Nat.le_refl _), below_block hb67 HO0.out (Nat.le_refl _)⟩
      have HIT := hide (iter_stops wp t p (p + 1) bt bm bw bq bn bo bx most L ks vs ka kc va vc aa cc HSC hsz hnb w7 hsi (HTB.out.below hb67 (Nat.le_refl _)) hx7)
      clear hbx hb67 hx7 hsi hw7 HAL tt0
      go_wp2_with fail
      refine HIT.out.mono ?_
      rintro e w8 ⟨⟨v8, rfl⟩, jf, hjf, hi⟩
      have hbl := HBL.out.grown hi.g HBL.out.size (fun k e => by cases e; have := HS.out.l0; have := HS.out.l1; omega)
      have x1 := HS.out.l1
      have x2 := HSC.out.l3
      obtain ⟨o0, of⟩ := one_cell hi.o
      obtain ⟨r0, rf⟩ := one_cell hi.n
      obtain ⟨g0, gf⟩ := one_cell (gb_block hi.g HSC.out.cw (by omega))
      obtain ⟨d0, df⟩ := one_cell (gb_block hi.g HSC.out.cq (by omega))
      have HBLW := hide hbl
      have HJ := hide hjf
      obtain ⟨ln, hln⟩ : ∃ ln, L.length = ln := ⟨_, rfl⟩
      rw [hln] at g0 HJ
      have hln2 : ln ≤ 200 := by omega
      clear hi of rf gf df hbl HIT HEQ HWO hjf hln
      go_wp2_with fail
      all_goals
        go_ret
        refine ⟨congrArg Ending.returned (congrArg Value.bool ?_), HBLW.out⟩
        have hj2 := HJ.out
        unfold cntS at hj2
        simp only [beq_iff_eq]
        have hz : (((ln : Int) == 0) = true ∧ (ln : Int) = 0) ∨ (((ln : Int) == 0) = false ∧ (ln : Int) ≠ 0) := by
          by_cases h0 : (ln : Int) = 0
          · exact .inl ⟨by simpa using h0, h0⟩
          · exact .inr ⟨by simpa using h0, h0⟩
        rcases hz with ⟨hz1, hz2⟩ | ⟨hz1, hz2⟩ <;> first | (exfalso; simp_all; done) | skip
        all_goals rcases Nat.eq_zero_or_pos ln with h0 | h0
        all_goals first | (rw [if_pos h0] at hj2; omega) | (rw [if_neg (by omega)] at hj2; omega) | omega
theorem keyedStops_any (w : World) (a : Option Addr) (xs : List Int) (n cap : Nat) (most : Int) (hO : Row .i64 w a xs) (hl : xs.length = n) (hn : n ≤ 9223372036854775807) :
    Calls Try.prog 4 #[.slice a n cap, .int .i64 most] w fun e w' => e = .returned (.bool true) ∧ Below w.heap.size w w' := by
  by_cases h : 200 < n
  · exact kstop_long w a xs n cap most hO hl hn h
  · exact kstop_main w a xs n cap most hO hl hn (by omega)
end Go.Proofs.Ytacoabdafnnhpaa
