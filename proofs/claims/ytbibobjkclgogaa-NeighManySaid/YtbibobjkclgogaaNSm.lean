/- neigh: the small functions. -/
import Derived.Test.YtbibobjkclgogaaNPut
import Derived.Test.YtbibobjkclgogaaCHost
import Derived.Deep.Cut
namespace Go.Proofs.Ytbibobjkclgogaa
open Go.RowKit Go.Deep
set_option linter.unusedVariables false
set_option linter.unusedSimpArgs false
set_option maxRecDepth 100000
/-- The second at which what is learned now is forgotten. -/
def laterI (now : Int) : Int := now + min 300 (18446744073709551615 - now)
theorem laterI_rng (now : Int) (h0 : 0 ≤ now) (h1 : now ≤ 18446744073709551615) : 0 ≤ laterI now ∧ laterI now ≤ 18446744073709551615 := by unfold laterI; omega
theorem later_any (now : Int) (w : World) (h0 : 0 ≤ now) (h1 : now ≤ 18446744073709551615) :
    Calls Try.prog 34 #[.int .u64 now, .int .u64 300] w fun e w' => e = .returned (.int .u64 (laterI now)) ∧ w' = w := by
  obtain ⟨r, hr⟩ : ∃ r, laterI now = r := ⟨_, rfl⟩
  rw [hr]
  unfold laterI at hr
  have HR := hide hr
  have hw1 : IntKind.u64.wrap (18446744073709551615 - now) = 18446744073709551615 - now := wraps_u64 _ (by omega) (by omega)
  have hw2 : IntKind.u64.wrap (now + min 300 (18446744073709551615 - now)) = r := by rw [← hr]; exact wraps_u64 _ (by omega) (by omega)
  obtain ⟨d, hd⟩ : ∃ d, 18446744073709551615 - now = d := ⟨_, rfl⟩
  rw [hd] at hw1 hw2
  clear hr
  go_enter Try.func34, Try.ntmps34
  go_wp2_with fail
  · have e : now + d = r := by have := HR.out; omega
    go_ret
    exact ⟨by rw [← e]; rfl, rfl⟩
  · have e : now + 300 = r := by have := HR.out; omega
    go_ret
    exact ⟨by rw [← e]; rfl, rfl⟩
theorem forg_any (v : NH) (now : Int) (w : World) :
    Calls Try.prog 28 #[.agg #[.int .u8 v.m0, .int .u8 v.m1, .int .u8 v.m2, .int .u8 v.m3, .int .u8 v.m4, .int .u8 v.m5, .int .u64 v.e], .int .u64 now] w fun e w' => e = .returned (.bool (decide (v.e ≤ now))) ∧ Below w.heap.size w w' := by
  go_enter Try.func28, Try.ntmps28
  go_wp2_with fail
  go_ret
  exact ⟨by simp, (Below.refl _ _).alloc (Nat.le_refl _) _⟩
theorem new_any (w : World) :
    Calls Try.prog 7 #[] w fun e w' => ∃ c, (e = .returned (.pointer (some ⟨c, 0, none⟩))) ∧ CAt w' w.heap.size c [] [] ∧ Below w.heap.size w w' := by
  have HN := hide (D.newL 256 (by omega) w)
  unfold D.oF at HN
  go_enter Try.func7, Try.ntmps7
  go_wp2_with fail
  refine HN.out.mono ?_
  rintro e w1 ⟨rfl, t1, b1⟩
  have HT := hide t1
  have HB := hide b1
  clear HN t1 b1
  go_wp2_with fail
  go_ret
  have hal := (Below.refl w1.heap.size w1).alloc (Nat.le_refl _) (.cells #[.pointer (some ⟨w.heap.size, 0, none⟩), .slice none 0 0] 72)
  exact ⟨_, rfl, ⟨_, _, _, _, heap_alloc_new _ _, HB.out.size, Nat.le_refl _, HT.out.below hal (Nat.le_refl _), HRow.nil _ _, fun x hx => by cases hx⟩, HB.out.trans (hal.mono HB.out.size)⟩
theorem len2_any (K c : Nat) (L : List D.KV) (H : List HV) (w : World) (h : CAt w K c L H) :
    Calls Try.prog 11 #[.pointer (some ⟨c, 0, none⟩)] w fun e w' => e = .returned (.tuple #[.int .i64 (L.length : Int), .int .i64 (H.length : Int)]) ∧ Below w.heap.size w w' := by
  obtain ⟨tb, a, n, cap, hx⟩ := h
  have hn : n = H.length := by
    rcases hx.row.form with ⟨h1, h2⟩ | ⟨b, cap', h1, _⟩
    · simp at h1; rw [h2]; exact h1.2.1
    · simp at h1; exact h1.2.1
  rw [← hn]
  have HL := hide (fun (m : Nat) => D.LenL (hx.tab.drewN m))
  obtain ⟨c0, c1, cf⟩ := two_cells hx.blk
  clear hx hn
  go_enter Try.func11, Try.ntmps11
  go_wp2_with fail
  go_quiet ((go_at_call 30; exact Calls.quiet_of_same ((HL.out _).mono fun e w' ⟨h1, h2⟩ => ⟨h1, h2.symm⟩)))
  go_wp2
  go_ret2
  exact ⟨rfl, bdrewN (Below.refl _ _) _⟩
/-- What is known of a host's address. -/
def fnd (L : List D.KV) (k now : Int) : Option NH := match getL id k L with
  | some v => if v.e ≤ now then none else some v
  | none => none
def MV : Option NH → Value
  | some v => .agg #[.int .u8 v.m0, .int .u8 v.m1, .int .u8 v.m2, .int .u8 v.m3, .int .u8 v.m4, .int .u8 v.m5]
  | none => .agg #[.int .u8 0, .int .u8 0, .int .u8 0, .int .u8 0, .int .u8 0, .int .u8 0]
set_option maxHeartbeats 1600000 in
theorem find2_any (K c : Nat) (L : List D.KV) (H : List HV) (k now : Int) (w : World) (h : CAt w K c L H) :
    Calls Try.prog 9 #[.pointer (some ⟨c, 0, none⟩), .int .u32 k, .int .u64 now] w fun e w' => e = .returned (.tuple #[MV (fnd L k now), .bool (fnd L k now).isSome]) ∧ Below w.heap.size w w' := by
  obtain ⟨tb, a, n, cap, hx⟩ := h
  have hal := (Below.refl w.heap.size w).alloc (Nat.le_refl _) (.cells #[.int .u8 0, .int .u8 0, .int .u8 0, .int .u8 0, .int .u8 0, .int .u8 0] 23)
  have hw1 := heap_alloc_new w (.cells #[.int .u8 0, .int .u8 0, .int .u8 0, .int .u8 0, .int .u8 0, .int .u8 0] 23)
  obtain ⟨W, hW⟩ : ∃ W, w.alloc (.cells #[.int .u8 0, .int .u8 0, .int .u8 0, .int .u8 0, .int .u8 0, .int .u8 0] 23) = W := ⟨_, rfl⟩
  rw [hW] at hal hw1
  have hx1 := hx.below hal
  have HG := hide (D.GetL hx1.tab D.oF_ord k)
  obtain ⟨c0, c1, cf⟩ := two_cells hx1.blk
  obtain ⟨R, hR⟩ : ∃ R, w.heap.size = R := ⟨_, rfl⟩
  rw [hR] at hw1
  have HE := hide (And.intro hW hR)
  have HM := hide hw1
  have HB := hide hal
  clear hx hx1 c1 cf hW hR hw1 hal
  cases hg : getL id k L with
  | none =>
    have hf : fnd L k now = none := by unfold fnd; rw [hg]
    have hh : hasL id k L = false := by
      cases hb : hasL id k L with
      | false => rfl
      | true =>
        exfalso
        obtain ⟨x, hx, e⟩ := hasL_iff.1 hb
        unfold getL at hg
        rw [Option.map_eq_none_iff, List.find?_eq_none] at hg
        exact absurd (by simpa using e) (hg x hx)
    rw [hf]
    rw [hg, hh] at HG
    unfold D.GV at HG
    clear hg hf hh
    go_enter Try.func9, Try.ntmps9
    go_upto_region 1 with (fail)
    rw [HE.out.1]
    try rw [HE.out.2]
    go_wp2_with fail
    refine HG.out.mono ?_
    rintro e w1 ⟨rfl, b1⟩
    have HB1 := hide (HB.out.trans (b1.mono HB.out.size))
    obtain ⟨m0, m1, m2, m3, m4, m5, mf⟩ := cells6 (below_block b1 HM.out (Nat.le_refl _))
    have HM1 := hide (below_block b1 HM.out (Nat.le_refl _))
    have lR := lt_of_block HM1.out
    clear HG b1 c0
    go_wp2_with fail
    generalize hV : World.setCell _ _ _ = V
    obtain ⟨q, bq⟩ := put6 HM1.out (Nat.le_of_eq HE.out.2) HB1.out hV
    have hal2 := (Below.refl V.heap.size V).alloc (Nat.le_refl _) (.cells #[.int .u8 0, .int .u8 0, .int .u8 0, .int .u8 0, .int .u8 0, .int .u8 0, .int .u64 0] 68)
    obtain ⟨u0, u1, u2, u3, u4, u5, uf⟩ := cells6 (below_block hal2 q (Nat.le_refl _))
    have HQ := hide (bq.trans (hal2.mono bq.size))
    clear hV q bq hal2 m0 m1 m2 m3 m4 m5 mf HM HM1 HB1 HB HE lR
    exact bodyPost_ret (v := .tuple #[.agg #[.int .u8 0, .int .u8 0, .int .u8 0, .int .u8 0, .int .u8 0, .int .u8 0], .bool false]) (by simp [results, Try.results9, go_sem, *]) rfl ⟨rfl, HQ.out⟩
  | some v =>
    have hh : hasL id k L = true := by
      unfold getL at hg
      rw [Option.map_eq_some_iff] at hg
      obtain ⟨x, hx, _⟩ := hg
      have h1 := List.find?_some hx
      exact hasL_iff.2 ⟨x, List.mem_of_find?_eq_some hx, by simpa using h1⟩
    rw [hg, hh] at HG
    unfold D.GV at HG
    by_cases hf : v.e ≤ now
    · have hfn : fnd L k now = none := by unfold fnd; rw [hg]; exact if_pos hf
      have hd : decide (v.e ≤ now) = true := decide_eq_true hf
      rw [hfn]
      clear hfn hg hh
      go_enter Try.func9, Try.ntmps9
      go_upto_region 1 with (fail)
      rw [HE.out.1]
      try rw [HE.out.2]
      go_wp2_with fail
      refine HG.out.mono ?_
      rintro e w1 ⟨rfl, b1⟩
      have HB1 := hide (HB.out.trans (b1.mono HB.out.size))
      obtain ⟨m0, m1, m2, m3, m4, m5, mf⟩ := cells6 (below_block b1 HM.out (Nat.le_refl _))
      have HM1 := hide (below_block b1 HM.out (Nat.le_refl _))
      have lR := lt_of_block HM1.out
      clear HG b1 c0
      have HFO := hide (fun (W : World) => forg_any v now W)
      rw [hd] at HFO
      clear hd hf
      go_wp2_with fail
      refine (HFO.out _).mono ?_
      rintro e w2 ⟨rfl, b2⟩
      have hal2 := (Below.refl w1.heap.size w1).alloc (Nat.le_refl _) (.cells #[.int .u8 v.m0, .int .u8 v.m1, .int .u8 v.m2, .int .u8 v.m3, .int .u8 v.m4, .int .u8 v.m5, .int .u64 v.e] 68)
      have HX := hide (below_block b2 (heap_alloc_new w1 (.cells #[.int .u8 v.m0, .int .u8 v.m1, .int .u8 v.m2, .int .u8 v.m3, .int .u8 v.m4, .int .u8 v.m5, .int .u64 v.e] 68)) (Nat.le_refl _))
      have HM2 := hide (below_block b2 (below_block hal2 HM1.out (Nat.le_refl _)) (Nat.le_refl _))
      have HB2 := hide ((HB1.out.trans (hal2.mono HB1.out.size)).trans (b2.mono (HB1.out.trans (hal2.mono HB1.out.size)).size))
      clear b2 hal2 HFO m0 m1 m2 m3 m4 m5 mf lR
      obtain ⟨m0, m1, m2, m3, m4, m5, mf⟩ := cells6 HM2.out
      obtain ⟨x0, x1, x2, x3, x4, x5, x6, xf⟩ := cells7 HX.out
      go_wp2_with fail
      generalize hV : World.setCell _ _ _ = V
      obtain ⟨q, bq⟩ := put6 HM2.out (Nat.le_of_eq HE.out.2) HB2.out hV
      obtain ⟨u0, u1, u2, u3, u4, u5, uf⟩ := cells6 q
      have HQ := hide bq
      clear hV q bq m0 m1 m2 m3 m4 m5 mf x0 x1 x2 x3 x4 x5 x6 xf HM HM1 HM2 HX HB1 HB2 HB HE
      exact bodyPost_ret (v := .tuple #[.agg #[.int .u8 0, .int .u8 0, .int .u8 0, .int .u8 0, .int .u8 0, .int .u8 0], .bool false]) (by simp [results, Try.results9, go_sem, *]) rfl ⟨rfl, HQ.out⟩
    · have hfn : fnd L k now = some v := by unfold fnd; rw [hg]; exact if_neg hf
      have hd : decide (v.e ≤ now) = false := decide_eq_false hf
      rw [hfn]
      clear hfn hg hh
      go_enter Try.func9, Try.ntmps9
      go_upto_region 1 with (fail)
      rw [HE.out.1]
      try rw [HE.out.2]
      go_wp2_with fail
      refine HG.out.mono ?_
      rintro e w1 ⟨rfl, b1⟩
      have HB1 := hide (HB.out.trans (b1.mono HB.out.size))
      obtain ⟨m0, m1, m2, m3, m4, m5, mf⟩ := cells6 (below_block b1 HM.out (Nat.le_refl _))
      have HM1 := hide (below_block b1 HM.out (Nat.le_refl _))
      have lR := lt_of_block HM1.out
      clear HG b1 c0
      have HFO := hide (fun (W : World) => forg_any v now W)
      rw [hd] at HFO
      clear hd hf
      go_wp2_with fail
      refine (HFO.out _).mono ?_
      rintro e w2 ⟨rfl, b2⟩
      have hal2 := (Below.refl w1.heap.size w1).alloc (Nat.le_refl _) (.cells #[.int .u8 v.m0, .int .u8 v.m1, .int .u8 v.m2, .int .u8 v.m3, .int .u8 v.m4, .int .u8 v.m5, .int .u64 v.e] 68)
      have HX := hide (below_block b2 (heap_alloc_new w1 (.cells #[.int .u8 v.m0, .int .u8 v.m1, .int .u8 v.m2, .int .u8 v.m3, .int .u8 v.m4, .int .u8 v.m5, .int .u64 v.e] 68)) (Nat.le_refl _))
      have HM2 := hide (below_block b2 (below_block hal2 HM1.out (Nat.le_refl _)) (Nat.le_refl _))
      have HB2 := hide ((HB1.out.trans (hal2.mono HB1.out.size)).trans (b2.mono (HB1.out.trans (hal2.mono HB1.out.size)).size))
      clear b2 hal2 HFO m0 m1 m2 m3 m4 m5 mf lR
      obtain ⟨m0, m1, m2, m3, m4, m5, mf⟩ := cells6 HM2.out
      obtain ⟨x0, x1, x2, x3, x4, x5, x6, xf⟩ := cells7 HX.out
      go_wp2_with fail
      generalize hV : World.setCell _ _ _ = V
      obtain ⟨q, bq⟩ := put6 HM2.out (Nat.le_of_eq HE.out.2) HB2.out hV
      obtain ⟨u0, u1, u2, u3, u4, u5, uf⟩ := cells6 q
      have HQ := hide bq
      clear hV q bq m0 m1 m2 m3 m4 m5 mf x0 x1 x2 x3 x4 x5 x6 xf HM HM1 HM2 HX HB1 HB2 HB HE
      exact bodyPost_ret (v := .tuple #[.agg #[.int .u8 v.m0, .int .u8 v.m1, .int .u8 v.m2, .int .u8 v.m3, .int .u8 v.m4, .int .u8 v.m5], .bool true]) (by simp [results, Try.results9, go_sem, *]) rfl ⟨rfl, HQ.out⟩
theorem has_none {L : List D.KV} {k : Int} (h : hasL id k L = false) (now : Int) : fnd L k now = none := by
  unfold fnd; rw [get_none h]
end Go.Proofs.Ytbibobjkclgogaa
