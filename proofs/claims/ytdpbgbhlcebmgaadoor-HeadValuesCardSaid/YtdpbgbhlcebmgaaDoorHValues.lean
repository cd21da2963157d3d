/- Head: HeadValues. -/
import Derived.Test.YtdpbgbhlcebmgaaDoorHVals
namespace Go.Proofs.YtdpbgbhlcebmgaaDoor
open Go.RowKit Go.Deep
set_option linter.unusedVariables false
set_option linter.unusedSimpArgs false
set_option maxRecDepth 100000
def YesV (w : World) (e : Ending) (w' : World) : Prop := e = .returned (.bool true) ∧ Below w.heap.size w w'
/-- Both rows of values, in one world. -/
def VsAt (w wz : World) (K1 K2 : Nat) (oa ob : Option Addr) (k c1 c2 : Nat) (G : List ByteArray) : Prop := OwnS wz K1 oa k c1 G ∧ OwnS wz K2 ob k c2 G ∧ Below w.heap.size w wz
set_option maxHeartbeats 4000000 in
theorem headValues_any (w : World) (a : Option Addr) (os : List fldRec) (n cap : Nat) (s t : ByteArray) (hO : fldAt w a os) (hl : os.length = n) (hE : Env w) : Calls Tryd.prog 5 #[.slice a n cap, .string s, .string t] w (YesV w) := by
  have HS := hide (speaks_any w hE)
  have HO := hide (And.intro hO hl)
  obtain ⟨ls, hls⟩ : ∃ n, s.size = n := ⟨_, rfl⟩
  obtain ⟨lt, hlt⟩ : ∃ n, t.size = n := ⟨_, rfl⟩
  clear hO hl hE
  by_cases h1 : 200 < n
  · have d1 : decide ((200 : Int) < (n : Int)) = true := by simp; omega
    clear h1
    go_enter Tryd.func5, Tryd.ntmps5
    go_wp2_with fail
    refine HS.out.mono ?_
    rintro e w1 ⟨rfl, b1⟩
    have HB := hide b1
    clear b1
    go_wp2_with fail
    go_ret
    exact ⟨rfl, HB.out⟩
  have d1 : decide ((200 : Int) < (n : Int)) = false := by simp; omega
  by_cases h2 : 1000 < ls
  · have d2 : decide ((1000 : Int) < (ls : Int)) = true := by simp; omega
    clear h1 h2
    go_enter Tryd.func5, Tryd.ntmps5
    go_wp2_with fail
    refine HS.out.mono ?_
    rintro e w1 ⟨rfl, b1⟩
    have HB := hide b1
    clear b1
    go_wp2_with fail
    go_ret
    exact ⟨rfl, HB.out⟩
  have d2 : decide ((1000 : Int) < (ls : Int)) = false := by simp; omega
  by_cases h3 : 1000 < lt
  · have d3 : decide ((1000 : Int) < (lt : Int)) = true := by simp; omega
    clear h1 h2 h3
    go_enter Tryd.func5, Tryd.ntmps5
    go_wp2_with fail
    refine HS.out.mono ?_
    rintro e w1 ⟨rfl, b1⟩
    have HB := hide b1
    clear b1
    go_wp2_with fail
    go_ret
    exact ⟨rfl, HB.out⟩
  have d3 : decide ((1000 : Int) < (lt : Int)) = false := by simp; omega
  have HN := hide (show n ≤ 200 ∧ s.size ≤ 1000 ∧ t.size ≤ 1000 by omega)
  have c1 := fun w => same_any s t w (by omega) (by omega)
  have c2 := fun w => rlower_any s w (by omega)
  have c3 := fun w => rlower_any t w (by omega)
  have c4 := fun w => same_any s (bs (lowL s.data.toList)) w (by omega) (by rw [size_bs]; unfold lowL; simp; omega)
  rw [data_bs, low_low] at c4
  obtain ⟨A, hA⟩ : ∃ x, bs (lowL s.data.toList) = x := ⟨_, rfl⟩
  obtain ⟨B, hB⟩ : ∃ x, bs (lowL t.data.toList) = x := ⟨_, rfl⟩
  rw [hA] at c1 c2 c4
  rw [hB] at c1 c3
  obtain ⟨g, hg⟩ : ∃ g, (A.toList == B.toList) = g := ⟨_, rfl⟩
  have hgg : (A.toList == A.toList) = true := by simp
  rw [hg] at c1
  rw [hgg] at c4
  have HC := hide (And.intro c1 (And.intro c2 (And.intro c3 c4)))
  clear c1 c2 c3 c4 hA hB hgg h1 h2 h3
  go_enter Tryd.func5, Tryd.ntmps5
  go_wp2_with fail
  refine HS.out.mono ?_
  rintro e w1 ⟨rfl, b1⟩
  have HB1 := hide b1
  clear b1 HS
  go_wp2_with fail
  have H1 := hide (get_any w1 a os n cap s (HO.out.1.below HB1.out) HO.out.2 HN.out.1)
  (with_reducible refine H1.out.mono ?_)
  rintro e w2 ⟨oa, oc, k, hk, rfl, ho, b2⟩
  have HB2 := hide (HB1.out.trans (b2.mono HB1.out.size))
  have HG := hide ho
  have HK := hide hk
  clear b2 ho hk H1
  go_wp2_with fail
  have H2 := hide (rget_any w2 a os n cap s (HO.out.1.below HB2.out) HO.out.2 HN.out.1)
  (with_reducible refine H2.out.mono ?_)
  rintro e w3 ⟨ob, oc2, k2, hk2, rfl, ho2, b3⟩
  obtain rfl : k2 = k := by rw [← hk2]; exact HK.out
  have hkn : k2 ≤ 200 := by have := getL_le os s; have := HO.out; have := HN.out; omega
  have hkn2 : (k2 : Int) ≤ 200 := by omega
  obtain ⟨G, hG⟩ : ∃ G, getL os s = G := ⟨_, rfl⟩
  have HV := hide (show VsAt w w3 w1.heap.size w2.heap.size oa ob k2 oc oc2 G from ⟨hG ▸ HG.out.below b3 (Nat.le_refl _), hG ▸ ho2, HB2.out.trans (b3.mono HB2.out.size)⟩)
  have HKG := hide (show G.length = k2 from hG ▸ hk2)
  clear b3 ho2 hk2 hG H2 HB2 HG HK hkn
  go_wp2_with fail
  go_loopw [38] (fun i wz => ∃ j : Nat, j ≤ k2 ∧ i = .int .i64 j ∧ Hid (VsAt w wz w1.heap.size w2.heap.size oa ob k2 oc oc2 G)) (fun i _ => k2 - (Lib.intOf i).toNat)
  case atStart => exact ⟨0, Nat.zero_le _, rfl, HV⟩
  case round =>
    clear HV
    obtain ⟨j, hj, rfl, HV⟩ := hrel
    have hj4 : (0 : Int) ≤ (j : Int) := by omega
    have hj5 : (j : Int) ≤ 200 := by omega
    by_cases hlt2 : j < k2
    · have d4 : decide (j < k2) = true := by simp; omega
      obtain ⟨y, hy⟩ : ∃ y, G[j]? = some y := ⟨_, List.getElem?_eq_getElem (by have := HKG.out; omega)⟩
      obtain ⟨g1, e1, q1⟩ := HV.out.1.at hy
      obtain ⟨g2, e2, q2⟩ := HV.out.2.1.at hy
      have HVD := hide (show VsAt w wr.drew w1.heap.size w2.heap.size oa ob k2 oc oc2 G from ⟨HV.out.1.below ((Below.refl wr.heap.size wr).drew) (Nat.le_refl _), HV.out.2.1.below ((Below.refl wr.heap.size wr).drew) (Nat.le_refl _), HV.out.2.2.drew⟩)
      subst e1
      subst e2
      clear hy HV
      go_wp2_with fail
      go_region
      go_wp2_with fail
      go_roundw
      case rel => exact ⟨j + 1, by omega, by go_num, HVD⟩
      case measure => simp [Lib.intOf]; omega
    · have d4 : decide (j < k2) = false := by simp; omega
      have HB3 := hide HV.out.2.2
      clear HV hlt2 hj
      go_wp2_with fail
      have H4 := hide (HC.out.1 wr)
      (with_reducible refine H4.out.mono ?_)
      rintro e w5 ⟨rfl, b5⟩
      have HB5 := hide (HB3.out.trans (b5.mono HB3.out.size))
      clear b5 H4 HB3
      go_wp2_with fail
      have H5 := hide (HC.out.2.1 w5)
      (with_reducible refine H5.out.mono ?_)
      rintro e w6 ⟨rfl, b6⟩
      have HB6 := hide (HB5.out.trans (b6.mono HB5.out.size))
      clear b6 H5 HB5
      go_wp2_with fail
      have H6 := hide (HC.out.2.2.1 w6)
      (with_reducible refine H6.out.mono ?_)
      rintro e w7 ⟨rfl, b7⟩
      have HB7 := hide (HB6.out.trans (b7.mono HB6.out.size))
      clear b7 H6 HB6
      go_wp2_with fail
      have H7 := hide (HC.out.2.1 w7)
      (with_reducible refine H7.out.mono ?_)
      rintro e w8 ⟨rfl, b8⟩
      have HB8 := hide (HB7.out.trans (b8.mono HB7.out.size))
      clear b8 H7 HB7
      go_wp2_with fail
      have H8 := hide (HC.out.2.2.2 w8)
      (with_reducible refine H8.out.mono ?_)
      rintro e w9 ⟨rfl, b9⟩
      have HB9 := hide (HB8.out.trans (b9.mono HB8.out.size))
      clear b9 H8 HB8
      go_wp2_with fail
      go_ret
      exact ⟨rfl, HB9.out⟩
end Go.Proofs.YtdpbgbhlcebmgaaDoor
