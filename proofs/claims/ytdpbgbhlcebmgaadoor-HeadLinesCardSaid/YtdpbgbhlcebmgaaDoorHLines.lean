/- Head: HeadLines. -/
import Derived.Test.YtdpbgbhlcebmgaaDoorHEnv
import Derived.Test.YtdpbgbhlcebmgaaDoorHRline
namespace Go.Proofs.YtdpbgbhlcebmgaaDoor
open Go.RowKit Go.Deep
set_option linter.unusedVariables false
set_option linter.unusedSimpArgs false
set_option maxRecDepth 100000
def YesL (w : World) (e : Ending) (w' : World) : Prop := e = .returned (.bool true) ∧ Below w.heap.size w w'
theorem lineV_form (o : Option (List UInt8 × List UInt8)) : ∃ (A B : ByteArray) (g : Bool), lineV o = .tuple #[.agg #[.string A, .string B], .bool g] := by
  cases o with
  | none => exact ⟨_, _, _, rfl⟩
  | some p => exact ⟨_, _, _, rfl⟩
theorem startV_form (o : Option (List UInt8 × List UInt8 × Nat)) : ∃ (A B : ByteArray) (k : Int) (g : Bool), startV o = .tuple #[.string A, .string B, .int .i64 k, .bool g] := by
  cases o with
  | none => exact ⟨_, _, _, _, rfl⟩
  | some p => exact ⟨_, _, _, _, rfl⟩
set_option maxHeartbeats 4000000 in
theorem headLines_any (s : ByteArray) (w : World) (hE : Env w) : Calls Tryd.prog 3 #[.string s] w (YesL w) := by
  have HS := hide (speaks_any w hE)
  have HE := hide hE
  obtain ⟨n, hn⟩ : ∃ n, s.size = n := ⟨_, rfl⟩
  clear hE
  by_cases hn1 : 3000 < n
  · have d1 : decide ((3000 : Int) < (n : Int)) = true := by simp; omega
    clear hn1
    go_enter Tryd.func3, Tryd.ntmps3
    go_wp2_with fail
    refine HS.out.mono ?_
    rintro e w1 ⟨rfl, b1⟩
    have HB := hide b1
    clear b1
    go_wp2_with fail
    go_ret
    exact ⟨rfl, HB.out⟩
  have d1 : decide ((3000 : Int) < (n : Int)) = false := by simp; omega
  obtain ⟨A, B, g, h1⟩ := lineV_form (lineL s.data.toList)
  obtain ⟨C, D, k, g2, h2⟩ := startV_form (startL s.data.toList)
  obtain ⟨tk, h3⟩ : ∃ x, tokenL s.data.toList = x := ⟨_, rfl⟩
  obtain ⟨lw, h4⟩ : ∃ x, bs (lowL s.data.toList) = x := ⟨_, rfl⟩
  have c1 := fun w h => line_any s w (by omega) h
  have c2 := fun w => rline_any s w (by omega)
  have c3 := fun w h => start_any s w (by omega) h
  have c4 := fun w => rstart_any s w (by omega)
  have c5 := fun w => token_any s w (by omega)
  have c6 := fun w => rtoken_any s w (by omega)
  have c7 := fun w => lower_any s w (by omega)
  have c8 := fun w => rlower_any s w (by omega)
  rw [h1] at c1 c2
  rw [h2] at c3 c4
  rw [h3] at c5 c6
  rw [h4] at c7 c8
  have HC := hide (And.intro c1 (And.intro c2 (And.intro c3 (And.intro c4 (And.intro c5 (And.intro c6 (And.intro c7 c8)))))))
  clear c1 c2 c3 c4 c5 c6 c7 c8 h1 h2 h3 h4 hn1
  go_enter Tryd.func3, Tryd.ntmps3
  go_wp2_with fail
  refine HS.out.mono ?_
  rintro e w1 ⟨rfl, b1⟩
  have HB1 := hide b1
  clear b1 HS
  go_wp2_with fail
  have H1 := hide (HC.out.1 w1 (HE.out.below HB1.out (Nat.le_refl _)))
  (with_reducible refine H1.out.mono ?_)
  rintro e w2 ⟨rfl, b2⟩
  have HB2 := hide (HB1.out.trans (b2.mono HB1.out.size))
  clear b2 H1 HB1
  obtain ⟨S, hS⟩ : ∃ S, w2.heap.size = S := ⟨_, rfl⟩
  obtain ⟨w3, hw3⟩ : ∃ z, w2.alloc (.cells #[.string A, .string B] 24) = z := ⟨_, rfl⟩
  have hal := (Below.refl w2.heap.size w2).alloc (Nat.le_refl _) (.cells #[.string A, .string B] 24)
  have hnew := heap_alloc_new w2 (.cells #[.string A, .string B] 24)
  rw [hw3] at hal hnew
  rw [hS] at hnew
  have HA := hide (And.intro hnew (HB2.out.trans (hal.mono HB2.out.size)))
  have HW := hide (And.intro hS hw3)
  clear hal hnew hS hw3 HB2
  go_wp2_with fail
  rw [HW.out.2]
  rw [HW.out.1]
  clear HW
  have H2 := hide (HC.out.2.1 w3)
  (with_reducible refine H2.out.mono ?_)
  rintro e w4 ⟨rfl, b4⟩
  have HA4 := hide (And.intro (below_block b4 HA.out.1 (Nat.le_refl _)) (HA.out.2.trans (b4.mono HA.out.2.size)))
  clear b4 H2 HA
  obtain ⟨R, hR⟩ : ∃ S, w4.heap.size = S := ⟨_, rfl⟩
  obtain ⟨w5, hw5⟩ : ∃ z, w4.alloc (.cells #[.string A, .string B] 24) = z := ⟨_, rfl⟩
  have hal := (Below.refl w4.heap.size w4).alloc (Nat.le_refl _) (.cells #[.string A, .string B] 24)
  have hnew := heap_alloc_new w4 (.cells #[.string A, .string B] 24)
  rw [hw5] at hal hnew
  rw [hR] at hnew
  have HA5 := hide (And.intro (below_block hal HA4.out.1 (Nat.le_refl _)) (And.intro hnew (HA4.out.2.trans (hal.mono HA4.out.2.size))))
  have HW := hide (And.intro hR hw5)
  clear hal hnew hR hw5 HA4
  go_wp2_with fail
  rw [HW.out.2]
  rw [HW.out.1]
  clear HW
  have H3 := hide (HC.out.2.2.1 w5 (HE.out.below HA5.out.2.2 (Nat.le_refl _)))
  (with_reducible refine H3.out.mono ?_)
  rintro e w6 ⟨rfl, b6⟩
  have HA6 := hide (And.intro (below_block b6 HA5.out.1 (Nat.le_refl _)) (And.intro (below_block b6 HA5.out.2.1 (Nat.le_refl _)) (HA5.out.2.2.trans (b6.mono HA5.out.2.2.size))))
  clear b6 H3 HA5
  go_wp2_with fail
  have H4 := hide (HC.out.2.2.2.1 w6)
  (with_reducible refine H4.out.mono ?_)
  rintro e w7 ⟨rfl, b7⟩
  have HA7 := hide (And.intro (below_block b7 HA6.out.1 (Nat.le_refl _)) (And.intro (below_block b7 HA6.out.2.1 (Nat.le_refl _)) (HA6.out.2.2.trans (b7.mono HA6.out.2.2.size))))
  clear b7 H4 HA6
  obtain ⟨⟨k0, k1⟩, k2, k3⟩ := two_cells HA7.out.1
  obtain ⟨⟨m0, m1⟩, m2, m3⟩ := two_cells HA7.out.2.1
  go_wp2_with fail
  have H5 := hide (HC.out.2.2.2.2.1 w7)
  (with_reducible refine H5.out.mono ?_)
  rintro e w8 ⟨rfl, rfl⟩
  clear H5
  go_wp2_with fail
  have H6 := hide (HC.out.2.2.2.2.2.1 w8)
  (with_reducible refine H6.out.mono ?_)
  rintro e w9 ⟨rfl, rfl⟩
  clear H6
  go_wp2_with fail
  have H7 := hide (HC.out.2.2.2.2.2.2.1 w9)
  (with_reducible refine H7.out.mono ?_)
  rintro e w10 ⟨rfl, b10⟩
  have HB10 := hide (HA7.out.2.2.trans (b10.mono HA7.out.2.2.size))
  clear b10 H7 k0 k1 k2 k3 m0 m1 m2 m3
  go_wp2_with fail
  have H8 := hide (HC.out.2.2.2.2.2.2.2 w10)
  (with_reducible refine H8.out.mono ?_)
  rintro e w11 ⟨rfl, b11⟩
  have HB11 := hide (HB10.out.trans (b11.mono HB10.out.size))
  clear b11 H8
  go_wp2_with fail
  go_ret
  exact ⟨rfl, HB11.out⟩
end Go.Proofs.YtdpbgbhlcebmgaaDoor
