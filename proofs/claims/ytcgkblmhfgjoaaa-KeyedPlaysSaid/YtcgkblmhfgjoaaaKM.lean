/- The example of layer 6. -/
import Derived.Test.YtcgkblmhfgjoaaaKL
namespace Go.Proofs.Ytcgkblmhfgjoaaa
open Go.RowKit Go.Deep
set_option linter.unusedVariables false
set_option linter.unusedSimpArgs false
set_option maxRecDepth 100000
theorem o_ord : OrdF (.func (.func 10) #[] #[]) id := .inl ⟨rfl, rfl⟩
theorem t_ord : OrdF (.func (.func 22) #[] #[]) Neg.neg := .inr ⟨rfl, rfl⟩

set_option maxHeartbeats 1600000 in
theorem speaks6_any (w : World) : Calls Try.prog 8 #[] w fun e w' => e = .returned (.bool true) ∧ Below w.heap.size w w' := by
  have HN := hide (newL 2 (by omega) (.func (.func 10) #[] #[]) id w o_ord)
  go_enter Try.func8, Try.ntmps8
  go_wp2_with fail
  refine HN.out.mono ?_
  rintro e w1 ⟨rfl, h1, b1⟩
  rw [show ((2 : Nat) : Int) = 2 from rfl] at h1
  obtain ⟨t, ht⟩ : ∃ t, w.heap.size = t := ⟨_, rfl⟩
  rw [ht] at h1
  try rw [ht]
  have HB1 := hide b1
  have HTE := hide ht
  have HP1 := hide (PutL h1 o_ord 5 1 (by simp) (.inr (by simp)))
  clear HN h1 b1 ht
  go_wp2_with fail
  refine HP1.out.mono ?_
  rintro e w2 ⟨rfl, h2, g2⟩
  rw [show insL id 5 1 [] = [(5, 1)] by decide] at h2
  have HP2 := hide (PutL h2 o_ord 3 1 (by simp) (.inr (by simp)))
  have HB2 := hide (HB1.out.grown g2 HB1.out.size (fun k e => by cases e; have := HTE.out; omega))
  clear HP1 h2 g2
  go_wp2_with fail
  refine HP2.out.mono ?_
  rintro e w3 ⟨rfl, h3, g3⟩
  rw [show insL id 3 1 [(5, 1)] = [(3, 1), (5, 1)] by decide] at h3
  have HP3 := hide (PutF h3 o_ord 4 1 (by simp) (by decide) (by simp))
  have HB3 := hide (HB2.out.grown g3 HB2.out.size (fun k e => by cases e; have := HTE.out; omega))
  clear HP2 h3 g3
  go_wp2_with fail
  refine HP3.out.mono ?_
  rintro e w4 ⟨rfl, h4, g4⟩
  have HP4 := hide (PutL h4 o_ord 5 2 (by simp) (.inl (by decide)))
  have HB4 := hide (HB3.out.grown g4 HB3.out.size (fun k e => by cases e; have := HTE.out; omega))
  clear HP3 h4 g4
  go_wp2_with fail
  refine HP4.out.mono ?_
  rintro e w5 ⟨rfl, h5, g5⟩
  rw [show insL id 5 2 [(3, 1), (5, 1)] = [(3, 1), (5, 2)] by decide] at h5
  have hat := AtL h5 0 (3, 1) rfl (by simp)
  rw [show ((0 : Nat) : Int) = 0 from rfl] at hat
  have HA := hide hat
  have HB5 := hide (HB4.out.grown g5 HB4.out.size (fun k e => by cases e; have := HTE.out; omega))
  clear HP4 h5 g5 hat
  go_wp2_with fail
  refine HA.out.mono ?_
  rintro e w6 ⟨rfl, h6, g6⟩
  have HB6 := hide (HB5.out.grown g6 HB5.out.size (fun k e => by cases e; have := HTE.out; omega))
  clear HA h6 g6
  go_wp2
  go_ret
  exact ⟨rfl, HB6.out⟩
end Go.Proofs.Ytcgkblmhfgjoaaa
