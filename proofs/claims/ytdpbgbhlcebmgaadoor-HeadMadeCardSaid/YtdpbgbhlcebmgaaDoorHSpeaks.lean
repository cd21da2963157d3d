/- Head: the document's example. -/
import Derived.Test.YtdpbgbhlcebmgaaDoorHPub
import Derived.Test.YtdpbgbhlcebmgaaDoorHStart
namespace Go.Proofs.YtdpbgbhlcebmgaaDoor
open Go.RowKit Go.Deep
set_option linter.unusedVariables false
set_option linter.unusedSimpArgs false
set_option maxRecDepth 100000
theorem ex_line : lineL [83, 79, 65, 80, 65, 99, 116, 105, 111, 110, 58, 32, 32, 97, 32] = some ([115, 111, 97, 112, 97, 99, 116, 105, 111, 110], [97]) := by decide
theorem ex_num16 : numberL [48, 65] 16 99 = some 10 := by decide
theorem ex_num10 : numberL [48, 65] 10 99 = none := by decide
set_option maxHeartbeats 1000000 in
theorem speaks_any (w : World) (hE : Env w) : Calls Tryd.prog 8 #[] w fun e w' => e = .returned (.bool true) ∧ Below w.heap.size w w' := by
  have h1 : Calls Tryd.prog 9 #[.string ⟨#[83, 79, 65, 80, 65, 99, 116, 105, 111, 110, 58, 32, 32, 97, 32]⟩] w (fun e w' => e = .returned (lineV (lineL [83, 79, 65, 80, 65, 99, 116, 105, 111, 110, 58, 32, 32, 97, 32])) ∧ Below w.heap.size w w') := line_any ⟨#[83, 79, 65, 80, 65, 99, 116, 105, 111, 110, 58, 32, 32, 97, 32]⟩ w (by decide) hE
  rw [ex_line] at h1
  change Calls Tryd.prog _ _ w (fun e w' => e = .returned (.tuple #[.agg #[.string ⟨#[115, 111, 97, 112, 97, 99, 116, 105, 111, 110]⟩, .string ⟨#[97]⟩], .bool true]) ∧ Below w.heap.size w w') at h1
  have H1 := hide h1
  have h2 : ∀ w, Env w → Calls Tryd.prog 17 #[.string ⟨#[48, 65]⟩, .int .i64 16, .int .i64 99] w (fun e w' => e = .returned (numberV (numberL [48, 65] 16 99)) ∧ Below w.heap.size w w') := fun w hE => number_any ⟨#[48, 65]⟩ 16 99 w hE
  rw [ex_num16] at h2
  change ∀ w, Env w → Calls Tryd.prog _ _ w (fun e w' => e = .returned (.tuple #[.int .i64 10, .bool true]) ∧ Below w.heap.size w w') at h2
  have H2 := hide h2
  have h3 : ∀ w, Env w → Calls Tryd.prog 17 #[.string ⟨#[48, 65]⟩, .int .i64 10, .int .i64 99] w (fun e w' => e = .returned (numberV (numberL [48, 65] 10 99)) ∧ Below w.heap.size w w') := fun w hE => number_any ⟨#[48, 65]⟩ 10 99 w hE
  rw [ex_num10] at h3
  change ∀ w, Env w → Calls Tryd.prog _ _ w (fun e w' => e = .returned (.tuple #[.int .i64 0, .bool false]) ∧ Below w.heap.size w w') at h3
  have H3 := hide h3
  have HE := hide hE
  clear h1 h2 h3 hE
  go_enter Tryd.func8, Tryd.ntmps8
  go_wp2_with fail
  (with_reducible refine H1.out.mono ?_)
  rintro e w1 ⟨rfl, b1⟩
  have HB1 := hide b1
  obtain ⟨S, hS⟩ : ∃ S, w1.heap.size = S := ⟨_, rfl⟩
  obtain ⟨w2, hw2⟩ : ∃ z, w1.alloc (.cells #[.string ⟨#[115, 111, 97, 112, 97, 99, 116, 105, 111, 110]⟩, .string ⟨#[97]⟩] 24) = z := ⟨_, rfl⟩
  have hal := (Below.refl w1.heap.size w1).alloc (Nat.le_refl _) (.cells #[.string ⟨#[115, 111, 97, 112, 97, 99, 116, 105, 111, 110]⟩, .string ⟨#[97]⟩] 24)
  have hnew := heap_alloc_new w1 (.cells #[.string ⟨#[115, 111, 97, 112, 97, 99, 116, 105, 111, 110]⟩, .string ⟨#[97]⟩] 24)
  rw [hw2] at hal hnew
  rw [hS] at hnew
  have HA := hide (And.intro hnew (HB1.out.trans (hal.mono HB1.out.size)))
  have HW := hide (And.intro hS hw2)
  clear b1 H1 hal hnew hS hw2
  go_wp2_with fail
  rw [HW.out.2]
  rw [HW.out.1]
  have H22 := hide (H2.out w2 (HE.out.below HA.out.2 (Nat.le_refl _)))
  (with_reducible refine H22.out.mono ?_)
  rintro e w3 ⟨rfl, b3⟩
  have HA3 := hide (And.intro (below_block b3 HA.out.1 (Nat.le_refl _)) (HA.out.2.trans (b3.mono HA.out.2.size)))
  clear b3 HA H22 H2
  go_wp2_with fail
  have H33 := hide (H3.out w3 (HE.out.below HA3.out.2 (Nat.le_refl _)))
  (with_reducible refine H33.out.mono ?_)
  rintro e w4 ⟨rfl, b4⟩
  have HA4 := hide (And.intro (below_block b4 HA3.out.1 (Nat.le_refl _)) (HA3.out.2.trans (b4.mono HA3.out.2.size)))
  clear b4 HA3 H33 H3
  obtain ⟨⟨k0, k1⟩, k2, k3⟩ := two_cells HA4.out.1
  go_wp2_with fail
  trace_state
  go_ret
  exact ⟨rfl, HA4.out.2⟩
end Go.Proofs.YtdpbgbhlcebmgaaDoor
