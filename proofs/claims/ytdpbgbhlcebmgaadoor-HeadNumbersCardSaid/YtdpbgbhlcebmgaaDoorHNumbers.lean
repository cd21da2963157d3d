/- Head: HeadNumbers. -/
import Derived.Test.YtdpbgbhlcebmgaaDoorHEnv
import Derived.Test.YtdpbgbhlcebmgaaDoorHRnum
namespace Go.Proofs.YtdpbgbhlcebmgaaDoor
open Go.RowKit Go.Deep
set_option linter.unusedVariables false
set_option linter.unusedSimpArgs false
set_option maxRecDepth 100000
def YesN (w : World) (e : Ending) (w' : World) : Prop := e = .returned (.bool true) ∧ Below w.heap.size w w'
set_option maxHeartbeats 2000000 in
theorem headNumbers_any (s : ByteArray) (base most : Int) (w : World) (hE : Env w) : Calls Tryd.prog 4 #[.string s, .int .i64 base, .int .i64 most] w (YesN w) := by
  have HS := hide (speaks_any w hE)
  have HE := hide hE
  obtain ⟨n, hn⟩ : ∃ n, s.size = n := ⟨_, rfl⟩
  obtain ⟨r, hr⟩ : ∃ r, numberL s.data.toList base most = r := ⟨_, rfl⟩
  have h1 := fun w h => number_any s base most w h
  have h2 := fun w => rnumber_any s base most w
  rw [hr] at h1 h2
  have H1 := hide h1
  have H2 := hide h2
  clear hE h1 h2 hr
  by_cases hn1 : 1000 < n
  · have d1 : decide ((1000 : Int) < (n : Int)) = true := by simp; omega
    clear hn1
    go_enter Tryd.func4, Tryd.ntmps4
    go_wp2_with fail
    refine HS.out.mono ?_
    rintro e w1 ⟨rfl, b1⟩
    have HB := hide b1
    clear b1
    go_wp2_with fail
    go_ret
    exact ⟨rfl, HB.out⟩
  have d1 : decide ((1000 : Int) < (n : Int)) = false := by simp; omega
  clear hn1
  go_enter Tryd.func4, Tryd.ntmps4
  go_wp2_with fail
  refine HS.out.mono ?_
  rintro e w1 ⟨rfl, b1⟩
  have HB := hide b1
  clear b1
  go_wp2_with fail
  have H11 := hide (H1.out w1 (HE.out.below HB.out (Nat.le_refl _)))
  (with_reducible refine H11.out.mono ?_)
  rintro e w2 ⟨rfl, b2⟩
  have HB2 := hide (HB.out.trans (b2.mono HB.out.size))
  clear b2 H11 H1 HB
  cases r with
  | none =>
    unfold numberV
    go_wp2_with fail
    have H22 := hide (H2.out w2)
    (with_reducible refine H22.out.mono ?_)
    rintro e w3 ⟨rfl, rfl⟩
    unfold numberV
    go_wp2_with fail
    go_ret
    exact ⟨rfl, HB2.out⟩
  | some k =>
    unfold numberV
    go_wp2_with fail
    have H22 := hide (H2.out w2)
    (with_reducible refine H22.out.mono ?_)
    rintro e w3 ⟨rfl, rfl⟩
    unfold numberV
    go_wp2_with fail
    go_ret
    exact ⟨rfl, HB2.out⟩
end Go.Proofs.YtdpbgbhlcebmgaaDoor
