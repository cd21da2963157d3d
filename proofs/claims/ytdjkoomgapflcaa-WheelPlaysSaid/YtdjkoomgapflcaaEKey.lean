/- Keys of two numbers: a second, and a key. -/
import Derived.Test.YtdjkoomgapflcaaKBase
namespace Go.Proofs.Ytdjkoomgapflcaa
open Go.RowKit Go.Deep
set_option linter.unusedVariables false
/-- A key of the ends: the second, and the key. -/
structure EK where
  s : Int
  k : Int
  hs : 0 ≤ s ∧ s ≤ 18446744073709551615
  hk : -9223372036854775808 ≤ k ∧ k ≤ 9223372036854775807
/-- Its measure. -/
def tE (x : EK) : Int := x.s * 18446744073709551616 + x.k
theorem tE_inj {x y : EK} (h : tE x = tE y) : x = y := by
  obtain ⟨a, b, h1, h2⟩ := x
  obtain ⟨c, d, h3, h4⟩ := y
  unfold tE at h
  dsimp only at h h1 h2 h3 h4
  have e1 : a = c := by omega
  subst e1
  have e2 : b = d := by omega
  subst e2
  rfl
theorem sgn_lt {x y : Int} (h : x < y) : sgn x y = -1 := by unfold sgn; rw [if_pos h]
theorem sgn_gt {x y : Int} (h : y < x) : sgn x y = 1 := by unfold sgn; rw [if_neg (by omega), if_pos h]
theorem sgn_eq (x : Int) : sgn x x = 0 := by unfold sgn; rw [if_neg (by omega), if_neg (by omega)]
theorem tE_sgn (x y : EK) : sgn (tE x) (tE y) = if sgn x.s y.s ≠ 0 then sgn x.s y.s else sgn x.k y.k := by
  obtain ⟨a, b, h1, h2⟩ := x
  obtain ⟨c, d, h3, h4⟩ := y
  unfold tE
  dsimp only at h1 h2 h3 h4 ⊢
  rcases Int.lt_trichotomy a c with h | h | h
  · rw [sgn_lt h, if_pos (by decide), sgn_lt (by omega)]
  · subst h
    rw [sgn_eq, if_neg (by decide)]
    rcases Int.lt_trichotomy b d with h | h | h
    · rw [sgn_lt h, sgn_lt (by omega)]
    · subst h; rw [sgn_eq, sgn_eq]
    · rw [sgn_gt h, sgn_gt (by omega)]
  · rw [sgn_gt h, if_pos (by decide), sgn_gt (by omega)]
end Go.Proofs.Ytdjkoomgapflcaa
