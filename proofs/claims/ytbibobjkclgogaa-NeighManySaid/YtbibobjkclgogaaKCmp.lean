/- cmp.Compare, cmp.Or. -/
import Derived.Test.YtbibobjkclgogaaEKey
import Derived.Deep.Cut
import Derived.IntWalk
namespace Go.Proofs.Ytbibobjkclgogaa
open Go.RowKit Go.Deep
set_option linter.unusedVariables false
set_option linter.unusedSimpArgs false
set_option maxRecDepth 100000
def ordI (a b : Int) : Int := if a < b then -1 else if b < a then 1 else 0
def nzF : List Int → Int
  | [] => 0
  | x :: xs => if x ≠ 0 then x else nzF xs
theorem nz_all : ∀ (xs : List Int), (∀ x ∈ xs, x = 0) → nzF xs = 0
  | [], _ => rfl
  | x :: xs, h => by
    unfold nzF
    rw [if_neg (by have := h x (by simp); omega)]
    exact nz_all xs fun y hy => h y (by simp [hy])
theorem nz_at : ∀ (xs : List Int) (j : Nat), j < xs.length → (∀ k, k < j → xs[k]?.getD 0 = 0) → xs[j]?.getD 0 ≠ 0 → nzF xs = xs[j]?.getD 0
  | [], _, h, _, _ => by simp at h
  | x :: xs, 0, _, _, h => by unfold nzF; simp at h; rw [if_pos h]; simp
  | x :: xs, j + 1, hj, h0, h => by
    unfold nzF
    have hx := h0 0 (by omega)
    simp at hx
    rw [if_neg (by omega)]
    simp at h hj ⊢
    exact nz_at xs j (by omega) (fun k hk => by have := h0 (k + 1) (by omega); simpa using this) h
theorem ordI_sgn (a b : Int) : ordI a b = sgn a b := rfl
theorem cmpX_anyN (a : Int) (w : World) : Calls Try.prog 43 #[.int .u32 a] w fun e w' => e = .returned (.bool false) ∧ w' = w := by
  go_enter Try.func43, Try.ntmps43
  go_wp2_with fail
  go_ret
  exact ⟨by simp, rfl⟩
theorem cmpX_any (a b : Int) (w : World) : Calls Try.prog 20 #[.int .u32 a, .int .u32 b] w fun e w' => e = .returned (.int .i64 (ordI a b)) ∧ w' = w := by
  obtain ⟨r, hr⟩ : ∃ r, ordI a b = r := ⟨_, rfl⟩
  rw [hr]
  unfold ordI at hr
  by_cases h1 : a < b
  · have d1 : decide (a < b) = true := by simpa using h1
    have HR := hide (show r = -1 by rw [← hr, if_pos h1])
    clear hr h1
    go_enter Try.func20, Try.ntmps20
    go_wp2_with ((with_reducible refine (cmpX_anyN _ _).mono ?_); rintro _ w1 ⟨rfl, rfl⟩)
    go_ret
    exact ⟨by rw [HR.out]; rfl, rfl⟩
  · have d1 : decide (a < b) = false := by simpa using h1
    by_cases h2 : b < a
    · have d2 : decide (b < a) = true := by simpa using h2
      have HR := hide (show r = 1 by rw [← hr, if_neg h1, if_pos h2])
      clear hr h1 h2
      go_enter Try.func20, Try.ntmps20
      go_wp2_with ((with_reducible refine (cmpX_anyN _ _).mono ?_); rintro _ w1 ⟨rfl, rfl⟩)
      go_ret
      exact ⟨by rw [HR.out]; rfl, rfl⟩
    · have d2 : decide (b < a) = false := by simpa using h2
      have HR := hide (show r = 0 by rw [← hr, if_neg h1, if_neg h2])
      clear hr h1 h2
      go_enter Try.func20, Try.ntmps20
      go_wp2_with ((with_reducible refine (cmpX_anyN _ _).mono ?_); rintro _ w1 ⟨rfl, rfl⟩)
      go_ret
      exact ⟨by rw [HR.out]; rfl, rfl⟩
end Go.Proofs.Ytbibobjkclgogaa
