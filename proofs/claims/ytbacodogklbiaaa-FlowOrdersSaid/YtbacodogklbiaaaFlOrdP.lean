/- The order of flows: plain facts. No program is named. -/
import Derived.Test.YtbacodogklbiaaaFlOrd
namespace Go.Proofs.Ytbacodogklbiaaa
open Go.RowKit
set_option linter.unusedVariables false
theorem lessL_trans : ∀ (x y z : List Int), x.length = y.length → y.length = z.length → lessL y x = false → lessL z y = false → lessL z x = false
  | [], [], [], _, _, _, _ => rfl
  | x :: xs, y :: ys, z :: zs, h1, h2, g1, g2 => by
    unfold lessL at g1 g2 ⊢
    simp only [List.length_cons] at h1 h2
    by_cases e1 : y = x
    · by_cases e2 : z = y
      · rw [if_neg (by omega)] at g1 g2 ⊢
        exact lessL_trans xs ys zs (by omega) (by omega) g1 g2
      · rw [if_pos e2] at g2
        rw [if_pos (by omega)]
        simp at g2 ⊢
        omega
    · rw [if_pos e1] at g1
      by_cases e2 : z = y
      · rw [if_pos (by omega)]
        simp at g1 ⊢
        omega
      · rw [if_pos e2] at g2
        simp at g1 g2
        rw [if_pos (by omega)]
        simp
        omega
theorem ordI_neg (a b : Int) : ordI b a = - ordI a b := by unfold ordI; repeat' split <;> omega
theorem ordI_zero (a b : Int) (h : ordI a b = 0) : a = b := by
  unfold ordI at h
  split at h
  · omega
  · split at h <;> omega
theorem nzF_neg : ∀ (xs ys : List Int), ys = xs.map (fun x => -x) → nzF ys = - nzF xs
  | [], _, h => by subst h; rfl
  | x :: xs, _, h => by
    subst h
    simp only [List.map_cons]
    unfold nzF
    by_cases e : x = 0
    · rw [if_neg (by omega), if_neg (by omega)]
      exact nzF_neg xs _ rfl
    · rw [if_pos (by omega), if_pos e]
theorem nzF_zero : ∀ (xs : List Int), nzF xs = 0 → ∀ x ∈ xs, x = 0
  | [], _, x, h => by simp at h
  | y :: ys, h0, x, h => by
    unfold nzF at h0
    by_cases e : y = 0
    · rw [if_neg (by omega)] at h0
      rcases List.mem_cons.1 h with rfl | h
      · exact e
      · exact nzF_zero ys h0 x h
    · rw [if_pos e] at h0; omega
theorem orderF_neg (a b : Fl) : orderF b a = - orderF a b := by
  unfold orderF
  refine nzF_neg _ _ ?_
  simp only [List.map_cons, List.map_nil]
  rw [ordI_neg a.p b.p, ordI_neg a.s b.s, ordI_neg a.f b.f, ordI_neg a.d b.d, ordI_neg a.t b.t]
theorem orderF_zero (a b : Fl) (h : orderF a b = 0) : a = b := by
  unfold orderF at h
  have h := nzF_zero _ h
  obtain ⟨ap, as1, ad, af, at1⟩ := a
  obtain ⟨bp, bs, bd, bf, bt⟩ := b
  simp only [List.mem_cons, List.not_mem_nil, or_false, forall_eq_or_imp, forall_eq] at h
  obtain ⟨h1, h2, h3, h4, h5⟩ := h
  have e1 := ordI_zero _ _ h1
  have e2 := ordI_zero _ _ h2
  have e3 := ordI_zero _ _ h3
  have e4 := ordI_zero _ _ h4
  have e5 := ordI_zero _ _ h5
  try dsimp only at e1 e2 e3 e4 e5
  congr 1 <;> omega
theorem orderF_trans (a b c : Fl) (h1 : orderF a b ≤ 0) (h2 : orderF b c ≤ 0) : orderF a c ≤ 0 := by
  have g1 := order_less b a
  have g2 := order_less c b
  have g3 := order_less c a
  have n1 := orderF_neg a b
  have n2 := orderF_neg b c
  have n3 := orderF_neg a c
  have k1 : lessL b.l a.l = false := by rw [← g1]; simp; omega
  have k2 : lessL c.l b.l = false := by rw [← g2]; simp; omega
  have k3 := lessL_trans a.l b.l c.l rfl rfl k1 k2
  rw [← g3] at k3
  simp at k3
  omega
end Go.Proofs.Ytbacodogklbiaaa
