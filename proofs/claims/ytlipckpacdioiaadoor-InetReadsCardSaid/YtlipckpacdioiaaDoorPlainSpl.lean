/- A text of which one number of two bytes becomes another: plain facts on its sum. -/
import Derived.Test.YtlipckpacdioiaaDoorPlainSums
namespace Go.Proofs.YtlipckpacdioiaaDoor
/-- The text with other bytes at a place. -/
def spl (xs : List Int) (o : Nat) (ys : List Int) : List Int := xs.take o ++ ys ++ xs.drop (o + ys.length)
theorem spl_len (xs : List Int) (o : Nat) (ys : List Int) (h : o + ys.length ≤ xs.length) : (spl xs o ys).length = xs.length := by
  simp [spl]; omega
theorem spl_rng (xs ys : List Int) (o : Nat) (h1 : ∀ x ∈ xs, 0 ≤ x ∧ x ≤ 255) (h2 : ∀ x ∈ ys, 0 ≤ x ∧ x ≤ 255) : ∀ x ∈ spl xs o ys, 0 ≤ x ∧ x ≤ 255 := by
  intro x hx
  rw [spl, List.mem_append, List.mem_append] at hx
  rcases hx with (h | h) | h
  · exact h1 x (List.mem_of_mem_take h)
  · exact h2 x h
  · exact h1 x (List.mem_of_mem_drop h)
theorem spl_self (xs : List Int) (q : Nat) (h : 2 * q + 1 < xs.length) : xs = spl xs (2 * q) [xs[2 * q]?.getD 0, xs[2 * q + 1]?.getD 0] := by
  rw [spl, List.getElem?_eq_getElem h, List.getElem?_eq_getElem (show 2 * q < xs.length by omega)]
  simp only [Option.getD_some, List.length_cons, List.length_nil]
  conv => lhs; rw [← List.take_append_drop (2 * q) xs, List.drop_eq_getElem_cons (show 2 * q < xs.length by omega), List.drop_eq_getElem_cons h]
  simp
theorem psum_spl (xs : List Int) (q : Nat) (a b : Int) (h : 2 * q + 1 < xs.length) : psum (spl xs (2 * q) [a, b]) = psum (xs.take (2 * q)) + (256 * a + b) + psum (xs.drop (2 * q + 2)) := by
  have h1 : (xs.take (2 * q)).length = 2 * q := by rw [List.length_take]; omega
  rw [spl, psum_append _ _ (by rw [List.length_append, h1]; simp), psum_append _ _ (by rw [h1]; omega), psum_pair]
  rfl
theorem psum_change (xs : List Int) (q : Nat) (a b : Int) (h : 2 * q + 1 < xs.length) :
    psum (spl xs (2 * q) [a, b]) = psum xs - (256 * xs[2 * q]?.getD 0 + xs[2 * q + 1]?.getD 0) + (256 * a + b) := by
  have h1 := psum_spl xs q a b h
  have h2 := psum_spl xs q (xs[2 * q]?.getD 0) (xs[2 * q + 1]?.getD 0) h
  rw [← spl_self xs q h] at h2
  omega
theorem psum_pos : ∀ (xs : List Int), (∀ x ∈ xs, 0 ≤ x ∧ x ≤ 255) → xs.length % 2 = 0 → (xs.all (· == 0)) = false → 0 < psum xs
  | [], _, _, h => by simp at h
  | [a], _, h, _ => by simp at h
  | a :: b :: r, hb, hl, h => by
    have ha := hb a (by simp)
    have hbb := hb b (by simp)
    have hr := psum_rng r (fun x hx => hb x (by simp [hx]))
    have e : psum (a :: b :: r) = (256 * a + b) + psum r := by unfold psum; rw [prs_cons2]; simp
    rw [e]
    by_cases h1 : a = 0 ∧ b = 0
    · have := psum_pos r (fun x hx => hb x (by simp [hx])) (by simp at hl; omega) (by simpa [h1.1, h1.2] using h)
      omega
    · omega
theorem f16_plus (m : Int) (h : 0 < m) : f16 (m + 65535) = f16 m := by unfold f16; split <;> split <;> omega
end Go.Proofs.YtlipckpacdioiaaDoor
