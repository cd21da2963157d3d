/- A text of which two numbers of two bytes stand in each other's place: plain facts on its sum. -/
import Derived.Test.YtpchmajgeanflaaPlainSame
namespace Go.Proofs.Ytpchmajgeanflaa
theorem set_spl (xs : List Int) (q : Nat) (a b : Int) (h : 2 * q + 1 < xs.length) : (xs.set (2 * q) a).set (2 * q + 1) b = spl xs (2 * q) [a, b] := by
  apply List.ext_getElem?
  intro i
  rw [spl]
  by_cases h1 : i < 2 * q
  · rw [List.getElem?_set_ne (by omega), List.getElem?_set_ne (by omega), List.append_assoc, List.getElem?_append_left (by rw [List.length_take]; omega), List.getElem?_take_of_lt h1]
  · have hl : (xs.take (2 * q)).length = 2 * q := by rw [List.length_take]; omega
    rw [List.append_assoc, List.getElem?_append_right (by omega), hl]
    by_cases h2 : i = 2 * q
    · subst h2
      rw [List.getElem?_set_ne (by omega), List.getElem?_set_self (by omega)]
      simp
    · by_cases h3 : i = 2 * q + 1
      · subst h3
        rw [List.getElem?_set_self (by simpa using h)]
        simp [show 2 * q + 1 - 2 * q = 1 by omega]
      · rw [List.getElem?_set_ne (by omega), List.getElem?_set_ne (by omega), List.getElem?_append_right (by simp; omega), List.getElem?_drop]
        congr 1; simp; omega
/-- Two numbers in each other's place. -/
def swp (xs : List Int) (q p : Nat) : List Int :=
  (((xs.set (2 * q) (xs[2 * p]?.getD 0)).set (2 * q + 1) (xs[2 * p + 1]?.getD 0)).set (2 * p) (xs[2 * q]?.getD 0)).set (2 * p + 1) (xs[2 * q + 1]?.getD 0)
theorem swp_len (xs : List Int) (q p : Nat) : (swp xs q p).length = xs.length := by simp [swp]
theorem swp_psum (xs : List Int) (q p : Nat) (hq : 2 * q + 1 < xs.length) (hp : 2 * p + 1 < xs.length) : psum (swp xs q p) = psum xs := by
  unfold swp
  have hl : ((xs.set (2 * q) (xs[2 * p]?.getD 0)).set (2 * q + 1) (xs[2 * p + 1]?.getD 0)).length = xs.length := by simp
  rw [set_spl _ p _ _ (by rw [hl]; exact hp), psum_change _ p _ _ (by rw [hl]; exact hp), set_spl xs q _ _ hq, psum_change xs q _ _ hq, ← set_spl xs q _ _ hq]
  by_cases e : q = p
  · subst e
    rw [List.getElem?_set_ne (by omega), List.getElem?_set_self (by omega), List.getElem?_set_self (by simpa using hq)]
    simp only [Option.getD_some]
    omega
  · rw [List.getElem?_set_ne (by omega), List.getElem?_set_ne (by omega), List.getElem?_set_ne (by omega), List.getElem?_set_ne (by omega)]
    omega
theorem swp_csum (xs : List Int) (q p : Nat) (hq : 2 * q + 1 < xs.length) (hp : 2 * p + 1 < xs.length) : csum (swp xs q p) = csum xs := by
  unfold csum; rw [swp_psum xs q p hq hp]
theorem set_rng (xs : List Int) (i : Nat) (v : Int) (h : ∀ x ∈ xs, 0 ≤ x ∧ x ≤ 255) (hv : 0 ≤ v ∧ v ≤ 255) : ∀ x ∈ xs.set i v, 0 ≤ x ∧ x ≤ 255 := by
  intro x hx
  rcases List.mem_or_eq_of_mem_set hx with h1 | h1
  · exact h x h1
  · subst h1; exact hv
theorem swp_rng (xs : List Int) (q p : Nat) (h : ∀ x ∈ xs, 0 ≤ x ∧ x ≤ 255) (hb : ∀ i : Nat, 0 ≤ xs[i]?.getD 0 ∧ xs[i]?.getD 0 ≤ 255) : ∀ x ∈ swp xs q p, 0 ≤ x ∧ x ≤ 255 :=
  set_rng _ _ _ (set_rng _ _ _ (set_rng _ _ _ (set_rng _ _ _ h (hb _)) (hb _)) (hb _)) (hb _)
end Go.Proofs.Ytpchmajgeanflaa
