/- Numbers of two bytes as bytes, and back: plain facts on lists. -/
import Derived.Test.YtjongigofaobdaaPlain
namespace Go.Proofs.Ytjongigofaobdaa
def encB (xs : List Int) : List Int := xs.flatMap fun x => [x / 256, x % 256]
theorem encB_len (xs : List Int) : (encB xs).length = 2 * xs.length := by
  induction xs with
  | nil => rfl
  | cons x r ih => simp [encB] at ih ⊢; omega
theorem encB_hi (xs : List Int) (i : Nat) : (encB xs)[2 * i]? = xs[i]?.map (· / 256) := by
  induction xs generalizing i with
  | nil => simp [encB]
  | cons x r ih =>
    cases i with
    | zero => simp [encB]
    | succ i => have := ih i; simp [encB, Nat.mul_add] at this ⊢; exact this
theorem encB_lo (xs : List Int) (i : Nat) : (encB xs)[2 * i + 1]? = xs[i]?.map (· % 256) := by
  induction xs generalizing i with
  | nil => simp [encB]
  | cons x r ih =>
    cases i with
    | zero => simp [encB]
    | succ i => have := ih i; simp [encB, Nat.mul_add] at this ⊢; exact this
theorem prs_encB (xs : List Int) : prs (encB xs) = xs := by
  apply List.ext_getElem
  · rw [prs_len, encB_len]; omega
  · intro i h1 h2
    simp only [prs, List.getElem_map, List.getElem_range, encB_hi, encB_lo, List.getElem?_eq_getElem h2, Option.map_some, Option.getD_some]
    omega
theorem encB_rng (xs : List Int) (h : ∀ x ∈ xs, 0 ≤ x ∧ x ≤ 65535) : ∀ x ∈ encB xs, 0 ≤ x ∧ x ≤ 255 := by
  intro y hy
  simp [encB] at hy
  obtain ⟨x, hx, rfl | rfl⟩ := hy <;> have := h x hx <;> omega
theorem encB_snoc (xs : List Int) (k : Nat) (hk : k < xs.length) : encB (xs.take (k + 1)) = encB (xs.take k) ++ [xs[k]?.getD 0 / 256, xs[k]?.getD 0 % 256] := by
  rw [List.take_add_one, List.getElem?_eq_getElem hk, encB, List.flatMap_append]
  simp [encB]
theorem numB_two (n : Nat) (h : n ≤ 65535) : numB 2 n = [(n : Int) / 256, (n : Int) % 256] := by
  have h1 : numB 2 n = [byteAt n 1, byteAt n 0] := rfl
  rw [h1]; unfold byteAt; simp; omega
end Go.Proofs.Ytjongigofaobdaa
