/- The number of a number's bytes, and texts of such bytes: plain facts on lists. -/
import Derived.Test.YtbacodogklbiaaaPlain
namespace Go.Proofs.Ytbacodogklbiaaa
theorem foldl_val (xs : List Int) (a : Int) : xs.foldl (fun a x => 256 * a + x) a = a * 256 ^ xs.length + xs.foldl (fun a x => 256 * a + x) 0 := by
  induction xs generalizing a with
  | nil => simp
  | cons x r ih =>
    rw [List.foldl_cons, ih, List.foldl_cons, ih (256 * 0 + x), List.length_cons, Int.pow_succ]
    rw [Int.add_mul, Int.add_mul, Int.mul_comm 256 a, Int.mul_assoc a 256, Int.mul_comm 256 (256 ^ r.length)]
    simp [Int.add_assoc]
theorem valB_cons (x : Int) (xs : List Int) : valB (x :: xs) = x * 256 ^ xs.length + valB xs := by
  rw [valB, List.foldl_cons, foldl_val, valB]; simp
theorem numB_cons (k n : Nat) : numB (k + 1) n = byteAt n k :: numB k n := by
  unfold numB
  rw [List.range_succ_eq_map]
  simp
  intro i hi
  congr 1; omega
theorem valB_numB (L n : Nat) : valB (numB L n) = ((n % 256 ^ L : Nat) : Int) := by
  induction L with
  | zero => simp [numB, valB, Nat.mod_one]
  | succ L ih =>
    rw [numB_cons, valB_cons, ih, numB_len, Nat.pow_succ, Nat.mod_mul, byteAt]
    rw [Int.natCast_add, Int.natCast_mul, Int.natCast_pow, Int.mul_comm, Int.add_comm]
    rfl
/-- Numbers' bytes, one number behind the other. -/
def encL (L : Nat) (ns : List Nat) : List Int := ns.flatMap (numB L)
theorem encL_len (L : Nat) (ns : List Nat) : (encL L ns).length = L * ns.length := by
  induction ns with
  | nil => rfl
  | cons n r ih => simp [encL, numB_len] at ih ⊢; rw [ih, Nat.mul_add]; omega
theorem encL_snoc (L : Nat) (ns : List Nat) (k : Nat) (hk : k < ns.length) : encL L (ns.take (k + 1)) = encL L (ns.take k) ++ numB L (ns[k]?.getD 0) := by
  rw [List.take_add_one, List.getElem?_eq_getElem hk, encL, List.flatMap_append]
  simp [encL]
theorem encL_rng (L : Nat) (ns : List Nat) : ∀ x ∈ encL L ns, 0 ≤ x ∧ x ≤ 255 := by
  intro x hx
  simp [encL] at hx
  obtain ⟨n, _, hx⟩ := hx
  exact numB_rng L n x hx
theorem encL_drop (L : Nat) (ns : List Nat) (k : Nat) (hk : k < ns.length) : encL L (ns.drop k) = numB L (ns[k]?.getD 0) ++ encL L (ns.drop (k + 1)) := by
  rw [List.drop_eq_getElem_cons hk, List.getElem?_eq_getElem hk, encL, List.flatMap_cons]
  rfl
theorem and64 (n j : Nat) (hj : j ≤ 7) (hn : n < 18446744073709551616) : bits .and .u64 (n : Int) (256 ^ j - 1) = ((n % 256 ^ j : Nat) : Int) := by
  have h := bits_mask .u64 64 (by decide) wraps_u64 (8 * j) (by omega) (n : Int) (by omega) (by omega)
  have e : (2 : Int) ^ (8 * j) = 256 ^ j := by rw [Int.pow_mul]; rfl
  rw [e] at h
  rw [h, Int.natCast_emod, Int.natCast_pow]
  rfl
theorem pow7 (j : Nat) (hj : j ≤ 7) : (256 : Int) ^ j ≤ 72057594037927936 := by
  rcases (show j = 0 ∨ j = 1 ∨ j = 2 ∨ j = 3 ∨ j = 4 ∨ j = 5 ∨ j = 6 ∨ j = 7 by omega) with rfl | rfl | rfl | rfl | rfl | rfl | rfl | rfl <;> decide
theorem and64w (n j : Nat) (hj : j ≤ 7) (hn : n < 18446744073709551616) : bits .and .u64 (n : Int) (IntKind.u64.wrap (IntKind.u64.wrap (2 ^ (8 * j)) - 1)) = ((n % 256 ^ j : Nat) : Int) := by
  have e : (2 : Int) ^ (8 * j) = 256 ^ j := by rw [Int.pow_mul]; rfl
  have h1 : (0 : Int) < 256 ^ j := Int.pow_pos (by decide)
  have h2 := pow7 j hj
  rw [e, wraps_u64 (256 ^ j) (by omega) (by omega), wraps_u64 _ (by omega) (by omega)]
  exact and64 n j hj hn
end Go.Proofs.Ytbacodogklbiaaa
