/- Sums of texts that are put one behind the other, or changed at one place: plain facts on lists. -/
import Derived.Test.YtlipckpacdioiaaDoorPlainSum
namespace Go.Proofs.YtlipckpacdioiaaDoor
theorem prs_cons2 (a b : Int) (r : List Int) : prs (a :: b :: r) = (256 * a + b) :: prs r := by
  unfold prs
  have h : ((a :: b :: r).length + 1) / 2 = (r.length + 1) / 2 + 1 := by simp; omega
  rw [h, List.range_succ_eq_map]
  simp [Nat.mul_add]
theorem prs_append : ∀ (xs ys : List Int), xs.length % 2 = 0 → prs (xs ++ ys) = prs xs ++ prs ys
  | [], ys, _ => by simp [prs]
  | [a], ys, h => by simp at h
  | a :: b :: r, ys, h => by
    have := prs_append r ys (by simp at h; omega)
    rw [List.cons_append, List.cons_append, prs_cons2, prs_cons2, this, List.cons_append]
theorem prs_pair (a b : Int) : prs [a, b] = [256 * a + b] := by rw [prs_cons2]; rfl
theorem psum_append (xs ys : List Int) (h : xs.length % 2 = 0) : psum (xs ++ ys) = psum xs + psum ys := by
  unfold psum; rw [prs_append xs ys h, List.sum_append]
theorem psum_pair (a b : Int) : psum [a, b] = 256 * a + b := by unfold psum; rw [prs_pair]; simp
/-- A number behind an even text. -/
theorem csum_behind (xs : List Int) (m : Nat) (hm : m ≤ 65535) (h : xs.length % 2 = 0) : csum (xs ++ numB 2 m) = 65535 - f16 (psum xs + m) := by
  have e : numB 2 m = [(m : Int) / 256, (m : Int) % 256] := by
    have h1 : numB 2 m = [byteAt m 1, byteAt m 0] := rfl
    rw [h1]; unfold byteAt; simp; omega
  unfold csum
  rw [psum_append _ _ h, e, psum_pair]
  congr 2
  omega
theorem right_good (P n : Int) (_hP : 0 ≤ P) (h : n = 65535 - f16 P) : 65535 - f16 (P + n) = 0 := by
  unfold f16 at *; split at h <;> split <;> omega
theorem right_top (P : Int) (_hP : 0 ≤ P) (h : (0 : Int) = 65535 - f16 P) : 65535 - f16 (P + 65535) = 0 := by
  unfold f16 at *; split at h <;> split <;> omega
theorem right_bad (P n m : Int) (_hP : 0 ≤ P) (h : n = 65535 - f16 P) (hm0 : 0 ≤ m) (hm1 : m ≤ 65535) (hne : m ≠ n) (hz : ¬ (n = 0 ∧ m = 65535)) : 65535 - f16 (P + m) ≠ 0 := by
  unfold f16 at *; split at h <;> split <;> omega
theorem xor_ne (n t : Nat) (h : t ≠ 0) : n ^^^ t ≠ n := by
  intro e
  have h2 : n ^^^ (n ^^^ t) = n ^^^ n := by rw [e]
  rw [← Nat.xor_assoc, Nat.xor_self, Nat.zero_xor] at h2
  exact h h2
theorem xor_lt (n t : Nat) (h1 : n < 65536) (h2 : t < 65536) : n ^^^ t < 65536 := Nat.xor_lt_two_pow (n := 16) h1 h2
theorem and_one (n : Nat) (h : n < 9223372036854775808) : bits .and .i64 (n : Int) 1 = ((n % 2 : Nat) : Int) := by
  have hk : ∀ m : Int, 0 ≤ m → m < 2 ^ 63 → IntKind.i64.wrap m = m := fun m h0 h1 => by rw [IntKind.wrap_i64]; omega
  have := bits_mask .i64 63 (by decide) hk 1 (by decide) (n : Int) (by omega) (by omega)
  exact this
theorem and_ffff (x : Int) : ∃ k : Nat, k ≤ 65535 ∧ bits .and .i64 x 65535 = (k : Int) := by
  refine ⟨(BitVec.ofInt 64 x &&& BitVec.ofInt 64 65535).toNat, ?_, ?_⟩
  · rw [BitVec.toNat_and]
    exact Nat.and_le_right
  · have hle : (BitVec.ofInt 64 x &&& BitVec.ofInt 64 65535).toNat ≤ 65535 := by rw [BitVec.toNat_and]; exact Nat.and_le_right
    show IntKind.i64.wrap (((BitVec.ofInt 64 x &&& BitVec.ofInt 64 65535).toNat : Nat) : Int) = _
    rw [IntKind.wrap_i64]
    omega
end Go.Proofs.YtlipckpacdioiaaDoor
