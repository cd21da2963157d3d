/- The Internet's check sums: plain facts on numbers and lists. -/
import Derived.Test.YtlipckpacdioiaaDoorPlain
namespace Go.Proofs.YtlipckpacdioiaaDoor
/-- What goes beyond two bytes added to the rest, until nothing does. -/
def f16 (n : Int) : Int := if n ≤ 0 then 0 else (n - 1) % 65535 + 1
theorem f16_rng (n : Int) : 0 ≤ f16 n ∧ f16 n ≤ 65535 := by unfold f16; split <;> omega
theorem f16_small (n : Int) (h0 : 0 ≤ n) (h : n ≤ 65535) : f16 n = n := by unfold f16; split <;> omega
theorem f16_step (n : Int) (h0 : 0 ≤ n) : f16 (n / 65536 + n % 65536) = f16 n := by unfold f16; split <;> split <;> omega
theorem f16_add (a b : Int) (ha : 0 ≤ a) (hb : 0 ≤ b) : f16 (f16 a + b) = f16 (a + b) := by unfold f16; split <;> split <;> split <;> omega
theorem f16_two (a b : Int) (h1 : 0 ≤ a) (h2 : a ≤ 65535) (h3 : 0 ≤ b) (h4 : b ≤ 65535) : (if 65535 < a + b then a + b - 65535 else a + b) = f16 (a + b) := by unfold f16; split <;> split <;> omega
theorem xor_nat (b : Nat) (hb : b < 65536) : 65535 ^^^ b = 65535 - b := by
  have h : (BitVec.allOnes 16 ^^^ BitVec.ofNat 16 b).toNat = (~~~ BitVec.ofNat 16 b).toNat := by rw [BitVec.allOnes_xor]
  rw [BitVec.toNat_xor, BitVec.toNat_not, BitVec.toNat_allOnes, BitVec.toNat_ofNat, Nat.mod_eq_of_lt (by omega)] at h
  exact h
theorem xor16 (x : Int) (h1 : 0 ≤ x) (h2 : x ≤ 65535) : bits .xor .u16 IntKind.u16.max x = 65535 - x := by
  obtain ⟨b, rfl⟩ := Int.eq_ofNat_of_zero_le h1
  have h := u16_xor_nat 65535 b (by decide) (by omega)
  rw [xor_nat b (by omega)] at h
  have e : IntKind.u16.max = ((65535 : Nat) : Int) := rfl
  rw [e, h]
  omega
/-- The sum of the numbers of two bytes each; the check sum. -/
def psum (xs : List Int) : Int := (prs xs).sum
def csum (xs : List Int) : Int := 65535 - f16 (psum xs)
theorem csum_rng (xs : List Int) : 0 ≤ csum xs ∧ csum xs ≤ 65535 := by have := f16_rng (psum xs); unfold csum; omega
theorem prs_rng (xs : List Int) (h : ∀ x ∈ xs, 0 ≤ x ∧ x ≤ 255) : ∀ y ∈ prs xs, 0 ≤ y ∧ y ≤ 65535 := by
  intro y hy
  simp only [prs, List.mem_map] at hy
  obtain ⟨k, _, rfl⟩ := hy
  have h1 := byte_at h (2 * k)
  have h2 := byte_at h (2 * k + 1)
  omega
theorem sum_rng (ys : List Int) (h : ∀ y ∈ ys, 0 ≤ y ∧ y ≤ 65535) : 0 ≤ ys.sum ∧ ys.sum ≤ 65535 * ys.length := by
  induction ys with
  | nil => simp
  | cons y r ih =>
    have h1 := h y (by simp)
    have h2 := ih (fun z hz => h z (by simp [hz]))
    rw [List.sum_cons, List.length_cons]
    push_cast
    omega
theorem psum_rng (xs : List Int) (h : ∀ x ∈ xs, 0 ≤ x ∧ x ≤ 255) : 0 ≤ psum xs ∧ psum xs ≤ 65535 * xs.length := by
  have := sum_rng (prs xs) (prs_rng xs h)
  rw [prs_len] at this
  unfold psum
  omega
end Go.Proofs.YtlipckpacdioiaaDoor
