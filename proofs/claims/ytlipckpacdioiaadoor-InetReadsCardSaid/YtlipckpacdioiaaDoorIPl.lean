/- inet: plain facts on a packet's bytes. -/
import Derived.Test.YtlipckpacdioiaaDoorIRo
namespace Go.Proofs.YtlipckpacdioiaaDoor
open Go.RowKit
set_option linter.unusedVariables false
theorem xor_two (a b : Nat) : (a ^^^ b) % 2 = (a + b) % 2 := by
  have h := @Nat.xor_mod_two_eq_one a b
  omega
theorem xor_pow : ∀ (t x : Nat), x ^^^ 2 ^ t = x + 2 ^ t ∨ (2 ^ t ≤ x ∧ x ^^^ 2 ^ t = x - 2 ^ t)
  | 0, x => by
    have h1 : (x ^^^ 1) / 2 = x / 2 := by rw [Nat.xor_div_two]; simp
    have h2 : (x ^^^ 1) % 2 = (x + 1) % 2 := xor_two _ _
    rw [Nat.pow_zero]
    omega
  | t + 1, x => by
    have h := xor_pow t (x / 2)
    have hp : 2 ^ (t + 1) = 2 * 2 ^ t := by rw [Nat.pow_succ, Nat.mul_comm]
    have h1 : (x ^^^ 2 ^ (t + 1)) / 2 = x / 2 ^^^ 2 ^ t := by rw [Nat.xor_div_two, hp]; simp
    have h2 : (x ^^^ 2 ^ (t + 1)) % 2 = (x + 2 ^ (t + 1)) % 2 := xor_two _ _
    rw [hp] at h2 ⊢
    rw [hp] at h1
    generalize 2 ^ t = P at *
    generalize x / 2 ^^^ P = Y at *
    generalize x ^^^ 2 * P = Z at *
    omega
theorem psum_set : ∀ (xs : List Int) (i : Nat) (v : Int), i < xs.length → psum (xs.set i v) = psum xs + (v - xs[i]?.getD 0) * (if i % 2 = 0 then 256 else 1)
  | [], i, v, h => by simp at h
  | [a], i, v, h => by
    obtain rfl : i = 0 := by simp at h; exact h
    simp [psum, prs]
    omega
  | a :: b :: r, 0, v, _ => by
    simp only [List.set_cons_zero]
    unfold psum
    rw [prs_cons2, prs_cons2]
    simp
    omega
  | a :: b :: r, 1, v, _ => by
    simp only [List.set_cons_succ, List.set_cons_zero]
    unfold psum
    rw [prs_cons2, prs_cons2]
    simp
    omega
  | a :: b :: r, i + 2, v, h => by
    have ih := psum_set r i v (by simp at h; omega)
    simp only [List.set_cons_succ]
    unfold psum at *
    rw [prs_cons2, prs_cons2, List.sum_cons, List.sum_cons, ih]
    simp only [List.getElem?_cons_succ, show (i + 2) % 2 = i % 2 by omega]
    omega
theorem csum_set (hd xs : List Int) (i : Nat) (v : Int) (he : hd.length % 2 = 0) (hi : i < xs.length) (hhb : ∀ x ∈ hd, 0 ≤ x ∧ x ≤ 255) (hb : ∀ x ∈ xs, 0 ≤ x ∧ x ≤ 255) (hv : 0 ≤ v ∧ v ≤ 255) (hne : v ≠ xs[i]?.getD 0) (h0 : csum (hd ++ xs) = 0) : csum (hd ++ xs.set i v) ≠ 0 := by
  have hP := (psum_rng xs hb).1
  have hQ := (psum_rng hd hhb).1
  have hx := byte_at hb i
  unfold csum at *
  rw [psum_append _ _ he] at *
  rw [psum_set xs i v hi]
  generalize xs[i]?.getD 0 = y at *
  have hd1 : ∃ δ, (v - y) * (if i % 2 = 0 then 256 else 1) = δ ∧ δ ≠ 0 ∧ -65280 ≤ δ ∧ δ ≤ 65280 := by
    split
    · exact ⟨(v - y) * 256, rfl, by omega, by omega, by omega⟩
    · exact ⟨(v - y) * 1, rfl, by omega, by omega, by omega⟩
  obtain ⟨δ, e, h1, h2, h3⟩ := hd1
  rw [e]
  clear e
  unfold f16 at *
  split at h0 <;> split <;> omega

theorem psum_num2 (k : Nat) (hk : k ≤ 65535) : psum (numB 2 k) = (k : Int) := by
  have e : numB 2 k = [(k : Int) / 256, (k : Int) % 256] := by
    have h1 : numB 2 k = [byteAt k 1, byteAt k 0] := rfl
    rw [h1]; unfold byteAt; simp <;> omega
  rw [e, psum_pair]; omega
/-- A text with its check sum in it is right. -/
theorem seal_ok (A B : List Int) (hA : A.length % 2 = 0) (hbA : ∀ x ∈ A, 0 ≤ x ∧ x ≤ 255) (hbB : ∀ x ∈ B, 0 ≤ x ∧ x ≤ 255) : csum (A ++ (numB 2 (csum (A ++ ([0, 0] ++ B))).toNat ++ B)) = 0 := by
  have h1 := (psum_rng A hbA).1
  have h2 := (psum_rng B hbB).1
  have hr := csum_rng (A ++ ([0, 0] ++ B))
  obtain ⟨K, hK⟩ := Int.eq_ofNat_of_zero_le hr.1
  rw [hK]
  have hK2 : ((K : Int)).toNat = K := by omega
  rw [hK2]
  have e0 : csum (A ++ ([0, 0] ++ B)) = 65535 - f16 (psum A + psum B) := by
    unfold csum
    rw [psum_append _ _ hA, psum_append [0, 0] _ rfl, psum_pair]
    congr 2; omega
  have e1 : csum (A ++ (numB 2 K ++ B)) = 65535 - f16 (psum A + psum B + K) := by
    unfold csum
    rw [psum_append _ _ hA, psum_append (numB 2 K) _ (by rw [numB_len]), psum_num2 K (by omega)]
    congr 2; omega
  rw [e1]
  exact right_good (psum A + psum B) K (by omega) (by rw [← e0, hK])
theorem byte_pair (m : Nat) (h : m ≤ 65535) : (256 * byteAt m 1 + byteAt m 0).toNat = m := by unfold byteAt; omega
theorem byte_four (m : Nat) (h : m ≤ 4294967295) : (256 * (256 * (256 * byteAt m 3 + byteAt m 2) + byteAt m 1) + byteAt m 0).toNat = m := by unfold byteAt; omega
section
variable (b0 b1 b2 b3 b4 b5 b6 b7 b8 b9 b10 b11 b12 b13 b14 b15 b16 b17 b18 b19 : Int) (xs : List Int)
def hd20 : List Int := [b0, b1, b2, b3, b4, b5, b6, b7, b8, b9, b10, b11, b12, b13, b14, b15, b16, b17, b18, b19]
theorem hd20_len : (hd20 b0 b1 b2 b3 b4 b5 b6 b7 b8 b9 b10 b11 b12 b13 b14 b15 b16 b17 b18 b19).length = 20 := rfl
theorem fld_2 : fld (hd20 b0 b1 b2 b3 b4 b5 b6 b7 b8 b9 b10 b11 b12 b13 b14 b15 b16 b17 b18 b19 ++ xs) 2 2 = (256 * b2 + b3).toNat := by simp [fld, valB, hd20]
theorem fld_4 : fld (hd20 b0 b1 b2 b3 b4 b5 b6 b7 b8 b9 b10 b11 b12 b13 b14 b15 b16 b17 b18 b19 ++ xs) 4 2 = (256 * b4 + b5).toNat := by simp [fld, valB, hd20]
theorem fld_6 : fld (hd20 b0 b1 b2 b3 b4 b5 b6 b7 b8 b9 b10 b11 b12 b13 b14 b15 b16 b17 b18 b19 ++ xs) 6 2 = (256 * b6 + b7).toNat := by simp [fld, valB, hd20]
theorem fld_8 : fld (hd20 b0 b1 b2 b3 b4 b5 b6 b7 b8 b9 b10 b11 b12 b13 b14 b15 b16 b17 b18 b19 ++ xs) 8 1 = b8.toNat := by simp [fld, valB, hd20]
theorem fld_9 : fld (hd20 b0 b1 b2 b3 b4 b5 b6 b7 b8 b9 b10 b11 b12 b13 b14 b15 b16 b17 b18 b19 ++ xs) 9 1 = b9.toNat := by simp [fld, valB, hd20]
theorem fld_12 : fld (hd20 b0 b1 b2 b3 b4 b5 b6 b7 b8 b9 b10 b11 b12 b13 b14 b15 b16 b17 b18 b19 ++ xs) 12 4 = (256 * (256 * (256 * b12 + b13) + b14) + b15).toNat := by simp [fld, valB, hd20]
theorem fld_16 : fld (hd20 b0 b1 b2 b3 b4 b5 b6 b7 b8 b9 b10 b11 b12 b13 b14 b15 b16 b17 b18 b19 ++ xs) 16 4 = (256 * (256 * (256 * b16 + b17) + b18) + b19).toNat := by simp [fld, valB, hd20]
end
/-- A packet's bytes with any two bytes for its fragment, and with any check sum. -/
def ipM (tt P id s d m k : Nat) (n : Nat) : List Int := hd20 69 0 (byteAt (20 + n) 1) (byteAt (20 + n) 0) (byteAt id 1) (byteAt id 0) (byteAt m 1) (byteAt m 0) tt P (byteAt k 1) (byteAt k 0) (byteAt s 3) (byteAt s 2) (byteAt s 1) (byteAt s 0) (byteAt d 3) (byteAt d 2) (byteAt d 1) (byteAt d 0)
theorem ipH_ipM (tt P id s d n k : Nat) : ipH tt P id s d n k = ipM tt P id s d 16384 k n := rfl
theorem ipM_len (tt P id s d m k n : Nat) : (ipM tt P id s d m k n).length = 20 := rfl
theorem ipM_rng (tt P id s d m k n : Nat) (ht : tt ≤ 255) (hP : P ≤ 255) : ∀ x ∈ ipM tt P id s d m k n, 0 ≤ x ∧ x ≤ 255 := by
  intro x hx
  have hb := byteAt_rng
  simp only [ipM, hd20, List.mem_cons, List.not_mem_nil, or_false] at hx
  rcases hx with rfl | rfl | rfl | rfl | rfl | rfl | rfl | rfl | rfl | rfl | rfl | rfl | rfl | rfl | rfl | rfl | rfl | rfl | rfl | rfl <;> first | exact hb _ _ | omega
def ipMK (tt P id s d m n : Nat) : Nat := (csum (ipM tt P id s d m 0 n)).toNat
theorem ipM_ok (tt P id s d m n : Nat) (ht : tt ≤ 255) (hP : P ≤ 255) : csum (ipM tt P id s d m (ipMK tt P id s d m n) n) = 0 := by
  have hr := ipM_rng tt P id s d m 0 n ht hP
  have h := seal_ok [69, 0, byteAt (20 + n) 1, byteAt (20 + n) 0, byteAt id 1, byteAt id 0, byteAt m 1, byteAt m 0, (tt : Int), (P : Int)] [byteAt s 3, byteAt s 2, byteAt s 1, byteAt s 0, byteAt d 3, byteAt d 2, byteAt d 1, byteAt d 0] (by simp)
    (fun x hx => hr x (by simp only [ipM, hd20, List.mem_cons, List.not_mem_nil, or_false] at hx ⊢; rcases hx with h | h | h | h | h | h | h | h | h | h <;> simp [h]))
    (fun x hx => hr x (by simp only [ipM, hd20, List.mem_cons, List.not_mem_nil, or_false] at hx ⊢; rcases hx with h | h | h | h | h | h | h | h <;> simp [h]))
  exact h
theorem ipK_eq (tt P id s d n : Nat) : ipK tt P id s d n = ipMK tt P id s d 16384 n := rfl
theorem ipMK_le (tt P id s d m n : Nat) : ipMK tt P id s d m n ≤ 65535 := by have := csum_rng (ipM tt P id s d m 0 n); unfold ipMK; omega
/-- The bytes that Write gives. -/
theorem ipG_ipM (tt P id s d : Nat) (xs : List Int) : ipG tt P id s d xs = ipM tt P id s d 16384 (ipMK tt P id s d 16384 xs.length) xs.length ++ xs := rfl
theorem ipM_take (tt P id s d m k n : Nat) (xs : List Int) : (ipM tt P id s d m k n ++ xs).take 20 = ipM tt P id s d m k n := by rw [List.take_append_of_le_length (by rw [ipM_len]; exact Nat.le_refl _), List.take_of_length_le (by rw [ipM_len]; exact Nat.le_refl _)]
theorem ipM_flds (tt P id s d m k n : Nat) (xs : List Int) (ht : tt ≤ 255) (hP : P ≤ 255) (hid : id ≤ 65535) (hs : s ≤ 4294967295) (hd : d ≤ 4294967295) (hm : m ≤ 65535) (hn : n ≤ 1480) :
    fld (ipM tt P id s d m k n ++ xs) 2 2 = 20 + n ∧ fld (ipM tt P id s d m k n ++ xs) 4 2 = id ∧ fld (ipM tt P id s d m k n ++ xs) 6 2 = m ∧ fld (ipM tt P id s d m k n ++ xs) 8 1 = tt ∧ fld (ipM tt P id s d m k n ++ xs) 9 1 = P ∧ fld (ipM tt P id s d m k n ++ xs) 12 4 = s ∧ fld (ipM tt P id s d m k n ++ xs) 16 4 = d := by
  unfold ipM
  refine ⟨?_, ?_, ?_, ?_, ?_, ?_, ?_⟩
  · rw [fld_2]; exact byte_pair _ (by omega)
  · rw [fld_4]; exact byte_pair _ hid
  · rw [fld_6]; exact byte_pair _ hm
  · rw [fld_8]; simp
  · rw [fld_9]; simp
  · rw [fld_12]; exact byte_four _ hs
  · rw [fld_16]; exact byte_four _ hd
end Go.Proofs.YtlipckpacdioiaaDoor
