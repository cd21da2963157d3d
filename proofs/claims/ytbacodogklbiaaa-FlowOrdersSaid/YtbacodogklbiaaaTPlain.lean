/- The bytes of datagrams and their sums: plain facts. -/
import Derived.Test.YtbacodogklbiaaaUdpW
import Derived.Test.YtbacodogklbiaaaPlainNums
import Derived.Test.YtbacodogklbiaaaTEye
namespace Go.Proofs.Ytbacodogklbiaaa
open Go.RowKit
set_option linter.unusedVariables false
theorem psum_num2 (n : Nat) (h : n ≤ 65535) : psum (numB 2 n) = n := by
  have h1 : numB 2 n = [byteAt n 1, byteAt n 0] := rfl
  rw [h1, psum_pair]; unfold byteAt; simp; omega
theorem psum_num4 (n : Nat) (h : n ≤ 4294967295) : psum (numB 4 n) = ((n / 65536 + n % 65536 : Nat) : Int) := by
  have h1 : numB 4 n = [byteAt n 3, byteAt n 2] ++ [byteAt n 1, byteAt n 0] := rfl
  rw [h1, psum_append _ _ (by simp), psum_pair, psum_pair]
  unfold byteAt
  simp
  omega
/-- Two addresses' numbers of two bytes. -/
def wrds (x y : Nat) : Nat := x / 65536 + x % 65536 + (y / 65536 + y % 65536)
theorem psum_ps (s d p n : Nat) (h1 : s ≤ 4294967295) (h2 : d ≤ 4294967295) (h3 : p ≤ 255) (h4 : n ≤ 65535) : psum (psB s d p n) = ((wrds s d + p + n : Nat) : Int) := by
  unfold psB
  rw [psum_append _ _ (by rw [numB_len]), psum_append _ _ (by rw [numB_len]), psum_append _ _ (by simp), psum_num4 _ h1, psum_num4 _ h2, psum_num2 _ h4, psum_pair]
  unfold wrds
  omega
/-- A datagram's bytes with k in its check sum's place. -/
def udpG (p q : Nat) (xs : List Int) (k : Nat) : List Int := numB 2 p ++ (numB 2 q ++ (numB 2 (8 + xs.length) ++ (numB 2 k ++ xs)))
theorem udpZ_G (p q : Nat) (xs : List Int) : udpZ p q xs = udpG p q xs 0 := rfl
theorem spl_G (p q : Nat) (xs : List Int) (k m : Nat) : spl (udpG p q xs k) 6 (numB 2 m) = udpG p q xs m := by
  have e : ∀ j, udpG p q xs j = (numB 2 p ++ (numB 2 q ++ numB 2 (8 + xs.length))) ++ (numB 2 j ++ xs) := fun j => by simp [udpG]
  have l6 : (numB 2 p ++ (numB 2 q ++ numB 2 (8 + xs.length))).length = 6 := by simp [numB_len]
  unfold spl
  rw [e k, numB_len, List.take_left' l6, List.drop_append, l6]
  have l8 : List.drop (6 + 2) (numB 2 p ++ (numB 2 q ++ numB 2 (8 + xs.length))) = [] := List.drop_eq_nil_of_le (by rw [l6]; omega)
  rw [l8, List.nil_append, show 6 + 2 - 6 = 2 from rfl, List.drop_left' (numB_len 2 k), e m, List.append_assoc]
theorem udpS_G (s d p q : Nat) (xs : List Int) : udpS s d p q xs = udpG p q xs (udpK s d p q xs).toNat := by unfold udpS; rw [udpZ_G, spl_G]
theorem udpG_len (p q : Nat) (xs : List Int) (k : Nat) : (udpG p q xs k).length = 8 + xs.length := by simp [udpG, numB_len]; omega
theorem udpG_rng (p q : Nat) (xs : List Int) (k : Nat) (hb : ∀ x ∈ xs, 0 ≤ x ∧ x ≤ 255) : ∀ x ∈ udpG p q xs k, 0 ≤ x ∧ x ≤ 255 := by
  intro x hx
  simp only [udpG, List.mem_append] at hx
  rcases hx with h | h | h | h | h
  · exact numB_rng _ _ x h
  · exact numB_rng _ _ x h
  · exact numB_rng _ _ x h
  · exact numB_rng _ _ x h
  · exact hb x h
theorem udpG_psum (p q : Nat) (xs : List Int) (k : Nat) (hp : p ≤ 65535) (hq : q ≤ 65535) (hk : k ≤ 65535) (hx : xs.length ≤ 60000) : psum (udpG p q xs k) = ((p + q + (8 + xs.length) + k : Nat) : Int) + psum xs := by
  unfold udpG
  rw [psum_append _ _ (by rw [numB_len]), psum_append _ _ (by rw [numB_len]), psum_append _ _ (by rw [numB_len]), psum_append _ _ (by rw [numB_len]), psum_num2 _ hp, psum_num2 _ hq, psum_num2 _ hk, psum_num2 _ (by omega)]
  push_cast
  omega
theorem take_num (k n : Nat) (r : List Int) : (numB k n ++ r).take k = numB k n := List.take_left' (numB_len k n)
theorem drop_num (k n : Nat) (r : List Int) : (numB k n ++ r).drop k = r := List.drop_left' (numB_len k n)
theorem fld_num (k n : Nat) (r : List Int) (h : n < 256 ^ k) : fld (numB k n ++ r) 0 k = n := by
  unfold fld
  rw [List.drop_zero, take_num, valB_numB, Nat.mod_eq_of_lt h, Int.toNat_natCast]
theorem fld_skip (l r : List Int) (K j k : Nat) (h : l.length = j) : fld (l ++ r) (j + K) k = fld r K k := by
  unfold fld
  rw [← List.drop_drop, List.drop_left' h]
theorem udpG_0 (p q : Nat) (xs : List Int) (k : Nat) (hp : p ≤ 65535) : fld (udpG p q xs k) 0 2 = p := fld_num 2 p _ (by omega)
theorem udpG_2 (p q : Nat) (xs : List Int) (k : Nat) (hq : q ≤ 65535) : fld (udpG p q xs k) 2 2 = q := by
  unfold udpG; rw [fld_skip _ _ 0 2 2 (numB_len _ _), fld_num 2 q _ (by omega)]
theorem udpG_4 (p q : Nat) (xs : List Int) (k : Nat) (hx : xs.length ≤ 60000) : fld (udpG p q xs k) 4 2 = 8 + xs.length := by
  unfold udpG; rw [fld_skip _ _ 2 2 2 (numB_len _ _), fld_skip _ _ 0 2 2 (numB_len _ _), fld_num 2 _ _ (by omega)]
theorem udpG_6 (p q : Nat) (xs : List Int) (k : Nat) (hk : k ≤ 65535) : fld (udpG p q xs k) 6 2 = k := by
  unfold udpG; rw [fld_skip _ _ 4 2 2 (numB_len _ _), fld_skip _ _ 2 2 2 (numB_len _ _), fld_skip _ _ 0 2 2 (numB_len _ _), fld_num 2 k _ (by omega)]
theorem udpG_8 (p q : Nat) (xs : List Int) (k : Nat) : (udpG p q xs k).drop 8 = xs := by
  have e : udpG p q xs k = (numB 2 p ++ (numB 2 q ++ (numB 2 (8 + xs.length) ++ numB 2 k))) ++ xs := by simp [udpG]
  rw [e, List.drop_left' (by simp [numB_len])]
/-- Check sums between addresses. -/
theorem told_math (W0 W1 C : Int) (h0 : 0 ≤ W0) (h1 : 0 ≤ W1) (hC : 0 < C) : (65535 - f16 (W1 + (C + toldI (65535 - f16 (W0 + C)))) = 0) ↔ W0 % 65535 = W1 % 65535 := by
  have hf : f16 (W0 + C) = (W0 + C - 1) % 65535 + 1 := by unfold f16; rw [if_neg (by omega)]
  rw [hf]
  have hK : 0 < toldI (65535 - ((W0 + C - 1) % 65535 + 1)) ∧ (toldI (65535 - ((W0 + C - 1) % 65535 + 1)) + (W0 + C)) % 65535 = 0 := by
    unfold toldI; split <;> omega
  generalize toldI (65535 - ((W0 + C - 1) % 65535 + 1)) = K at *
  have hf2 : f16 (W1 + (C + K)) = (W1 + (C + K) - 1) % 65535 + 1 := by unfold f16; rw [if_neg (by omega)]
  rw [hf2]
  omega
theorem udpK_iff (s d s' d' p q : Nat) (xs : List Int) (hs : s ≤ 4294967295) (hd : d ≤ 4294967295) (hs' : s' ≤ 4294967295) (hd' : d' ≤ 4294967295) (hp : p ≤ 65535) (hq : q ≤ 65535) (hb : ∀ x ∈ xs, 0 ≤ x ∧ x ≤ 255) (hx : xs.length ≤ 60000) :
    (csum (psB s' d' 17 (8 + xs.length) ++ udpS s d p q xs) = 0) ↔ wrds s d % 65535 = wrds s' d' % 65535 := by
  have hP := (psum_rng xs hb).1
  have hk := udpK_rng s d p q xs
  rw [udpS_G]
  have e1 : csum (psB s d 17 (8 + xs.length) ++ udpZ p q xs) = 65535 - f16 ((wrds s d : Int) + (((17 + (8 + xs.length) + p + q + (8 + xs.length) : Nat) : Int) + psum xs)) := by
    unfold csum
    rw [psum_append _ _ (by rw [psB_len]), psum_ps _ _ _ _ hs hd (by omega) (by omega), udpZ_G, udpG_psum _ _ _ _ hp hq (by omega) hx]
    congr 2; push_cast; omega
  have e2 : csum (psB s' d' 17 (8 + xs.length) ++ udpG p q xs (udpK s d p q xs).toNat) = 65535 - f16 ((wrds s' d' : Int) + ((((17 + (8 + xs.length) + p + q + (8 + xs.length) : Nat) : Int) + psum xs) + udpK s d p q xs)) := by
    unfold csum
    rw [psum_append _ _ (by rw [psB_len]), psum_ps _ _ _ _ hs' hd' (by omega) (by omega), udpG_psum _ _ _ _ hp hq (by omega) hx]
    congr 2; push_cast; omega
  have e3 : udpK s d p q xs = toldI (65535 - f16 ((wrds s d : Int) + (((17 + (8 + xs.length) + p + q + (8 + xs.length) : Nat) : Int) + psum xs))) := by rw [← e1]; rfl
  rw [e2, e3, told_math _ _ _ (by omega) (by omega) (by push_cast; omega)]
  omega
theorem udpK_pos (s d p q : Nat) (xs : List Int) : udpK s d p q xs ≠ 0 := by unfold udpK toldI; split <;> omega
end Go.Proofs.Ytbacodogklbiaaa
