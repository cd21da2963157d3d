/- A bit that is turned: plain facts on numbers, sums and segments' bytes. -/
import Derived.Test.YtimdkcndpfogcaaTcpW
import Derived.Test.YtimdkcndpfogcaaTPlain
namespace Go.Proofs.Ytimdkcndpfogcaa
open Go.RowKit
set_option linter.unusedVariables false
theorem xor_two (a b : Nat) : (a ^^^ b) % 2 = (a + b) % 2 := by
  have h := @Nat.xor_mod_two_eq_one a b
  omega
theorem xor_pow : ∀ (t x : Nat), x ^^^ 2 ^ t = x + 2 ^ t ∨ (2 ^ t ≤ x ∧ x ^^^ 2 ^ t = x - 2 ^ t)
  | 0, x => by
    have h1 : (x ^^^ 1) / 2 = x / 2 := by rw [Nat.xor_div_two]; simp
    have h2 : (x ^^^ 1) % 2 = (x + 1) % 2 := xor_two _ _
    rw [Nat.pow_zero]
    omega
  | t + 1, x => by
    have h := xor_pow t (x / 2)
    have hp : 2 ^ (t + 1) = 2 * 2 ^ t := by rw [Nat.pow_succ, Nat.mul_comm]
    have h1 : (x ^^^ 2 ^ (t + 1)) / 2 = x / 2 ^^^ 2 ^ t := by rw [Nat.xor_div_two, hp]; simp
    have h2 : (x ^^^ 2 ^ (t + 1)) % 2 = (x + 2 ^ (t + 1)) % 2 := xor_two _ _
    rw [hp] at h2 ⊢
    rw [hp] at h1
    generalize 2 ^ t = P at *
    generalize x / 2 ^^^ P = Y at *
    generalize x ^^^ 2 * P = Z at *
    omega
theorem pow_mod (t : Nat) (h : t ≤ 31) : 0 < 2 ^ t % 65535 := by
  have : ∀ t : Fin 32, 0 < 2 ^ t.val % 65535 := by decide
  exact this ⟨t, by omega⟩
theorem wrds_mod (x y : Nat) : wrds x y % 65535 = (x + y) % 65535 := by unfold wrds; omega
theorem wrds_turn (x y t : Nat) (ht : t ≤ 31) : wrds (x ^^^ 2 ^ t) y % 65535 ≠ wrds x y % 65535 := by
  rw [wrds_mod, wrds_mod]
  have h1 := xor_pow t x
  have h2 := pow_mod t ht
  generalize 2 ^ t = P at *
  omega
/-- The sum of a text with another byte. -/
theorem psum_set : ∀ (xs : List Int) (i : Nat) (v : Int), i < xs.length → psum (xs.set i v) = psum xs + (v - xs[i]?.getD 0) * (if i % 2 = 0 then 256 else 1)
  | [], i, v, h => by simp at h
  | [a], i, v, h => by
    obtain rfl : i = 0 := by simp at h; exact h
    simp [psum, prs]
    omega
  | a :: b :: r, 0, v, _ => by
    simp only [List.set_cons_zero]
    unfold psum
    rw [prs_cons2, prs_cons2]
    simp
    omega
  | a :: b :: r, 1, v, _ => by
    simp only [List.set_cons_succ, List.set_cons_zero]
    unfold psum
    rw [prs_cons2, prs_cons2]
    simp
    omega
  | a :: b :: r, i + 2, v, h => by
    have ih := psum_set r i v (by simp at h; omega)
    simp only [List.set_cons_succ]
    unfold psum at *
    rw [prs_cons2, prs_cons2, List.sum_cons, List.sum_cons, ih]
    simp only [List.getElem?_cons_succ, show (i + 2) % 2 = i % 2 by omega]
    omega
theorem csum_set (hd xs : List Int) (i : Nat) (v : Int) (he : hd.length % 2 = 0) (hi : i < xs.length) (hhb : ∀ x ∈ hd, 0 ≤ x ∧ x ≤ 255) (hb : ∀ x ∈ xs, 0 ≤ x ∧ x ≤ 255) (hv : 0 ≤ v ∧ v ≤ 255) (hne : v ≠ xs[i]?.getD 0) (h0 : csum (hd ++ xs) = 0) : csum (hd ++ xs.set i v) ≠ 0 := by
  have hP := (psum_rng xs hb).1
  have hQ := (psum_rng hd hhb).1
  have hx := byte_at hb i
  unfold csum at *
  rw [psum_append _ _ he] at *
  rw [psum_set xs i v hi]
  generalize xs[i]?.getD 0 = y at *
  have hd1 : ∃ δ, (v - y) * (if i % 2 = 0 then 256 else 1) = δ ∧ δ ≠ 0 ∧ -65280 ≤ δ ∧ δ ≤ 65280 := by
    split
    · exact ⟨(v - y) * 256, rfl, by omega, by omega, by omega⟩
    · exact ⟨(v - y) * 1, rfl, by omega, by omega, by omega⟩
  obtain ⟨δ, e, h1, h2, h3⟩ := hd1
  rw [e]
  clear e
  unfold f16 at *
  split at h0 <;> split <;> omega
theorem tcpG_psum (p q u v f g h : Nat) (os xs : List Int) (k : Nat) (hk : k ≤ 65535) (he : os.length % 2 = 0) : psum (tcpG p q u v f g h os xs k) = psum (tcpG p q u v f g h os xs 0) + k := by
  unfold tcpG
  have e : ∀ j, j ≤ 65535 → psum (numB 2 p ++ (numB 2 q ++ (numB 4 u ++ (numB 4 v ++ ([hdB os.length, (f : Int)] ++ (numB 2 g ++ (numB 2 j ++ (numB 2 h ++ (os ++ xs))))))))) = psum (numB 2 p) + (psum (numB 2 q) + (psum (numB 4 u) + (psum (numB 4 v) + (psum [hdB os.length, (f : Int)] + (psum (numB 2 g) + ((j : Int) + psum (numB 2 h ++ (os ++ xs)))))))) := fun j hj => by
    rw [psum_append _ _ (by rw [numB_len]), psum_append _ _ (by rw [numB_len]), psum_append _ _ (by rw [numB_len]), psum_append _ _ (by rw [numB_len]), psum_append _ _ (by simp), psum_append _ _ (by rw [numB_len]), psum_append _ _ (by rw [numB_len]), psum_num2 j hj]
  rw [e k hk, e 0 (by omega)]
  omega
theorem tcpK_ok (src dst p q u v f g h : Nat) (os xs : List Int) (hb : ∀ x ∈ tcpG p q u v f g h os xs 0, 0 ≤ x ∧ x ≤ 255) (he : os.length % 2 = 0) :
    csum (psB src dst 6 (20 + os.length + xs.length) ++ tcpG p q u v f g h os xs (tcpK src dst p q u v f g h os xs).toNat) = 0 := by
  have h1 := csum_rng (psB src dst 6 (20 + os.length + xs.length) ++ tcpG p q u v f g h os xs 0)
  have hP := (psum_rng _ hb).1
  have hQ := (psum_rng (psB src dst 6 (20 + os.length + xs.length)) (psB_rng _ _ _ _ (by omega))).1
  have hk : ((tcpK src dst p q u v f g h os xs).toNat : Int) = csum (psB src dst 6 (20 + os.length + xs.length) ++ tcpG p q u v f g h os xs 0) := by unfold tcpK; omega
  have h2 : csum (psB src dst 6 (20 + os.length + xs.length) ++ tcpG p q u v f g h os xs (tcpK src dst p q u v f g h os xs).toNat) = 65535 - f16 ((psum (psB src dst 6 (20 + os.length + xs.length)) + psum (tcpG p q u v f g h os xs 0)) + csum (psB src dst 6 (20 + os.length + xs.length) ++ tcpG p q u v f g h os xs 0)) := by
    rw [← hk]
    unfold csum at h1 hk ⊢
    rw [psum_append _ _ (by rw [psB_len]), tcpG_psum _ _ _ _ _ _ _ _ _ _ (by omega) he]
    congr 2
    omega
  rw [h2]
  refine right_good _ _ (by omega) ?_
  unfold csum
  rw [psum_append _ _ (by rw [psB_len])]
theorem tcp_src (src dst t p q u v f g h : Nat) (os xs : List Int) (hs : src ≤ 4294967295) (hs' : src ^^^ 2 ^ t ≤ 4294967295) (hd : dst ≤ 4294967295) (ht : t ≤ 31) (ys : List Int) (hb : ∀ x ∈ ys, 0 ≤ x ∧ x ≤ 255) (hl : ys.length ≤ 60000) (h0 : csum (psB src dst 6 ys.length ++ ys) = 0) : csum (psB (src ^^^ 2 ^ t) dst 6 ys.length ++ ys) ≠ 0 := by
  have hP := (psum_rng _ hb).1
  have hw := wrds_turn src dst t ht
  unfold csum at *
  rw [psum_append _ _ (by rw [psB_len]), psum_ps _ _ _ _ hs hd (by omega) (by omega)] at h0
  rw [psum_append _ _ (by rw [psB_len]), psum_ps _ _ _ _ hs' hd (by omega) (by omega)]
  generalize wrds src dst = W at *
  generalize wrds (src ^^^ 2 ^ t) dst = W' at *
  generalize psum ys = P at *
  unfold f16 at *
  split at h0 <;> split <;> omega
theorem tcpG_12 (p q u v f g h : Nat) (os xs : List Int) (k : Nat) (ho : os.length ≤ 40) : fld (tcpG p q u v f g h os xs k) 12 1 = 16 * (5 + os.length / 4) := by
  have e : tcpG p q u v f g h os xs k = (numB 2 p ++ (numB 2 q ++ (numB 4 u ++ numB 4 v))) ++ (((16 * (5 + os.length / 4) : Nat) : Int) :: ((f : Int) :: (numB 2 g ++ (numB 2 k ++ (numB 2 h ++ (os ++ xs)))))) := by simp [tcpG, hdB]
  rw [e, fld_skip _ _ 0 12 1 (by simp [numB_len])]
  unfold fld valB
  simp
  omega
end Go.Proofs.Ytimdkcndpfogcaa
