/- value: numbers of texts and texts of numbers, plain. -/
import Derived.Test.YtdofdbajilkimaaDoorITx
namespace Go.Proofs.YtdofdbajilkimaaDoor
set_option linter.unusedVariables false
set_option linter.unusedSimpArgs false
/-- The digits' number, read on from acc. -/
def fwD : Nat → List UInt8 → Option Nat
  | acc, [] => some acc
  | acc, c :: r => if 48 ≤ c.toNat ∧ c.toNat ≤ 57 then fwD (acc * 10 + (c.toNat - 48)) r else none
/-- The same, from the end on. -/
def bwD : List UInt8 → Option Nat
  | [] => some 0
  | c :: r => (bwD r).bind fun n => if 48 ≤ c.toNat ∧ c.toNat ≤ 57 then some (n + 10 ^ r.length * (c.toNat - 48)) else none
theorem fw_bw : ∀ (l : List UInt8) (acc : Nat), fwD acc l = (bwD l).map fun n => acc * 10 ^ l.length + n
  | [], acc => by simp [fwD, bwD]
  | c :: r, acc => by
    rw [fwD, bwD]
    by_cases h : 48 ≤ c.toNat ∧ c.toNat ≤ 57
    · rw [if_pos h, fw_bw r]
      cases hb : bwD r with
      | none => rfl
      | some n =>
        simp only [Option.map_some, Option.bind_some]
        rw [if_pos h]
        simp only [Option.map_some, List.length_cons, Option.some.injEq]
        rw [Nat.pow_succ, Nat.add_mul, Nat.mul_assoc, Nat.mul_comm 10, Nat.mul_comm (c.toNat - 48)]
        omega
    · rw [if_neg h]
      cases bwD r with
      | none => rfl
      | some n => simp [if_neg h]
theorem bw_lt : ∀ (l : List UInt8) (n : Nat), bwD l = some n → n < 10 ^ l.length
  | [], n, h => by cases h; decide
  | c :: r, n, h => by
    rw [bwD] at h
    cases hb : bwD r with
    | none => rw [hb] at h; cases h
    | some m =>
      rw [hb, Option.bind_some] at h
      split at h
      · rename_i hc
        have e := Option.some.inj h
        have h1 := bw_lt r m hb
        have h2 : 10 ^ r.length * (c.toNat - 48) ≤ 10 ^ r.length * 9 := Nat.mul_le_mul_left _ (by omega)
        rw [List.length_cons, Nat.pow_succ]
        omega
      · cases h
/-- A text's number: one to ten digits. -/
def numD (l : List UInt8) : Option Nat := if l = [] ∨ 10 < l.length then none else bwD l
theorem pow10_le (k : Nat) (h : k ≤ 10) : 10 ^ k ≤ 10000000000 := Nat.le_trans (Nat.pow_le_pow_right (by omega) h) (by decide)
theorem num_lt (l : List UInt8) (n : Nat) (h : numD l = some n) : n < 10000000000 := by
  unfold numD at h
  split at h
  · cases h
  · rename_i hc
    exact Nat.lt_of_lt_of_le (bw_lt l n h) (pow10_le _ (by omega))
theorem pu_fw : ∀ (l : List UInt8) (acc k : Nat), acc < 10 ^ k → k + l.length ≤ 10 → Lib.parseUintM (2 ^ 64 - 1) acc l = match fwD acc l with
    | some n => .ok n
    | none => .syntax
  | [], acc, k, _, _ => rfl
  | c :: r, acc, k, ha, hk => by
    rw [Lib.parseUintM, fwD]
    by_cases h : 48 ≤ c.toNat ∧ c.toNat ≤ 57
    · have h1 := pow10_le k (by omega)
      have h2 : acc * 10 + (c.toNat - 48) < 10 ^ (k + 1) := by rw [Nat.pow_succ]; omega
      have h3 := pow10_le (k + 1) (by rw [List.length_cons] at hk; omega)
      rw [if_pos h, if_pos h, if_neg (by omega), if_neg (by omega)]
      exact pu_fw r _ (k + 1) h2 (by rw [List.length_cons] at hk; omega)
    · rw [if_neg h, if_neg h]
theorem pu_num (l : List UInt8) (h : l.length ≤ 10) : Lib.parseUintB 64 l = match numD l with
    | some n => .ok n
    | none => .syntax := by
  unfold Lib.parseUintB numD
  by_cases h0 : l = []
  · rw [if_pos h0, if_pos (.inl h0)]
  · rw [if_neg h0, if_neg (by rintro (e | e) <;> first | exact h0 e | omega), pu_fw l 0 0 (by decide) (by omega), fw_bw]
    cases bwD l with
    | none => rfl
    | some n => simp
theorem bw_stop (l : List UInt8) (j : Nat) (h : bwD (l.drop j) = none) : bwD l = none := by
  induction j with
  | zero => simpa using h
  | succ j ih =>
    by_cases hj : j < l.length
    · refine ih ?_
      rw [List.drop_eq_getElem_cons hj, bwD, h]; rfl
    · rw [List.drop_eq_nil_of_le (by omega)] at h; cases h
theorem bw_step (l : List UInt8) (j n : Nat) (c : UInt8) (h : bwD (l.drop (j + 1)) = some n) (hc : l[j]? = some c) (h1 : 48 ≤ c.toNat) (h2 : c.toNat ≤ 57) : bwD (l.drop j) = some (n + 10 ^ (l.length - (j + 1)) * (c.toNat - 48)) := by
  obtain ⟨hj, hc⟩ := List.getElem?_eq_some_iff.mp hc
  rw [List.drop_eq_getElem_cons hj, bwD, h, Option.bind_some, hc, if_pos ⟨h1, h2⟩, List.length_drop]
theorem bw_bad (l : List UInt8) (j : Nat) (c : UInt8) (hc : l[j]? = some c) (h1 : ¬ (48 ≤ c.toNat ∧ c.toNat ≤ 57)) : bwD l = none := by
  obtain ⟨hj, hc⟩ := List.getElem?_eq_some_iff.mp hc
  refine bw_stop l j ?_
  rw [List.drop_eq_getElem_cons hj, bwD, hc]
  cases bwD (l.drop (j + 1)) with
  | none => rfl
  | some n => rw [Option.bind_some, if_neg h1]
/-! ### texts of numbers -/
theorem dd_last (m : Nat) : Lib.decDigits m = (if m < 10 then [] else Lib.decDigits (m / 10)) ++ [dc (m % 10)] := by
  rw [Lib.decDigits]
  split
  · rename_i h; simp [dc, Nat.mod_eq_of_lt h]
  · rfl
theorem bw_app : ∀ (l : List UInt8) (c : UInt8), bwD (l ++ [c]) = (bwD l).bind fun n => if 48 ≤ c.toNat ∧ c.toNat ≤ 57 then some (n * 10 + (c.toNat - 48)) else none
  | [], c => by simp [bwD]
  | a :: r, c => by
    rw [List.cons_append, bwD, bw_app r c, bwD]
    cases bwD r with
    | none => rfl
    | some n =>
      simp only [Option.bind_some]
      by_cases h : 48 ≤ c.toNat ∧ c.toNat ≤ 57 <;> by_cases h2 : 48 ≤ a.toNat ∧ a.toNat ≤ 57
      · rw [if_pos h, if_pos h2, Option.bind_some, Option.bind_some, if_pos h2, if_pos h]
        simp only [List.length_append, List.length_cons, List.length_nil, Nat.zero_add, Option.some.injEq]
        rw [Nat.pow_succ, Nat.add_mul, Nat.mul_assoc, Nat.mul_assoc, Nat.mul_comm 10]
        omega
      · rw [if_pos h, if_neg h2, Option.bind_some, if_neg h2]; rfl
      · rw [if_neg h, if_pos h2, Option.bind_some, if_neg h]; rfl
      · rw [if_neg h, if_neg h2]; rfl
theorem bw_dd (m : Nat) : bwD (Lib.decDigits m) = some m := by
  induction m using Nat.strongRecOn with
  | _ m ih =>
    rw [dd_last, bw_app]
    have hd := dc_nat (m % 10) (by omega)
    by_cases h : m < 10
    · rw [if_pos h]; simp only [bwD, Option.bind_some]
      rw [if_pos (by omega), hd]; simp only [Option.some.injEq]; omega
    · rw [if_neg h, ih (m / 10) (by omega), Option.bind_some, if_pos (by omega), hd]; simp only [Option.some.injEq]; omega
theorem dd_ne (m : Nat) : Lib.decDigits m ≠ [] := by rw [dd_last]; simp
theorem nd_pow (m : Nat) (h : 1 ≤ m) : 10 ^ (Lib.nDigits m - 1) ≤ m := by
  induction m using Nat.strongRecOn with
  | _ m ih =>
    rw [Lib.nDigits]
    split
    · simpa using h
    · rename_i h10
      have := ih (m / 10) (by omega) (by omega)
      have hp : 1 ≤ Lib.nDigits (m / 10) := by rw [Lib.nDigits]; split <;> omega
      rw [Nat.add_sub_cancel]
      obtain ⟨q, hq⟩ : ∃ q, Lib.nDigits (m / 10) = q + 1 := ⟨_, (Nat.sub_add_cancel hp).symm⟩
      rw [hq] at this ⊢
      rw [Nat.add_sub_cancel] at this
      rw [Nat.pow_succ]
      omega
theorem nd_le (m : Nat) : Lib.nDigits m ≤ 10 ↔ m < 10000000000 := by
  constructor
  · intro h
    have := bw_lt _ m (bw_dd m)
    rw [Lib.decDigits_length] at this
    exact Nat.lt_of_lt_of_le this (pow10_le _ h)
  · intro h
    by_cases h0 : m = 0
    · subst h0; rw [Lib.nDigits]; decide
    · by_cases h1 : Lib.nDigits m ≤ 10
      · exact h1
      · have h2 := nd_pow m (by omega)
        have h3 : 10 ^ 10 ≤ 10 ^ (Lib.nDigits m - 1) := Nat.pow_le_pow_right (by omega) (by omega)
        have h4 : (10 : Nat) ^ 10 = 10000000000 := by decide
        omega
theorem num_dd (m : Nat) : numD (Lib.decDigits m) = if m < 10000000000 then some m else none := by
  unfold numD
  have := nd_le m
  rw [Lib.decDigits_length]
  by_cases h : m < 10000000000
  · rw [if_pos h, if_neg (by rintro (e | e) <;> first | exact dd_ne m e | omega), bw_dd]
  · rw [if_neg h, if_pos (.inr (by omega))]
theorem dd_dg : ∀ n : Fin 256, Lib.decDigits n.1 = dg n.1 := by decide +kernel
theorem dd_len (m : Nat) (h : m < 18446744073709551616) : (Lib.decDigits m).length ≤ 20 := by
  rw [Lib.decDigits_length]
  by_cases h0 : m = 0
  · subst h0; rw [Lib.nDigits]; decide
  · by_cases h1 : Lib.nDigits m ≤ 20
    · exact h1
    · have h2 := nd_pow m (by omega)
      have h3 : 10 ^ 20 ≤ 10 ^ (Lib.nDigits m - 1) := Nat.pow_le_pow_right (by omega) (by omega)
      have h4 : (10 : Nat) ^ 20 = 100000000000000000000 := by decide
      omega
/-! ### an address's text with something more -/
theorem addr_behind (x y z u : Nat) (hx : x ≤ 255) (hy : y ≤ 255) (hz : z ≤ 255) (hu : u ≤ 255) : addrD (txt4 x y z u ++ [46]) = none := by
  have h := addrD_text x y z u hx hy hz hu
  unfold addrD at h ⊢
  rw [runD_app]
  cases hr : runD ⟨0, 0, 0, 0⟩ (txt4 x y z u) with
  | none => rfl
  | some s =>
    rw [hr, Option.bind_some] at h
    rw [Option.bind_some, runD]
    unfold finD at h
    split at h
    · cases h
    · rename_i hc
      unfold stepD
      rw [if_pos (by decide), if_pos (.inr (.inr (by omega)))]; rfl
theorem dg_head (n : Nat) : ∃ x r, x < 10 ∧ dg n = dc x :: r ∨ 1000 ≤ n := by
  by_cases h : n < 1000
  · unfold dg
    split
    · exact ⟨n, [], .inl ⟨by omega, rfl⟩⟩
    · split
      · exact ⟨n / 10, [dc (n % 10)], .inl ⟨by omega, rfl⟩⟩
      · exact ⟨n / 100, [dc (n / 10 % 10), dc (n % 10)], .inl ⟨by omega, rfl⟩⟩
  · exact ⟨0, [], .inr (by omega)⟩
theorem addr_ahead (x y z u : Nat) (hx : x ≤ 255) : addrD (48 :: txt4 x y z u) = none := by
  obtain ⟨d, r, ⟨hd, he⟩ | h⟩ := dg_head x
  · unfold txt4
    rw [he]
    have h1 := dc_nat d hd
    unfold addrD
    simp only [List.cons_append, runD]
    have e1 : stepD ⟨0, 0, 0, 0⟩ 48 = some ⟨0, 0, 0, 1⟩ := by unfold stepD; rw [if_neg (by decide), if_neg (by decide)]; rfl
    have e2 : stepD ⟨0, 0, 0, 1⟩ (dc d) = none := by
      unfold stepD
      rw [if_neg (by omega), if_pos (.inr (.inr (.inr ⟨by decide, rfl⟩)))]
    rw [e1, Option.bind_some, e2]; rfl
  · omega
end Go.Proofs.YtdofdbajilkimaaDoor
