/- neigh: addresses one step behind the other; one host more (plain). -/
import Derived.Test.YtbibobjkclgogaaNLf
import Derived.Test.YtbibobjkclgogaaNEq
namespace Go.Proofs.Ytbibobjkclgogaa
open Go.RowKit Go.Deep
set_option linter.unusedVariables false
set_option linter.unusedSimpArgs false
theorem and511 (n : Int) : bits .and .i64 n 511 = n % 512 := by
  have h8 : (BitVec.ofInt 64 511).toNat = 2 ^ 9 - 1 := by decide
  show IntKind.i64.wrap (((BitVec.ofInt 64 n &&& BitVec.ofInt 64 511).toNat : Nat) : Int) = n % 512
  rw [BitVec.toNat_and, BitVec.toNat_ofInt, h8, Nat.and_two_pow_sub_one_eq_mod, IntKind.wrap_i64]
  omega
theorem or1_odd (a : Nat) : (a ||| 1) % 2 = 1 := by
  rw [← Nat.and_one_is_mod, Nat.and_or_distrib_right]
  rcases Nat.mod_two_eq_zero_or_one a with h | h
  · rw [show a &&& 1 = 0 by rw [Nat.and_one_is_mod, h]]; rfl
  · rw [show a &&& 1 = 1 by rw [Nat.and_one_is_mod, h]]; rfl
def aN (f s i : Nat) : Nat := (f + i * s % 4294967296) % 4294967296
theorem aN_le (f s i : Nat) : aN f s i ≤ 4294967295 := by
  unfold aN
  have := Nat.mod_lt (f + i * s % 4294967296) (show 0 < 4294967296 by decide)
  omega
theorem aN_ne {f s i j : Nat} (hs : s % 2 = 1) (hij : j < i) (hi : i < 512) : aN f s i ≠ aN f s j := by
  intro h
  unfold aN at h
  rw [Nat.add_mod_mod, Nat.add_mod_mod] at h
  have h1 := Nat.sub_mod_eq_zero_of_mod_eq h
  have h2 : f + i * s - (f + j * s) = (i - j) * s := by rw [Nat.sub_mul]; omega
  rw [h2] at h1
  have h3 : 4294967296 ∣ (i - j) * s := Nat.dvd_of_mod_eq_zero h1
  have hc : Nat.Coprime 4294967296 s := by
    have : Nat.Coprime (2 ^ 32) s := Nat.Coprime.pow_left 32 (by
      unfold Nat.Coprime
      rw [Nat.gcd_rec, hs]
      rfl)
    exact this
  have h4 := hc.dvd_of_dvd_mul_right h3
  have h5 := Nat.le_of_dvd (by omega) h4
  omega
/-- Of rising keys just one is dropped. -/
theorem del_one {k : Int} : ∀ {L : List D.KV}, Asc id L → hasL id k L = true → (delL id k L).length + 1 = L.length
  | [], _, h => by cases h
  | x :: r, ha, h => by
    have hp := List.pairwise_cons.1 ha
    by_cases hx : k = x.1
    · have hr : delL id k r = r := by
        unfold delL
        rw [List.filter_eq_self]
        intro y hy
        have := hp.1 y hy
        simp only [id] at hx this ⊢
        simp; omega
      unfold delL at *
      rw [List.filter_cons_of_neg (by simpa using hx), hr]
      rfl
    · have h2 : hasL id k r = true := by
        unfold hasL at h ⊢
        rw [List.any_cons, decide_eq_false (show ¬ id k = id x.1 from hx), Bool.false_or] at h
        exact h
      have ih := del_one hp.2 h2
      unfold delL at *
      rw [List.filter_cons_of_pos (by simpa using hx), List.length_cons, List.length_cons]
      omega
/-- One host more is learned, whether there is room or not. -/
theorem learn_more (K c : Nat) (L : List D.KV) (k : Int) (v : NH) (now : Int) (i : Nat) (hL : L.length = min i 256) (hno : hasL id k L = false) (ha : Asc id L) (h0 : 0 ≤ now) (h1 : now ≤ 18446744073709551615) :
    ∃ L', L'.length = min (i + 1) 256 ∧ getL id k L' = some { v with e := laterI now } ∧ (∀ y ∈ L', y.1 = k ∨ ∃ z ∈ L, y.1 = z.1) ∧
      ∀ (H : List HV) (w : World), CAt w K c L H → K ≤ w.heap.size → H.length ≤ 1000 → Calls Try.prog 14 #[.pointer (some ⟨c, 0, none⟩), .int .u32 k, .agg #[.int .u8 v.m0, .int .u8 v.m1, .int .u8 v.m2, .int .u8 v.m3, .int .u8 v.m4, .int .u8 v.m5], .int .u64 now] w (GiveAns K c L' H k w) := by
  by_cases hi : i < 256
  · refine ⟨insL id k { v with e := laterI now } L, ?_, get_ins ha, fun y hy => ?_, fun H w h hK hl => learn_room K c L H k v now w h hK hl (by omega) h0 h1 (.inr (by omega))⟩
    · rw [ins_len ha, hno, if_neg (by decide)]; omega
    · rcases ins_mem hy with h | h
      · exact .inl h
      · exact .inr ⟨y, h, rfl⟩
  · obtain ⟨y0, Lr, rfl⟩ : ∃ y0 Lr, L = y0 :: Lr := by
      cases L with
      | nil => simp at hL; omega
      | cons a b => exact ⟨a, b, rfl⟩
    have hl256 : (y0 :: Lr).length = 256 := by omega
    have hb : hasL id (bst y0 (y0 :: Lr)).1 (y0 :: Lr) = true := by
      rcases bst_mem y0 (y0 :: Lr) with h | h
      · rw [h]; exact hasL_iff.2 ⟨y0, by simp, rfl⟩
      · exact hasL_iff.2 ⟨_, h, rfl⟩
    have hnd : hasL id k (delL id (bst y0 (y0 :: Lr)).1 (y0 :: Lr)) = false := by
      cases hh : hasL id k (delL id (bst y0 (y0 :: Lr)).1 (y0 :: Lr)) with
      | false => rfl
      | true =>
        obtain ⟨x, hx, e⟩ := hasL_iff.1 hh
        rw [hasL_iff.2 ⟨x, (List.mem_filter.1 hx).1, e⟩] at hno
        cases hno
    have hdl := del_one ha hb
    refine ⟨insL id k { v with e := laterI now } (delL id (bst y0 (y0 :: Lr)).1 (y0 :: Lr)), ?_, get_ins (del_asc ha), fun y hy => ?_, fun H w h hK hl => learn_full K c y0 Lr H k v now w h hK hl hl256 h0 h1 hno⟩
    · rw [ins_len (del_asc ha), hnd, if_neg (by decide)]; omega
    · rcases ins_mem hy with h | h
      · exact .inl h
      · exact .inr ⟨y, (List.mem_filter.1 h).1, rfl⟩
end Go.Proofs.Ytbibobjkclgogaa
