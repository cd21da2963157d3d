/- Flows: of what packet an error tells that goes between other ends: plain. -/
import Derived.Test.YtgggcapgaikbeaaPk21
namespace Go.Proofs.Ytgggcapgaikbeaa
open Go.RowKit
set_option linter.unusedVariables false
set_option linter.unusedSimpArgs false
theorem layK_num (xs : List Int) (K : Nat) (ns : List Nat) (hv : ∀ v ∈ ns, v ≤ 65535) : ∀ k j, j < k → k ≤ ns.length → K + 2 * k ≤ xs.length → fld (layK xs K ns k) (K + 2 * j) 2 = ns.getD j 0
  | 0, j, h, _, _ => by omega
  | k + 1, j, h, hk, hx => by
    have hl := layK_len xs K ns k (by omega)
    show fld (spl _ _ _) _ _ = _
    by_cases c : j = k
    · subst c
      have : ns.getD j 0 ≤ 65535 := by
        rw [List.getD_eq_getElem?_getD, List.getElem?_eq_getElem (by omega)]
        exact hv _ (List.getElem_mem _)
      exact numB2_fld _ this _ _ (by omega)
    · rw [fld_out _ _ _ _ _ (by rw [numB_len]; omega) (by left; omega)]
      exact layK_num xs K ns hv k j (by omega) (by omega) (by omega)
theorem rtH_fld (xs : List Int) (a b : Nat → Nat) (K k : Nat) (h : 28 ≤ xs.length) (hd : K + k ≤ 10 ∨ 20 ≤ K) : fld (rtH xs a b) K k = fld xs K k := fld_cong _ _ _ _ fun i h1 h2 => rtH_at xs a b i h (by omega)
theorem rtH_num (xs : List Int) (a b : Nat → Nat) (h : 28 ≤ xs.length) (hb : ∀ i, b i ≤ 65535) (j : Nat) (hj : j < 4) : fld (rtH xs a b) (12 + 2 * j) 2 = b j := by
  have hl := layK_len xs 12 [b 0, b 1, b 2, b 3] 4 (by omega)
  unfold rtH mnd
  rw [fld_out _ _ _ _ _ (by rw [numB_len]; omega) (by right; rw [numB_len]; omega), layK_num xs 12 _ (by intro v hv; simp at hv; rcases hv with rfl | rfl | rfl | rfl <;> exact hb _) 4 j hj (by simp) (by omega)]
  match j, hj with
  | 0, _ => rfl
  | 1, _ => rfl
  | 2, _ => rfl
  | 3, _ => rfl
/-- Ahead of what lies behind the head nothing else is changed. -/
theorem rtl_head (P n q r : Nat) (xs : List Int) (a b : Nat → Nat) (h : 28 ≤ xs.length) (hn : xs.length = n) (i : Nat) (hi : i < 20) : (rtl P n q r xs a b)[i]? = (rtH xs a b)[i]? := by
  have h0 := rtH_len xs a b h
  have h1 := layK_len (rtH xs a b) 24 [r] 1 (by omega)
  have h2 := layK_len (rtH xs a b) 20 [b 4, b 5] 2 (by omega)
  unfold rtl
  split
  · rw [mnd_at _ _ _ _ (by omega) (by omega), layK_at _ _ _ _ _ (by omega) (by omega)]
  split
  · rw [udpM_at _ _ _ (by omega) (by omega), layK_at _ _ _ _ _ (by omega) (by omega)]
  split
  · rw [mnd_at _ _ _ _ (by omega) (by omega), layK_at _ _ _ _ _ (by omega) (by omega)]
  · rw [layK_at _ _ _ _ _ (by omega) (by omega)]
theorem endF_le (a b c d : Nat) (ha : a ≤ 4294967295) (hb : b ≤ 4294967295) (hc : c ≤ 65535) (hd : d ≤ 65535) (i : Nat) : endF a b c d i ≤ 65535 := by
  unfold endF
  split <;> omega
theorem reT_flow (ds : List Int) (v : Fl) (h : tok ds ds.length = true) (hb : ∀ x ∈ ds, 0 ≤ x ∧ x ≤ 255) (hv : v.Ok) (hp : v.p = (tfl ds ds.length).p) (hq : (tfl ds ds.length).p = 1 → (if fld ds 20 1 = 8 then v.t = 0 else v.f = 0)) :
    (∀ x ∈ reT ds v, 0 ≤ x ∧ x ≤ 255) ∧ (reT ds v).length = ds.length ∧ tok (reT ds v) ds.length = true ∧ tfl (reT ds v) ds.length = v := by
  obtain ⟨g1, g2, g3⟩ := tok_p ds ds.length h
  have hlen : (reT ds v).length = ds.length := rtl_len _ _ _ _ _ _ _ g1 rfl
  have hrng : ∀ x ∈ reT ds v, 0 ≤ x ∧ x ≤ 255 := rtl_rng _ _ _ _ _ _ _ hb
  have hbb : ∀ i, endF v.s v.d v.f v.t i ≤ 65535 := endF_le _ _ _ _ hv.s hv.d hv.f hv.t
  have low : ∀ K k, K + k ≤ 20 → fld (reT ds v) K k = fld (rtH ds (endF (tfl ds ds.length).s (tfl ds ds.length).d (tfl ds ds.length).f (tfl ds ds.length).t) (endF v.s v.d v.f v.t)) K k := fun K k hk =>
    fld_cong _ _ _ _ fun i h1 h2 => rtl_head _ _ _ _ _ _ _ g1 rfl i (by omega)
  have e0 : fld (reT ds v) 0 1 = fld ds 0 1 := by rw [low _ _ (by omega), rtH_fld _ _ _ _ _ g1 (by omega)]
  have e6 : fld (reT ds v) 6 2 = fld ds 6 2 := by rw [low _ _ (by omega), rtH_fld _ _ _ _ _ g1 (by omega)]
  have e9 : fld (reT ds v) 9 1 = fld ds 9 1 := by rw [low _ _ (by omega), rtH_fld _ _ _ _ _ g1 (by omega)]
  have f0 := rtH_num ds (endF (tfl ds ds.length).s (tfl ds ds.length).d (tfl ds ds.length).f (tfl ds ds.length).t) (endF v.s v.d v.f v.t) g1 hbb 0 (by omega)
  have f1 := rtH_num ds (endF (tfl ds ds.length).s (tfl ds ds.length).d (tfl ds ds.length).f (tfl ds ds.length).t) (endF v.s v.d v.f v.t) g1 hbb 1 (by omega)
  have f2 := rtH_num ds (endF (tfl ds ds.length).s (tfl ds ds.length).d (tfl ds ds.length).f (tfl ds ds.length).t) (endF v.s v.d v.f v.t) g1 hbb 2 (by omega)
  have f3 := rtH_num ds (endF (tfl ds ds.length).s (tfl ds ds.length).d (tfl ds ds.length).f (tfl ds ds.length).t) (endF v.s v.d v.f v.t) g1 hbb 3 (by omega)
  rw [← low _ _ (by omega)] at f0 f1 f2 f3
  have b0 : endF v.s v.d v.f v.t 0 = v.s / 65536 := rfl
  have b1 : endF v.s v.d v.f v.t 1 = v.s % 65536 := rfl
  have b2 : endF v.s v.d v.f v.t 2 = v.d / 65536 := rfl
  have b3 : endF v.s v.d v.f v.t 3 = v.d % 65536 := rfl
  have e12 : fld (reT ds v) 12 4 = v.s := by
    rw [fld_four _ _ hrng (by omega)]
    simp only [Nat.mul_zero, Nat.add_zero, Nat.mul_one] at f0 f1
    rw [f0, f1, b0, b1]; omega
  have e16 : fld (reT ds v) 16 4 = v.d := by
    rw [fld_four _ _ hrng (by omega), show (16 : Nat) = 12 + 2 * 2 by rfl, f2, show 12 + 2 * 2 + 2 = 12 + 2 * 3 by rfl, f3, b2, b3]; omega
  have hP : (tfl ds ds.length).p = fld ds 9 1 := by rw [g3]
  -- behind the head
  have hh : thead ds ds.length = true := by unfold tok at h; rw [Bool.and_eq_true] at h; exact h.1
  have hi : tins ds = true := by unfold tok at h; rw [Bool.and_eq_true] at h; exact h.2
  have hh' : thead (reT ds v) ds.length = true := by unfold thead at hh ⊢; rw [e0, e6]; exact hh
  have h0 := rtH_len ds (endF (tfl ds ds.length).s (tfl ds ds.length).d (tfl ds ds.length).f (tfl ds ds.length).t) (endF v.s v.d v.f v.t) g1
  have key : tins (reT ds v) = true ∧ tfrom (reT ds v) = v.f ∧ tto (reT ds v) = v.t := by
    unfold tins tfrom tto
    rw [e9]
    unfold tins at hi
    by_cases c1 : fld ds 9 1 = 1
    · have hq := hq (hP.trans c1)
      rw [if_neg (by omega), if_pos c1] at hi
      have e20 : fld (reT ds v) 20 1 = fld ds 20 1 := by
        unfold reT rtl
        rw [if_pos (hP.trans c1)]
        unfold mnd
        rw [fld_out _ _ _ _ _ (by rw [numB_len, layK_len _ _ _ _ (by omega)]; omega) (by omega), layK_fld _ _ _ _ _ _ (by omega) (by omega), rtH_fld _ _ _ _ _ g1 (by omega)]
      have e21 : fld (reT ds v) 21 1 = fld ds 21 1 := by
        unfold reT rtl
        rw [if_pos (hP.trans c1)]
        unfold mnd
        rw [fld_out _ _ _ _ _ (by rw [numB_len, layK_len _ _ _ _ (by omega)]; omega) (by omega), layK_fld _ _ _ _ _ _ (by omega) (by omega), rtH_fld _ _ _ _ _ g1 (by omega)]
      have hr : (if fld ds 20 1 = 8 then v.f else v.t) ≤ 65535 := by have := hv.f; have := hv.t; split <;> omega
      have e24 : fld (reT ds v) 24 2 = if fld ds 20 1 = 8 then v.f else v.t := by
        unfold reT rtl
        rw [if_pos (hP.trans c1)]
        unfold mnd
        rw [fld_out _ _ _ _ _ (by rw [numB_len, layK_len _ _ _ _ (by omega)]; omega) (by rw [numB_len]; omega)]
        exact layK_num _ 24 _ (by intro x hx; rw [List.mem_singleton] at hx; rw [hx]; exact hr) 1 0 (by omega) (by simp) (by omega)
      have n6 : ¬ (fld ds 9 1 = 6 ∨ fld ds 9 1 = 17) := by omega
      simp only [if_neg n6, if_pos c1]
      rw [e20, e21, e24]
      refine ⟨hi, ?_⟩
      unfold qok at hi
      simp only [Bool.and_eq_true, Bool.or_eq_true, decide_eq_true_eq] at hi
      obtain ⟨i1, i2⟩ := hi
      unfold qfrom qto
      by_cases c8 : fld ds 20 1 = 8
      · rw [if_pos c8] at hq ⊢
        rw [if_pos ⟨c8, i1⟩, if_neg (by omega)]
        exact ⟨rfl, hq.symm⟩
      · rw [if_neg c8] at hq ⊢
        rw [if_neg (fun hc => c8 hc.1), if_pos ⟨by omega, i1⟩]
        exact ⟨hq.symm, rfl⟩
    · have c6 : fld ds 9 1 = 6 ∨ fld ds 9 1 = 17 := by
        by_cases c : fld ds 9 1 = 6 ∨ fld ds 9 1 = 17
        · exact c
        · rw [if_neg c, if_neg c1] at hi; cases hi
      rw [if_pos c6, if_pos c6, if_pos c6]
      have h2 := layK_len (rtH ds (endF (tfl ds ds.length).s (tfl ds ds.length).d (tfl ds ds.length).f (tfl ds ds.length).t) (endF v.s v.d v.f v.t)) 20 [endF v.s v.d v.f v.t 4, endF v.s v.d v.f v.t 5] 2 (by omega)
      have hlay : ∀ j, j < 2 → fld (reT ds v) (20 + 2 * j) 2 = [endF v.s v.d v.f v.t 4, endF v.s v.d v.f v.t 5].getD j 0 := by
        intro j hj
        have hk := layK_num (rtH ds (endF (tfl ds ds.length).s (tfl ds ds.length).d (tfl ds ds.length).f (tfl ds ds.length).t) (endF v.s v.d v.f v.t)) 20 [endF v.s v.d v.f v.t 4, endF v.s v.d v.f v.t 5] (by intro x hx; simp at hx; rcases hx with rfl | rfl <;> exact hbb _) 2 j hj (by simp) (by omega)
        rw [← hk]
        refine fld_cong _ _ _ _ fun i i1 i2 => ?_
        unfold reT rtl
        rw [if_neg (by omega)]
        split
        · rw [udpM_at _ _ _ (by omega) (by omega)]
        split
        · rw [mnd_at _ _ _ _ (by omega) (by omega)]
        · rfl
      exact ⟨rfl, hlay 0 (by omega), hlay 1 (by omega)⟩
  refine ⟨hrng, hlen, ?_, ?_⟩
  · unfold tok
    rw [hh', key.1]; rfl
  · unfold tfl
    rw [if_pos hh', e9, e12, e16, key.2.1, key.2.2, ← hP, ← hp]
theorem u16_and_nat (a b : Nat) (ha : a < 65536) (hb : b < 65536) : bits .and .u16 (a : Int) (b : Int) = ((a &&& b : Nat) : Int) := by
  have hx : a &&& b < 2 ^ 16 := Nat.and_lt_two_pow _ (by omega)
  have h1 : (BitVec.ofInt 16 (a : Int)).toNat = a := by
    rw [BitVec.ofInt_natCast, BitVec.toNat_ofNat]; exact Nat.mod_eq_of_lt (by omega)
  have h2 : (BitVec.ofInt 16 (b : Int)).toNat = b := by
    rw [BitVec.ofInt_natCast, BitVec.toNat_ofNat]; exact Nat.mod_eq_of_lt (by omega)
  show IntKind.u16.wrap ((BitVec.ofInt 16 (a : Int) &&& BitVec.ofInt 16 (b : Int)).toNat : Int) = _
  rw [BitVec.toNat_and, h1, h2, IntKind.wrap_u16]
  omega
theorem of_plain (P S D : Nat) (xs : List Int) (hb : ∀ x ∈ xs, 0 ≤ x ∧ x ≤ 255) (hP : P ≤ 255) (hS : S ≤ 4294967295) (hD : D ≤ 4294967295) (he : ofErr P S D xs = 0) (hk : ofKind P S D xs ≠ 3) :
    (ofFl P S D xs).Ok ∧ (ofFl P S D xs).p = P ∧ (ofFl P S D xs).s = S ∧ (ofFl P S D xs).d = D ∧ qFit P xs (ofFl P S D xs) ∧ (ofKind P S D xs = 1 ∨ ofKind P S D xs = 2) ∧ (ofKind P S D xs = 1 → P ≠ 1) := by
  have he' := he
  unfold ofErr at he'
  by_cases h6 : P = 6
  · subst h6
    rw [if_pos rfl] at he'
    have hf := seg_fit S D xs hb he'
    have e : ofFl 6 S D xs = ⟨6, S, D, (segOf S D xs).p, (segOf S D xs).q⟩ := by unfold ofFl; rw [he, if_pos rfl, if_pos rfl]
    have k : ofKind 6 S D xs = 1 := by unfold ofKind; rw [he, if_pos rfl, if_pos (.inl rfl)]
    rw [e, k]
    exact ⟨⟨hP, hS, hD, hf.p, hf.q⟩, rfl, rfl, rfl, fun h => by omega, .inl rfl, fun _ => by omega⟩
  rw [if_neg h6] at he'
  by_cases h17 : P = 17
  · subst h17
    rw [if_pos rfl] at he'
    have hf := dgm_fit S D xs hb he'
    have e : ofFl 17 S D xs = ⟨17, S, D, (dgmOf S D xs).p, (dgmOf S D xs).q⟩ := by unfold ofFl; rw [he, if_pos rfl, if_neg (by omega), if_pos rfl]
    have k : ofKind 17 S D xs = 1 := by unfold ofKind; rw [he, if_pos rfl, if_pos (.inr rfl)]
    rw [e, k]
    exact ⟨⟨hP, hS, hD, hf.p, hf.q⟩, rfl, rfl, rfl, fun h => by omega, .inl rfl, fun _ => by omega⟩
  rw [if_neg h17] at he'
  by_cases h1 : P = 1
  · subst h1
    rw [if_pos rfl] at he'
    have hk1 : icKind xs ≠ 3 := by
      unfold ofKind at hk
      rw [he, if_pos rfl, if_neg (by omega)] at hk
      exact hk
    obtain ⟨q1, q2, q3, q4⟩ := qry_cases xs he' hk1
    have hok := msgOf_ok xs hb
    have e : ofFl 1 S D xs = ⟨1, S, D, qfrom (msgOf xs).p (msgOf xs).q ((msgOf xs).r / 65536), qto (msgOf xs).p (msgOf xs).q ((msgOf xs).r / 65536)⟩ := by
      unfold ofFl; rw [he, if_pos rfl, if_neg (by omega), if_neg (by omega)]; unfold icFl msgFl; rw [if_pos q1, q2]; rfl
    have k : ofKind 1 S D xs = 2 := by
      unfold ofKind; rw [he, if_pos rfl, if_neg (by omega)]; unfold icKind msgKind; rw [if_pos q1, q2]; rfl
    rw [e, k]
    have hr : (msgOf xs).r / 65536 ≤ 65535 := by have := hok.2.2.1; omega
    refine ⟨⟨hP, hS, hD, by dsimp only; unfold qfrom; split <;> omega, by dsimp only; unfold qto; split <;> omega⟩, rfl, rfl, rfl, fun _ => ?_, .inr rfl, fun h => by omega⟩
    dsimp only
    unfold qfrom qto
    rcases q4 with q4 | q4
    · rw [q4]; simp
    · rw [q4]; simp
  · rw [if_neg h1] at he'; omega
end Go.Proofs.Ytgggcapgaikbeaa
