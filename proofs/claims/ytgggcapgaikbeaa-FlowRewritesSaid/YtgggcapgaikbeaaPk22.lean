/- Flows: what an error tells, changed step by step as the document does: plain. -/
import Derived.Test.YtgggcapgaikbeaaPk21
namespace Go.Proofs.Ytgggcapgaikbeaa
open Go.RowKit
set_option linter.unusedVariables false
set_option linter.unusedSimpArgs false
def bsL (b : Nat → Nat) : List Nat := [b 0, b 1, b 2, b 3, b 4, b 5]
def dX (ds : List Int) (a b : Nat → Nat) (K k : Nat) : Nat := (updSL (fld ds K 2 : Nat) ((cs6 a b).take k)).toNat
def dM (ds : List Int) (a b : Nat → Nat) (k : Nat) : List Int := spl (layK ds 12 (bsL b) k) 10 (numB 2 (dX ds a b 10 (min k 4)))
def dD (ds : List Int) (a b : Nat → Nat) (dp k : Nat) : List Int := spl (dM ds a b k) dp (numB 2 (dX ds a b dp k))
theorem cs6_at (a b : Nat → Nat) (k : Nat) (h : k < 6) : (cs6 a b)[k]? = some ((a k : Int), (b k : Int)) := by
  match k, h with
  | 0, _ => rfl
  | 1, _ => rfl
  | 2, _ => rfl
  | 3, _ => rfl
  | 4, _ => rfl
  | 5, _ => rfl
theorem bsL_at (b : Nat → Nat) (k : Nat) (h : k < 6) : (bsL b).getD k 0 = b k := by
  match k, h with
  | 0, _ => rfl
  | 1, _ => rfl
  | 2, _ => rfl
  | 3, _ => rfl
  | 4, _ => rfl
  | 5, _ => rfl
theorem fld2_le (ds : List Int) (K : Nat) (hb : ∀ x ∈ ds, 0 ≤ x ∧ x ≤ 255) : fld ds K 2 ≤ 65535 := by have := fld_lt ds K 2 hb; simp at this; omega
theorem dX_le (ds : List Int) (a b : Nat → Nat) (K k : Nat) (hb : ∀ x ∈ ds, 0 ≤ x ∧ x ≤ 255) : dX ds a b K k ≤ 65535 ∧ (dX ds a b K k : Int) = updSL (fld ds K 2 : Nat) ((cs6 a b).take k) := by
  have h := fld2_le ds K hb
  have := updSL_rng (fld ds K 2 : Nat) (by omega) (by omega) ((cs6 a b).take k)
  unfold dX; omega
theorem dX_step (ds : List Int) (a b : Nat → Nat) (K k : Nat) (hb : ∀ x ∈ ds, 0 ≤ x ∧ x ≤ 255) (hk : k < 6) : dX ds a b K (k + 1) = (updS (dX ds a b K k : Nat) ((a k : Int), (b k : Int))).toNat := by
  rw [(dX_le ds a b K k hb).2, ← updSL_snoc _ _ _ _ (cs6_at a b k hk)]; rfl
theorem dM_len (ds : List Int) (a b : Nat → Nat) (k : Nat) (h : 28 ≤ ds.length) (hk : k ≤ 6) : (dM ds a b k).length = ds.length := by
  have := layK_len ds 12 (bsL b) k (by omega)
  unfold dM
  rw [spl_len _ _ _ (by rw [numB_len]; omega), this]
theorem dM_rng (ds : List Int) (a b : Nat → Nat) (k : Nat) (hb : ∀ x ∈ ds, 0 ≤ x ∧ x ≤ 255) : ∀ x ∈ dM ds a b k, 0 ≤ x ∧ x ≤ 255 := spl_rng _ _ _ (layK_rng _ _ _ hb _) (numB_rng _ _)
theorem dD_len (ds : List Int) (a b : Nat → Nat) (dp k : Nat) (h : 28 ≤ ds.length) (hk : k ≤ 6) (hdp : dp + 2 ≤ ds.length) : (dD ds a b dp k).length = ds.length := by
  have := dM_len ds a b k h hk
  unfold dD
  rw [spl_len _ _ _ (by rw [numB_len]; omega), this]
theorem dD_rng (ds : List Int) (a b : Nat → Nat) (dp k : Nat) (hb : ∀ x ∈ ds, 0 ≤ x ∧ x ≤ 255) : ∀ x ∈ dD ds a b dp k, 0 ≤ x ∧ x ≤ 255 := spl_rng _ _ _ (dM_rng _ _ _ _ hb) (numB_rng _ _)
theorem dM_at (ds : List Int) (a b : Nat → Nat) (k i : Nat) (h : 28 ≤ ds.length) (hk : k ≤ 6) (hi : i < 10 ∨ 12 + 2 * k ≤ i) : (dM ds a b k)[i]? = ds[i]? ∨ i = 10 ∨ i = 11 := by
  by_cases c : i = 10 ∨ i = 11
  · exact .inr c
  · left
    have := layK_len ds 12 (bsL b) k (by omega)
    unfold dM
    rw [spl_at _ _ _ _ (by rw [numB_len]; omega) (by rw [numB_len]; omega), layK_at _ _ _ _ _ (by omega) (by omega)]
theorem dM_fld (ds : List Int) (a b : Nat → Nat) (k K j : Nat) (h : 28 ≤ ds.length) (hk : k ≤ 6) (hi : K + j ≤ 10 ∨ 12 + 2 * k ≤ K) : fld (dM ds a b k) K j = fld ds K j :=
  fld_cong _ _ _ _ fun i h1 h2 => by
    rcases dM_at ds a b k i h hk (by omega) with h | h
    · exact h
    · omega
theorem dD_fld (ds : List Int) (a b : Nat → Nat) (dp k K j : Nat) (h : 28 ≤ ds.length) (hk : k ≤ 6) (hdp : dp + 2 ≤ ds.length) (hd : K + j ≤ dp) (hi : K + j ≤ 10 ∨ 12 + 2 * k ≤ K) : fld (dD ds a b dp k) K j = fld ds K j := by
  have := dM_len ds a b k h hk
  unfold dD
  rw [fld_out _ _ _ _ _ (by rw [numB_len]; omega) (by omega), dM_fld ds a b k K j h hk hi]
theorem dM_zero (ds : List Int) (a b : Nat → Nat) (h : 28 ≤ ds.length) (hb : ∀ x ∈ ds, 0 ≤ x ∧ x ≤ 255) : dM ds a b 0 = ds := by
  have : dX ds a b 10 0 = fld ds 10 2 := by unfold dX; simp [updSL]
  unfold dM
  rw [Nat.zero_min, this]
  exact spl_id ds 10 (by omega) hb
theorem dD_zero (ds : List Int) (a b : Nat → Nat) (dp : Nat) (h : 28 ≤ ds.length) (hb : ∀ x ∈ ds, 0 ≤ x ∧ x ≤ 255) (hdp : dp + 2 ≤ ds.length) : dD ds a b dp 0 = ds := by
  have : dX ds a b dp 0 = fld ds dp 2 := by unfold dX; simp [updSL]
  unfold dD
  rw [dM_zero ds a b h hb, this]
  exact spl_id ds dp hdp hb
/-- A number is laid behind the change of the head's sum. -/
theorem dM_lo (ds : List Int) (a b : Nat → Nat) (k : Nat) (h : 28 ≤ ds.length) (hb : ∀ x ∈ ds, 0 ≤ x ∧ x ≤ 255) (hk : k < 4) :
    fld (dM ds a b k) 10 2 = dX ds a b 10 k ∧ spl (spl (dM ds a b k) 10 (numB 2 (dX ds a b 10 (k + 1)))) (12 + 2 * k) (numB 2 (b k)) = dM ds a b (k + 1) := by
  have hl := layK_len ds 12 (bsL b) k (by omega)
  have e : layK ds 12 (bsL b) (k + 1) = spl (layK ds 12 (bsL b) k) (12 + 2 * k) (numB 2 (b k)) := by show spl _ _ _ = _; rw [bsL_at b k (by omega)]
  refine ⟨?_, ?_⟩
  · unfold dM
    rw [Nat.min_eq_left (by omega)]
    exact numB2_fld _ (dX_le _ _ _ _ _ hb).1 _ _ (by omega)
  · unfold dM
    rw [Nat.min_eq_left (show k + 1 ≤ 4 by omega), spl_spl _ _ _ _ (by rw [numB_len]; omega) (by rw [numB_len, numB_len]), spl_comm _ _ _ _ _ (by rw [numB_len]; omega) (by rw [numB_len]; omega) (by rw [numB_len, numB_len]; omega), e]
theorem dM_hi (ds : List Int) (a b : Nat → Nat) (k : Nat) (h : 28 ≤ ds.length) (hk : 4 ≤ k) (hk6 : k < 6) : spl (dM ds a b k) (12 + 2 * k) (numB 2 (b k)) = dM ds a b (k + 1) := by
  have hl := layK_len ds 12 (bsL b) k (by omega)
  have e : layK ds 12 (bsL b) (k + 1) = spl (layK ds 12 (bsL b) k) (12 + 2 * k) (numB 2 (b k)) := by show spl _ _ _ = _; rw [bsL_at b k (by omega)]
  unfold dM
  rw [Nat.min_eq_right (by omega), Nat.min_eq_right (by omega), spl_comm _ _ _ _ _ (by rw [numB_len]; omega) (by rw [numB_len]; omega) (by rw [numB_len, numB_len]; omega), e]
theorem dD_10 (ds : List Int) (a b : Nat → Nat) (dp k : Nat) (h : 28 ≤ ds.length) (hb : ∀ x ∈ ds, 0 ≤ x ∧ x ≤ 255) (hdp : dp + 2 ≤ ds.length) (hd : 26 ≤ dp) (hk : k < 4) : fld (dD ds a b dp k) 10 2 = dX ds a b 10 k := by
  have := dM_len ds a b k h (by omega)
  unfold dD
  rw [fld_out _ _ _ _ _ (by rw [numB_len]; omega) (by omega), (dM_lo ds a b k h hb hk).1]
theorem dD_dp (ds xs : List Int) (a b : Nat → Nat) (dp k : Nat) (hb : ∀ x ∈ ds, 0 ≤ x ∧ x ≤ 255) (hdp : dp + 2 ≤ xs.length) : fld (spl xs dp (numB 2 (dX ds a b dp k))) dp 2 = dX ds a b dp k := numB2_fld _ (dX_le _ _ _ _ _ hb).1 _ _ (by omega)
theorem dD_lo (ds : List Int) (a b : Nat → Nat) (dp k : Nat) (h : 28 ≤ ds.length) (hb : ∀ x ∈ ds, 0 ≤ x ∧ x ≤ 255) (hdp : dp + 2 ≤ ds.length) (hd : 26 ≤ dp) (hk : k < 4) :
    fld (spl (dD ds a b dp k) 10 (numB 2 (dX ds a b 10 (k + 1)))) dp 2 = dX ds a b dp k ∧
    spl (spl (spl (dD ds a b dp k) 10 (numB 2 (dX ds a b 10 (k + 1)))) dp (numB 2 (dX ds a b dp (k + 1)))) (12 + 2 * k) (numB 2 (b k)) = dD ds a b dp (k + 1) := by
  have hl := dM_len ds a b k h (by omega)
  have hl2 := dM_len ds a b (k + 1) h (by omega)
  have e := (dM_lo ds a b k h hb hk).2
  have hl3 : (spl (dM ds a b k) 10 (numB 2 (dX ds a b 10 (k + 1)))).length = ds.length := by rw [spl_len _ _ _ (by rw [numB_len]; omega), hl]
  have c1 : spl (dD ds a b dp k) 10 (numB 2 (dX ds a b 10 (k + 1))) = spl (spl (dM ds a b k) 10 (numB 2 (dX ds a b 10 (k + 1)))) dp (numB 2 (dX ds a b dp k)) := by
    unfold dD
    rw [spl_comm _ _ _ _ _ (by rw [numB_len]; omega) (by rw [numB_len]; omega) (by rw [numB_len, numB_len]; omega)]
  rw [c1]
  refine ⟨dD_dp _ _ _ _ _ _ hb (by omega), ?_⟩
  rw [spl_spl _ _ _ _ (by rw [numB_len]; omega) (by rw [numB_len, numB_len]), spl_comm _ _ _ _ _ (by rw [numB_len]; omega) (by rw [numB_len]; omega) (by rw [numB_len, numB_len]; omega), e]
  rfl
theorem dD_hi (ds : List Int) (a b : Nat → Nat) (dp k : Nat) (h : 28 ≤ ds.length) (hb : ∀ x ∈ ds, 0 ≤ x ∧ x ≤ 255) (hdp : dp + 2 ≤ ds.length) (hd : 26 ≤ dp) (hk : 4 ≤ k) (hk6 : k < 6) :
    fld (dD ds a b dp k) dp 2 = dX ds a b dp k ∧ spl (spl (dD ds a b dp k) dp (numB 2 (dX ds a b dp (k + 1)))) (12 + 2 * k) (numB 2 (b k)) = dD ds a b dp (k + 1) := by
  have hl := dM_len ds a b k h (by omega)
  have e := dM_hi ds a b k h hk hk6
  refine ⟨by unfold dD; exact dD_dp _ _ _ _ _ _ hb (by omega), ?_⟩
  unfold dD
  rw [spl_spl _ _ _ _ (by rw [numB_len]; omega) (by rw [numB_len, numB_len]), spl_comm _ _ _ _ _ (by rw [numB_len]; omega) (by rw [numB_len]; omega) (by rw [numB_len, numB_len]; omega), e]
/-- The ends as they stood in the beginning of the packet. -/
theorem ends_at (ds : List Int) (h : tok ds ds.length = true) (hb : ∀ x ∈ ds, 0 ≤ x ∧ x ≤ 255) (k : Nat) (hk : k < 6) (h4 : (tfl ds ds.length).p = 1 → k < 4) : fld ds (12 + 2 * k) 2 = endF (tfl ds ds.length).s (tfl ds ds.length).d (tfl ds ds.length).f (tfl ds ds.length).t k := by
  obtain ⟨g1, g2, g3⟩ := tok_p ds ds.length h
  have e12 : fld ds 12 4 = 65536 * fld ds 12 2 + fld ds 14 2 := fld_four ds 12 hb (by omega)
  have e16 : fld ds 16 4 = 65536 * fld ds 16 2 + fld ds 18 2 := fld_four ds 16 hb (by omega)
  have l12 := fld2_le ds 12 hb
  have l14 := fld2_le ds 14 hb
  have l16 := fld2_le ds 16 hb
  have l18 := fld2_le ds 18 hb
  rw [g3] at h4 ⊢
  dsimp only at h4 ⊢
  have hi : tins ds = true := by unfold tok at h; rw [Bool.and_eq_true] at h; exact h.2
  match k, hk with
  | 0, _ => show fld ds 12 2 = fld ds 12 4 / 65536; rw [e12]; omega
  | 1, _ => show fld ds 14 2 = fld ds 12 4 % 65536; rw [e12]; omega
  | 2, _ => show fld ds 16 2 = fld ds 16 4 / 65536; rw [e16]; omega
  | 3, _ => show fld ds 18 2 = fld ds 16 4 % 65536; rw [e16]; omega
  | 4, _ =>
    show fld ds 20 2 = tfrom ds
    unfold tfrom
    rw [if_pos]
    rw [g3] at g2
    dsimp only at g2
    rcases g2 with g | g | g
    · have := h4 g; omega
    · exact .inr g
    · exact .inl g
  | 5, _ =>
    show fld ds 22 2 = tto ds
    unfold tto
    rw [if_pos]
    rw [g3] at g2
    dsimp only at g2
    rcases g2 with g | g | g
    · have := h4 g; omega
    · exact .inr g
    · exact .inl g
theorem rtH_dM (ds : List Int) (a b : Nat → Nat) (h : 28 ≤ ds.length) : rtH ds a b = dM ds a b 4 := by
  unfold rtH mnd dM dX
  rw [layK_fld _ _ _ _ _ _ (by omega) (by omega)]
  rfl
theorem lay_dM (ds : List Int) (a b : Nat → Nat) (h : 28 ≤ ds.length) : layK (rtH ds a b) 20 [b 4, b 5] 2 = dM ds a b 6 := by
  rw [rtH_dM ds a b h, ← dM_hi ds a b 5 h (by omega) (by omega), ← dM_hi ds a b 4 h (by omega) (by omega)]
  rfl
/-- The document's, at its end, is the program's. -/
def dE (ds : List Int) (P : Nat) (a b : Nat → Nat) (id : Nat) : List Int :=
  if P = 1 then spl (spl (dM ds a b 4) 22 (numB 2 (updS (fld ds 22 2 : Nat) ((fld ds 24 2 : Int), (id : Int))).toNat)) 24 (numB 2 id)
  else if P = 17 then (if fld ds 26 2 = 0 then dM ds a b 6 else if dX ds a b 26 6 = 0 then spl (dD ds a b 26 6) 26 (numB 2 65535) else dD ds a b 26 6)
  else if 38 ≤ ds.length then dD ds a b 36 6 else dM ds a b 6
theorem dE_rtl (ds : List Int) (P q r : Nat) (a b : Nat → Nat) (h : 28 ≤ ds.length) (hb : ∀ x ∈ ds, 0 ≤ x ∧ x ≤ 255) (hq : P = 1 → fld ds 24 2 = q) : dE ds P a b r = rtl P ds.length q r ds a b := by
  have h4 := dM_len ds a b 4 h (by omega)
  have h6 := dM_len ds a b 6 h (by omega)
  have t6 : (cs6 a b).take 6 = cs6 a b := rfl
  unfold dE rtl
  split
  · rename_i c
    rw [hq c, rtH_dM ds a b h]
    show _ = spl (spl (dM ds a b 4) 24 (numB 2 r)) 22 (numB 2 (updSL (fld (spl (dM ds a b 4) 24 (numB 2 r)) 22 2 : Nat) [((q : Int), (r : Int))]).toNat)
    rw [fld_out _ _ _ _ _ (by rw [numB_len]; omega) (by omega), dM_fld _ _ _ _ _ _ h (by omega) (by omega), spl_comm _ _ _ _ _ (by rw [numB_len]; omega) (by rw [numB_len]; omega) (by rw [numB_len, numB_len]; omega)]
    rfl
  split
  · rw [lay_dM ds a b h]
    have ef : fld (dM ds a b 6) 26 2 = fld ds 26 2 := dM_fld _ _ _ _ _ _ h (by omega) (by omega)
    have hx := dX_le ds a b 26 6 hb
    unfold udpM
    rw [ef]
    unfold dD dX at *
    rw [t6] at hx ⊢
    split
    · rfl
    · by_cases c : updSL (fld ds 26 2 : Nat) (cs6 a b) = 0
      · rw [if_pos c, if_pos (by omega), c]; rfl
      · rw [if_neg c, if_neg (by omega)]
  split
  · rw [lay_dM ds a b h]
    have ef : fld (dM ds a b 6) 36 2 = fld ds 36 2 := dM_fld _ _ _ _ _ _ h (by omega) (by omega)
    unfold mnd dD dX
    rw [ef, t6]
  · rw [lay_dM ds a b h]
end Go.Proofs.Ytgggcapgaikbeaa
