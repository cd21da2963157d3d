/- A message that is written is read back; an echo's flow. No program is named. -/
import Derived.Test.YtbacodogklbiaaaFlSpk
import Derived.Test.YtbacodogklbiaaaTPlain
namespace Go.Proofs.Ytbacodogklbiaaa
open Go.RowKit
set_option linter.unusedVariables false
set_option linter.unusedSimpArgs false
set_option maxRecDepth 100000
theorem fld_byte (x : Nat) (r : List Int) : fld ((x : Int) :: r) 0 1 = x := by unfold fld valB; simp
theorem icmpG_0 (p q r : Nat) (xs : List Int) (k : Nat) : fld (icmpG p q r xs k) 0 1 = p := fld_byte p _
theorem icmpG_1 (p q r : Nat) (xs : List Int) (k : Nat) : fld (icmpG p q r xs k) 1 1 = q := by
  have h := fld_skip [(p : Int)] ((q : Int) :: (numB 2 k ++ (numB 4 r ++ xs))) 0 1 1 rfl
  rw [fld_byte] at h; exact h
theorem icmpG_2 (p q r : Nat) (xs : List Int) (k : Nat) (hk : k ≤ 65535) : fld (icmpG p q r xs k) 2 2 = k := by
  unfold icmpG; rw [fld_skip _ _ 0 2 2 (by rfl), fld_num 2 k _ (by omega)]
theorem icmpG_4 (p q r : Nat) (xs : List Int) (k : Nat) (hr : r ≤ 4294967295) : fld (icmpG p q r xs k) 4 4 = r := by
  unfold icmpG; rw [fld_skip _ _ 2 2 4 (by rfl), fld_skip _ _ 0 2 4 (numB_len _ _), fld_num 4 r _ (by omega)]
theorem icmpG_8 (p q r : Nat) (xs : List Int) (k : Nat) : (icmpG p q r xs k).drop 8 = xs := by
  have e : icmpG p q r xs k = ([(p : Int), (q : Int)] ++ (numB 2 k ++ numB 4 r)) ++ xs := by simp [icmpG]
  rw [e, List.drop_left' (by simp [numB_len])]
theorem icmpG_psum (p q r : Nat) (xs : List Int) (k : Nat) (hk : k ≤ 65535) : psum (icmpG p q r xs k) = psum (icmpG p q r xs 0) + k := by
  unfold icmpG
  rw [psum_append _ _ (by simp), psum_append _ _ (by rw [numB_len]), psum_append _ (numB 2 0 ++ _) (by simp), psum_append (numB 2 0) _ (by rw [numB_len]), psum_num2 _ hk, psum_num2 0 (by omega)]
  omega
theorem icmpK_ok (p q r : Nat) (xs : List Int) (hb : ∀ x ∈ icmpG p q r xs 0, 0 ≤ x ∧ x ≤ 255) : csum (icmpG p q r xs (icmpK p q r xs).toNat) = 0 := by
  have h1 := csum_rng (icmpG p q r xs 0)
  have hP := (psum_rng _ hb).1
  have hk : ((icmpK p q r xs).toNat : Int) = csum (icmpG p q r xs 0) := by unfold icmpK; omega
  have h2 : csum (icmpG p q r xs (icmpK p q r xs).toNat) = 65535 - f16 (psum (icmpG p q r xs 0) + csum (icmpG p q r xs 0)) := by
    unfold csum at *
    rw [icmpG_psum _ _ _ _ _ (by omega), hk]
  rw [h2]
  exact right_good _ _ hP rfl
theorem icmpB_rng (p q r : Nat) (xs : List Int) (hp : p ≤ 255) (hq : q ≤ 255) (hb : ∀ x ∈ xs, 0 ≤ x ∧ x ≤ 255) : ∀ x ∈ icmpB p q r xs, 0 ≤ x ∧ x ≤ 255 := icmpG_rng p q r xs _ hp hq hb
theorem icmpB_code (p q r : Nat) (xs : List Int) (hp : p ≤ 255) (hq : q ≤ 255) (hb : ∀ x ∈ xs, 0 ≤ x ∧ x ≤ 255) (hl : xs.length ≤ 1472) : msgCode (icmpB p q r xs) = 0 := by
  have h := icmpB_len p q r xs
  unfold msgCode
  rw [if_neg (by omega), if_neg (by omega), if_pos (show csum (icmpB p q r xs) = 0 from icmpK_ok p q r xs (icmpG_rng p q r xs 0 hp hq hb))]
theorem icmpB_of (p q r : Nat) (xs : List Int) (hp : p ≤ 255) (hq : q ≤ 255) (hr : r ≤ 4294967295) (hb : ∀ x ∈ xs, 0 ≤ x ∧ x ≤ 255) (hl : xs.length ≤ 1472) : msgOf (icmpB p q r xs) = ⟨p, q, r, xs⟩ := by
  unfold msgOf
  rw [if_pos (icmpB_code p q r xs hp hq hb hl)]
  unfold icmpB
  rw [icmpG_0, icmpG_1, icmpG_4 _ _ _ _ _ hr, icmpG_8]
/-- A question's flow, and an answer's. -/
theorem echo_flow (kind S D id : Nat) (hid : id ≤ 65535) (hk : kind = 8 ∨ kind = 0) :
    ofFl 1 S D (icmpB kind 0 (id * 65536) [120]) = ⟨1, S, D, if kind = 8 then id else 0, if kind = 0 then id else 0⟩ ∧ ofKind 1 S D (icmpB kind 0 (id * 65536) [120]) = 2 ∧ ofErr 1 S D (icmpB kind 0 (id * 65536) [120]) = 0 := by
  have hk2 : kind ≤ 255 := by omega
  have hb : ∀ x ∈ ([120] : List Int), 0 ≤ x ∧ x ≤ 255 := by simp
  have h1 := icmpB_code kind 0 (id * 65536) [120] hk2 (by omega) hb (by simp)
  have h2 := icmpB_of kind 0 (id * 65536) [120] hk2 (by omega) (by omega) hb (by simp)
  have he : isErr kind = false := by rcases hk with rfl | rfl <;> rfl
  have hq : qok kind 0 = true := by rcases hk with rfl | rfl <;> rfl
  have e1 : icErr (icmpB kind 0 (id * 65536) [120]) = 0 := by unfold icErr msgOk; rw [if_pos h1, h2]; simp [he, hq]
  have e2 : ofErr 1 S D (icmpB kind 0 (id * 65536) [120]) = 0 := by unfold ofErr; rw [if_neg (by omega), if_neg (by omega), if_pos rfl, e1]
  refine ⟨?_, ?_, e2⟩
  · unfold ofFl
    rw [e2, if_pos rfl, if_neg (by omega), if_neg (by omega)]
    unfold icFl msgFl
    rw [if_pos h1, h2]
    simp only [he, qfrom, qto]
    rw [show id * 65536 / 65536 = id by omega]
    rcases hk with rfl | rfl <;> rfl
  · unfold ofKind
    rw [e2, if_pos rfl, if_neg (by omega)]
    unfold icKind msgKind
    rw [if_pos h1, h2]
    simp [he]
end Go.Proofs.Ytbacodogklbiaaa
