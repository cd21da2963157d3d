/- Ports: the document's Pick. -/
import Derived.Test.YtafoiblacmjpdaaDoorPTk
namespace Go.Proofs.YtafoiblacmjpdaaDoor
open Go.RowKit Go.Deep
set_option linter.unusedVariables false
set_option linter.unusedSimpArgs false
set_option maxRecDepth 100000
def RPickTo (R C r : Nat) (xs : List Int) (w : World) (e : Ending) (w' : World) : Prop :=
  (∃ k, k < C ∧ (∀ j, j < k → ((1024 + (r + j) % C : Nat) : Int) ∈ xs) ∧ ((1024 + (r + k) % C : Nat) : Int) ∉ xs ∧ e = .returned (.tuple #[.int .i64 ((1024 + (r + k) % C : Nat) : Int), .bool true]) ∧ RAt w' R (tkL ((1024 + (r + k) % C : Nat) : Int) xs) ∧ OnlyB R w w') ∨
  ((∀ j, j < C → ((1024 + (r + j) % C : Nat) : Int) ∈ xs) ∧ e = .returned (.tuple #[.int .i64 0, .bool false]) ∧ w' = w)
set_option maxHeartbeats 2000000 in
theorem rpick_any (R C d r : Nat) (xs : List Int) (hC : C = 64512) (hr : d % C = r) (w : World) (h : RAt w R xs) (hlen : xs.length ≤ 90000) :
    Calls Tryd.prog 15 #[.pointer (some ⟨R, 0, none⟩), .int .u64 (d : Int)] w (RPickTo R C r xs w) := by
  have r1 : (d : Int) % 64512 = (r : Int) := by rw [hC] at hr; omega
  have hrC : r < C := by rw [← hr]; exact Nat.mod_lt _ (by omega)
  have r2 : (r : Int) ≤ 64512 := by omega
  have r3 : (0 : Int) ≤ (r : Int) := by omega
  have HX := hide (And.intro h hlen)
  have HC := hide hC
  have HRC := hide hrC
  clear h hlen hC hr hrC
  go_enter Tryd.func15, Tryd.ntmps15
  go_wp2_with fail
  clear r1
  go_loopw [7] (fun i wz => ∃ k : Nat, k ≤ C ∧ i = .int .i64 k ∧ Hid (∀ j, j < k → ((1024 + (r + j) % C : Nat) : Int) ∈ xs) ∧ wz = w) (fun i _ => C - (intOf i).toNat)
  case atStart => exact ⟨0, Nat.zero_le _, rfl, hide (fun j h => by omega), rfl⟩
  case round =>
    obtain ⟨k, hk, rfl, HB, rfl⟩ := hrel
    have hk4 : (0 : Int) ≤ (k : Int) := by omega
    by_cases hlt : k < C
    · have d1 : decide ((k : Int) < 64512) = true := by have := HC.out; simp; omega
      have hk5 : (k : Int) ≤ 64512 := by have := HC.out; omega
      obtain ⟨q, hq⟩ : ∃ q, (r + k) % C = q := ⟨_, rfl⟩
      have rq : ((r : Int) + (k : Int)) % 64512 = (q : Int) := by have h := hq; rw [HC.out] at h; omega
      have hq5 : (q : Int) ≤ 64512 := by have h := hq; rw [HC.out] at h; omega
      have hq4 : (0 : Int) ≤ (q : Int) := by omega
      obtain ⟨P, hP⟩ : ∃ P : Nat, 1024 + q = P := ⟨_, rfl⟩
      have rP : (1024 : Int) + (q : Int) = (P : Int) := by omega
      have HH := rhas_any R xs (P : Int) wr HX.out.1
      obtain ⟨b, hb⟩ : ∃ b, decide ((P : Int) ∈ xs) = b := ⟨_, rfl⟩
      rw [hb] at HH
      replace HH := hide HH
      have HPQ := hide (And.intro hb (And.intro hq (And.intro hP hlt)))
      clear hb hq hP hlt
      go_wp2_with fail
      refine HH.out.mono ?_
      rintro e w1 ⟨rfl, rfl⟩
      cases b with
      | true =>
        have HB2 := hide (show ∀ j, j < k + 1 → ((1024 + (r + j) % C : Nat) : Int) ∈ xs from fun j hj => by
          rcases Nat.lt_or_ge j k with h | h
          · exact HB.out j h
          · rw [show j = k by omega, HPQ.out.2.1, HPQ.out.2.2.1]
            exact of_decide_eq_true HPQ.out.1)
        have hkC := HPQ.out.2.2.2
        go_wp2_with fail
        go_roundw
        case rel => exact ⟨k + 1, by omega, by go_num, HB2, by first | rfl | trivial⟩
        case measure => simp [intOf]; omega
      | false =>
        have HTK := hide (rtake_yes R xs (P : Int) w1 HX.out.1 (by have := HPQ.out.2.2.1; omega) (of_decide_eq_false HPQ.out.1) HX.out.2)
        go_wp2_with fail
        refine HTK.out.mono ?_
        rintro e w2 ⟨rfl, h2, o2⟩
        have HF := hide (show RPickTo R C r xs w1 (.returned (.tuple #[.int .i64 (P : Int), .bool true])) w2 from .inl ⟨k, HPQ.out.2.2.2, HB.out, by rw [HPQ.out.2.1, HPQ.out.2.2.1]; exact of_decide_eq_false HPQ.out.1, by rw [HPQ.out.2.1, HPQ.out.2.2.1], by rw [HPQ.out.2.1, HPQ.out.2.2.1]; exact h2, o2⟩)
        clear h2 o2 HTK
        go_wp2_with fail
        go_ret2
        exact HF.out
    · have d1 : decide ((k : Int) < 64512) = false := by have := HC.out; simp; omega
      have HF := hide (show RPickTo R C r xs wr (.returned (.tuple #[.int .i64 0, .bool false])) wr from .inr ⟨fun j hj => HB.out j (by omega), rfl, rfl⟩)
      clear hlt hk
      go_wp2_with fail
      go_ret2
      exact HF.out
end Go.Proofs.YtafoiblacmjpdaaDoor
