/- Ports: rising lists. No program is named. -/
import Derived.Test.YtafoiblacmjpdaaDoorPRise
namespace Go.Proofs.YtafoiblacmjpdaaDoor
set_option linter.unusedVariables false
set_option linter.unusedSimpArgs false
/-- Two rising lists of the same members are the same. -/
theorem rise_eq : ∀ (l m : List Int), l.Pairwise (· < ·) → m.Pairwise (· < ·) → (∀ x, x ∈ l ↔ x ∈ m) → l = m
  | [], [], _, _, _ => rfl
  | [], y :: m, _, _, h => absurd ((h y).2 (by simp)) (by simp)
  | x :: l, [], _, _, h => absurd ((h x).1 (by simp)) (by simp)
  | x :: l, y :: m, hl, hm, h => by
    have hl2 := List.pairwise_cons.1 hl
    have hm2 := List.pairwise_cons.1 hm
    have e : x = y := by
      rcases List.mem_cons.1 ((h x).1 (by simp)) with e | e
      · exact e
      · rcases List.mem_cons.1 ((h y).2 (by simp)) with e2 | e2
        · exact e2.symm
        · have := hm2.1 x e
          have := hl2.1 y e2
          omega
    subst e
    rw [rise_eq l m hl2.2 hm2.2 (fun z => ?_)]
    constructor
    · intro hz
      rcases List.mem_cons.1 ((h z).1 (List.mem_cons_of_mem _ hz)) with e | e
      · have := hl2.1 z hz; omega
      · exact e
    · intro hz
      rcases List.mem_cons.1 ((h z).2 (List.mem_cons_of_mem _ hz)) with e | e
      · have := hm2.1 z hz; omega
      · exact e
theorem bitsOf_mem (X b : Nat) : b ∈ bitsOf X ↔ b < 64 ∧ X.testBit b = true := by unfold bitsOf; simp
theorem told_mem (t : Nat → Bool) (k : Nat) (x : Int) : x ∈ told t k ↔ ∃ q : Nat, q < 64 * k ∧ t q = true ∧ x = ((1024 + q : Nat) : Int) := by
  induction k with
  | zero => simp [told]
  | succ k ih =>
    unfold told
    rw [List.mem_append, ih]
    unfold ones
    rw [List.mem_map]
    constructor
    · rintro (⟨q, h1, h2, h3⟩ | ⟨b, hb, rfl⟩)
      · exact ⟨q, by omega, h2, h3⟩
      · obtain ⟨h1, h2⟩ := (bitsOf_mem _ _).1 hb
        rw [wd_bit t k b h1] at h2
        exact ⟨64 * k + b, by omega, h2, by omega⟩
    · rintro ⟨q, h1, h2, h3⟩
      rcases Nat.lt_or_ge q (64 * k) with h | h
      · exact .inl ⟨q, h, h2, h3⟩
      · refine .inr ⟨q - 64 * k, (bitsOf_mem _ _).2 ⟨by omega, ?_⟩, by omega⟩
        rw [wd_bit t k _ (by omega), show 64 * k + (q - 64 * k) = q by omega]
        exact h2
end Go.Proofs.YtafoiblacmjpdaaDoor
