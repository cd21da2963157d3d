/- Ports: the program's set and the document's list, call by call. -/
import Derived.Test.YtafoiblacmjpdaaDoorPRGive
import Derived.Test.YtafoiblacmjpdaaDoorPRPick
import Derived.Test.YtafoiblacmjpdaaDoorPBack
namespace Go.Proofs.YtafoiblacmjpdaaDoor
open Go.RowKit Go.Deep
set_option linter.unusedVariables false
set_option linter.unusedSimpArgs false
set_option maxRecDepth 100000
theorem told_in_iff (t : Nat → Bool) (C q : Nat) (hC : C = 64512) (hq : q < C) : ((1024 + q : Nat) : Int) ∈ told t 1008 ↔ t q = true := by
  rw [told_mem]
  constructor
  · rintro ⟨q2, h1, h2, h3⟩
    rw [show q = q2 by omega]; exact h2
  · intro h; exact ⟨q, by omega, h, rfl⟩
theorem told_low (t : Nat → Bool) (p : Nat) (hp : p < 1024) : (p : Int) ∉ told t 1008 := by
  intro h
  obtain ⟨q, h1, h2, h3⟩ := (told_mem t 1008 _).1 h
  omega
theorem told_none : told none_ 1008 = [] := by
  rw [List.eq_nil_iff_forall_not_mem]
  intro x hx
  obtain ⟨q, _, h, _⟩ := (told_mem none_ 1008 x).1 hx
  cases h
theorem told_size (t : Nat → Bool) (C k : Nat) (hC : C = 64512) (h : cnt t C = k) : (told t 1008).length = k := by rw [told_cnt, ← h, hC]
/-- What a call of both answers, whatever world it is in. -/
def Two (B R : Nat) (t t' : Nat → Bool) (k k' : Nat) (f g : FuncId) (x y : Value) (u v : Value) : Prop :=
  (∀ w, PAt w B t (k : Int) → PtT w → Calls Tryd.prog f #[.pointer (some ⟨B, 0, none⟩), x] w fun e w' => e = .returned u ∧ PAt w' B t' (k' : Int) ∧ OnlyB B w w') ∧
  (∀ w, RAt w R (told t 1008) → Calls Tryd.prog g #[.pointer (some ⟨R, 0, none⟩), y] w fun e w' => e = .returned v ∧ RAt w' R (told t' 1008) ∧ OnlyB R w w')
theorem take_two (B R p k C : Nat) (t : Nat → Bool) (hC : C = 64512) (hp2 : p ≤ 65535) (hk : k ≤ 1000) (hc : cnt t C = k) :
    ∃ (b : Bool) (t' : Nat → Bool) (k' : Nat), cnt t' C = k' ∧ k' ≤ k + 1 ∧ Two B R t t' k k' 10 11 (.int .u16 (p : Int)) (.int .i64 (p : Int)) (.bool b) (.bool b) := by
  have hlen := told_size t C k hC hc
  rcases Nat.lt_or_ge p 1024 with h | h
  · exact ⟨false, t, k, hc, by omega, fun w hw _ => take_low B p t k h w hw, fun w hw => (rtake_no R _ (p : Int) w hw (.inl (by omega))).mono fun e w' ⟨h1, h2⟩ => ⟨h1, h2 ▸ hw, h2 ▸ OnlyB.refl _ _⟩⟩
  · obtain ⟨q, hq⟩ : ∃ q, p - 1024 = q := ⟨_, rfl⟩
    have hpq : (p : Int) = ((1024 + q : Nat) : Int) := by omega
    cases ht : t q with
    | true =>
      refine ⟨false, t, k, hc, by omega, fun w hw _ => take_has B p q t k h hp2 hq ht w hw, fun w hw => (rtake_no R _ (p : Int) w hw (.inr ?_)).mono fun e w' ⟨h1, h2⟩ => ⟨h1, h2 ▸ hw, h2 ▸ OnlyB.refl _ _⟩⟩
      rw [hpq]; exact (told_in_iff t C q hC (by omega)).2 ht
    | false =>
      refine ⟨true, put t q true, k + 1, by rw [cnt_put_true t C q (by omega) ht, hc], by omega, fun w hw _ => (take_new B p q t k h hp2 hq ht (by omega) (by omega) w hw), fun w hw => (rtake_yes R _ (p : Int) w hw (by omega) ?_ (by omega)).mono fun e w' ⟨h1, h2, h3⟩ => ⟨h1, ?_, h3⟩⟩
      · rw [hpq]
        intro hm
        have := (told_in_iff t C q hC (by omega)).1 hm
        rw [ht] at this; cases this
      · rw [← told_take t q 1008 (by omega) ht, ← hpq]; exact h2
theorem give_two (B R p k C : Nat) (t : Nat → Bool) (hC : C = 64512) (hp2 : p ≤ 65535) (hk : k ≤ 1000) (hc : cnt t C = k) :
    ∃ (b : Bool) (t' : Nat → Bool) (k' : Nat), cnt t' C = k' ∧ k' ≤ k + 1 ∧ Two B R t t' k k' 12 13 (.int .u16 (p : Int)) (.int .i64 (p : Int)) (.bool b) (.bool b) := by
  rcases Nat.lt_or_ge p 1024 with h | h
  · refine ⟨false, t, k, hc, by omega, fun w hw _ => give_low B p t k h w hw, fun w hw => (rgive_any R _ (p : Int) w hw).mono fun e w' hg => ?_⟩
    rcases hg with ⟨_, h1, h2⟩ | ⟨i, hi, _⟩
    · exact ⟨h1, h2 ▸ hw, h2 ▸ OnlyB.refl _ _⟩
    · exact absurd (List.mem_of_getElem? hi) (told_low t p h)
  · obtain ⟨q, hq⟩ : ∃ q, p - 1024 = q := ⟨_, rfl⟩
    have hpq : (p : Int) = ((1024 + q : Nat) : Int) := by omega
    cases ht : t q with
    | false =>
      refine ⟨false, t, k, hc, by omega, fun w hw _ => give_hasnt B p q t k h hp2 hq ht w hw, fun w hw => (rgive_any R _ (p : Int) w hw).mono fun e w' hg => ?_⟩
      rcases hg with ⟨_, h1, h2⟩ | ⟨i, hi, _⟩
      · exact ⟨h1, h2 ▸ hw, h2 ▸ OnlyB.refl _ _⟩
      · have hm := List.mem_of_getElem? hi
        rw [hpq] at hm
        have := (told_in_iff t C q hC (by omega)).1 hm
        rw [ht] at this; cases this
    | true =>
      have hcp := cnt_put_false t C q (by omega) ht
      refine ⟨true, put t q false, k - 1, by omega, by omega, fun w hw _ => ?_, fun w hw => (rgive_any R _ (p : Int) w hw).mono fun e w' hg => ?_⟩
      · rw [show ((k - 1 : Nat) : Int) = (k : Int) - 1 by omega]
        exact give_new B p q t k h hp2 hq ht (by omega) (by omega) w hw
      · rcases hg with ⟨hn, _⟩ | ⟨i, hi, h1, h2, h3⟩
        · exact absurd (by rw [hpq]; exact (told_in_iff t C q hC (by omega)).2 ht) hn
        · refine ⟨h1, ?_, h3⟩
          rw [hpq] at hi
          rw [← told_give t q 1008 i hi]; exact h2
theorem pick_two (B R d k C : Nat) (t : Nat → Bool) (hC : C = 64512) (hk : k ≤ 1000) (hc : cnt t C = k) :
    ∃ (v : Nat) (b : Bool) (t' : Nat → Bool) (k' : Nat), v ≤ 65535 ∧ cnt t' C = k' ∧ k' ≤ k + 1 ∧ Two B R t t' k k' 14 15 (.int .u64 (d : Int)) (.int .u64 (d : Int)) (.tuple #[.int .u16 (v : Int), .bool b]) (.tuple #[.int .i64 (v : Int), .bool b]) := by
  have hlen := told_size t C k hC hc
  have hr : d % C < C := Nat.mod_lt _ (by omega)
  have him : ∀ j, j < C → (((1024 + (d % C + j) % C : Nat) : Int) ∈ told t 1008 ↔ t ((d % C + j) % C) = true) := fun j _ => told_in_iff t C _ hC (Nat.mod_lt _ (by omega))
  by_cases hex : ∃ p, PickIs t (d % C) p
  · obtain ⟨p, hp⟩ := hex
    have hpl := hp.lt
    refine ⟨1024 + p, true, put t p true, k + 1, by omega, by rw [cnt_put_true t C p (by omega) hpl.2, hc], by omega, fun w hw hT => ?_, fun w hw => (rpick_any R C d (d % C) _ hC rfl w hw (by omega)).mono fun e w' hg => ?_⟩
    · exact pick_is B d p t k (by omega) (by omega) w hw hT (by rw [← hC]; exact hp)
    · rcases hg with ⟨j, hj, h1, h2, h3, h4, h5⟩ | ⟨h1, _⟩
      · have hp2 := pick_found t C (d % C) j hC hr hj (fun i hi => (him i (by omega)).1 (h1 i hi)) (by
          cases hb : t ((d % C + j) % C) with
          | false => rfl
          | true => exact absurd ((him j hj).2 hb) h2)
        have e2 := hp2.eq hp
        rw [e2] at h3 h4
        refine ⟨h3, ?_, h5⟩
        rw [← told_take t p 1008 (by omega) hpl.2]; exact h4
      · have := pick_none t C (d % C) hC hr (fun j hj => (him j hj).1 (h1 j hj)) p (Nat.zero_le _) hpl.1
        rw [hpl.2] at this; cases this
  · refine ⟨0, false, t, k, by omega, hc, by omega, fun w hw hT => (pick_any B d t k (by omega) (by omega) w hw hT).mono fun e w' hg => ?_, fun w hw => (rpick_any R C d (d % C) _ hC rfl w hw (by omega)).mono fun e w' hg => ?_⟩
    · rcases hg with ⟨p, hp, _⟩ | ⟨_, h1, h2⟩
      · exact absurd ⟨p, by rw [hC]; exact hp⟩ hex
      · exact ⟨h1, h2 ▸ hw, h2 ▸ OnlyB.refl _ _⟩
    · rcases hg with ⟨j, hj, h1, h2, _⟩ | ⟨_, h1, h2⟩
      · refine absurd ⟨_, pick_found t C (d % C) j hC hr hj (fun i hi => (him i (by omega)).1 (h1 i hi)) ?_⟩ hex
        cases hb : t ((d % C + j) % C) with
        | false => rfl
        | true => exact absurd ((him j hj).2 hb) h2
      · exact ⟨h1, h2 ▸ hw, h2 ▸ OnlyB.refl _ _⟩
/-- Whether a port is taken: both answer alike. -/
theorem has_two (B R p k C : Nat) (t : Nat → Bool) (hC : C = 64512) (hp2 : p ≤ 65535) :
    ∃ b : Bool, (∀ w, PAt w B t (k : Int) → Calls Tryd.prog 18 #[.pointer (some ⟨B, 0, none⟩), .int .u16 (p : Int)] w fun e w' => e = .returned (.bool b) ∧ Below w.heap.size w w') ∧
      (∀ w, RAt w R (told t 1008) → Calls Tryd.prog 19 #[.pointer (some ⟨R, 0, none⟩), .int .i64 (p : Int)] w fun e w' => e = .returned (.bool b) ∧ Below w.heap.size w w') := by
  rcases Nat.lt_or_ge p 1024 with h | h
  · refine ⟨false, fun w _ => (has_low B p h w).mono fun e w' ⟨h1, h2⟩ => ⟨h1, h2.below⟩, fun w hw => (rhas_any R _ (p : Int) w hw).mono fun e w' ⟨h1, h2⟩ => ⟨?_, h2 ▸ Below.refl _ _⟩⟩
    rw [h1, show decide ((p : Int) ∈ told t 1008) = false by simpa using told_low t p h]
  · obtain ⟨q, hq⟩ : ∃ q, p - 1024 = q := ⟨_, rfl⟩
    have hpq : (p : Int) = ((1024 + q : Nat) : Int) := by omega
    refine ⟨t q, fun w hw => (has_high B p q t k h hp2 hq w hw).mono fun e w' ⟨h1, h2⟩ => ⟨h1, h2.below⟩, fun w hw => (rhas_any R _ (p : Int) w hw).mono fun e w' ⟨h1, h2⟩ => ⟨?_, h2 ▸ Below.refl _ _⟩⟩
    rw [h1]
    have hi := told_in_iff t C q hC (by omega)
    rw [hpq]
    cases ht : t q with
    | true => rw [show decide (((1024 + q : Nat) : Int) ∈ told t 1008) = true by simpa using hi.2 ht]
    | false => rw [show decide (((1024 + q : Nat) : Int) ∈ told t 1008) = false by simp only [decide_eq_false_iff_not]; intro hm; rw [hi.1 hm] at ht; cases ht]
theorem len_two (B : Nat) (t : Nat → Bool) (k : Nat) (w : World) (h : PAt w B t (k : Int)) :
    Calls Tryd.prog 17 #[.pointer (some ⟨B, 0, none⟩)] w fun e w' => e = .returned (.int .i64 (k : Int)) ∧ Below w.heap.size w w' :=
  (len_any B t k w h).mono fun e w' ⟨h1, h2⟩ => ⟨h1, h2 ▸ Below.refl _ _⟩
end Go.Proofs.YtafoiblacmjpdaaDoor
