/- Head: numbers of a text: plain. -/
import Derived.Test.YtonoaopioifedaaGreatDoorHPl
namespace Go.Proofs.YtonoaopioifedaaGreatDoor.H
set_option linter.unusedVariables false
set_option linter.unusedSimpArgs false
set_option maxRecDepth 100000
def lowU (c : UInt8) : Nat := if 65 ≤ c.toNat ∧ c.toNat ≤ 90 then c.toNat + 32 else (c ||| 32).toNat
/-- A byte's digit, of the base b. -/
def digU (b : Nat) (c : UInt8) : Option Nat :=
  if 48 ≤ c.toNat ∧ c.toNat ≤ 57 then some (c.toNat - 48)
  else if 97 ≤ (c ||| 32).toNat ∧ (c ||| 32).toNat ≤ 122 then (if (c ||| 32).toNat - 87 < b then some ((c ||| 32).toNat - 87) else none)
  else none
def stepN (b : Nat) (o : Option Nat) (c : UInt8) : Option Nat := o.bind fun a => (digU b c).map fun d => a * b + d
def foldN (b : Nat) (l : List UInt8) : Option Nat := l.foldl (stepN b) (some 0)
def numL (b : Nat) (l : List UInt8) : Option Nat := if l = [] then none else foldN b l
theorem fold_none (b : Nat) : ∀ l : List UInt8, l.foldl (stepN b) none = none
  | [] => rfl
  | c :: r => by rw [List.foldl_cons]; exact fold_none b r
theorem fold_succ (b : Nat) (l : List UInt8) (j : Nat) (c : UInt8) (h : l[j]? = some c) : foldN b (l.take (j + 1)) = stepN b (foldN b (l.take j)) c := by
  unfold foldN
  rw [List.take_add_one, h, Option.toList_some, List.foldl_append]; rfl
theorem fold_stop (b : Nat) (l : List UInt8) (j : Nat) (h : foldN b (l.take j) = none) : foldN b l = none := by
  have e : l = l.take j ++ l.drop j := (List.take_append_drop j l).symm
  unfold foldN at h ⊢
  rw [e, List.foldl_append, h]
  exact fold_none b _
theorem dig_lt (b : Nat) (hb : b = 10 ∨ b = 16) (c : UInt8) (d : Nat) (h : digU b c = some d) : d < b := by
  unfold digU at h
  split at h
  · have := Option.some.inj h; omega
  · split at h
    · split at h
      · rename_i h3; have := Option.some.inj h; omega
      · cases h
    · cases h
theorem fold_lt (b : Nat) (hb : b = 10 ∨ b = 16) (l : List UInt8) : ∀ j n, j ≤ l.length → foldN b (l.take j) = some n → n < 16 ^ j := by
  intro j
  induction j with
  | zero => intro n _ h; simp [foldN] at h; omega
  | succ j ih =>
    intro n hj h
    have hlt : j < l.length := by omega
    rw [fold_succ b l j l[j] (List.getElem?_eq_getElem hlt)] at h
    unfold stepN at h
    cases hf : foldN b (l.take j) with
    | none => rw [hf] at h; cases h
    | some a =>
      rw [hf] at h
      simp only [Option.bind_some] at h
      cases hd : digU b l[j] with
      | none => rw [hd] at h; cases h
      | some d =>
        rw [hd] at h
        simp at h
        have h1 := ih a (by omega) hf
        have h2 := dig_lt b hb _ d hd
        have h3 : a * b ≤ a * 16 := Nat.mul_le_mul_left a (by rcases hb with e | e <;> omega)
        have h4 : d < 16 := by rcases hb with e | e <;> omega
        rw [Nat.pow_succ]
        omega
/-- The document's digit. -/
def digD (b : Nat) (c : UInt8) : Nat :=
  if b = 16 ∧ 97 ≤ (smallU c).toNat ∧ (smallU c).toNat ≤ 102 then 10 + ((smallU c).toNat - 97) else if 48 ≤ (smallU c).toNat ∧ (smallU c).toNat ≤ 57 then (smallU c).toNat - 48 else 99
theorem digD_10 (c : UInt8) : digU 10 c = if digD 10 c = 99 then none else some (digD 10 c) := all256 (p := fun c => digU 10 c = if digD 10 c = 99 then none else some (digD 10 c)) (by decide) c
theorem digD_16 (c : UInt8) : digU 16 c = if digD 16 c = 99 then none else some (digD 16 c) := all256 (p := fun c => digU 16 c = if digD 16 c = 99 then none else some (digD 16 c)) (by decide) c
theorem digD_eq (b : Nat) (hb : b = 10 ∨ b = 16) (c : UInt8) : digU b c = if digD b c = 99 then none else some (digD b c) := by
  rcases hb with rfl | rfl
  · exact digD_10 c
  · exact digD_16 c
end Go.Proofs.YtonoaopioifedaaGreatDoor.H
