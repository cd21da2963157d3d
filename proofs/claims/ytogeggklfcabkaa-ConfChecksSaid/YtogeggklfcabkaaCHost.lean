/- Whether an address is a host's: the program's and the document's. -/
import Derived.Test.YtogeggklfcabkaaCInner
import Derived.Deep.WholeRow
namespace Go.Proofs.Ytogeggklfcabkaa
open Go.RowKit
set_option linter.unusedVariables false
set_option linter.unusedSimpArgs false
set_option maxRecDepth 100000
def hostB (lan : Nat) (nb : Int) (a : Nat) : Bool := winB a lan nb && !decide (a = lan) && innerB a nb
/-- The cells of a configuration, as far as hosts hang on them. -/
structure CfH (cs : Array Value) (lan : Nat) (nb : Int) : Prop where
  size : cs.size = 28
  lan : cs[18]? = some (.int .u32 (lan : Int))
  bits : cs[20]? = some (.int .i64 nb)
set_option maxHeartbeats 800000 in
theorem host_any (cs : Array Value) (lan : Nat) (nb : Int) (a : Nat) (w : World) (hc : CfH cs lan nb) (hl : lan ≤ 4294967295) (ha : a ≤ 4294967295) :
    Calls Try.prog 14 #[.agg cs, .int .u32 (a : Int)] w fun e w' => e = .returned (.bool (hostB lan nb a)) ∧ Below w.heap.size w w' := by
  have hw0 : hostB lan nb a = (winB a lan nb && !decide (a = lan) && innerB a nb) := rfl
  obtain ⟨r, hr⟩ : ∃ r, hostB lan nb a = r := ⟨_, rfl⟩
  rw [hr] at hw0
  rw [hr]
  obtain ⟨_, c18⟩ := Array.getElem?_eq_some_iff.1 hc.lan
  obtain ⟨_, c20⟩ := Array.getElem?_eq_some_iff.1 hc.bits
  have h2 := hc.size
  have HB := hide ((Below.refl w.heap.size w).alloc (Nat.le_refl _) (.cells cs 28))
  obtain ⟨p, hp⟩ : ∃ p, winB a lan nb = p := ⟨_, rfl⟩
  have hq : ((a : Int) != (lan : Int)) = !decide (a = lan) := int_beq a lan
  obtain ⟨q, hq2⟩ : ∃ q, ((a : Int) != (lan : Int)) = q := ⟨_, rfl⟩
  rw [hq2] at hq
  obtain ⟨t, ht⟩ : ∃ t, innerB a nb = t := ⟨_, rfl⟩
  rw [hp, ← hq, ht] at hw0
  have HW := hide (fun V : World => within_any a lan nb V ha hl)
  rw [hp] at HW
  have HA := hide (fun V : World => amid_any a nb V ha)
  rw [ht] at HA
  have HR := hide hw0
  clear hw0 hr hq hp ht hc
  cases p <;> cases q <;> cases t <;>
  · go_enter Try.func14, Try.ntmps14
    go_wp2_with fail
    refine (HW.out _).mono ?_
    rintro e w1 ⟨rfl, n1, rfl⟩
    have HD := hide (bdrewN HB.out n1)
    go_wp2_with (go_at_call 29; refine (HA.out _).mono ?_; rintro e w2 ⟨rfl, rfl⟩)
    go_ret
    exact ⟨by rw [HR.out]; rfl, HD.out⟩
set_option maxHeartbeats 800000 in
theorem hostR_any (cs : Array Value) (lan : Nat) (nb : Int) (a : Nat) (w : World) (hc : CfH cs lan nb) (hl : lan ≤ 4294967295) (ha : a ≤ 4294967295) :
    Calls Try.prog 15 #[.agg cs, .int .u32 (a : Int)] w fun e w' => e = .returned (.bool (hostB lan nb a)) ∧ Below w.heap.size w w' := by
  have hw0 : hostB lan nb a = (winB a lan nb && !decide (a = lan) && innerB a nb) := rfl
  obtain ⟨r, hr⟩ : ∃ r, hostB lan nb a = r := ⟨_, rfl⟩
  rw [hr] at hw0
  rw [hr]
  obtain ⟨_, c18⟩ := Array.getElem?_eq_some_iff.1 hc.lan
  obtain ⟨_, c20⟩ := Array.getElem?_eq_some_iff.1 hc.bits
  have h2 := hc.size
  have HB := hide ((Below.refl w.heap.size w).alloc (Nat.le_refl _) (.cells cs 28))
  obtain ⟨p, hp⟩ : ∃ p, winB a lan nb = p := ⟨_, rfl⟩
  have hq : ((a : Int) != (lan : Int)) = !decide (a = lan) := int_beq a lan
  obtain ⟨q, hq2⟩ : ∃ q, ((a : Int) != (lan : Int)) = q := ⟨_, rfl⟩
  rw [hq2] at hq
  obtain ⟨t, ht⟩ : ∃ t, innerB a nb = t := ⟨_, rfl⟩
  rw [hp, ← hq, ht] at hw0
  have HW := hide (fun V : World => withinR_any a lan nb V ha hl)
  rw [hp] at HW
  have HA := hide (fun V : World => innerR_any a nb V ha)
  rw [ht] at HA
  have HR := hide hw0
  clear hw0 hr hq hp ht hc
  cases p <;> cases q <;> cases t <;>
  · go_enter Try.func15, Try.ntmps15
    go_wp2_with fail
    refine (HW.out _).mono ?_
    rintro e w1 ⟨rfl, rfl⟩
    have HD := HB
    go_wp2_with (go_at_call 25; refine (HA.out _).mono ?_; rintro e w2 ⟨rfl, rfl⟩)
    go_ret
    exact ⟨by rw [HR.out]; rfl, HD.out⟩
end Go.Proofs.Ytogeggklfcabkaa
