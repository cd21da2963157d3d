/- What an Eye's Bytes answers. -/
import Derived.Test.YtlipckpacdioiaaDoorEye
namespace Go.Proofs.YtlipckpacdioiaaDoor
open Go.RowKit
set_option linter.unusedVariables false
set_option linter.unusedSimpArgs false
theorem grownBy_below {w w' : World} {E B : Nat} (h : w.grownBy w' (some E)) (hE : B ≤ E) (hB : B ≤ w.heap.size) : Below B w w' := (Below.refl B w).grown h hB (fun k e => by cases e; exact hE)

theorem gb_drewN (w : World) (n : Nat) (r : Option Nat) : w.grownBy (w.drewN n) r := ⟨rfl, rfl, rfl, Nat.le_refl _, fun _ _ _ => rfl⟩
/-- 'Bytes' of an Eye: a copy in new memory. -/
theorem eyeBytes_any (E B : Nat) (rest : List Int) (bad : Bool) (s : Int) (w : World) (h : EyeAt w E B rest bad) (hl : rest.length ≤ 1099511627776) (hs : -9223372036854775808 ≤ s ∧ s ≤ 9223372036854775807) :
    Calls Tryd.prog 28 #[.pointer (some ⟨E, 0, none⟩), .int .i64 s] w fun e w' => ∃ w1 a c, e = .returned (.slice a (if s.toNat ≤ rest.length then s.toNat else 0) c) ∧
      w'.ownsRow w1.heap.size 5 1 (.slice a (if s.toNat ≤ rest.length then s.toNat else 0) c) (if s.toNat ≤ rest.length then s.toNat else 0) ((if s.toNat ≤ rest.length then rest.take s.toNat else []).map (Value.int .u8)) ∧
      EyeAt w1 E B (if s.toNat ≤ rest.length then rest.drop s.toNat else []) (bad || decide (rest.length < s.toNat)) ∧ w.grownBy w1 (some E) ∧ Below w1.heap.size w1 w' := by
  have ht := take_any E B rest bad s.toNat w h (by omega) hl
  have hxl : (if s.toNat ≤ rest.length then rest.take s.toNat else []).length = (if s.toNat ≤ rest.length then s.toNat else 0) := by
    split
    · rw [List.length_take]; omega
    · rfl
  have hm : (if s.toNat ≤ rest.length then s.toNat else 0) ≤ 1099511627776 := by split <;> omega
  generalize (if s.toNat ≤ rest.length then rest.take s.toNat else []) = xs at *
  generalize (if s.toNat ≤ rest.length then s.toNat else 0) = m at *
  generalize (if s.toNat ≤ rest.length then rest.drop s.toNat else []) = rest' at *
  generalize (bad || decide (rest.length < s.toNat)) = bad' at *
  obtain ⟨k, hk⟩ : ∃ k : Nat, s.toNat = k := ⟨_, rfl⟩
  rw [hk] at ht
  have HT := hide ht
  have HXL := hide hxl
  have hcl : ∀ (W : World) (a : Option Addr) (c : Nat), Row .u8 W a xs → Calls Tryd.prog 43 #[.slice a m c] W fun e w' => ∃ a' cap', e = .returned (.slice a' m cap') ∧ w'.ownsRow W.heap.size 5 1 (.slice a' m cap') m (xs.map (Value.int .u8)) ∧ Below W.heap.size W w' := fun W a c hr => by
    have := clone_any a xs c W hr (by rw [hxl]; omega)
    rw [hxl] at this; exact this
  have HCL := hide hcl
  clear ht hxl hcl h
  have fin : ∀ (e : Ending) (w' : World), (∃ w1 a c, e = .returned (.slice a m c) ∧ w'.ownsRow w1.heap.size 5 1 (.slice a m c) m (xs.map (Value.int .u8)) ∧ EyeAt w1 E B rest' bad' ∧ w.grownBy w1 (some E) ∧ Below w1.heap.size w1 w') →
      ∃ w1 a c, e = .returned (.slice a m c) ∧ w'.ownsRow w1.heap.size 5 1 (.slice a m c) m (xs.map (Value.int .u8)) ∧ EyeAt w1 E B rest' bad' ∧ w.grownBy w1 (some E) ∧ Below w1.heap.size w1 w' := by
    rintro e w' ⟨w1, a, c, h1, h2, h3, h4, h5⟩
    exact ⟨w1, a, c, h1, h2, h3, h4, h5⟩
  by_cases hneg : s < 0
  · have hk0 : k = 0 := by omega
    rw [hk0] at HT
    clear hk0 hk
    go_enter Tryd.func28, Tryd.ntmps28
    go_wp2_with fail
    refine HT.out.mono ?_
    rintro e w1 ⟨a1, c1, rfl, hr, heye, hg⟩
    go_wp2_with fail
    refine (HCL.out w1 a1 c1 hr).mono ?_
    rintro e w2 ⟨a2, c2, rfl, hown, hbel⟩
    go_wp2
    go_ret
    exact fin _ _ ⟨w1, a2, c2, rfl, hown, heye, hg, hbel⟩
  · have hsk : s = (k : Int) := by omega
    clear hk
    subst hsk
    go_enter Tryd.func28, Tryd.ntmps28
    go_wp2_with fail
    refine HT.out.mono ?_
    rintro e w1 ⟨a1, c1, rfl, hr, heye, hg⟩
    go_wp2_with fail
    refine (HCL.out w1 a1 c1 hr).mono ?_
    rintro e w2 ⟨a2, c2, rfl, hown, hbel⟩
    go_wp2
    go_ret
    exact fin _ _ ⟨w1, a2, c2, rfl, hown, heye, hg, hbel⟩

end Go.Proofs.YtlipckpacdioiaaDoor
