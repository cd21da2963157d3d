/- The document's pairs. -/
import Derived.Test.YtlipckpacdioiaaDoorKeep
namespace Go.Proofs.YtlipckpacdioiaaDoor
open Go.RowKit
set_option linter.unusedVariables false
set_option linter.unusedSimpArgs false
set_option maxRecDepth 100000
set_option maxHeartbeats 800000 in
theorem refPairs_any (a : Option Addr) (xs : List Int) (cap : Nat) (w : World) (hr : Row .u8 w a xs) (hb : ∀ x ∈ xs, 0 ≤ x ∧ x ≤ 255) (hlen : xs.length < 1000000000) :
    Calls Tryd.prog 31 #[.slice a xs.length cap] w fun e w' => ∃ a' c', e = .returned (.slice a' (prs xs).length c') ∧
      Row .u16 w' a' (prs xs) ∧ Below w.heap.size w w' := by
  obtain ⟨i0, hi, hz0, hz1, hz2⟩ := info_parts Tryd.info22
  have hpl := prs_len xs
  have hown0 : (w.alloc (.cells #[] 22)).ownsRow w.heap.size 22 1 (.slice (some ⟨w.heap.size, 0, none⟩) 0 0) 0 [] := World.ownsRow_lit w #[] 0 (Nat.le_refl _) (by unfold maxLen; omega) rfl
  have HR := hide hr
  clear hr
  go_enter Tryd.func31, Tryd.ntmps31
  go_wp2
  go_loopw [3, 4] (fun v i wr => ∃ k : Nat, ∃ a' c', k ≤ (prs xs).length ∧ i = .int .i64 ((2 * k : Nat) : Int) ∧ v = .slice a' k c' ∧
      wr.ownsRow w.heap.size 22 1 (.slice a' k c') k (((prs xs).take k).map (Value.int .u16)) ∧ Below w.heap.size w wr)
    (fun _ i _ => xs.length + 1 - (intOf i).toNat)
  case atStart => exact ⟨0, some ⟨w.heap.size, 0, none⟩, 0, Nat.zero_le _, rfl, rfl, hown0, (Below.refl _ _).alloc (Nat.le_refl _) _⟩
  case round =>
    have HP := hide hpl
    clear hpl hown0
    obtain ⟨k, a', c', hk, rfl, rfl, hown, hbel⟩ := hrel
    by_cases hlt : 2 * k < xs.length
    · obtain ⟨b, off, rfl, hbl, hc0⟩ := HR.out.at hlt
      have cx : wr.cell? ⟨b, off + 2 * k, none⟩ = _ := (hbel.cell (p := ⟨b, off + 2 * k, none⟩) hbl).trans (hc0 (2 * k) hlt)
      have cx2 : 2 * k + 1 < xs.length → wr.cell? ⟨b, off + (2 * k + 1), none⟩ = _ := fun h => (hbel.cell (p := ⟨b, off + (2 * k + 1), none⟩) hbl).trans (hc0 (2 * k + 1) h)
      have hx := byte_at hb (2 * k)
      have hy := byte_at hb (2 * k + 1)
      have hpt := prs_take xs k hlt
      have hy0 : ¬ 2 * k + 1 < xs.length → xs[2 * k + 1]?.getD 0 = 0 := fun h => by rw [List.getElem?_eq_none (by omega)]; rfl
      generalize xs[2 * k]?.getD 0 = x at *
      generalize xs[2 * k + 1]?.getD 0 = y at *
      have HPT := hide hpt
      have HO := hide hown
      clear hc0 hpt hown
      by_cases hlt2 : 2 * k + 1 < xs.length
      · skip
        replace cx2 := cx2 hlt2
        clear hy0
        go_wp2_with (at_builtin; refine wpList_append_own _ rfl _ _ 64 rfl w.heap.size 22 i0 (.int .u16 0) 1 2 Tryd.underlying64 hi hz0 hz1 hz2 rfl (by decide) _ _ _ rfl (HO.out.alloc _) ⟨wr.heap.size, 0, none⟩ 1 1 [.int .u16 (256 * x + y)] rfl rfl (new_cell _ _ _) (one_int _ _) (by unfold maxLen; omega) (by omega) (by have := hbel.size; simp; omega) ?_)
        intro v' w1 hown1 hgrow _
        obtain ⟨a1, c1, rfl⟩ := slice_form hown1
        have hbel1 : Below w.heap.size w w1 := (hbel.alloc hbel.size _).grown hgrow (by have := hbel.size; simp; omega) (fun j e => (HO.out.lt j e).1)
        have O1 := hide hown1
        have B1 := hide hbel1
        clear hown1 hbel1 hgrow
        go_wp2
        go_roundw
        case rel => exact ⟨k + 1, a1, c1, by rw [HP.out]; omega, by go_num, rfl, by rw [HPT.out]; simpa using O1.out, B1.out⟩
        case measure => simp [intOf]; omega
      · skip
        have hyy := hide (hy0 hlt2)
        clear hy0 cx2
        go_wp2_with (at_builtin; refine wpList_append_own _ rfl _ _ 64 rfl w.heap.size 22 i0 (.int .u16 0) 1 2 Tryd.underlying64 hi hz0 hz1 hz2 rfl (by decide) _ _ _ rfl (HO.out.alloc _) ⟨wr.heap.size, 0, none⟩ 1 1 [.int .u16 (256 * x)] rfl rfl (new_cell _ _ _) (one_int _ _) (by unfold maxLen; omega) (by omega) (by have := hbel.size; simp; omega) ?_)
        intro v' w1 hown1 hgrow _
        rw [show (256 * x : Int) = 256 * x + y by rw [hyy.out]; omega] at hown1
        obtain ⟨a1, c1, rfl⟩ := slice_form hown1
        have hbel1 : Below w.heap.size w w1 := (hbel.alloc hbel.size _).grown hgrow (by have := hbel.size; simp; omega) (fun j e => (HO.out.lt j e).1)
        have O1 := hide hown1
        have B1 := hide hbel1
        clear hown1 hbel1 hgrow
        go_wp2
        go_roundw
        case rel => exact ⟨k + 1, a1, c1, by rw [HP.out]; omega, by go_num, rfl, by rw [HPT.out]; simpa using O1.out, B1.out⟩
        case measure => simp [intOf]; omega
    · have hkk : k = (prs xs).length := by rw [HP.out] at hk ⊢; omega
      have KK := hide hkk
      clear hkk
      go_wp2
      go_ret
      have hk0 := KK.out
      rw [List.take_of_length_le (by omega), hk0] at hown
      rw [hk0]
      exact ⟨a', c', rfl, Row.of_owns hown, hbel⟩

end Go.Proofs.YtlipckpacdioiaaDoor
