/- What octet.Num and its helper answer: the bytes of a number, the greatest weight first, in new memory. -/
import Derived.Test.YtonoaopioifedaaGreatDoorRows
import Derived.Test.YtonoaopioifedaaGreatDoorGPlain
import Derived.WalkKit
namespace Go.Proofs.YtonoaopioifedaaGreatDoor
open Go.RowKit
set_option linter.unusedVariables false
set_option linter.unusedSimpArgs false
theorem Tryz.info5 : (Tryz.prog.info? 5).map (fun i => (i.zero, i.size, i.bytes)) = some (some (.int .u8 0), 1, 1) := by kernel_rfl

theorem bounded_any (n : Int) (w : World) :
    Calls Tryz.prog 98 #[.int .i64 n] w fun e w' => e = .returned (.int .i64 (sz n : Nat)) ∧ w = w' := by
  have e : ((sz n : Nat) : Int) = (if (if n < 0 then 0 else n) ≤ 8 then (if n < 0 then 0 else n) else 8) := by unfold sz; split <;> split <;> omega
  rw [e]; clear e
  by_cases h : n < 0
  · go_enter Tryz.func98, Tryz.ntmps98
    go_wp2
    go_ret
    simp [h]
  · by_cases h8 : n ≤ 8
    · go_enter Tryz.func98, Tryz.ntmps98
      go_wp2
      go_ret
      simp [h, h8]
    · go_enter Tryz.func98, Tryz.ntmps98
      go_wp2
      go_ret
      simp [h, h8]

set_option maxHeartbeats 400000 in
theorem num_aux (s : Int) (L : Nat) (n : Nat) (w : World) (hn : n < 18446744073709551616) (hs8 : L ≤ 8)
    (hb : Hid (∀ w, Calls Tryz.prog 98 #[.int .i64 s] w fun e w' => e = .returned (.int .i64 (L : Nat)) ∧ w = w')) :
    Calls Tryz.prog 74 #[.int .i64 s, .int .u64 n] w fun e w' => e = .returned (.slice (some ⟨w.heap.size, 0, none⟩) L L) ∧
      w'.ownsRow w.heap.size 5 1 (.slice (some ⟨w.heap.size, 0, none⟩) L L) L ((numB L n).map (Value.int .u8)) ∧ Below w.heap.size w w' := by
  obtain ⟨i0, hi, hz0, hz1, hz2⟩ := info_parts Tryz.info5
  go_enter Tryz.func74, Tryz.ntmps74
  go_wp2_with (first
    | (go_at_call 98; refine (hb.out _).mono ?_; rintro e w' ⟨rfl, rfl⟩)
    | (at_make; refine wpList_make_full _ rfl _ _ 29 rfl w.heap.size 5 i0 (.int .u8 0) 1 Tryz.underlying29 hi hz0 hz1 .i64 .i64 _ _ L rfl rfl rfl rfl (by rw [hz2]; omega) (by unfold maxLen; omega) (Nat.le_refl _) ?_))
  intro w1 hown hgrow
  have hbel : Below w.heap.size w w1 := (Below.refl _ _).grown hgrow (Nat.le_refl _) (fun k h => by cases h)
  rw [madeZeros, ← partB_zero L n] at hown
  clear hgrow
  go_wp2
  go_loopw [1, 12] (fun nn i wr => ∃ k : Nat, k ≤ L ∧ i = .int .i64 k ∧ nn = .int .u64 ((n / 256 ^ k : Nat) : Int) ∧
      wr.ownsRow w.heap.size 5 1 (.slice (some ⟨w.heap.size, 0, none⟩) L L) L ((partB L k n).map (Value.int .u8)) ∧ Below w.heap.size w wr)
    (fun _ i _ => L - (intOf i).toNat)
  case atStart => exact ⟨0, Nat.zero_le _, rfl, by simp, hown, hbel⟩
  case round =>
    clear hown hbel
    obtain ⟨k, hk, rfl, rfl, hown, hbel⟩ := hrel
    by_cases hlt : k < L
    · have hc : wr.cell? ⟨w.heap.size, L - 1 - k, none⟩ = some (.int .u8 ((partB L k n)[L - 1 - k]?.getD 0)) := by
        rw [hown.cellAt _ (by omega)]
        simp [partB_len, List.getElem?_map, List.getElem?_eq_getElem (show L - 1 - k < (partB L k n).length by rw [partB_len]; omega)]
      have hf := hown.frozenAt (L - 1 - k)
      go_wp2
      go_roundw
      case rel =>
        have e : (Value.int IntKind.u8 ((n : Int) / 256 ^ k % 256)) = .int .u8 (byteAt n k) := by unfold byteAt; congr 1
        refine ⟨k + 1, by omega, by go_num, ?_, ?_, hbel.setCell (Nat.le_refl _) _⟩
        · rw [div_step]
        · have h := (hown.stored (L - 1 - k) (.int .u8 (byteAt n k))).1
          rw [← List.map_set, partB_set L k n hlt] at h
          rw [e]; exact h
      case measure => simp [intOf]; omega
    · obtain rfl : k = L := by omega
      go_wp2
      go_ret
      rw [partB_full] at hown
      exact ⟨rfl, hown, hbel⟩

theorem num_any (s : Int) (n : Nat) (w : World) (hn : n < 18446744073709551616) :
    Calls Tryz.prog 74 #[.int .i64 s, .int .u64 n] w fun e w' => e = .returned (.slice (some ⟨w.heap.size, 0, none⟩) (sz s) (sz s)) ∧
      w'.ownsRow w.heap.size 5 1 (.slice (some ⟨w.heap.size, 0, none⟩) (sz s) (sz s)) (sz s) ((numB (sz s) n).map (Value.int .u8)) ∧ Below w.heap.size w w' :=
  num_aux s (sz s) n w hn (sz_le s) (fun w => bounded_any s w)
end Go.Proofs.YtonoaopioifedaaGreatDoor
