/- What 'speaks' of layer 3 answers; the refusals of ether.Write; ether.All. -/
import Derived.Test.YtgpmgfpmfdaecaaEWrite
namespace Go.Proofs.Ytgpmgfpmfdaecaa
open Go.RowKit
set_option linter.unusedVariables false
set_option linter.unusedSimpArgs false
theorem all_any (w : World) : Calls Try.prog 25 #[] w fun e w' => e = .returned (.agg #[.int .u8 255, .int .u8 255, .int .u8 255, .int .u8 255, .int .u8 255, .int .u8 255]) ∧ Below w.heap.size w w' := by
  go_enter Try.func25, Try.ntmps25
  go_wp2
  exact bodyPost_ret (v := .agg #[.int .u8 255, .int .u8 255, .int .u8 255, .int .u8 255, .int .u8 255, .int .u8 255]) (by simp [results, Try.results25, go_sem]) rfl ⟨rfl, (Below.refl _ _).alloc (Nat.le_refl _) _⟩

def all6 : Value := .agg #[.int .u8 255, .int .u8 255, .int .u8 255, .int .u8 255, .int .u8 255, .int .u8 255]
theorem all_at5 (W : World) : (Instr.index 25 (.agg #[.int .u8 255, .int .u8 255, .int .u8 255, .int .u8 255, .int .u8 255, .int .u8 255]) (.int .i64 5)).run Try.prog W = .ok (.int .u8 255) W := by
  first | kernel_rfl | (simp [Instr.index, go_sem]; done)
set_option maxHeartbeats 800000 in
theorem speaks3_any (w : World) : Calls Try.prog 6 #[] w fun e w' => e = .returned (.bool true) ∧ Below w.heap.size w w' := by
  go_enter Try.func6, Try.ntmps6
  go_wp2_with fail
  refine (ewrite_ok w 0 0 0 0 0 0 0 0 0 0 0 0 2054 none [] 0 0 (fun h => absurd rfl h) (fun _ => rfl) rfl (by omega) (by omega) (by omega)).mono ?_
  rintro e w1 ⟨a, c, rfl, hown, hbel⟩
  obtain ⟨g, rfl, hc⟩ : ∃ g, a = some ⟨g, 0, none⟩ ∧ ∀ i, i < 14 → w1.cell? ⟨g, i, none⟩ = some (.int .u8 ((frameB 0 0 0 0 0 0 0 0 0 0 0 0 2054 [])[i]?.getD 0)) := by
    rcases hown.2 with ⟨_, h0⟩ | ⟨g, cap, cur, hv, _⟩
    · omega
    · obtain ⟨rfl, rfl⟩ : a = some ⟨g, 0, none⟩ ∧ c = cap := by simpa using hv
      refine ⟨g, rfl, fun i hi => ?_⟩
      rw [hown.cellAt i (by omega)]
      have : i < (frameB 0 0 0 0 0 0 0 0 0 0 0 0 2054 []).length := by simpa [frameB, numB_len] using hi
      simp [List.getElem?_map, List.getElem?_eq_getElem this]
  have c12 : w1.cell? ⟨g, 12, none⟩ = some (.int .u8 8) := hc 12 (by omega)
  have c13 : w1.cell? ⟨g, 13, none⟩ = some (.int .u8 6) := hc 13 (by omega)
  clear hown hc
  have hix := all_at5
  go_wp2_with fail
  refine (all_any _).mono ?_
  rintro e w2 ⟨rfl, hb2⟩
  go_wp2
  go_ret
  exact ⟨rfl, hbel.trans (hb2.mono hbel.size)⟩
theorem all_eq (W : World) : (binOp .eql 25 (.agg #[.int .u8 255, .int .u8 255, .int .u8 255, .int .u8 255, .int .u8 255, .int .u8 255]) (.agg #[.int .u8 255, .int .u8 255, .int .u8 255, .int .u8 255, .int .u8 255, .int .u8 255])).run Try.prog W = .ok (.bool true) W := by
  first | kernel_rfl | (simp [go_sem]; done)
end Go.Proofs.Ytgpmgfpmfdaecaa
