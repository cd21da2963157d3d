/- neigh: what is the same is found the same. -/
import Derived.Test.YtbibobjkclgogaaNPut
import Derived.Test.YtbibobjkclgogaaClone
import Derived.ChangeKeysEq
import Derived.Laws.StructEq
namespace Go.Proofs.Ytbibobjkclgogaa
open Go.RowKit
set_option linter.unusedVariables false
set_option linter.unusedSimpArgs false
set_option maxRecDepth 100000
theorem mac_self (a0 a1 a2 a3 a4 a5 : Int) (W : World) : (Op.equalIn 10000 23 (.agg #[.int .u8 a0, .int .u8 a1, .int .u8 a2, .int .u8 a3, .int .u8 a4, .int .u8 a5]) (.agg #[.int .u8 a0, .int .u8 a1, .int .u8 a2, .int .u8 a3, .int .u8 a4, .int .u8 a5])).run Try.prog W = .ok true W := by
  obtain ⟨i0, hi, _⟩ := info_parts info_u8
  rw [run_equalIn_array W 9999 _ _ Try.underlying23 hi]
  have hc : Try.prog.cellsOf 5 = 1 := by kernel_rfl
  rw [hc, show List.range 6 = [0, 1, 2, 3, 4, 5] from rfl]
  simp [Op.eqItems, go_sem]
theorem mac_self2 (a0 a1 a2 a3 a4 a5 : Int) (W : World) : (Op.equalIn 9999 23 (.agg #[.int .u8 a0, .int .u8 a1, .int .u8 a2, .int .u8 a3, .int .u8 a4, .int .u8 a5]) (.agg #[.int .u8 a0, .int .u8 a1, .int .u8 a2, .int .u8 a3, .int .u8 a4, .int .u8 a5])).run Try.prog W = .ok true W := by
  obtain ⟨i0, hi, _⟩ := info_parts info_u8
  rw [run_equalIn_array W 9998 _ _ Try.underlying23 hi]
  have hc : Try.prog.cellsOf 5 = 1 := by kernel_rfl
  rw [hc, show List.range 6 = [0, 1, 2, 3, 4, 5] from rfl]
  simp [Op.eqItems, go_sem]
theorem arp_self (o x y : Int) (a0 a1 a2 a3 a4 a5 b0 b1 b2 b3 b4 b5 : Int) (W : World) : (Op.equalIn 10000 41 (.agg #[.int .u16 o, .int .u8 a0, .int .u8 a1, .int .u8 a2, .int .u8 a3, .int .u8 a4, .int .u8 a5, .int .u8 b0, .int .u8 b1, .int .u8 b2, .int .u8 b3, .int .u8 b4, .int .u8 b5, .int .u32 x, .int .u32 y]) (.agg #[.int .u16 o, .int .u8 a0, .int .u8 a1, .int .u8 a2, .int .u8 a3, .int .u8 a4, .int .u8 a5, .int .u8 b0, .int .u8 b1, .int .u8 b2, .int .u8 b3, .int .u8 b4, .int .u8 b5, .int .u32 x, .int .u32 y])).run Try.prog W = .ok true W := by
  have m1 := mac_self2 a0 a1 a2 a3 a4 a5
  have m2 := mac_self2 b0 b1 b2 b3 b4 b5
  simp [go_sem, m1, m2]
end Go.Proofs.Ytbibobjkclgogaa
