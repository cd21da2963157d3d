/- What trans.WriteICMP answers. -/
import Derived.Test.YtlipckpacdioiaaDoorTLay
import Derived.Deep.DeepCutAuto
namespace Go.Proofs.YtlipckpacdioiaaDoor
open Go.RowKit
set_option linter.unusedVariables false
set_option linter.unusedSimpArgs false
set_option maxRecDepth 100000
theorem bel_lit {V w' : World} {o : Obj} (h : Below (V.alloc o).heap.size (V.alloc o) w') : Below V.heap.size V w' := by
  have hb : Below V.heap.size V (V.alloc o) := (Below.refl _ _).alloc (Nat.le_refl _) _
  exact hb.trans (h.mono hb.size)
theorem lit_row {V w' : World} {x y : Int} (h : Below (V.alloc (.cells #[.int .u8 x, .int .u8 y] 5)).heap.size (V.alloc (.cells #[.int .u8 x, .int .u8 y] 5)) w') : Row .u8 w' (some ⟨V.heap.size, 0, none⟩) [x, y] :=
  (Row.of_owns (k := .u8) (xs := [x, y]) (base := V.heap.size) (e := 5) (n := 2) (cap := 2) (World.ownsRow_lit V #[.int .u8 x, .int .u8 y] 2 (Nat.le_refl _) (by unfold maxLen; omega) rfl)).below h (Nat.le_refl _)
theorem lit_row_d {V w' : World} {x y : Int} (h : Below (V.alloc (.cells #[.int .u8 x, .int .u8 y] 5)).drew.heap.size (V.alloc (.cells #[.int .u8 x, .int .u8 y] 5)).drew w') : Row .u8 w' (some ⟨V.heap.size, 0, none⟩) [x, y] := lit_row (below_of_drew h)

/-- A message's bytes without its check sum; the bytes. -/
def icmpG (p q r : Nat) (xs : List Int) (k : Nat) : List Int := [(p : Int), (q : Int)] ++ (numB 2 k ++ (numB 4 r ++ xs))
theorem icmpG_len (p q r : Nat) (xs : List Int) (k : Nat) : (icmpG p q r xs k).length = 8 + xs.length := by simp [icmpG, numB_len]; omega
theorem icmpG_rng (p q r : Nat) (xs : List Int) (k : Nat) (hp : p ≤ 255) (hq : q ≤ 255) (hb : ∀ x ∈ xs, 0 ≤ x ∧ x ≤ 255) : ∀ x ∈ icmpG p q r xs k, 0 ≤ x ∧ x ≤ 255 := by
  intro x hx
  simp only [icmpG, List.mem_append, List.mem_cons, List.not_mem_nil, or_false] at hx
  rcases hx with (h | h) | h | h | h
  · omega
  · omega
  · exact numB_rng _ _ x h
  · exact numB_rng _ _ x h
  · exact hb x h
def icmpK (p q r : Nat) (xs : List Int) : Int := csum (icmpG p q r xs 0)
theorem icmp_spl (p q r : Nat) (xs : List Int) (k m : Nat) : spl (icmpG p q r xs k) 2 (numB 2 m) = icmpG p q r xs m := by
  unfold spl icmpG
  rw [numB_len, List.take_left' (by rfl), List.drop_append]
  simp [numB_len, List.drop_append]
end Go.Proofs.YtlipckpacdioiaaDoor
