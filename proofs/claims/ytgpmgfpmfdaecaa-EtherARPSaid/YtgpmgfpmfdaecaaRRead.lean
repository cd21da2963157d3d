/- What the document's Read of frames answers. -/
import Derived.Test.YtgpmgfpmfdaecaaRMac
import Derived.Test.YtgpmgfpmfdaecaaEOwn
namespace Go.Proofs.Ytgpmgfpmfdaecaa
open Go.RowKit
set_option linter.unusedVariables false
set_option linter.unusedSimpArgs false
/-- A row from some place on. -/
theorem drop_run (a : Option Addr) (xs : List Int) (n cap I : Nat) (l : Int) (w : World) (hr : Row .u8 w a xs) (hxn : xs.length = n) (hnc : n ≤ cap) (hnil : a = none → cap = 0) (hI : I ≤ n) (hl : l = (I : Int)) :
    ∃ A, (∀ W, (Instr.slice 22 (.slice a n cap) (some (.int .i64 l)) none none).run Try.prog W = .ok (.slice A (n - I) (cap - I)) W) ∧ Row .u8 w A (xs.drop I) ∧ (A = none → cap - I = 0) := by
  subst hl
  have hz : ∀ W, (sizeOf 5).run Try.prog W = .ok 1 W := size5
  have he : Try.prog.elem 22 = 5 := by kernel_rfl
  refine ⟨if cap = I then a else a.map (·.add I), fun W => ?_, ?_, ?_⟩
  · rw [run_slice_l (P := Try.prog) W 22 _ n cap (by rw [he]; exact Try.underlying22) .i64 (I : Int) (by omega) (by omega), he, hz]
    simp [sliced, Result.andThen]
  · intro hne
    have hIn : I < n := by
      rcases Nat.lt_or_ge I n with h | h
      · exact h
      · exact absurd (List.drop_of_length_le (by omega)) hne
    obtain ⟨b, off, rfl, hlt, hc⟩ := hr.at (i := 0) (by omega)
    rw [if_neg (by omega)]
    refine ⟨b, off + I, by simp [Addr.add_lit], hlt, fun i hi => ?_⟩
    rw [List.length_drop] at hi
    rw [Nat.add_assoc, hc (I + i) (by omega), List.getElem?_drop]
  · intro h
    cases a with
    | none => have := hnil rfl; omega
    | some ad =>
      by_cases hc : cap = I
      · omega
      · rw [if_neg hc] at h; simp at h
set_option maxHeartbeats 800000 in
theorem rread_short (w : World) (a : Option Addr) (n cap : Nat) (h : n < 14) :
    Calls Try.prog 8 #[.slice a n cap] w fun e w' => e = .returned (.tuple #[.agg #[.int .u8 0, .int .u8 0, .int .u8 0, .int .u8 0, .int .u8 0, .int .u8 0, .int .u8 0, .int .u8 0, .int .u8 0, .int .u8 0, .int .u8 0, .int .u8 0, .int .u16 0, .slice none 0 0], .int .i64 10]) ∧ Below w.heap.size w w' := by
  go_enter Try.func8, Try.ntmps8
  go_wp2
  refine bodyPost_ret (v := .tuple #[.agg #[.int .u8 0, .int .u8 0, .int .u8 0, .int .u8 0, .int .u8 0, .int .u8 0, .int .u8 0, .int .u8 0, .int .u8 0, .int .u8 0, .int .u8 0, .int .u8 0, .int .u16 0, .slice none 0 0], .int .i64 10]) (by simp [results, Try.results8, go_sem]) rfl ⟨rfl, ?_⟩
  repeat (first | exact Below.refl _ _ | refine Below.setCell ?_ (Nat.le_refl _) _ | exact Below.alloc (Below.refl _ _) (Nat.le_refl _) _)
set_option maxHeartbeats 800000 in
theorem rread_long (w : World) (a : Option Addr) (n cap : Nat) (h : 1514 < n) :
    Calls Try.prog 8 #[.slice a n cap] w fun e w' => e = .returned (.tuple #[.agg #[.int .u8 0, .int .u8 0, .int .u8 0, .int .u8 0, .int .u8 0, .int .u8 0, .int .u8 0, .int .u8 0, .int .u8 0, .int .u8 0, .int .u8 0, .int .u8 0, .int .u16 0, .slice none 0 0], .int .i64 14]) ∧ Below w.heap.size w w' := by
  go_enter Try.func8, Try.ntmps8
  go_wp2
  refine bodyPost_ret (v := .tuple #[.agg #[.int .u8 0, .int .u8 0, .int .u8 0, .int .u8 0, .int .u8 0, .int .u8 0, .int .u8 0, .int .u8 0, .int .u8 0, .int .u8 0, .int .u8 0, .int .u8 0, .int .u16 0, .slice none 0 0], .int .i64 14]) (by simp [results, Try.results8, go_sem]) rfl ⟨rfl, ?_⟩
  repeat (first | exact Below.refl _ _ | refine Below.setCell ?_ (Nat.le_refl _) _ | exact Below.alloc (Below.refl _ _) (Nat.le_refl _) _)
set_option maxRecDepth 100000 in
set_option maxHeartbeats 1600000 in
theorem rread_form (w : World) (b off : Nat) (x12 x13 : Int) (n cap : Nat) (h1 : 14 ≤ n) (h2 : n ≤ 1514) (hbl : b < w.heap.size) (c12 : w.cell? ⟨b, off + 12, none⟩ = some (.int .u8 x12)) (c13 : w.cell? ⟨b, off + 13, none⟩ = some (.int .u8 x13)) (hx : 0 ≤ x12 ∧ x12 ≤ 255) (hy : 0 ≤ x13 ∧ x13 ≤ 255) (hk : 256 * x12 + x13 < 1536) :
    Calls Try.prog 8 #[.slice (some ⟨b, off, none⟩) n cap] w fun e w' => e = .returned (.tuple #[.agg #[.int .u8 0, .int .u8 0, .int .u8 0, .int .u8 0, .int .u8 0, .int .u8 0, .int .u8 0, .int .u8 0, .int .u8 0, .int .u8 0, .int .u8 0, .int .u8 0, .int .u16 0, .slice none 0 0], .int .i64 11]) ∧ Below w.heap.size w w' := by
  obtain ⟨hx1, hx2⟩ := hx
  obtain ⟨hy1, hy2⟩ := hy
  have q1 : IntKind.u16.wrap x12 = x12 := wraps_u16 _ (by omega) (by omega)
  have q2 : IntKind.u16.wrap x13 = x13 := wraps_u16 _ (by omega) (by omega)
  have q3 : IntKind.u16.wrap (256 * x12) = 256 * x12 := wraps_u16 _ (by omega) (by omega)
  have q4 : IntKind.u16.wrap (256 * x12 + x13) = 256 * x12 + x13 := wraps_u16 _ (by omega) (by omega)
  have hne : ¬ b = w.heap.size := by omega
  have hne2 : ¬ w.heap.size = b := by omega
  go_enter Try.func8, Try.ntmps8
  go_wp2_with fail
  go_quiet (fail)
  go_wp2
  refine bodyPost_ret (v := .tuple #[.agg #[.int .u8 0, .int .u8 0, .int .u8 0, .int .u8 0, .int .u8 0, .int .u8 0, .int .u8 0, .int .u8 0, .int .u8 0, .int .u8 0, .int .u8 0, .int .u8 0, .int .u16 0, .slice none 0 0], .int .i64 11]) (by simp [results, Try.results8, go_sem]) rfl ⟨rfl, ?_⟩
  have hle : w.heap.size ≤ w.heap.size := Nat.le_refl _
  repeat (with_reducible refine Below.setCell ?_ (by assumption) _)
  exact bdrewN ((Below.refl _ _).alloc (Nat.le_refl _) _) _
-- RREADOK
end Go.Proofs.Ytgpmgfpmfdaecaa
