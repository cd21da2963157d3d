/- The document's Size and Num. -/
import Derived.Test.YtlipckpacdioiaaDoorNum
import Derived.Test.YtlipckpacdioiaaDoorJoin
namespace Go.Proofs.YtlipckpacdioiaaDoor
open Go.RowKit
set_option linter.unusedVariables false
set_option linter.unusedSimpArgs false
theorem refSize_any (n : Int) (w : World) :
    Calls Tryd.prog 41 #[.int .i64 n] w fun e w' => e = .returned (.int .i64 (sz n : Nat)) ∧ w = w' := by
  by_cases h : n < 0
  · have e : sz n = 0 := by unfold sz; omega
    rw [e]; clear e
    go_enter Tryd.func41, Tryd.ntmps41
    go_wp2
    go_ret
    exact ⟨rfl, rfl⟩
  · by_cases h8 : 8 < n
    · have e : sz n = 8 := by unfold sz; omega
      rw [e]; clear e
      go_enter Tryd.func41, Tryd.ntmps41
      go_wp2
      go_ret
      exact ⟨rfl, rfl⟩
    · have e : ((sz n : Nat) : Int) = n := by unfold sz; omega
      rw [e]; clear e
      go_enter Tryd.func41, Tryd.ntmps41
      go_wp2
      go_ret
      exact ⟨rfl, rfl⟩

/-- The last k bytes of n. -/
theorem numB_succ (k n : Nat) : numB (k + 1) n = byteAt n k :: numB k n := by
  unfold numB
  rw [List.range_succ_eq_map]
  simp
  intro i hi
  congr 1; omega

set_option maxHeartbeats 800000 in
theorem refNum_own (s : Int) (n : Nat) (w : World) (hn : n < 18446744073709551616) :
    Calls Tryd.prog 23 #[.int .i64 s, .int .u64 n] w fun e w' => ∃ g c, e = .returned (.slice (some ⟨g, 0, none⟩) (sz s) c) ∧ w'.ownsRow w.heap.size 5 1 (.slice (some ⟨g, 0, none⟩) (sz s) c) (sz s) ((numB (sz s) n).map (Value.int .u8)) ∧ Below w.heap.size w w' := by
  obtain ⟨i0, hi, hz0, hz1, hz2⟩ := info_parts Tryd.info5
  have hs8 := sz_le s
  have hsz : ∀ w, Calls Tryd.prog 41 #[.int .i64 s] w fun e w' => e = .returned (.int .i64 (sz s : Nat)) ∧ w = w' := fun w => refSize_any s w
  generalize sz s = L at *
  have HS := hide hsz
  clear hsz
  have hown0 : (w.alloc (.cells #[] 5)).ownsRow w.heap.size 5 1 (.slice (some ⟨w.heap.size, 0, none⟩) 0 0) 0 [] := World.ownsRow_lit w #[] 0 (Nat.le_refl _) (by unfold maxLen; omega) rfl
  go_enter Tryd.func23, Tryd.ntmps23
  go_wp2
  go_loopw [5, 6, 7] (fun v x i wr => ∃ k : Nat, ∃ g c', k ≤ L ∧ i = .int .i64 k ∧ x = .int .u64 ((n / 256 ^ k : Nat) : Int) ∧ v = .slice (some ⟨g, 0, none⟩) k c' ∧
      wr.ownsRow w.heap.size 5 1 (.slice (some ⟨g, 0, none⟩) k c') k ((numB k n).map (Value.int .u8)) ∧ Below w.heap.size w wr)
    (fun _ _ i _ => L - (intOf i).toNat)
  case atStart => exact ⟨0, _, _, Nat.zero_le _, rfl, by simp, rfl, hown0, (Below.refl _ _).alloc (Nat.le_refl _) _⟩
  case round =>
    clear hown0
    obtain ⟨k, g, c', hk, rfl, rfl, rfl, hown, hbel⟩ := hrel
    by_cases hlt : k < L
    · have HO := hide hown
      have hcl := (hown.alloc (.cells #[.int .u8 (byteAt n k)] 5)).cells (g := g) rfl
      have HC := hide hcl
      clear hown hcl
      have hq : n / 256 ^ k ≤ 18446744073709551615 := Nat.le_trans (Nat.div_le_self _ _) (by omega)
      have hby : ((n / 256 ^ k : Nat) : Int) % 256 = byteAt n k := by unfold byteAt; simp
      have hdv : ((n / 256 ^ k : Nat) : Int) / 256 = ((n / 256 ^ (k + 1) : Nat) : Int) := by rw [← div_step]; simp
      have hbr := byteAt_rng n k
      have HBY := hide hby
      have HDV := hide hdv
      clear hby hdv
      generalize n / 256 ^ k = q at *
      go_wp2_with fail
      refine (HS.out _).mono ?_
      rintro e w1 ⟨rfl, rfl⟩
      have hown1 := World.ownsRow_lit (base := w.heap.size) (e := 5) (size := 1) wr #[.int .u8 (byteAt n k)] 1 hbel.size (by unfold maxLen; omega) rfl
      have H1 := hide hown1
      clear hown1
      rw [← HBY.out] at H1 HC
      go_wp2_with (at_builtin; refine wpList_append_own _ rfl _ _ 25 rfl w.heap.size 5 i0 (.int .u8 0) 1 1 Tryd.underlying25 hi hz0 hz1 hz2 rfl (by decide) _ _ _ rfl H1.out ⟨g, 0, none⟩ k c' ((numB k n).map (Value.int .u8)) rfl (by simp [numB_len]) HC.out (ints_one _ _) (by unfold maxLen; omega) (by omega) (by have := hbel.size; simp; omega) ?_)
      intro v' w2 hown2 hgrow hnn
      have hv' : v' ≠ .slice none 0 0 := hnn
      obtain ⟨g2, c2, rfl⟩ : ∃ g2 c2, v' = .slice (some ⟨g2, 0, none⟩) (k + 1) c2 := by
        rcases hown2.2 with ⟨h, _⟩ | ⟨g, c, cur, h, _⟩
        · exact absurd h hv'
        · exact ⟨g, c, by rw [h, Nat.add_comm]⟩
      have hbel2 : Below w.heap.size w w2 := (hbel.alloc hbel.size _).grown hgrow (by have := hbel.size; simp; omega) (fun j e => by simp [Value.ownBlock] at e; have := hbel.size; omega)
      have hown3 : w2.ownsRow w.heap.size 5 1 (.slice (some ⟨g2, 0, none⟩) (k + 1) c2) (k + 1) ((numB (k + 1) n).map (Value.int .u8)) := by
        rw [numB_succ, List.map_cons, ← HBY.out]
        rw [Nat.add_comm 1 k] at hown2
        exact hown2
      have O3 := hide hown3
      have B2 := hide hbel2
      clear hown2 hown3 hbel2 hgrow hnn hv'
      go_wp2
      go_roundw
      case rel => exact ⟨k + 1, g2, c2, by omega, by go_num, by rw [HDV.out], rfl, O3.out, B2.out⟩
      case measure => simp [intOf]; omega
    · obtain rfl : k = L := by omega
      go_wp2_with fail
      refine (HS.out _).mono ?_
      rintro e w1 ⟨rfl, rfl⟩
      go_wp2
      go_ret
      exact ⟨_, _, rfl, hown, hbel⟩
theorem refNum_full (s : Int) (n : Nat) (w : World) (hn : n < 18446744073709551616) :
    Calls Tryd.prog 23 #[.int .i64 s, .int .u64 n] w fun e w' => ∃ a c, e = .returned (.slice a (sz s) c) ∧ Row .u8 w' a (numB (sz s) n) ∧ Below w.heap.size w w' ∧ (a = none → c = 0) :=
  (refNum_own s n w hn).mono fun _ _ ⟨g, c, h1, h2, h3⟩ => ⟨some ⟨g, 0, none⟩, c, h1, Row.of_owns h2, h3, fun h => by cases h⟩
theorem refNum_any (s : Int) (n : Nat) (w : World) (hn : n < 18446744073709551616) :
    Calls Tryd.prog 23 #[.int .i64 s, .int .u64 n] w fun e w' => ∃ a c, e = .returned (.slice a (sz s) c) ∧ Row .u8 w' a (numB (sz s) n) ∧ Below w.heap.size w w' :=
  (refNum_full s n w hn).mono fun _ _ ⟨a, c, h1, h2, h3, _⟩ => ⟨a, c, h1, h2, h3⟩
end Go.Proofs.YtlipckpacdioiaaDoor
