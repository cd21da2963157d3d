/- Structs that are stored whole. -/
import Derived.Test.YtbibobjkclgogaaNCa
namespace Go.Proofs.Ytbibobjkclgogaa
open Go.RowKit Go.Deep
set_option linter.unusedVariables false
theorem cells6 {w : World} {R : Nat} {t : TypeId} {v0 v1 v2 v3 v4 v5 : Value} (h : w.heap[R]? = some (.cells #[v0, v1, v2, v3, v4, v5] t (0, 0))) : w.cell? ⟨R, 0, none⟩ = some v0 ∧ w.cell? ⟨R, 1, none⟩ = some v1 ∧ w.cell? ⟨R, 2, none⟩ = some v2 ∧ w.cell? ⟨R, 3, none⟩ = some v3 ∧ w.cell? ⟨R, 4, none⟩ = some v4 ∧ w.cell? ⟨R, 5, none⟩ = some v5 ∧ ∀ i, w.frozen? ⟨R, i, none⟩ = false := by
  refine ⟨?_, ?_, ?_, ?_, ?_, ?_, fun i => ?_⟩ <;> simp [World.cell?, World.frozen?, h]
theorem cells7 {w : World} {R : Nat} {t : TypeId} {v0 v1 v2 v3 v4 v5 v6 : Value} (h : w.heap[R]? = some (.cells #[v0, v1, v2, v3, v4, v5, v6] t (0, 0))) : w.cell? ⟨R, 0, none⟩ = some v0 ∧ w.cell? ⟨R, 1, none⟩ = some v1 ∧ w.cell? ⟨R, 2, none⟩ = some v2 ∧ w.cell? ⟨R, 3, none⟩ = some v3 ∧ w.cell? ⟨R, 4, none⟩ = some v4 ∧ w.cell? ⟨R, 5, none⟩ = some v5 ∧ w.cell? ⟨R, 6, none⟩ = some v6 ∧ ∀ i, w.frozen? ⟨R, i, none⟩ = false := by
  refine ⟨?_, ?_, ?_, ?_, ?_, ?_, ?_, fun i => ?_⟩ <;> simp [World.cell?, World.frozen?, h]
theorem cells15 {w : World} {R : Nat} {t : TypeId} {v0 v1 v2 v3 v4 v5 v6 v7 v8 v9 v10 v11 v12 v13 v14 : Value} (h : w.heap[R]? = some (.cells #[v0, v1, v2, v3, v4, v5, v6, v7, v8, v9, v10, v11, v12, v13, v14] t (0, 0))) : w.cell? ⟨R, 0, none⟩ = some v0 ∧ w.cell? ⟨R, 1, none⟩ = some v1 ∧ w.cell? ⟨R, 2, none⟩ = some v2 ∧ w.cell? ⟨R, 3, none⟩ = some v3 ∧ w.cell? ⟨R, 4, none⟩ = some v4 ∧ w.cell? ⟨R, 5, none⟩ = some v5 ∧ w.cell? ⟨R, 6, none⟩ = some v6 ∧ w.cell? ⟨R, 7, none⟩ = some v7 ∧ w.cell? ⟨R, 8, none⟩ = some v8 ∧ w.cell? ⟨R, 9, none⟩ = some v9 ∧ w.cell? ⟨R, 10, none⟩ = some v10 ∧ w.cell? ⟨R, 11, none⟩ = some v11 ∧ w.cell? ⟨R, 12, none⟩ = some v12 ∧ w.cell? ⟨R, 13, none⟩ = some v13 ∧ w.cell? ⟨R, 14, none⟩ = some v14 ∧ ∀ i, w.frozen? ⟨R, i, none⟩ = false := by
  refine ⟨?_, ?_, ?_, ?_, ?_, ?_, ?_, ?_, ?_, ?_, ?_, ?_, ?_, ?_, ?_, fun i => ?_⟩ <;> simp [World.cell?, World.frozen?, h]
theorem put6 {w0 w W : World} {R N : Nat} {T : TypeId} {z0 z1 z2 z3 z4 z5 v0 v1 v2 v3 v4 v5 : Value} (h : w.heap[R]? = some (.cells #[z0, z1, z2, z3, z4, z5] T (0, 0))) (hN : N ≤ R) (hb : Below N w0 w) (hw : ((((((w.setCell ⟨R, 0, none⟩ v0).setCell ⟨R, 1, none⟩ v1).setCell ⟨R, 2, none⟩ v2).setCell ⟨R, 3, none⟩ v3).setCell ⟨R, 4, none⟩ v4).setCell ⟨R, 5, none⟩ v5) = W) :
    W.heap[R]? = some (.cells #[v0, v1, v2, v3, v4, v5] T (0, 0)) ∧ Below N w0 W := by
  obtain ⟨w1, e0⟩ : ∃ z, w.setCell ⟨R, 0, none⟩ v0 = z := ⟨_, rfl⟩
  have q0 : w1.heap[R]? = some (.cells #[v0, z1, z2, z3, z4, z5] T (0, 0)) := by rw [← e0]; exact heap_setCell_same w R 0 _ _ _ h
  have b0 : Below N w0 w1 := by rw [← e0]; exact hb.setCell (p := ⟨R, 0, none⟩) hN v0
  rw [e0] at hw
  obtain ⟨w2, e1⟩ : ∃ z, w1.setCell ⟨R, 1, none⟩ v1 = z := ⟨_, rfl⟩
  have q1 : w2.heap[R]? = some (.cells #[v0, v1, z2, z3, z4, z5] T (0, 0)) := by rw [← e1]; exact heap_setCell_same w1 R 1 _ _ _ q0
  have b1 : Below N w0 w2 := by rw [← e1]; exact b0.setCell (p := ⟨R, 1, none⟩) hN v1
  rw [e1] at hw
  obtain ⟨w3, e2⟩ : ∃ z, w2.setCell ⟨R, 2, none⟩ v2 = z := ⟨_, rfl⟩
  have q2 : w3.heap[R]? = some (.cells #[v0, v1, v2, z3, z4, z5] T (0, 0)) := by rw [← e2]; exact heap_setCell_same w2 R 2 _ _ _ q1
  have b2 : Below N w0 w3 := by rw [← e2]; exact b1.setCell (p := ⟨R, 2, none⟩) hN v2
  rw [e2] at hw
  obtain ⟨w4, e3⟩ : ∃ z, w3.setCell ⟨R, 3, none⟩ v3 = z := ⟨_, rfl⟩
  have q3 : w4.heap[R]? = some (.cells #[v0, v1, v2, v3, z4, z5] T (0, 0)) := by rw [← e3]; exact heap_setCell_same w3 R 3 _ _ _ q2
  have b3 : Below N w0 w4 := by rw [← e3]; exact b2.setCell (p := ⟨R, 3, none⟩) hN v3
  rw [e3] at hw
  obtain ⟨w5, e4⟩ : ∃ z, w4.setCell ⟨R, 4, none⟩ v4 = z := ⟨_, rfl⟩
  have q4 : w5.heap[R]? = some (.cells #[v0, v1, v2, v3, v4, z5] T (0, 0)) := by rw [← e4]; exact heap_setCell_same w4 R 4 _ _ _ q3
  have b4 : Below N w0 w5 := by rw [← e4]; exact b3.setCell (p := ⟨R, 4, none⟩) hN v4
  rw [e4] at hw
  obtain ⟨w6, e5⟩ : ∃ z, w5.setCell ⟨R, 5, none⟩ v5 = z := ⟨_, rfl⟩
  have q5 : w6.heap[R]? = some (.cells #[v0, v1, v2, v3, v4, v5] T (0, 0)) := by rw [← e5]; exact heap_setCell_same w5 R 5 _ _ _ q4
  have b5 : Below N w0 w6 := by rw [← e5]; exact b4.setCell (p := ⟨R, 5, none⟩) hN v5
  rw [e5] at hw
  subst hw
  exact ⟨q5, b5⟩
theorem put15 {w0 w W : World} {R N : Nat} {T : TypeId} {z0 z1 z2 z3 z4 z5 z6 z7 z8 z9 z10 z11 z12 z13 z14 v0 v1 v2 v3 v4 v5 v6 v7 v8 v9 v10 v11 v12 v13 v14 : Value} (h : w.heap[R]? = some (.cells #[z0, z1, z2, z3, z4, z5, z6, z7, z8, z9, z10, z11, z12, z13, z14] T (0, 0))) (hN : N ≤ R) (hb : Below N w0 w) (hw : (((((((((((((((w.setCell ⟨R, 0, none⟩ v0).setCell ⟨R, 1, none⟩ v1).setCell ⟨R, 2, none⟩ v2).setCell ⟨R, 3, none⟩ v3).setCell ⟨R, 4, none⟩ v4).setCell ⟨R, 5, none⟩ v5).setCell ⟨R, 6, none⟩ v6).setCell ⟨R, 7, none⟩ v7).setCell ⟨R, 8, none⟩ v8).setCell ⟨R, 9, none⟩ v9).setCell ⟨R, 10, none⟩ v10).setCell ⟨R, 11, none⟩ v11).setCell ⟨R, 12, none⟩ v12).setCell ⟨R, 13, none⟩ v13).setCell ⟨R, 14, none⟩ v14) = W) :
    W.heap[R]? = some (.cells #[v0, v1, v2, v3, v4, v5, v6, v7, v8, v9, v10, v11, v12, v13, v14] T (0, 0)) ∧ Below N w0 W := by
  obtain ⟨w1, e0⟩ : ∃ z, w.setCell ⟨R, 0, none⟩ v0 = z := ⟨_, rfl⟩
  have q0 : w1.heap[R]? = some (.cells #[v0, z1, z2, z3, z4, z5, z6, z7, z8, z9, z10, z11, z12, z13, z14] T (0, 0)) := by rw [← e0]; exact heap_setCell_same w R 0 _ _ _ h
  have b0 : Below N w0 w1 := by rw [← e0]; exact hb.setCell (p := ⟨R, 0, none⟩) hN v0
  rw [e0] at hw
  obtain ⟨w2, e1⟩ : ∃ z, w1.setCell ⟨R, 1, none⟩ v1 = z := ⟨_, rfl⟩
  have q1 : w2.heap[R]? = some (.cells #[v0, v1, z2, z3, z4, z5, z6, z7, z8, z9, z10, z11, z12, z13, z14] T (0, 0)) := by rw [← e1]; exact heap_setCell_same w1 R 1 _ _ _ q0
  have b1 : Below N w0 w2 := by rw [← e1]; exact b0.setCell (p := ⟨R, 1, none⟩) hN v1
  rw [e1] at hw
  obtain ⟨w3, e2⟩ : ∃ z, w2.setCell ⟨R, 2, none⟩ v2 = z := ⟨_, rfl⟩
  have q2 : w3.heap[R]? = some (.cells #[v0, v1, v2, z3, z4, z5, z6, z7, z8, z9, z10, z11, z12, z13, z14] T (0, 0)) := by rw [← e2]; exact heap_setCell_same w2 R 2 _ _ _ q1
  have b2 : Below N w0 w3 := by rw [← e2]; exact b1.setCell (p := ⟨R, 2, none⟩) hN v2
  rw [e2] at hw
  obtain ⟨w4, e3⟩ : ∃ z, w3.setCell ⟨R, 3, none⟩ v3 = z := ⟨_, rfl⟩
  have q3 : w4.heap[R]? = some (.cells #[v0, v1, v2, v3, z4, z5, z6, z7, z8, z9, z10, z11, z12, z13, z14] T (0, 0)) := by rw [← e3]; exact heap_setCell_same w3 R 3 _ _ _ q2
  have b3 : Below N w0 w4 := by rw [← e3]; exact b2.setCell (p := ⟨R, 3, none⟩) hN v3
  rw [e3] at hw
  obtain ⟨w5, e4⟩ : ∃ z, w4.setCell ⟨R, 4, none⟩ v4 = z := ⟨_, rfl⟩
  have q4 : w5.heap[R]? = some (.cells #[v0, v1, v2, v3, v4, z5, z6, z7, z8, z9, z10, z11, z12, z13, z14] T (0, 0)) := by rw [← e4]; exact heap_setCell_same w4 R 4 _ _ _ q3
  have b4 : Below N w0 w5 := by rw [← e4]; exact b3.setCell (p := ⟨R, 4, none⟩) hN v4
  rw [e4] at hw
  obtain ⟨w6, e5⟩ : ∃ z, w5.setCell ⟨R, 5, none⟩ v5 = z := ⟨_, rfl⟩
  have q5 : w6.heap[R]? = some (.cells #[v0, v1, v2, v3, v4, v5, z6, z7, z8, z9, z10, z11, z12, z13, z14] T (0, 0)) := by rw [← e5]; exact heap_setCell_same w5 R 5 _ _ _ q4
  have b5 : Below N w0 w6 := by rw [← e5]; exact b4.setCell (p := ⟨R, 5, none⟩) hN v5
  rw [e5] at hw
  obtain ⟨w7, e6⟩ : ∃ z, w6.setCell ⟨R, 6, none⟩ v6 = z := ⟨_, rfl⟩
  have q6 : w7.heap[R]? = some (.cells #[v0, v1, v2, v3, v4, v5, v6, z7, z8, z9, z10, z11, z12, z13, z14] T (0, 0)) := by rw [← e6]; exact heap_setCell_same w6 R 6 _ _ _ q5
  have b6 : Below N w0 w7 := by rw [← e6]; exact b5.setCell (p := ⟨R, 6, none⟩) hN v6
  rw [e6] at hw
  obtain ⟨w8, e7⟩ : ∃ z, w7.setCell ⟨R, 7, none⟩ v7 = z := ⟨_, rfl⟩
  have q7 : w8.heap[R]? = some (.cells #[v0, v1, v2, v3, v4, v5, v6, v7, z8, z9, z10, z11, z12, z13, z14] T (0, 0)) := by rw [← e7]; exact heap_setCell_same w7 R 7 _ _ _ q6
  have b7 : Below N w0 w8 := by rw [← e7]; exact b6.setCell (p := ⟨R, 7, none⟩) hN v7
  rw [e7] at hw
  obtain ⟨w9, e8⟩ : ∃ z, w8.setCell ⟨R, 8, none⟩ v8 = z := ⟨_, rfl⟩
  have q8 : w9.heap[R]? = some (.cells #[v0, v1, v2, v3, v4, v5, v6, v7, v8, z9, z10, z11, z12, z13, z14] T (0, 0)) := by rw [← e8]; exact heap_setCell_same w8 R 8 _ _ _ q7
  have b8 : Below N w0 w9 := by rw [← e8]; exact b7.setCell (p := ⟨R, 8, none⟩) hN v8
  rw [e8] at hw
  obtain ⟨w10, e9⟩ : ∃ z, w9.setCell ⟨R, 9, none⟩ v9 = z := ⟨_, rfl⟩
  have q9 : w10.heap[R]? = some (.cells #[v0, v1, v2, v3, v4, v5, v6, v7, v8, v9, z10, z11, z12, z13, z14] T (0, 0)) := by rw [← e9]; exact heap_setCell_same w9 R 9 _ _ _ q8
  have b9 : Below N w0 w10 := by rw [← e9]; exact b8.setCell (p := ⟨R, 9, none⟩) hN v9
  rw [e9] at hw
  obtain ⟨w11, e10⟩ : ∃ z, w10.setCell ⟨R, 10, none⟩ v10 = z := ⟨_, rfl⟩
  have q10 : w11.heap[R]? = some (.cells #[v0, v1, v2, v3, v4, v5, v6, v7, v8, v9, v10, z11, z12, z13, z14] T (0, 0)) := by rw [← e10]; exact heap_setCell_same w10 R 10 _ _ _ q9
  have b10 : Below N w0 w11 := by rw [← e10]; exact b9.setCell (p := ⟨R, 10, none⟩) hN v10
  rw [e10] at hw
  obtain ⟨w12, e11⟩ : ∃ z, w11.setCell ⟨R, 11, none⟩ v11 = z := ⟨_, rfl⟩
  have q11 : w12.heap[R]? = some (.cells #[v0, v1, v2, v3, v4, v5, v6, v7, v8, v9, v10, v11, z12, z13, z14] T (0, 0)) := by rw [← e11]; exact heap_setCell_same w11 R 11 _ _ _ q10
  have b11 : Below N w0 w12 := by rw [← e11]; exact b10.setCell (p := ⟨R, 11, none⟩) hN v11
  rw [e11] at hw
  obtain ⟨w13, e12⟩ : ∃ z, w12.setCell ⟨R, 12, none⟩ v12 = z := ⟨_, rfl⟩
  have q12 : w13.heap[R]? = some (.cells #[v0, v1, v2, v3, v4, v5, v6, v7, v8, v9, v10, v11, v12, z13, z14] T (0, 0)) := by rw [← e12]; exact heap_setCell_same w12 R 12 _ _ _ q11
  have b12 : Below N w0 w13 := by rw [← e12]; exact b11.setCell (p := ⟨R, 12, none⟩) hN v12
  rw [e12] at hw
  obtain ⟨w14, e13⟩ : ∃ z, w13.setCell ⟨R, 13, none⟩ v13 = z := ⟨_, rfl⟩
  have q13 : w14.heap[R]? = some (.cells #[v0, v1, v2, v3, v4, v5, v6, v7, v8, v9, v10, v11, v12, v13, z14] T (0, 0)) := by rw [← e13]; exact heap_setCell_same w13 R 13 _ _ _ q12
  have b13 : Below N w0 w14 := by rw [← e13]; exact b12.setCell (p := ⟨R, 13, none⟩) hN v13
  rw [e13] at hw
  obtain ⟨w15, e14⟩ : ∃ z, w14.setCell ⟨R, 14, none⟩ v14 = z := ⟨_, rfl⟩
  have q14 : w15.heap[R]? = some (.cells #[v0, v1, v2, v3, v4, v5, v6, v7, v8, v9, v10, v11, v12, v13, v14] T (0, 0)) := by rw [← e14]; exact heap_setCell_same w14 R 14 _ _ _ q13
  have b14 : Below N w0 w15 := by rw [← e14]; exact b13.setCell (p := ⟨R, 14, none⟩) hN v14
  rw [e14] at hw
  subst hw
  exact ⟨q14, b14⟩
theorem put7 {w0 w W : World} {R N : Nat} {T : TypeId} {z0 z1 z2 z3 z4 z5 z6 v0 v1 v2 v3 v4 v5 v6 : Value} (h : w.heap[R]? = some (.cells #[z0, z1, z2, z3, z4, z5, z6] T (0, 0))) (hN : N ≤ R) (hb : Below N w0 w) (hw : (((((((w.setCell ⟨R, 0, none⟩ v0).setCell ⟨R, 1, none⟩ v1).setCell ⟨R, 2, none⟩ v2).setCell ⟨R, 3, none⟩ v3).setCell ⟨R, 4, none⟩ v4).setCell ⟨R, 5, none⟩ v5).setCell ⟨R, 6, none⟩ v6) = W) :
    W.heap[R]? = some (.cells #[v0, v1, v2, v3, v4, v5, v6] T (0, 0)) ∧ Below N w0 W := by
  obtain ⟨w1, e0⟩ : ∃ z, w.setCell ⟨R, 0, none⟩ v0 = z := ⟨_, rfl⟩
  have q0 : w1.heap[R]? = some (.cells #[v0, z1, z2, z3, z4, z5, z6] T (0, 0)) := by rw [← e0]; exact heap_setCell_same w R 0 _ _ _ h
  have b0 : Below N w0 w1 := by rw [← e0]; exact hb.setCell (p := ⟨R, 0, none⟩) hN v0
  rw [e0] at hw
  obtain ⟨w2, e1⟩ : ∃ z, w1.setCell ⟨R, 1, none⟩ v1 = z := ⟨_, rfl⟩
  have q1 : w2.heap[R]? = some (.cells #[v0, v1, z2, z3, z4, z5, z6] T (0, 0)) := by rw [← e1]; exact heap_setCell_same w1 R 1 _ _ _ q0
  have b1 : Below N w0 w2 := by rw [← e1]; exact b0.setCell (p := ⟨R, 1, none⟩) hN v1
  rw [e1] at hw
  obtain ⟨w3, e2⟩ : ∃ z, w2.setCell ⟨R, 2, none⟩ v2 = z := ⟨_, rfl⟩
  have q2 : w3.heap[R]? = some (.cells #[v0, v1, v2, z3, z4, z5, z6] T (0, 0)) := by rw [← e2]; exact heap_setCell_same w2 R 2 _ _ _ q1
  have b2 : Below N w0 w3 := by rw [← e2]; exact b1.setCell (p := ⟨R, 2, none⟩) hN v2
  rw [e2] at hw
  obtain ⟨w4, e3⟩ : ∃ z, w3.setCell ⟨R, 3, none⟩ v3 = z := ⟨_, rfl⟩
  have q3 : w4.heap[R]? = some (.cells #[v0, v1, v2, v3, z4, z5, z6] T (0, 0)) := by rw [← e3]; exact heap_setCell_same w3 R 3 _ _ _ q2
  have b3 : Below N w0 w4 := by rw [← e3]; exact b2.setCell (p := ⟨R, 3, none⟩) hN v3
  rw [e3] at hw
  obtain ⟨w5, e4⟩ : ∃ z, w4.setCell ⟨R, 4, none⟩ v4 = z := ⟨_, rfl⟩
  have q4 : w5.heap[R]? = some (.cells #[v0, v1, v2, v3, v4, z5, z6] T (0, 0)) := by rw [← e4]; exact heap_setCell_same w4 R 4 _ _ _ q3
  have b4 : Below N w0 w5 := by rw [← e4]; exact b3.setCell (p := ⟨R, 4, none⟩) hN v4
  rw [e4] at hw
  obtain ⟨w6, e5⟩ : ∃ z, w5.setCell ⟨R, 5, none⟩ v5 = z := ⟨_, rfl⟩
  have q5 : w6.heap[R]? = some (.cells #[v0, v1, v2, v3, v4, v5, z6] T (0, 0)) := by rw [← e5]; exact heap_setCell_same w5 R 5 _ _ _ q4
  have b5 : Below N w0 w6 := by rw [← e5]; exact b4.setCell (p := ⟨R, 5, none⟩) hN v5
  rw [e5] at hw
  obtain ⟨w7, e6⟩ : ∃ z, w6.setCell ⟨R, 6, none⟩ v6 = z := ⟨_, rfl⟩
  have q6 : w7.heap[R]? = some (.cells #[v0, v1, v2, v3, v4, v5, v6] T (0, 0)) := by rw [← e6]; exact heap_setCell_same w6 R 6 _ _ _ q5
  have b6 : Below N w0 w7 := by rw [← e6]; exact b5.setCell (p := ⟨R, 6, none⟩) hN v6
  rw [e6] at hw
  subst hw
  exact ⟨q6, b6⟩
end Go.Proofs.Ytbibobjkclgogaa
