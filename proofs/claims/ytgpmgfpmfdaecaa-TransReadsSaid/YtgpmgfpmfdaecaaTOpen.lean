/- Arguments that came in, as the readings of this seat say them. -/
import Derived.Test.YtgpmgfpmfdaecaaFrame
import Derived.Test.YtgpmgfpmfdaecaaRows
import Derived.LaidMore
namespace Go.Proofs.Ytgpmgfpmfdaecaa
open Go.ChangeShapes Go.WideShapes Go.ChangeAt Go.RowKit
set_option linter.unusedVariables false
set_option maxRecDepth 100000
section
variable {H : Type} {enc : TypeId × Value → H} {W : World} {base : Nat} {spare : Nat → Bool} {held : Bool}
theorem okWide_array {P : Program} {w : World} {r : Reach} {b0 n : Nat} {t e : TypeId} {v : Value} (ht : P.underlying t = some (.array n e)) (h : Value.okWide P w r b0 t v) : ∃ cs, v = .agg cs ∧ cs.size = P.cellsOf t := by
  simp only [Value.okWide, ht] at h
  obtain ⟨cs, h1, h2, _⟩ := h
  exact ⟨cs, h1, h2⟩
theorem open_row {fuel : Nat} {c : Value} {x : DataW H × List MemPlace} (h : DataW.trod enc Try.prog W base (fun _ => true) held fuel 22 [c] = some x) :
    ∃ a len cap zs, c = .slice a len cap ∧ IsRow .u8 W a len cap zs := by
  rcases open_ints Try.underlying22 Try.underlying5 (by kernel_rfl) h with ⟨hcs, _⟩ | ⟨x, l, c, zs, hcs, _, hl, hm, hz, _, hcell, hwz⟩
  · simp at hcs
    exact ⟨none, 0, 0, [], hcs, .inl ⟨rfl, rfl, rfl, rfl⟩⟩
  · simp at hcs
    exact ⟨_, _, _, zs, hcs, .inr ⟨_, rfl, hl, hm, by simpa using hz, hcell, hwz⟩⟩
theorem open_dgram {r : Reach} {b0 : Nat} {v : Value} {dd : DataW H} {p : List MemPlace} (hv : Value.okWide Try.prog W r b0 55 v) (h : DataW.Trod enc Try.prog W base (fun _ => true) held 55 v dd p) :
    ∃ (x0 : Nat) (x1 : Nat) (x2 : Bool) (a3 : Option Addr) (len3 cap3 : Nat) (z3 : List Int), v = .agg #[.int .u16 (x0 : Int), .int .u16 (x1 : Int), .bool x2, .slice a3 len3 cap3] ∧ x0 ≤ 65535 ∧ x1 ≤ 65535 ∧ IsRow .u8 W a3 len3 cap3 z3 := by
  obtain ⟨cs, rfl, hsz⟩ := okWide_struct Try.underlying55 hv
  have hC : Try.prog.cellsOf 55 = 4 := by kernel_rfl
  obtain ⟨l⟩ := cs
  have hl : l.length = 4 := by simpa [hC] using hsz
  obtain ⟨fuel, hf⟩ := h
  obtain ⟨xs, n, _, hx, _, hlen, hg⟩ := DataW.trod_struct Try.underlying55 hf
  match l, hl with
  | [c0, c1, c2, c3], _ =>
    match xs, hlen with
    | [y0, y1, y2, y3], _ =>
      have g0 := hg 0 _ rfl
      have g1 := hg 1 _ rfl
      have g2 := hg 2 _ rfl
      have g3 := hg 3 _ rfl
      simp only [Value.cells] at g0 g1 g2 g3
      obtain ⟨x0, e0, _, w0⟩ := DataW.trod_int Try.underlying26 (show DataW.trod enc Try.prog W base (fun _ => true) held n 26 [c0] = some y0 from g0)
      have b0 := bounds_u16 w0
      obtain ⟨x1, e1, _, w1⟩ := DataW.trod_int Try.underlying26 (show DataW.trod enc Try.prog W base (fun _ => true) held n 26 [c1] = some y1 from g1)
      have b1 := bounds_u16 w1
      obtain ⟨x2, e2, _⟩ := DataW.trod_bool Try.underlying4 (show DataW.trod enc Try.prog W base (fun _ => true) held n 4 [c2] = some y2 from g2)
      obtain ⟨a3, len3, cap3, z3, e3, r3⟩ := open_row (show DataW.trod enc Try.prog W base (fun _ => true) held n 22 [c3] = some y3 from g3)
      simp only [List.cons.injEq, and_true] at e0 e1 e2
      subst e0 e1 e2 e3
      refine ⟨x0.toNat, x1.toNat, x2, a3, len3, cap3, z3, ?_, by omega, by omega, r3⟩
      rw [show ((x0.toNat : Nat) : Int) = x0 by omega, show ((x1.toNat : Nat) : Int) = x1 by omega]
theorem open_msg {r : Reach} {b0 : Nat} {v : Value} {dd : DataW H} {p : List MemPlace} (hv : Value.okWide Try.prog W r b0 59 v) (h : DataW.Trod enc Try.prog W base (fun _ => true) held 59 v dd p) :
    ∃ (x0 : Nat) (x1 : Nat) (x2 : Nat) (a3 : Option Addr) (len3 cap3 : Nat) (z3 : List Int), v = .agg #[.int .u8 (x0 : Int), .int .u8 (x1 : Int), .int .u32 (x2 : Int), .slice a3 len3 cap3] ∧ x0 ≤ 255 ∧ x1 ≤ 255 ∧ x2 ≤ 4294967295 ∧ IsRow .u8 W a3 len3 cap3 z3 := by
  obtain ⟨cs, rfl, hsz⟩ := okWide_struct Try.underlying59 hv
  have hC : Try.prog.cellsOf 59 = 4 := by kernel_rfl
  obtain ⟨l⟩ := cs
  have hl : l.length = 4 := by simpa [hC] using hsz
  obtain ⟨fuel, hf⟩ := h
  obtain ⟨xs, n, _, hx, _, hlen, hg⟩ := DataW.trod_struct Try.underlying59 hf
  match l, hl with
  | [c0, c1, c2, c3], _ =>
    match xs, hlen with
    | [y0, y1, y2, y3], _ =>
      have g0 := hg 0 _ rfl
      have g1 := hg 1 _ rfl
      have g2 := hg 2 _ rfl
      have g3 := hg 3 _ rfl
      simp only [Value.cells] at g0 g1 g2 g3
      obtain ⟨x0, e0, _, w0⟩ := DataW.trod_int Try.underlying5 (show DataW.trod enc Try.prog W base (fun _ => true) held n 5 [c0] = some y0 from g0)
      have b0 := bounds_u8 w0
      obtain ⟨x1, e1, _, w1⟩ := DataW.trod_int Try.underlying5 (show DataW.trod enc Try.prog W base (fun _ => true) held n 5 [c1] = some y1 from g1)
      have b1 := bounds_u8 w1
      obtain ⟨x2, e2, _, w2⟩ := DataW.trod_int Try.underlying38 (show DataW.trod enc Try.prog W base (fun _ => true) held n 38 [c2] = some y2 from g2)
      have b2 := bounds_u32 w2
      obtain ⟨a3, len3, cap3, z3, e3, r3⟩ := open_row (show DataW.trod enc Try.prog W base (fun _ => true) held n 22 [c3] = some y3 from g3)
      simp only [List.cons.injEq, and_true] at e0 e1 e2
      subst e0 e1 e2 e3
      refine ⟨x0.toNat, x1.toNat, x2.toNat, a3, len3, cap3, z3, ?_, by omega, by omega, by omega, r3⟩
      rw [show ((x0.toNat : Nat) : Int) = x0 by omega, show ((x1.toNat : Nat) : Int) = x1 by omega, show ((x2.toNat : Nat) : Int) = x2 by omega]
theorem open_seg {r : Reach} {b0 : Nat} {v : Value} {dd : DataW H} {p : List MemPlace} (hv : Value.okWide Try.prog W r b0 51 v) (h : DataW.Trod enc Try.prog W base (fun _ => true) held 51 v dd p) :
    ∃ (x0 : Nat) (x1 : Nat) (x2 : Nat) (x3 : Nat) (x4 : Nat) (x5 : Nat) (x6 : Nat) (a7 : Option Addr) (len7 cap7 : Nat) (z7 : List Int) (a8 : Option Addr) (len8 cap8 : Nat) (z8 : List Int), v = .agg #[.int .u16 (x0 : Int), .int .u16 (x1 : Int), .int .u32 (x2 : Int), .int .u32 (x3 : Int), .int .u8 (x4 : Int), .int .u16 (x5 : Int), .int .u16 (x6 : Int), .slice a7 len7 cap7, .slice a8 len8 cap8] ∧ x0 ≤ 65535 ∧ x1 ≤ 65535 ∧ x2 ≤ 4294967295 ∧ x3 ≤ 4294967295 ∧ x4 ≤ 255 ∧ x5 ≤ 65535 ∧ x6 ≤ 65535 ∧ IsRow .u8 W a7 len7 cap7 z7 ∧ IsRow .u8 W a8 len8 cap8 z8 := by
  obtain ⟨cs, rfl, hsz⟩ := okWide_struct Try.underlying51 hv
  have hC : Try.prog.cellsOf 51 = 9 := by kernel_rfl
  obtain ⟨l⟩ := cs
  have hl : l.length = 9 := by simpa [hC] using hsz
  obtain ⟨fuel, hf⟩ := h
  obtain ⟨xs, n, _, hx, _, hlen, hg⟩ := DataW.trod_struct Try.underlying51 hf
  match l, hl with
  | [c0, c1, c2, c3, c4, c5, c6, c7, c8], _ =>
    match xs, hlen with
    | [y0, y1, y2, y3, y4, y5, y6, y7, y8], _ =>
      have g0 := hg 0 _ rfl
      have g1 := hg 1 _ rfl
      have g2 := hg 2 _ rfl
      have g3 := hg 3 _ rfl
      have g4 := hg 4 _ rfl
      have g5 := hg 5 _ rfl
      have g6 := hg 6 _ rfl
      have g7 := hg 7 _ rfl
      have g8 := hg 8 _ rfl
      simp only [Value.cells] at g0 g1 g2 g3 g4 g5 g6 g7 g8
      obtain ⟨x0, e0, _, w0⟩ := DataW.trod_int Try.underlying26 (show DataW.trod enc Try.prog W base (fun _ => true) held n 26 [c0] = some y0 from g0)
      have b0 := bounds_u16 w0
      obtain ⟨x1, e1, _, w1⟩ := DataW.trod_int Try.underlying26 (show DataW.trod enc Try.prog W base (fun _ => true) held n 26 [c1] = some y1 from g1)
      have b1 := bounds_u16 w1
      obtain ⟨x2, e2, _, w2⟩ := DataW.trod_int Try.underlying38 (show DataW.trod enc Try.prog W base (fun _ => true) held n 38 [c2] = some y2 from g2)
      have b2 := bounds_u32 w2
      obtain ⟨x3, e3, _, w3⟩ := DataW.trod_int Try.underlying38 (show DataW.trod enc Try.prog W base (fun _ => true) held n 38 [c3] = some y3 from g3)
      have b3 := bounds_u32 w3
      obtain ⟨x4, e4, _, w4⟩ := DataW.trod_int Try.underlying5 (show DataW.trod enc Try.prog W base (fun _ => true) held n 5 [c4] = some y4 from g4)
      have b4 := bounds_u8 w4
      obtain ⟨x5, e5, _, w5⟩ := DataW.trod_int Try.underlying26 (show DataW.trod enc Try.prog W base (fun _ => true) held n 26 [c5] = some y5 from g5)
      have b5 := bounds_u16 w5
      obtain ⟨x6, e6, _, w6⟩ := DataW.trod_int Try.underlying26 (show DataW.trod enc Try.prog W base (fun _ => true) held n 26 [c6] = some y6 from g6)
      have b6 := bounds_u16 w6
      obtain ⟨a7, len7, cap7, z7, e7, r7⟩ := open_row (show DataW.trod enc Try.prog W base (fun _ => true) held n 22 [c7] = some y7 from g7)
      obtain ⟨a8, len8, cap8, z8, e8, r8⟩ := open_row (show DataW.trod enc Try.prog W base (fun _ => true) held n 22 [c8] = some y8 from g8)
      simp only [List.cons.injEq, and_true] at e0 e1 e2 e3 e4 e5 e6
      subst e0 e1 e2 e3 e4 e5 e6 e7 e8
      refine ⟨x0.toNat, x1.toNat, x2.toNat, x3.toNat, x4.toNat, x5.toNat, x6.toNat, a7, len7, cap7, z7, a8, len8, cap8, z8, ?_, by omega, by omega, by omega, by omega, by omega, by omega, by omega, r7, r8⟩
      rw [show ((x0.toNat : Nat) : Int) = x0 by omega, show ((x1.toNat : Nat) : Int) = x1 by omega, show ((x2.toNat : Nat) : Int) = x2 by omega, show ((x3.toNat : Nat) : Int) = x3 by omega, show ((x4.toNat : Nat) : Int) = x4 by omega, show ((x5.toNat : Nat) : Int) = x5 by omega, show ((x6.toNat : Nat) : Int) = x6 by omega]
end
end Go.Proofs.Ytgpmgfpmfdaecaa
