/- An ARP packet that came in, as the readings of this seat say it. -/
import Derived.Test.YtbibobjkclgogaaCOpen
import Derived.Test.YtbibobjkclgogaaRows
import Derived.LaidMore
namespace Go.Proofs.Ytbibobjkclgogaa
open Go.ChangeShapes Go.WideShapes Go.ChangeAt Go.RowKit
set_option linter.unusedVariables false
set_option maxRecDepth 100000
section
variable {H : Type} {enc : TypeId × Value → H} {W : World} {base : Nat} {spare : Nat → Bool} {held : Bool}
theorem open_arp {r : Reach} {b0 : Nat} {v : Value} {dd : DataW H} {p : List MemPlace} (hv : Value.okWide Try.prog W r b0 41 v) (h : DataW.Trod enc Try.prog W base (fun _ => true) held 41 v dd p) :
    ∃ (o : Nat) (d s : Nat → UInt8) (x y : Nat), v = .agg #[.int .u16 (o : Int), .int .u8 ((d 0).toNat : Int), .int .u8 ((d 1).toNat : Int), .int .u8 ((d 2).toNat : Int), .int .u8 ((d 3).toNat : Int), .int .u8 ((d 4).toNat : Int), .int .u8 ((d 5).toNat : Int), .int .u8 ((s 0).toNat : Int), .int .u8 ((s 1).toNat : Int), .int .u8 ((s 2).toNat : Int), .int .u8 ((s 3).toNat : Int), .int .u8 ((s 4).toNat : Int), .int .u8 ((s 5).toNat : Int), .int .u32 (x : Int), .int .u32 (y : Int)] ∧ o ≤ 65535 ∧ x ≤ 4294967295 ∧ y ≤ 4294967295 := by
  obtain ⟨cs, rfl, hsz⟩ := okWide_struct Try.underlying41 hv
  have hC : Try.prog.cellsOf 41 = 15 := by kernel_rfl
  obtain ⟨l⟩ := cs
  have hl : l.length = 15 := by simpa [hC] using hsz
  obtain ⟨fuel, hf⟩ := h
  obtain ⟨xs, n, _, hx, _, hlen, hg⟩ := DataW.trod_struct Try.underlying41 hf
  match l, hl with
  | [c0, c1, c2, c3, c4, c5, c6, c7, c8, c9, c10, c11, c12, c13, c14], _ =>
    match xs, hlen with
    | [y0, y1, y2, y3, y4], _ =>
      have g0 := hg 0 _ rfl
      have g1 := hg 1 _ rfl
      have g2 := hg 2 _ rfl
      have g3 := hg 3 _ rfl
      have g4 := hg 4 _ rfl
      simp only [Value.cells] at g0 g1 g2 g3 g4
      obtain ⟨o, e0, _, w0⟩ := DataW.trod_int Try.underlying39 (show DataW.trod enc Try.prog W base (fun _ => true) held n 39 [c0] = some y0 from g0)
      obtain ⟨d, hd⟩ := open_mac (l := [c1, c2, c3, c4, c5, c6]) rfl g1
      obtain ⟨s, hs⟩ := open_mac (l := [c7, c8, c9, c10, c11, c12]) rfl g2
      obtain ⟨x, e3, _, w3⟩ := DataW.trod_int Try.underlying25 (show DataW.trod enc Try.prog W base (fun _ => true) held n 25 [c13] = some y3 from g3)
      obtain ⟨y, e4, _, w4⟩ := DataW.trod_int Try.underlying25 (show DataW.trod enc Try.prog W base (fun _ => true) held n 25 [c14] = some y4 from g4)
      have h0 := bounds_u16 w0
      have h3 := bounds_u32 w3
      have h4 := bounds_u32 w4
      simp only [List.cons.injEq, and_true] at e0 e3 e4 hd hs
      obtain ⟨rfl, rfl, rfl, rfl, rfl, rfl⟩ := hd
      obtain ⟨rfl, rfl, rfl, rfl, rfl, rfl⟩ := hs
      subst e0 e3 e4
      refine ⟨o.toNat, d, s, x.toNat, y.toNat, ?_, by omega, by omega, by omega⟩
      rw [show ((o.toNat : Nat) : Int) = o by omega, show ((x.toNat : Nat) : Int) = x by omega, show ((y.toNat : Nat) : Int) = y by omega]
end
end Go.Proofs.Ytbibobjkclgogaa
