/- Head: a pair of bytes that came in. -/
import Derived.Test.YtdpbgbhlcebmgaaDoorHEnv
import Derived.Test.YtdpbgbhlcebmgaaDoorRows
import Derived.OpenShut
import Derived.ProofKit
import Derived.ChangeArms
import Derived.LaidMore
namespace Go.Proofs.YtdpbgbhlcebmgaaDoor
open Go.RowKit Go.Deep
open Go.ChangeShapes Go.WideShapes Go.ChangeAt
set_option linter.unusedVariables false
set_option maxRecDepth 100000
section
variable {H : Type} {enc : TypeId × Value → H} {W : World} {base : Nat} {spare : Nat → Bool} {held : Bool}
theorem okWide_array {P : Program} {w : World} {r : Reach} {b0 n : Nat} {t e : TypeId} {v : Value} (ht : P.underlying t = some (.array n e)) (h : Value.okWide P w r b0 t v) : ∃ cs, v = .agg cs ∧ cs.size = P.cellsOf t := by
  simp only [Value.okWide, ht] at h
  obtain ⟨cs, h1, h2, _⟩ := h
  exact ⟨cs, h1, h2⟩
theorem pair_open {r : Reach} {b0 : Nat} {v : Value} {dd : DataW H} {p : List MemPlace} (hv : Value.okWide Tryd.prog W r b0 39 v) (h : DataW.Trod enc Tryd.prog W base (fun _ => true) held 39 v dd p) :
    ∃ (x0 x1 : UInt8), v = .agg #[.int .u8 (x0.toNat : Int), .int .u8 (x1.toNat : Int)] := by
  obtain ⟨cs, rfl, hsz⟩ := okWide_array Tryd.underlying39 hv
  have hC : Tryd.prog.cellsOf 39 = 2 := by kernel_rfl
  obtain ⟨l⟩ := cs
  have hl : l.length = 2 := by simpa [hC] using hsz
  obtain ⟨fuel, hf⟩ := h
  obtain ⟨xs, m, _, hx, hlen, hn, hel⟩ := DataW.trod_array Tryd.underlying39 hf
  have hc5 : Tryd.prog.cellsOf 5 = 1 := by kernel_rfl
  rw [hc5] at hel
  match l, hl with
  | [c0, c1], _ =>
    match xs, hlen with
    | [y0, y1], _ =>
      have g0 := hel 0 (by omega)
      have g1 := hel 1 (by omega)
      simp only [Value.cells] at g0 g1
      obtain ⟨x0, e0, _, w0⟩ := DataW.trod_int Tryd.underlying5 (show DataW.trod enc Tryd.prog W base (fun _ => true) held m 5 [c0] = some y0 from g0)
      obtain ⟨x1, e1, _, w1⟩ := DataW.trod_int Tryd.underlying5 (show DataW.trod enc Tryd.prog W base (fun _ => true) held m 5 [c1] = some y1 from g1)
      have b0 : 0 ≤ x0 ∧ x0 ≤ 255 := by simpa [Lit.wf, IntKind.min, IntKind.max, IntKind.signed, IntKind.bits] using w0
      have b1 : 0 ≤ x1 ∧ x1 ≤ 255 := by simpa [Lit.wf, IntKind.min, IntKind.max, IntKind.signed, IntKind.bits] using w1
      simp only [List.cons.injEq, and_true] at e0 e1
      subst e0 e1
      refine ⟨UInt8.ofNat x0.toNat, UInt8.ofNat x1.toNat, ?_⟩
      rw [show (((UInt8.ofNat x0.toNat).toNat : Nat) : Int) = x0 by simp; omega, show (((UInt8.ofNat x1.toNat).toNat : Nat) : Int) = x1 by simp; omega]
end
end Go.Proofs.YtdpbgbhlcebmgaaDoor
