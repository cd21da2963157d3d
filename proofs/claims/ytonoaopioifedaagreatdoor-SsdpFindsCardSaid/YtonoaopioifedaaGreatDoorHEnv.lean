/- Head: what the library's code reads of the package's variables, of whatever world a call begins in. -/
import Derived.Test.YtonoaopioifedaaGreatDoorHPub
import Derived.Shelf.Vars
import Derived.Stop.LaidErr
import Derived.FnData
import Derived.LaidMore
namespace Go.Proofs.YtonoaopioifedaaGreatDoor.H
open Go.RowKit Go.ChangeShapes
set_option linter.unusedVariables false
theorem laid_iface {P : Program} {n nm : String} {d : DataW Unit} {r : List (String × DataW Unit)} {W : World} {g : Nat} {ti : TypeId} {ms : Array (String × TypeId)}
    (h : laidMet P ((n, .iface nm d) :: r) W) (hg : P.globalNamed n = some g) (ht : (P.globals[g]?).map (·.type) = some ti) (hi : P.underlying ti = some (.interface ms)) : ∃ u v, W.cell? ⟨g, 0, none⟩ = some (.iface u v) := by
  obtain ⟨ps, ⟨g0, t0, cs0, f0, p0, q0, hg0, ht0, hv0, hd0, _, e0⟩, _, hrows⟩ := h
  obtain rfl := Option.some.inj (hg.symm.trans hg0)
  obtain rfl := Option.some.inj (ht.symm.trans ht0)
  subst e0
  obtain ⟨l0⟩ := cs0
  obtain ⟨f1, u, v, e1, _⟩ := iface_of_trod hi hd0
  have e1 : l0 = [.iface u v] := e1
  subst e1
  exact ⟨u, v, by simpa using World.var?_cell hg0 hv0 0⟩
theorem env_of {W : World} {n1 n2 n3 n4 n5 : String × DataW Unit} {d : DataW Unit} {nm : String} {r : List (String × DataW Unit)} (hL : laidMet Tryz.prog (n1 :: n2 :: n3 :: n4 :: n5 :: ("strconv.ErrSyntax", .iface nm d) :: r) W) (hS : W.ShapedOpen Tryz.prog) : Env W := by
  refine ⟨cell_of_shapedOpen_int (zero := #[.int .i64 0]) (t := 3) hS (of_decide_eq_true (by kernel_rfl)) (by kernel_rfl) rfl (by kernel_rfl) (by kernel_rfl) (by kernel_rfl), ?_⟩
  obtain ⟨u, v, h⟩ := laid_iface (g := 0) (ti := 86) (laidMet.tail (laidMet.tail (laidMet.tail (laidMet.tail (laidMet.tail hL))))) (by kernel_rfl) (by kernel_rfl) Tryz.underlying86
  exact ⟨_, h, .inr ⟨u, v, rfl⟩⟩
end Go.Proofs.YtonoaopioifedaaGreatDoor.H
