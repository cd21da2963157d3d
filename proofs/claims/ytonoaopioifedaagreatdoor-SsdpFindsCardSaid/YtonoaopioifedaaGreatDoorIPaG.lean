/- inet: the program's reading of any text as an address. -/
import Derived.Test.YtonoaopioifedaaGreatDoorIText
import Derived.Test.YtonoaopioifedaaGreatDoorITx
namespace Go.Proofs.YtonoaopioifedaaGreatDoor
open Go.RowKit Go.Lib
set_option linter.unusedVariables false
set_option linter.unusedSimpArgs false
set_option maxRecDepth 100000
/-- What the library's code reads of the package's variables. -/
structure ET (w : World) : Prop where
  pt : PT w
  e1 : ∃ ev, w.cell? ⟨0, 0, none⟩ = some ev ∧ (ev = .nilIface ∨ ∃ te pe, ev = .iface te pe)
  e2 : ∃ ev, w.cell? ⟨1, 0, none⟩ = some ev ∧ (ev = .nilIface ∨ ∃ te pe, ev = .iface te pe)
theorem ET.below {w w' : World} {K : Nat} (h : ET w) (hb : Below K w w') (hK : w.heap.size ≤ K) : ET w' := by
  obtain ⟨e1, he1, hv1⟩ := h.e1
  obtain ⟨e2, he2, hv2⟩ := h.e2
  exact ⟨h.pt.below hb hK, ⟨e1, (hb.cell (p := ⟨0, 0, none⟩) (Nat.lt_of_lt_of_le (World.block_lt_of_cell? w _ he1) hK)).trans he1, hv1⟩, ⟨e2, (hb.cell (p := ⟨1, 0, none⟩) (Nat.lt_of_lt_of_le (World.block_lt_of_cell? w _ he2) hK)).trans he2, hv2⟩⟩
def addrV (o : Option Nat) : Value := match o with
  | some v => .tuple #[.int .u32 (v : Int), .bool true]
  | none => .tuple #[.int .u32 0, .bool false]
theorem or_low (x n : Nat) (hn : n < 256) : bits BinOp.or IntKind.u32 ((x * 256 % 4294967296 : Nat) : Int) (n : Int) = (((x * 256 + n) % 4294967296 : Nat) : Int) := by
  have h1 : x * 256 % 4294967296 = (x % 16777216) * 256 := by omega
  have h2 : (x * 256 + n) % 4294967296 = (x % 16777216) * 256 + n := by omega
  rw [h1, h2]
  obtain ⟨q, hq⟩ : ∃ q, x % 16777216 = q := ⟨_, rfl⟩
  have hq2 : q < 16777216 := by omega
  rw [hq]
  have := bits_join .u32 32 (by decide) (fun n h0 h1 => by rw [IntKind.wrap_u32]; omega) 8 ((q : Int) * 256) (n : Int) (by omega) (by omega) (by omega) (by omega) (by omega) (by omega)
  rw [show ((q * 256 : Nat) : Int) = (q : Int) * 256 by omega, this]
  omega
theorem txt_four (x y z u : Nat) (hx : x ≤ 255) (hy : y ≤ 255) (hz : z ≤ 255) (hu : u ≤ 255) : txt (qb (256 * (256 * (256 * x + y) + z) + u)) 4 = txt4 x y z u := by
  have h0 : qb (256 * (256 * (256 * x + y) + z) + u) 0 = x := by unfold qb; simp only [Nat.reduceSub, Nat.reducePow]; omega
  have h1 : qb (256 * (256 * (256 * x + y) + z) + u) 1 = y := by unfold qb; simp only [Nat.reduceSub, Nat.reducePow]; omega
  have h2 : qb (256 * (256 * (256 * x + y) + z) + u) 2 = z := by unfold qb; simp only [Nat.reduceSub, Nat.reducePow]; omega
  have h3 : qb (256 * (256 * (256 * x + y) + z) + u) 3 = u := by unfold qb; simp only [Nat.reduceSub, Nat.reducePow]; omega
  have e : ∀ n : Nat, n ≤ 255 → Lib.itoa (n : Int) = dg n := fun n h => itoa_dg ⟨n, by omega⟩
  generalize 256 * (256 * (256 * x + y) + z) + u = v at *
  simp [txt, h0, h1, h2, h3, e x hx, e y hy, e z hz, e u hu, txt4]
theorem addr_txt (v : Nat) (hv : v ≤ 4294967295) : addrD (txt (qb v) 4) = some v := by
  obtain ⟨x, hx⟩ : ∃ x, v / 16777216 = x := ⟨_, rfl⟩
  obtain ⟨y, hy⟩ : ∃ y, v / 65536 % 256 = y := ⟨_, rfl⟩
  obtain ⟨z, hz⟩ : ∃ z, v / 256 % 256 = z := ⟨_, rfl⟩
  obtain ⟨u, hu⟩ : ∃ u, v % 256 = u := ⟨_, rfl⟩
  have e : v = 256 * (256 * (256 * x + y) + z) + u := by omega
  rw [e, txt_four x y z u (by omega) (by omega) (by omega) (by omega), addrD_text x y z u (by omega) (by omega) (by omega) (by omega)]
theorem addr_txt_only (l : List UInt8) (v : Nat) (h : addrD l = some v) : l = txt (qb v) 4 := by
  obtain ⟨x, y, z, u, hx, hy, hz, hu, rfl, rfl⟩ := addrD_only l v h
  exact (txt_four x y z u hx hy hz hu).symm
end Go.Proofs.YtonoaopioifedaaGreatDoor
