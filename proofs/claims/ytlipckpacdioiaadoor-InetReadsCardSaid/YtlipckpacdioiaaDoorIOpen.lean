/- Packets and bytes that came in, as the readings of this seat say them. -/
import Derived.Test.YtlipckpacdioiaaDoorRows
import Derived.Test.YtlipckpacdioiaaDoorIKit
import Derived.LaidMore
import Derived.ProofKit
import Derived.OpenShut
namespace Go.Proofs.YtlipckpacdioiaaDoor
open Go.ChangeShapes Go.WideShapes Go.ChangeAt Go.RowKit
set_option linter.unusedVariables false
set_option maxRecDepth 100000
def IsRow (k : IntKind) (w : World) (a : Option Addr) (len cap : Nat) (zs : List Int) : Prop :=
  (a = none ∧ len = 0 ∧ cap = 0 ∧ zs = []) ∨
  ∃ x, a = some x ∧ len ≤ cap ∧ cap ≤ maxLen ∧ zs.length = cap ∧ (∀ i, i < zs.length → w.cell? (x.add i) = some (.int k (zs.getD i 0))) ∧ ∀ n ∈ zs, (Lit.int k n).wf = true

theorem IsRow.row {k : IntKind} {w : World} {a : Option Addr} {len cap : Nat} {zs : List Int} (h : IsRow k w a len cap zs) :
    ∃ xs, xs.length = len ∧ Row k w a xs ∧ ∀ n ∈ xs, (Lit.int k n).wf = true := by
  rcases h with ⟨rfl, rfl, rfl, rfl⟩ | ⟨x, rfl, h1, h2, h3, h4, h5⟩
  · exact ⟨[], rfl, fun h => absurd rfl h, by simp⟩
  · have hl : (zs.take len).length = len := by rw [List.length_take]; omega
    refine ⟨zs.take len, hl, ?_, fun n hn => h5 n (List.mem_of_mem_take hn)⟩
    intro hne
    have hp : 0 < len := by
      rcases Nat.eq_zero_or_pos len with h | h
      · subst h; simp at hne
      · exact h
    obtain ⟨b, off, rfl, hc⟩ := ints_at h4 (by omega)
    refine ⟨b, off, rfl, World.block_lt_of_cell? w ⟨b, off + 0, none⟩ (hc 0 (by omega)), fun i hi => ?_⟩
    rw [hc i (by omega), List.getElem?_take_of_lt (by omega), List.getD_eq_getElem?_getD]

theorem IsRow.row2 {k : IntKind} {w : World} {a : Option Addr} {len cap : Nat} {zs : List Int} (h : IsRow k w a len cap zs) : (a = none → cap = 0) ∧ len < 9223372036854775808 := by
  rcases h with ⟨rfl, rfl, rfl, rfl⟩ | ⟨x, rfl, h1, h2, h3, h4, h5⟩
  · exact ⟨fun _ => rfl, by omega⟩
  · exact ⟨fun h => (by cases h), by unfold maxLen at h2; omega⟩

theorem wf_u8 {xs : List Int} (h : ∀ n ∈ xs, (Lit.int .u8 n).wf = true) : ∀ x ∈ xs, 0 ≤ x ∧ x ≤ 255 := fun x hx => bounds_u8 (h x hx)
theorem wf_u16 {xs : List Int} (h : ∀ n ∈ xs, (Lit.int .u16 n).wf = true) : ∀ x ∈ xs, 0 ≤ x ∧ x ≤ 65535 := fun x hx => bounds_u16 (h x hx)
theorem wf_u64 {xs : List Int} (h : ∀ n ∈ xs, (Lit.int .u64 n).wf = true) : ∀ x ∈ xs, 0 ≤ x ∧ x ≤ 18446744073709551615 := fun x hx => bounds_u64 (h x hx)
theorem wf_i64s {xs : List Int} (h : ∀ n ∈ xs, (Lit.int .i64 n).wf = true) : ∀ x ∈ xs, -9223372036854775808 ≤ x ∧ x ≤ 9223372036854775807 := fun x hx => bounds_i64 (h x hx)
theorem wf_u16n {x : Int} (h : (Lit.int .u16 x).wf = true) : 0 ≤ x ∧ x ≤ 65535 := bounds_u16 h
theorem wf_i64 {x : Int} (h : (Lit.int .i64 x).wf = true) : -9223372036854775808 ≤ x ∧ x ≤ 9223372036854775807 := bounds_i64 h

section
variable {H : Type} {enc : TypeId × Value → H} {W : World} {base : Nat} {spare : Nat → Bool} {held : Bool}
theorem open_row {fuel : Nat} {c : Value} {x : DataW H × List MemPlace} (h : DataW.trod enc Tryd.prog W base (fun _ => true) held fuel 25 [c] = some x) :
    ∃ a len cap zs, c = .slice a len cap ∧ IsRow .u8 W a len cap zs := by
  rcases open_ints Tryd.underlying25 Tryd.underlying5 (by kernel_rfl) h with ⟨hcs, _⟩ | ⟨x, l, c, zs, hcs, _, hl, hm, hz, _, hcell, hwz⟩
  · simp at hcs
    exact ⟨none, 0, 0, [], hcs, .inl ⟨rfl, rfl, rfl, rfl⟩⟩
  · simp at hcs
    exact ⟨_, _, _, zs, hcs, .inr ⟨_, rfl, hl, hm, by simpa using hz, hcell, hwz⟩⟩
theorem open_packet {r : Reach} {b0 : Nat} {v : Value} {dd : DataW H} {p : List MemPlace} (hv : Value.okWide Tryd.prog W r b0 27 v) (h : DataW.Trod enc Tryd.prog W base (fun _ => true) held 27 v dd p) :
    ∃ (x0 : Nat) (x1 : Nat) (x2 : Nat) (x3 : Nat) (x4 : Nat) (a5 : Option Addr) (len5 cap5 : Nat) (z5 : List Int), v = .agg #[.int .u8 (x0 : Int), .int .u8 (x1 : Int), .int .u16 (x2 : Int), .int .u32 (x3 : Int), .int .u32 (x4 : Int), .slice a5 len5 cap5] ∧ x0 ≤ 255 ∧ x1 ≤ 255 ∧ x2 ≤ 65535 ∧ x3 ≤ 4294967295 ∧ x4 ≤ 4294967295 ∧ IsRow .u8 W a5 len5 cap5 z5 := by
  obtain ⟨cs, rfl, hsz⟩ := okWide_struct Tryd.underlying27 hv
  have hC : Tryd.prog.cellsOf 27 = 6 := by kernel_rfl
  obtain ⟨l⟩ := cs
  have hl : l.length = 6 := by simpa [hC] using hsz
  obtain ⟨fuel, hf⟩ := h
  obtain ⟨xs, n, _, hx, _, hlen, hg⟩ := DataW.trod_struct Tryd.underlying27 hf
  match l, hl with
  | [c0, c1, c2, c3, c4, c5], _ =>
    match xs, hlen with
    | [y0, y1, y2, y3, y4, y5], _ =>
      have g0 := hg 0 _ rfl
      have g1 := hg 1 _ rfl
      have g2 := hg 2 _ rfl
      have g3 := hg 3 _ rfl
      have g4 := hg 4 _ rfl
      have g5 := hg 5 _ rfl
      simp only [Value.cells] at g0 g1 g2 g3 g4 g5
      obtain ⟨x0, e0, _, w0⟩ := DataW.trod_int Tryd.underlying5 (show DataW.trod enc Tryd.prog W base (fun _ => true) held n 5 [c0] = some y0 from g0)
      have b0 := bounds_u8 w0
      obtain ⟨x1, e1, _, w1⟩ := DataW.trod_int Tryd.underlying5 (show DataW.trod enc Tryd.prog W base (fun _ => true) held n 5 [c1] = some y1 from g1)
      have b1 := bounds_u8 w1
      obtain ⟨x2, e2, _, w2⟩ := DataW.trod_int Tryd.underlying22 (show DataW.trod enc Tryd.prog W base (fun _ => true) held n 22 [c2] = some y2 from g2)
      have b2 := bounds_u16 w2
      obtain ⟨x3, e3, _, w3⟩ := DataW.trod_int Tryd.underlying24 (show DataW.trod enc Tryd.prog W base (fun _ => true) held n 24 [c3] = some y3 from g3)
      have b3 := bounds_u32 w3
      obtain ⟨x4, e4, _, w4⟩ := DataW.trod_int Tryd.underlying24 (show DataW.trod enc Tryd.prog W base (fun _ => true) held n 24 [c4] = some y4 from g4)
      have b4 := bounds_u32 w4
      obtain ⟨a5, len5, cap5, z5, e5, r5⟩ := open_row (show DataW.trod enc Tryd.prog W base (fun _ => true) held n 25 [c5] = some y5 from g5)
      simp only [List.cons.injEq, and_true] at e0 e1 e2 e3 e4
      subst e0 e1 e2 e3 e4 e5
      refine ⟨x0.toNat, x1.toNat, x2.toNat, x3.toNat, x4.toNat, a5, len5, cap5, z5, ?_, by omega, by omega, by omega, by omega, by omega, r5⟩
      rw [show ((x0.toNat : Nat) : Int) = x0 by omega, show ((x1.toNat : Nat) : Int) = x1 by omega, show ((x2.toNat : Nat) : Int) = x2 by omega, show ((x3.toNat : Nat) : Int) = x3 by omega, show ((x4.toNat : Nat) : Int) = x4 by omega]
end
theorem IsRow.lies {w : World} {a : Option Addr} {len cap : Nat} {zs : List Int} (h : IsRow .u8 w a len cap zs) : ∃ xs, xs.length = len ∧ Lies w a xs len cap ∧ ∀ x ∈ xs, 0 ≤ x ∧ x ≤ 255 := by
  obtain ⟨xs, hl, hr, hw⟩ := h.row
  refine ⟨xs, hl, ⟨hr, h.row2.1, ?_, ?_⟩, wf_u8 hw⟩
  · rcases h with ⟨_, h1, h2, _⟩ | ⟨x, _, h1, _⟩ <;> omega
  · rcases h with ⟨_, h1, h2, _⟩ | ⟨x, _, h1, h2, _⟩
    · omega
    · unfold maxLen at h2; omega
end Go.Proofs.YtlipckpacdioiaaDoor
