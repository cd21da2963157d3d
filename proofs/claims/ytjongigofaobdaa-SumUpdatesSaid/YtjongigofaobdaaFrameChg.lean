/- What the walks are told of a slice of changes that came in. -/
import Derived.Test.YtjongigofaobdaaUpdate
import Derived.Test.YtjongigofaobdaaFrameParts
namespace Go.Proofs.Ytjongigofaobdaa
open Go.ChangeShapes Go.WideShapes Go.ChangeAt Go.RowKit

theorem pair_of {H : Type} {enc : TypeId × Value → H} {w : World} {base : Nat} {spare : Nat → Bool} {held : Bool} {fuel : Nat} {cs : List Value} {x : DataW H × List MemPlace}
    (h : DataW.trod enc Try.prog w base spare held fuel 53 cs = some x) : ∃ p : Int × Int, cs = [.int .u16 p.1, .int .u16 p.2] ∧ (0 ≤ p.1 ∧ p.1 ≤ 65535) ∧ 0 ≤ p.2 ∧ p.2 ≤ 65535 := by
  obtain ⟨xs, m, _, _, hl, hx, hi⟩ := DataW.trod_array Try.underlying53 h
  have hc : Try.prog.cellsOf 53 = 2 := by kernel_rfl
  have hc4 : Try.prog.cellsOf 44 = 1 := by kernel_rfl
  rw [hc] at hl
  rw [hc4] at hi
  match cs, hl with
  | [a, b], _ =>
    obtain ⟨y0, e0⟩ : ∃ y, xs[0]? = some y := ⟨_, List.getElem?_eq_getElem (by omega)⟩
    obtain ⟨y1, e1⟩ : ∃ y, xs[1]? = some y := ⟨_, List.getElem?_eq_getElem (by omega)⟩
    have h0 := (hi 0 (by omega)).trans e0
    have h1 := (hi 1 (by omega)).trans e1
    obtain ⟨n0, hn0, _, w0⟩ := DataW.trod_int Try.underlying44 h0
    obtain ⟨n1, hn1, _, w1⟩ := DataW.trod_int Try.underlying44 h1
    simp at hn0 hn1
    exact ⟨(n0, n1), by rw [hn0, hn1], bounds_u16 w0, bounds_u16 w1⟩

theorem open_chg {H : Type} {enc : TypeId × Value → H} {w : World} {base : Nat} {held : Bool} {fuel : Nat} {cs : List Value} {x : DataW H × List MemPlace}
    (h : DataW.trod enc Try.prog w base (fun _ => true) held fuel 52 cs = some x) :
    ∃ (a : Option Addr) (cap : Nat) (L : List (Int × Int)), cs = [.slice a L.length cap] ∧ Chg w a L ∧ ∀ p ∈ L, (0 ≤ p.1 ∧ p.1 ≤ 65535) ∧ 0 ≤ p.2 ∧ p.2 ≤ 65535 := by
  have hc : Try.prog.cellsOf 53 = 2 := by kernel_rfl
  rcases Deep.open_slice Try.underlying52 h with ⟨hcs, _⟩ | ⟨a, len, cap, m, n, D, Pl, hcs, _, hl, hm, hmm, _, hx⟩
  · exact ⟨none, 0, [], hcs, fun h => absurd rfl h, by simp⟩
  · simp only [if_true] at hmm
    subst hmm
    rw [hc] at hx
    have each : ∀ i, i < len → ∃ p : Int × Int, (w.cell? (a.add (i * 2 + 0)) = some (.int .u16 p.1) ∧ w.cell? (a.add (i * 2 + 1)) = some (.int .u16 p.2)) ∧ (0 ≤ p.1 ∧ p.1 ≤ 65535) ∧ 0 ≤ p.2 ∧ p.2 ≤ 65535 := fun i hi => by
      obtain ⟨cs', h1, h2⟩ := hx i (by omega)
      obtain ⟨p, rfl, hp⟩ := pair_of h2
      obtain ⟨_, _, h3⟩ := World.cells?_some h1
      have g0 := h3 0 (by omega)
      have g1 := h3 1 (by omega)
      rw [Deep.add_add] at g0 g1
      exact ⟨p, ⟨g0, g1⟩, hp⟩
    obtain ⟨f, hf⟩ := Deep.choose_lt (α := Int × Int) each
    have hlen : ((List.range len).map f).length = len := by simp
    refine ⟨some a, m, (List.range len).map f, by rw [hlen]; exact hcs, fun hne => ?_, fun p hp => ?_⟩
    · have hpos : 0 < len := by
        rcases Nat.eq_zero_or_pos len with h0 | h0
        · subst h0; simp at hne
        · exact h0
      have hf0 := (hf 0 hpos).1.1
      obtain ⟨b, off, rfl⟩ := plain_addr hf0
      rw [Addr.add_lit] at hf0
      refine ⟨b, off, rfl, World.block_lt_of_cell? w _ hf0, fun i p hi => ?_⟩
      have hil : i < len := by have := (List.getElem?_eq_some_iff.1 hi).1; rw [hlen] at this; exact this
      rw [List.getElem?_map, List.getElem?_range hil] at hi
      simp only [Option.map_some, Option.some.injEq] at hi
      subst hi
      have := (hf i hil).1
      rw [Addr.add_lit, Addr.add_lit] at this
      exact this
    · obtain ⟨i, hi, rfl⟩ := List.mem_map.1 hp
      exact (hf i (List.mem_range.1 hi)).2
end Go.Proofs.Ytjongigofaobdaa
