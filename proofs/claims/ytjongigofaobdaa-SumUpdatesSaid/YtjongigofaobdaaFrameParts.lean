/- What the walks are told of a slice of slices of bytes that came in. -/
import Derived.Test.YtjongigofaobdaaJoin
import Derived.Test.YtjongigofaobdaaFrame
import Derived.Deep.Matrix
namespace Go.Proofs.Ytjongigofaobdaa
open Go.ChangeShapes Go.WideShapes Go.ChangeAt Go.RowKit

theorem plain_addr {w : World} {a : Addr} {v : Value} (h : w.cell? (a.add 0) = some v) : ∃ b off, a = ⟨b, off, none⟩ := by
  obtain ⟨b, off, spot⟩ := a
  have hspot : spot = none := by simpa [Addr.add] using World.cell?_spot h
  exact ⟨b, off, by rw [hspot]⟩

theorem open_parts {H : Type} {enc : TypeId × Value → H} {w : World} {base : Nat} {held : Bool} {fuel : Nat} {cs : List Value} {x : DataW H × List MemPlace}
    (h : DataW.trod enc Try.prog w base (fun _ => true) held fuel 46 cs = some x) :
    ∃ (a : Option Addr) (cap : Nat) (L : List Part), cs = [.slice a L.length cap] ∧ Parts w a L ∧ ∀ p ∈ L, ∀ x ∈ p.2.1, 0 ≤ x ∧ x ≤ 255 := by
  rcases Deep.open_int_rows Try.underlying46 Try.underlying24 Try.underlying5 (by kernel_rfl) (by kernel_rfl) h with ⟨hcs, _⟩ | ⟨a, len, cap, A, L, C, Z, hcs, _, hl, hm, _, hx⟩
  · exact ⟨none, 0, [], hcs, ⟨fun h => absurd rfl h, by simp⟩, by simp⟩
  · have hlen : ((List.range len).map fun r => (A r, (Z r).take (L r), C r)).length = len := by simp
    have hin : ∀ p ∈ (List.range len).map (fun r => (A r, (Z r).take (L r), C r)), ∃ r, r < len ∧ p = (A r, (Z r).take (L r), C r) := fun p hp => by
      obtain ⟨r, hr, rfl⟩ := List.mem_map.1 hp
      exact ⟨r, List.mem_range.1 hr, rfl⟩
    refine ⟨some a, cap, (List.range len).map fun r => (A r, (Z r).take (L r), C r), by rw [hlen]; exact hcs, ⟨fun hne => ?_, fun p hp => ?_⟩, fun p hp x hxp => ?_⟩
    · have hpos : 0 < len := by
        rcases Nat.eq_zero_or_pos len with h0 | h0
        · subst h0; simp at hne
        · exact h0
      obtain ⟨b, off, rfl⟩ := plain_addr (hx 0 (by omega)).1
      refine ⟨b, off, rfl, ?_, fun i p hi => ?_⟩
      · have := (hx 0 (by omega)).1
        rw [Addr.add_lit] at this
        exact World.block_lt_of_cell? w ⟨b, off + 0, none⟩ this
      · have hil : i < len := by have := (List.getElem?_eq_some_iff.1 hi).1; rw [hlen] at this; exact this
        obtain ⟨h1, h2, _, h4, _⟩ := hx i (by omega)
        rw [Addr.add_lit] at h1
        rw [List.getElem?_map, List.getElem?_range hil] at hi
        simp only [Option.map_some, Option.some.injEq] at hi
        subst hi
        rw [h1, Part.v, List.length_take, h4, Nat.min_eq_left h2]
    · obtain ⟨r, hr, rfl⟩ := hin p hp
      obtain ⟨_, h2, _, h4, _, h6, h7⟩ := hx r (by omega)
      refine ⟨fun hne => ?_, h6⟩
      have hlt : (List.take (L r) (Z r)).length = L r := by rw [List.length_take, h4, Nat.min_eq_left h2]
      have hpos : 0 < L r := by
        rcases Nat.eq_zero_or_pos (L r) with h0 | h0
        · rw [h0] at hne; simp at hne
        · exact h0
      cases hA : A r with
      | none => have := h6 hA; omega
      | some a' =>
        obtain ⟨_, hc⟩ := h7 a' hA
        obtain ⟨b, off, rfl⟩ := plain_addr (hc 0 (by omega))
        refine ⟨b, off, rfl, ?_, fun i hi => ?_⟩
        · have := hc 0 (by omega)
          rw [Addr.add_lit] at this
          exact World.block_lt_of_cell? w ⟨b, off + 0, none⟩ this
        · simp only [hlt] at hi
          have := hc i (by omega)
          rw [Addr.add_lit] at this
          rw [this, List.getElem?_take_of_lt hi, List.getD_eq_getElem?_getD]
    · obtain ⟨r, hr, rfl⟩ := hin p hp
      obtain ⟨_, _, _, _, h5, _⟩ := hx r (by omega)
      exact bounds_u8 (h5 x (List.mem_of_mem_take hxp))
end Go.Proofs.Ytjongigofaobdaa
