/- A frame that came in, as the readings of this seat say it. -/
import Derived.Test.YtgpmgfpmfdaecaaFrame
import Derived.Test.YtgpmgfpmfdaecaaRows
import Derived.LaidMore
namespace Go.Proofs.Ytgpmgfpmfdaecaa
open Go.ChangeShapes Go.WideShapes Go.ChangeAt Go.RowKit
set_option linter.unusedVariables false
set_option maxRecDepth 100000
section
variable {H : Type} {enc : TypeId × Value → H} {W : World} {base : Nat} {spare : Nat → Bool} {held : Bool}
theorem open_mac {fuel : Nat} {l : List Value} {x : DataW H × List MemPlace} (hl : l.length = 6) (h : DataW.trod enc Try.prog W base spare held fuel 25 l = some x) :
    ∃ g : Nat → UInt8, l = [.int .u8 ((g 0).toNat : Int), .int .u8 ((g 1).toNat : Int), .int .u8 ((g 2).toNat : Int), .int .u8 ((g 3).toNat : Int), .int .u8 ((g 4).toNat : Int), .int .u8 ((g 5).toNat : Int)] := by
  obtain ⟨xs, m, rfl, hx, hlen, hn, hel⟩ := DataW.trod_array Try.underlying25 h
  have hc5 : Try.prog.cellsOf 5 = 1 := by kernel_rfl
  rw [hc5] at hel
  match l, hl with
  | [c0, c1, c2, c3, c4, c5], _ =>
    have hone : ∀ i, i < 6 → ∀ c, ([c0, c1, c2, c3, c4, c5] : List Value)[i]? = some c → ∃ u : UInt8, c = .int .u8 (u.toNat : Int) := fun i hi c hc => by
      have h1 := hel i hi
      have hxi : i < xs.length := by omega
      rw [List.getElem?_eq_getElem hxi, Nat.mul_one] at h1
      have hd : (([c0, c1, c2, c3, c4, c5] : List Value).drop i).take 1 = [c] := by
        have hil : i < ([c0, c1, c2, c3, c4, c5] : List Value).length := by simpa using hi
        rw [List.drop_eq_getElem_cons hil]
        rw [List.getElem?_eq_getElem hil] at hc
        simp only [Option.some.injEq] at hc
        rw [hc]
        rfl
      rw [hd] at h1
      obtain ⟨k, e1, e2, hwf⟩ := DataW.trod_int Try.underlying5 h1
      simp only [List.cons.injEq, and_true] at e1
      have hk := bounds_u8 hwf
      refine ⟨UInt8.ofNat k.toNat, ?_⟩
      rw [e1]
      congr 1
      simp
      omega
    obtain ⟨g0, r0⟩ := hone 0 (by omega) c0 rfl
    obtain ⟨g1, r1⟩ := hone 1 (by omega) c1 rfl
    obtain ⟨g2, r2⟩ := hone 2 (by omega) c2 rfl
    obtain ⟨g3, r3⟩ := hone 3 (by omega) c3 rfl
    obtain ⟨g4, r4⟩ := hone 4 (by omega) c4 rfl
    obtain ⟨g5, r5⟩ := hone 5 (by omega) c5 rfl
    subst r0 r1 r2 r3 r4 r5
    exact ⟨fun i => match i with | 0 => g0 | 1 => g1 | 2 => g2 | 3 => g3 | 4 => g4 | _ => g5, rfl⟩
theorem open_row {fuel : Nat} {c : Value} {x : DataW H × List MemPlace} (h : DataW.trod enc Try.prog W base (fun _ => true) held fuel 22 [c] = some x) :
    ∃ a len cap zs, c = .slice a len cap ∧ IsRow .u8 W a len cap zs := by
  rcases open_ints Try.underlying22 Try.underlying5 (by kernel_rfl) h with ⟨hcs, _⟩ | ⟨x, l, c, zs, hcs, _, hl, hm, hz, _, hcell, hwz⟩
  · simp at hcs
    exact ⟨none, 0, 0, [], hcs, .inl ⟨rfl, rfl, rfl, rfl⟩⟩
  · simp at hcs
    exact ⟨_, _, _, zs, hcs, .inr ⟨_, rfl, hl, hm, by simpa using hz, hcell, hwz⟩⟩
theorem open_frame {r : Reach} {b0 : Nat} {v : Value} {dd : DataW H} {p : List MemPlace} (hv : Value.okWide Try.prog W r b0 28 v) (h : DataW.Trod enc Try.prog W base (fun _ => true) held 28 v dd p) :
    ∃ (d s : Nat → UInt8) (k : Nat) (a : Option Addr) (len cap : Nat) (zs : List Int), v = .agg #[.int .u8 ((d 0).toNat : Int), .int .u8 ((d 1).toNat : Int), .int .u8 ((d 2).toNat : Int), .int .u8 ((d 3).toNat : Int), .int .u8 ((d 4).toNat : Int), .int .u8 ((d 5).toNat : Int), .int .u8 ((s 0).toNat : Int), .int .u8 ((s 1).toNat : Int), .int .u8 ((s 2).toNat : Int), .int .u8 ((s 3).toNat : Int), .int .u8 ((s 4).toNat : Int), .int .u8 ((s 5).toNat : Int), .int .u16 (k : Int), .slice a len cap] ∧ k ≤ 65535 ∧ IsRow .u8 W a len cap zs := by
  obtain ⟨cs, rfl, hsz⟩ := okWide_struct Try.underlying28 hv
  have hC : Try.prog.cellsOf 28 = 14 := by kernel_rfl
  obtain ⟨l⟩ := cs
  have hl : l.length = 14 := by simpa [hC] using hsz
  obtain ⟨fuel, hf⟩ := h
  obtain ⟨xs, n, _, hx, _, hlen, hg⟩ := DataW.trod_struct Try.underlying28 hf
  match l, hl with
  | [c0, c1, c2, c3, c4, c5, c6, c7, c8, c9, c10, c11, c12, c13], _ =>
    match xs, hlen with
    | [y0, y1, y2, y3], _ =>
      have g0 := hg 0 _ rfl
      have g1 := hg 1 _ rfl
      have g2 := hg 2 _ rfl
      have g3 := hg 3 _ rfl
      simp only [Value.cells] at g0 g1 g2 g3
      obtain ⟨d, hd⟩ := open_mac (l := [c0, c1, c2, c3, c4, c5]) rfl g0
      obtain ⟨s, hs⟩ := open_mac (l := [c6, c7, c8, c9, c10, c11]) rfl g1
      obtain ⟨k, e1, _, hwf⟩ := DataW.trod_int Try.underlying26 (show DataW.trod enc Try.prog W base (fun _ => true) held n 26 [c12] = some y2 from g2)
      obtain ⟨a, len, cap, zs, e3, hr⟩ := open_row (show DataW.trod enc Try.prog W base (fun _ => true) held n 22 [c13] = some y3 from g3)
      have hk := bounds_u16 hwf
      simp only [List.cons.injEq, and_true] at e1 hd hs
      obtain ⟨rfl, rfl, rfl, rfl, rfl, rfl⟩ := hd
      obtain ⟨rfl, rfl, rfl, rfl, rfl, rfl⟩ := hs
      subst e1 e3
      refine ⟨d, s, k.toNat, a, len, cap, zs, ?_, by omega, hr⟩
      have hkk : ((k.toNat : Nat) : Int) = k := by omega
      rw [hkk]
end
end Go.Proofs.Ytgpmgfpmfdaecaa
