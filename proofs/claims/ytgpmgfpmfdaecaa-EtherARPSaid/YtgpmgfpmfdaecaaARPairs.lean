/- That the reader of ARP packets and the document's answer alike, as one fact. -/
import Derived.Test.YtgpmgfpmfdaecaaRRArpO
import Derived.Test.YtgpmgfpmfdaecaaEAReadO
import Derived.Test.YtgpmgfpmfdaecaaRArp
namespace Go.Proofs.Ytgpmgfpmfdaecaa
open Go.RowKit
set_option linter.unusedVariables false
set_option linter.unusedSimpArgs false
set_option maxRecDepth 100000
structure Lies (w : World) (a : Option Addr) (xs : List Int) (n cap : Nat) : Prop where
  row : Row .u8 w a xs
  no : a = none → cap = 0
  le : n ≤ cap
  max : cap ≤ 9223372036854775807
theorem Lies.of_owns {w : World} {base : Nat} {g : Option Addr} {xs : List Int} {n c : Nat} (h : w.ownsRow base 5 1 (.slice g n c) n (xs.map (Value.int .u8))) : Lies w g xs n c := by
  refine ⟨Row.of_owns h, ?_, ?_, ?_⟩ <;> rcases h.2 with ⟨h1, h0⟩ | ⟨G, c', cur, hv, hg, hh, hnc, hcm, _⟩
  · simp at h1; intro _; omega
  · obtain ⟨rfl, rfl⟩ : g = some ⟨G, 0, none⟩ ∧ c = c' := by simpa using hv
    intro h; cases h
  · simp at h1; omega
  · obtain ⟨rfl, rfl⟩ : g = some ⟨G, 0, none⟩ ∧ c = c' := by simpa using hv
    exact hnc
  · simp at h1; omega
  · obtain ⟨rfl, rfl⟩ : g = some ⟨G, 0, none⟩ ∧ c = c' := by simpa using hv
    unfold maxLen at hcm; omega
theorem Lies.below {w w' : World} {a : Option Addr} {xs : List Int} {n cap B : Nat} (h : Lies w a xs n cap) (hb : Below B w w') (hB : w.heap.size ≤ B) : Lies w' a xs n cap := ⟨h.row.below hb hB, h.no, h.le, h.max⟩
theorem u8_of (x : Int) (h : 0 ≤ x ∧ x ≤ 255) : ((UInt8.ofNat x.toNat).toNat : Int) = x := by simp; omega
theorem six_of : ∀ (xs : List Int), (∀ x ∈ xs, 0 ≤ x ∧ x ≤ 255) → 6 ≤ xs.length → ∃ d : Nat → UInt8, xs.take 6 = [((d 0).toNat : Int), ((d 1).toNat : Int), ((d 2).toNat : Int), ((d 3).toNat : Int), ((d 4).toNat : Int), ((d 5).toNat : Int)]
  | x0 :: x1 :: x2 :: x3 :: x4 :: x5 :: r, h, _ => by
    refine ⟨fun i => UInt8.ofNat (([x0, x1, x2, x3, x4, x5] : List Int).getD i 0).toNat, ?_⟩
    show [x0, x1, x2, x3, x4, x5] = _
    have h0 := u8_of x0 (h _ (by simp))
    have h1 := u8_of x1 (h _ (by simp))
    have h2 := u8_of x2 (h _ (by simp))
    have h3 := u8_of x3 (h _ (by simp))
    have h4 := u8_of x4 (h _ (by simp))
    have h5 := u8_of x5 (h _ (by simp))
    show _ = [((UInt8.ofNat x0.toNat).toNat : Int), ((UInt8.ofNat x1.toNat).toNat : Int), ((UInt8.ofNat x2.toNat).toNat : Int), ((UInt8.ofNat x3.toNat).toNat : Int), ((UInt8.ofNat x4.toNat).toNat : Int), ((UInt8.ofNat x5.toNat).toNat : Int)]
    rw [h0, h1, h2, h3, h4, h5]
  | [], _, h | [_], _, h | [_, _], _, h | [_, _, _], _, h | [_, _, _, _], _, h | [_, _, _, _, _], _, h => by simp at h

theorem valB_pos (xs : List Int) (h : ∀ x ∈ xs, 0 ≤ x ∧ x ≤ 255) (k : Nat) : ∃ v : Nat, valB (xs.take k) = (v : Int) ∧ v < 256 ^ k := by
  have h1 := valB_rng xs h k
  obtain ⟨v, hv⟩ := Int.eq_ofNat_of_zero_le h1.1
  refine ⟨v, hv, ?_⟩
  have h2 := h1.2
  rw [hv] at h2
  exact_mod_cast h2
theorem drop_take28 (xs : List Int) (i k : Nat) (h : i + k ≤ 28) : ((xs.take 28).drop i).take k = (xs.drop i).take k := by
  rw [List.drop_take, List.take_take, Nat.min_eq_left (by omega)]
theorem arp_pair (xs : List Int) (n : Nat) (hl : xs.length = n) (hb : ∀ x ∈ xs, 0 ≤ x ∧ x ≤ 255) (hn5 : n ≤ 5000) :
    ∃ (o x y : Nat) (d s : Nat → UInt8) (code : Int),
      (∀ w a cap, Lies w a xs n cap → Calls Try.prog 13 #[.slice a n cap] w fun e w' => e = .returned (.tuple #[.agg #[.int .u16 (o : Int), .int .u8 ((d 0).toNat : Int), .int .u8 ((d 1).toNat : Int), .int .u8 ((d 2).toNat : Int), .int .u8 ((d 3).toNat : Int), .int .u8 ((d 4).toNat : Int), .int .u8 ((d 5).toNat : Int), .int .u8 ((s 0).toNat : Int), .int .u8 ((s 1).toNat : Int), .int .u8 ((s 2).toNat : Int), .int .u8 ((s 3).toNat : Int), .int .u8 ((s 4).toNat : Int), .int .u8 ((s 5).toNat : Int), .int .u32 (x : Int), .int .u32 (y : Int)], .int .i64 code]) ∧ Below w.heap.size w w') ∧
      (∀ w a cap, Lies w a xs n cap → Calls Try.prog 14 #[.slice a n cap] w fun e w' => e = .returned (.tuple #[.agg #[.int .u16 (o : Int), .int .u8 ((d 0).toNat : Int), .int .u8 ((d 1).toNat : Int), .int .u8 ((d 2).toNat : Int), .int .u8 ((d 3).toNat : Int), .int .u8 ((d 4).toNat : Int), .int .u8 ((d 5).toNat : Int), .int .u8 ((s 0).toNat : Int), .int .u8 ((s 1).toNat : Int), .int .u8 ((s 2).toNat : Int), .int .u8 ((s 3).toNat : Int), .int .u8 ((s 4).toNat : Int), .int .u8 ((s 5).toNat : Int), .int .u32 (x : Int), .int .u32 (y : Int)], .int .i64 code]) ∧ Below w.heap.size w w') := by
  by_cases h1 : n < 28
  · exact ⟨0, 0, 0, fun _ => 0, fun _ => 0, 10, fun w a cap _ => earead_short w a n cap h1, fun w a cap _ => rrarp_short w a n cap h1⟩
  have g1 : 28 ≤ n := by omega
  have hby : ∀ z ∈ xs.take 28, 0 ≤ z ∧ z ≤ 255 := fun z hz => hb z (List.mem_of_mem_take hz)
  have hyl : (xs.take 28).length = 28 := by rw [List.length_take]; omega
  obtain ⟨g, hg⟩ := six_of xs hb (by omega)
  obtain ⟨d, hd⟩ := six_of (xs.drop 8) (fun x hx => hb x (List.mem_of_mem_drop hx)) (by rw [List.length_drop]; omega)
  obtain ⟨s, hs⟩ := six_of (xs.drop 18) (fun x hx => hb x (List.mem_of_mem_drop hx)) (by rw [List.length_drop]; omega)
  obtain ⟨o, ho, ho2⟩ := valB_pos (xs.drop 6) (fun x hx => hb x (List.mem_of_mem_drop hx)) 2
  obtain ⟨x, hx, hx2⟩ := valB_pos (xs.drop 14) (fun x hx => hb x (List.mem_of_mem_drop hx)) 4
  obtain ⟨y, hy, hy2⟩ := valB_pos (xs.drop 24) (fun x hx => hb x (List.mem_of_mem_drop hx)) 4
  have gg : (xs.take 28).take 6 = [((g 0).toNat : Int), ((g 1).toNat : Int), ((g 2).toNat : Int), ((g 3).toNat : Int), ((g 4).toNat : Int), ((g 5).toNat : Int)] := by rw [List.take_take]; exact hg
  have gd : ((xs.take 28).drop 8).take 6 = [((d 0).toNat : Int), ((d 1).toNat : Int), ((d 2).toNat : Int), ((d 3).toNat : Int), ((d 4).toNat : Int), ((d 5).toNat : Int)] := by rw [drop_take28 xs 8 6 (by omega)]; exact hd
  have gs : ((xs.take 28).drop 18).take 6 = [((s 0).toNat : Int), ((s 1).toNat : Int), ((s 2).toNat : Int), ((s 3).toNat : Int), ((s 4).toNat : Int), ((s 5).toNat : Int)] := by rw [drop_take28 xs 18 6 (by omega)]; exact hs
  have go : valB (((xs.take 28).drop 6).take 2) = (o : Int) := by rw [drop_take28 xs 6 2 (by omega)]; exact ho
  have gx : valB (((xs.take 28).drop 14).take 4) = (x : Int) := by rw [drop_take28 xs 14 4 (by omega)]; exact hx
  have gy : valB (((xs.take 28).drop 24).take 4) = (y : Int) := by rw [drop_take28 xs 24 4 (by omega)]; exact hy
  have b6 := byte_at hb 6
  have b7 := byte_at hb 7
  have h67 : (xs.drop 6).take 2 = [xs[6]?.getD 0, xs[7]?.getD 0] := by
    rw [List.drop_eq_getElem_cons (show 6 < xs.length by omega), List.drop_eq_getElem_cons (show 6 + 1 < xs.length by omega), List.getElem?_eq_getElem (show 6 < xs.length by omega), List.getElem?_eq_getElem (show 7 < xs.length by omega)]
    rfl
  have hov : 256 * xs[6]?.getD 0 + xs[7]?.getD 0 = (o : Int) := by
    rw [← ho, h67]
    show _ = 256 * (256 * 0 + xs[6]?.getD 0) + xs[7]?.getD 0
    omega
  have h7 : xs.take 7 = xs.take 6 ++ [xs[6]?.getD 0] := by
    rw [List.take_add_one, List.getElem?_eq_getElem (show 6 < xs.length by omega)]; rfl
  have hgiff : ([g 0, g 1, g 2, g 3, g 4, g 5] == [0, 1, 8, 0, 6, 4]) = decide (xs.take 6 = [0, 1, 8, 0, 6, 4]) := by
    rw [hg, Bool.eq_iff_iff]
    simp only [beq_iff_eq, decide_eq_true_eq, List.cons.injEq, ← UInt8.toNat_inj]
    constructor
    · rintro ⟨q0, q1, q2, q3, q4, q5, _⟩
      rw [q0, q1, q2, q3, q4, q5]
      decide
    · rintro ⟨q0, q1, q2, q3, q4, q5, _⟩
      refine ⟨?_, ?_, ?_, ?_, ?_, ?_, trivial⟩ <;> (simp; omega)
  by_cases hbg : xs.take 6 = [0, 1, 8, 0, 6, 4]
  · rw [decide_eq_true hbg] at hgiff
    by_cases hop : o = 1 ∨ o = 2
    · refine ⟨o, x, y, d, s, 0, fun w a cap hL => earead_ok w a xs _ n cap o x y g d s hL.row hl g1 hL.le hL.max rfl hby gg go (by omega) hgiff hop gd gx gs gy (by omega) (by omega),
        fun w a cap hL => rrarp_ok w a xs n cap o x y d s hL.row hl g1 hn5 hL.le hL.max hb ?_ (by omega) hop hd hx hs hy (by omega) (by omega)⟩
      rw [h7, hbg, show xs[6]?.getD 0 = 0 by omega]
      rfl
    · refine ⟨0, 0, 0, fun _ => 0, fun _ => 0, 11, fun w a cap hL => earead_formop w a xs _ n cap o x y g d s hL.row hl g1 hL.le hL.max rfl hby gg go (by omega) hgiff hop, fun w a cap hL => ?_⟩
      by_cases h6 : xs[6]?.getD 0 = 0
      · exact rrarp_formb w a xs n cap hL.row hl g1 hL.le hb (by rw [h7, hbg, h6]; rfl) (by omega) (by omega)
      · refine rrarp_forma w a xs n cap hL.row hl g1 hL.le hb (fun e => h6 ?_)
        rw [h7, hbg] at e
        simpa using e
  · rw [decide_eq_false hbg] at hgiff
    refine ⟨0, 0, 0, fun _ => 0, fun _ => 0, 11, fun w a cap hL => earead_formbg w a xs _ n cap o x y g d s hL.row hl g1 hL.le hL.max rfl hby gg go (by omega) hgiff, fun w a cap hL => rrarp_forma w a xs n cap hL.row hl g1 hL.le hb (fun e => hbg ?_)⟩
    have e2 := congrArg (List.take 6) e
    rw [List.take_take] at e2
    exact e2
end Go.Proofs.Ytgpmgfpmfdaecaa
