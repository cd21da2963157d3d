/- That the reader of frames and the document's answer alike, as one fact. -/
import Derived.Test.YtgpmgfpmfdaecaaRReadO
import Derived.Test.YtgpmgfpmfdaecaaEReadF
import Derived.Test.YtgpmgfpmfdaecaaERead
import Derived.Test.YtgpmgfpmfdaecaaESame
import Derived.Test.YtgpmgfpmfdaecaaEWrite
import Derived.Test.YtgpmgfpmfdaecaaPlainNums
namespace Go.Proofs.Ytgpmgfpmfdaecaa
open Go.RowKit
set_option linter.unusedVariables false
set_option linter.unusedSimpArgs false
set_option maxRecDepth 100000
def FrAns (d s : Nat → UInt8) (k : Nat) (code : Int) (ds : List Int) (m : Nat) (w : World) (e : Ending) (w' : World) : Prop :=
  ∃ a1 c1, e = .returned (.tuple #[.agg #[.int .u8 ((d 0).toNat : Int), .int .u8 ((d 1).toNat : Int), .int .u8 ((d 2).toNat : Int), .int .u8 ((d 3).toNat : Int), .int .u8 ((d 4).toNat : Int), .int .u8 ((d 5).toNat : Int), .int .u8 ((s 0).toNat : Int), .int .u8 ((s 1).toNat : Int), .int .u8 ((s 2).toNat : Int), .int .u8 ((s 3).toNat : Int), .int .u8 ((s 4).toNat : Int), .int .u8 ((s 5).toNat : Int), .int .u16 (k : Int), .slice a1 m c1], .int .i64 code]) ∧ w'.ownsRow w.heap.size 5 1 (.slice a1 m c1) m (ds.map (Value.int .u8)) ∧ Below w.heap.size w w'
structure Lies (w : World) (a : Option Addr) (xs : List Int) (n cap : Nat) : Prop where
  row : Row .u8 w a xs
  no : a = none → cap = 0
  le : n ≤ cap
  max : cap ≤ 9223372036854775807
theorem Lies.of_owns {w : World} {base : Nat} {g : Option Addr} {xs : List Int} {n c : Nat} (h : w.ownsRow base 5 1 (.slice g n c) n (xs.map (Value.int .u8))) : Lies w g xs n c := by
  refine ⟨Row.of_owns h, ?_, ?_, ?_⟩ <;> rcases h.2 with ⟨h1, h0⟩ | ⟨G, c', cur, hv, hg, hh, hnc, hcm, _⟩
  · simp at h1; intro _; omega
  · obtain ⟨rfl, rfl⟩ : g = some ⟨G, 0, none⟩ ∧ c = c' := by simpa using hv
    intro h; cases h
  · simp at h1; omega
  · obtain ⟨rfl, rfl⟩ : g = some ⟨G, 0, none⟩ ∧ c = c' := by simpa using hv
    exact hnc
  · simp at h1; omega
  · obtain ⟨rfl, rfl⟩ : g = some ⟨G, 0, none⟩ ∧ c = c' := by simpa using hv
    unfold maxLen at hcm; omega
theorem Lies.below {w w' : World} {a : Option Addr} {xs : List Int} {n cap B : Nat} (h : Lies w a xs n cap) (hb : Below B w w') (hB : w.heap.size ≤ B) : Lies w' a xs n cap := ⟨h.row.below hb hB, h.no, h.le, h.max⟩
theorem u8_of (x : Int) (h : 0 ≤ x ∧ x ≤ 255) : ((UInt8.ofNat x.toNat).toNat : Int) = x := by simp; omega
theorem six_of : ∀ (xs : List Int), (∀ x ∈ xs, 0 ≤ x ∧ x ≤ 255) → 6 ≤ xs.length → ∃ d : Nat → UInt8, xs.take 6 = [((d 0).toNat : Int), ((d 1).toNat : Int), ((d 2).toNat : Int), ((d 3).toNat : Int), ((d 4).toNat : Int), ((d 5).toNat : Int)]
  | x0 :: x1 :: x2 :: x3 :: x4 :: x5 :: r, h, _ => by
    refine ⟨fun i => UInt8.ofNat (([x0, x1, x2, x3, x4, x5] : List Int).getD i 0).toNat, ?_⟩
    show [x0, x1, x2, x3, x4, x5] = _
    have h0 := u8_of x0 (h _ (by simp))
    have h1 := u8_of x1 (h _ (by simp))
    have h2 := u8_of x2 (h _ (by simp))
    have h3 := u8_of x3 (h _ (by simp))
    have h4 := u8_of x4 (h _ (by simp))
    have h5 := u8_of x5 (h _ (by simp))
    show _ = [((UInt8.ofNat x0.toNat).toNat : Int), ((UInt8.ofNat x1.toNat).toNat : Int), ((UInt8.ofNat x2.toNat).toNat : Int), ((UInt8.ofNat x3.toNat).toNat : Int), ((UInt8.ofNat x4.toNat).toNat : Int), ((UInt8.ofNat x5.toNat).toNat : Int)]
    rw [h0, h1, h2, h3, h4, h5]
  | [], _, h | [_], _, h | [_, _], _, h | [_, _, _], _, h | [_, _, _, _], _, h | [_, _, _, _, _], _, h => by simp at h
theorem numB2k (v : Nat) (h : v ≤ 65535) : numB 2 v = [((v / 256 : Nat) : Int), ((v % 256 : Nat) : Int)] := by
  simp [numB, byteAt, List.range_succ]; omega
theorem frame_pair (xs : List Int) (n : Nat) (hl : xs.length = n) (hb : ∀ x ∈ xs, 0 ≤ x ∧ x ≤ 255) :
    ∃ (d s : Nat → UInt8) (k : Nat) (code : Int) (ds : List Int) (m : Nat), ds.length = m ∧ (∀ x ∈ ds, 0 ≤ x ∧ x ≤ 255) ∧
      (∀ w a cap, Lies w a xs n cap → Calls Try.prog 7 #[.slice a n cap] w (FrAns d s k code ds m w)) ∧
      (∀ w a cap, Lies w a xs n cap → Calls Try.prog 8 #[.slice a n cap] w (FrAns d s k code ds m w)) ∧
      (code ≠ 0 ∨ (code = 0 ∧ 1536 ≤ k ∧ k ≤ 65535 ∧ m ≤ 1500 ∧ 14 + m = n ∧ frameB ((d 0).toNat : Int) ((d 1).toNat : Int) ((d 2).toNat : Int) ((d 3).toNat : Int) ((d 4).toNat : Int) ((d 5).toNat : Int) ((s 0).toNat : Int) ((s 1).toNat : Int) ((s 2).toNat : Int) ((s 3).toNat : Int) ((s 4).toNat : Int) ((s 5).toNat : Int) k ds = xs)) := by
  have hz : ∀ (code : Int) (w : World) (e : Ending) (w' : World), e = .returned (.tuple #[.agg #[.int .u8 0, .int .u8 0, .int .u8 0, .int .u8 0, .int .u8 0, .int .u8 0, .int .u8 0, .int .u8 0, .int .u8 0, .int .u8 0, .int .u8 0, .int .u8 0, .int .u16 0, .slice none 0 0], .int .i64 code]) ∧ Below w.heap.size w w' → FrAns (fun _ => 0) (fun _ => 0) 0 code [] 0 w e w' :=
    fun code w e w' ⟨h1, h2⟩ => ⟨none, 0, h1, World.ownsRow_nil w' _ _ 1, h2⟩
  by_cases h1 : n < 14
  · exact ⟨_, _, 0, 10, [], 0, rfl, by simp, fun w a cap _ => (eread_short w a n cap h1).mono (hz 10 w), fun w a cap _ => (rread_short w a n cap h1).mono (hz 10 w), .inl (by decide)⟩
  by_cases h2 : 1514 < n
  · exact ⟨_, _, 0, 14, [], 0, rfl, by simp, fun w a cap _ => (eread_long w a n cap h2).mono (hz 14 w), fun w a cap _ => (rread_long w a n cap h2).mono (hz 14 w), .inl (by decide)⟩
  have g1 : 14 ≤ n := by omega
  have g2 : n ≤ 1514 := by omega
  obtain ⟨d, hd⟩ := six_of xs hb (by omega)
  obtain ⟨s, hs⟩ := six_of (xs.drop 6) (fun x hx => hb x (List.mem_of_mem_drop hx)) (by rw [List.length_drop]; omega)
  have b12 := byte_at hb 12
  have b13 := byte_at hb 13
  obtain ⟨k, hk⟩ : ∃ k : Nat, 256 * xs[12]?.getD 0 + xs[13]?.getD 0 = (k : Int) := Int.eq_ofNat_of_zero_le (by omega)
  have h12 : (xs.drop 12).take 2 = [xs[12]?.getD 0, xs[13]?.getD 0] := by
    rw [List.drop_eq_getElem_cons (show 12 < xs.length by omega), List.drop_eq_getElem_cons (show 12 + 1 < xs.length by omega), List.getElem?_eq_getElem (show 12 < xs.length by omega), List.getElem?_eq_getElem (show 13 < xs.length by omega)]
    rfl
  have hv : valB ((xs.drop 12).take 2) = (k : Int) := by
    rw [h12, ← hk]
    show 256 * (256 * 0 + xs[12]?.getD 0) + xs[13]?.getD 0 = _
    omega
  have hk2 : k ≤ 65535 := by omega
  by_cases h3 : k < 1536
  · refine ⟨_, _, 0, 11, [], 0, rfl, by simp, fun w a cap hL => (eread_form w a xs n cap d s k hL.row hl g1 g2 hb hd hs hv h3).mono (hz 11 w), fun w a cap hL => ?_, .inl (by decide)⟩
    obtain ⟨b, off, rfl, hbl, hc⟩ := hL.row.at (i := 0) (by omega)
    exact (rread_form w b off _ _ n cap g1 g2 hbl (hc 12 (by omega)) (hc 13 (by omega)) b12 b13 (by omega)).mono (hz 11 w)
  · refine ⟨d, s, k, 0, xs.drop 14, n - 14, by rw [List.length_drop, hl], fun x hx => hb x (List.mem_of_mem_drop hx),
      fun w a cap hL => (eread_main w a xs n cap d s k hL.row hl g1 g2 hb hd hs hv (by omega) hk2).mono fun e w' ⟨a1, c1, k1, k2, k3⟩ => ⟨a1, c1, k1, k2, k3⟩,
      fun w a cap hL => (rread_ok w a xs n cap d s k hL.row hl g1 g2 hb hL.le hd hs hk (by omega) hk2).mono fun e w' ⟨a1, c1, k1, k2, k3⟩ => ⟨a1, c1, k1, k2, k3⟩, .inr ⟨rfl, by omega, hk2, by omega, by omega, ?_⟩⟩
    unfold frameB
    rw [← hd, ← hs, numB2k k hk2]
    have e1 : ((k / 256 : Nat) : Int) = xs[12]?.getD 0 := by omega
    have e2 : ((k % 256 : Nat) : Int) = xs[13]?.getD 0 := by omega
    rw [e1, e2, ← h12]
    have t1 : xs = xs.take 6 ++ xs.drop 6 := (List.take_append_drop 6 xs).symm
    have t2 : xs.drop 6 = (xs.drop 6).take 6 ++ xs.drop 12 := by rw [← List.drop_drop (i := 6) (j := 6)]; exact (List.take_append_drop 6 _).symm
    have t3 : xs.drop 12 = (xs.drop 12).take 2 ++ xs.drop 14 := by rw [← List.drop_drop (i := 2) (j := 12)]; exact (List.take_append_drop 2 _).symm
    rw [List.append_assoc, List.append_assoc, ← t3, ← t2, ← t1]
end Go.Proofs.Ytgpmgfpmfdaecaa
