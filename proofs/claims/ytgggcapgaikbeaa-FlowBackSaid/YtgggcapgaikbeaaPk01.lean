/- Plain facts on numbers and lists of bytes that the walks of this seat use; no program is named. -/
import Derived.WalkKit
import Derived.Deep.QuietTactic
import Derived.BigQuiet
import Derived.Test.YtgggcapgaikbeaaRows
import Derived.Lib.AppendZerosOnto
import Derived.Laws.AppendOwnNone
import Derived.Laws.CopyOwn
import Derived.Deep.RegionWith
import Derived.Deep.RegionLaw
import Derived.Lib.SliceRun
namespace Go.Proofs.Ytgggcapgaikbeaa
open Go.RowKit

/-- A fact kept from the walk. -/
theorem hide {p : Prop} (h : p) : Hid p := h

/-- A size within its bounds. -/
def sz (s : Int) : Nat := (min (max s 0) 8).toNat
theorem sz_le (s : Int) : sz s ≤ 8 := by unfold sz; omega

/-- The byte of n of weight i. -/
def byteAt (n i : Nat) : Int := ((n / 256 ^ i % 256 : Nat) : Int)
theorem byteAt_rng (n i : Nat) : 0 ≤ byteAt n i ∧ byteAt n i ≤ 255 := by
  unfold byteAt; have := Nat.mod_lt (n / 256 ^ i) (show 0 < 256 by decide); omega
/-- L bytes, of which the last k are n's. -/
def partB (L k n : Nat) : List Int := (List.range L).map fun j => if L - k ≤ j then byteAt n (L - 1 - j) else 0
def numB (L n : Nat) : List Int := (List.range L).map fun j => byteAt n (L - 1 - j)
theorem partB_len (L k n : Nat) : (partB L k n).length = L := by simp [partB]
theorem numB_len (L n : Nat) : (numB L n).length = L := by simp [numB]
theorem partB_zero (L n : Nat) : partB L 0 n = List.replicate L 0 := by
  apply List.ext_getElem (by simp [partB])
  intro i h1 h2
  simp [partB] at h1 ⊢
  intro h; omega
theorem partB_full (L n : Nat) : partB L L n = numB L n := by
  simp [partB, numB]
theorem partB_set (L k n : Nat) (hk : k < L) : (partB L k n).set (L - 1 - k) (byteAt n k) = partB L (k + 1) n := by
  apply List.ext_getElem (by simp [partB])
  intro i h1 h2
  simp only [List.getElem_set, partB, List.getElem_map, List.getElem_range]
  simp [partB] at h1
  by_cases e : L - 1 - k = i
  · rw [if_pos e, if_pos (by omega)]; congr 1; omega
  · rw [if_neg e]
    by_cases f : L - k ≤ i
    · rw [if_pos f, if_pos (by omega)]
    · rw [if_neg f, if_neg (by omega)]
theorem numB_rng (L n : Nat) : ∀ x ∈ numB L n, 0 ≤ x ∧ x ≤ 255 := by
  intro x hx; simp [numB] at hx; obtain ⟨j, _, rfl⟩ := hx; exact byteAt_rng _ _

/-- A slice whose elements can be read: xs. -/
def Row (k : IntKind) (w : World) (a : Option Addr) (xs : List Int) : Prop :=
  xs ≠ [] → ∃ b off, a = some ⟨b, off, none⟩ ∧ b < w.heap.size ∧ ∀ i, i < xs.length → w.cell? ⟨b, off + i, none⟩ = some (.int k (xs[i]?.getD 0))

theorem Row.at {k : IntKind} {w : World} {a : Option Addr} {xs : List Int} (h : Row k w a xs) {i : Nat} (hi : i < xs.length) :
    ∃ b off, a = some ⟨b, off, none⟩ ∧ b < w.heap.size ∧ ∀ i, i < xs.length → w.cell? ⟨b, off + i, none⟩ = some (.int k (xs[i]?.getD 0)) :=
  h (by intro e; subst e; simp at hi)

theorem Row.below {k : IntKind} {w w' : World} {a : Option Addr} {xs : List Int} {B : Nat} (h : Row k w a xs) (hb : Below B w w') (hB : w.heap.size ≤ B) : Row k w' a xs := by
  intro hne
  obtain ⟨b, off, rfl, hlt, hc⟩ := h hne
  exact ⟨b, off, rfl, Nat.lt_of_lt_of_le hlt hb.size, fun i hi => (hb.cell (p := ⟨b, off + i, none⟩) (show b < B by omega)).trans (hc i hi)⟩

theorem Row.of_owns {k : IntKind} {w : World} {base : Nat} {e : TypeId} {a : Option Addr} {n cap : Nat} {xs : List Int}
    (h : w.ownsRow base e 1 (.slice a n cap) n (xs.map (Value.int k))) : Row k w a xs := by
  intro hne
  have hl := h.1
  rcases h.2 with ⟨hv, hn⟩ | ⟨g, cap', cur, hv, hg, hh, r⟩
  · exact absurd (List.length_eq_zero_iff.1 (by simpa [hn] using hl)) hne
  · have h2 := h
    obtain ⟨rfl, rfl⟩ : a = some ⟨g, 0, none⟩ ∧ cap = cap' := by simpa using hv
    refine ⟨g, 0, rfl, (Array.getElem?_eq_some_iff.1 hh).1, fun i hi => ?_⟩
    have hl' : xs.length = n := by simpa using hl
    rw [show 0 + i = i from by omega, h.cellAt i (by omega)]
    simp [List.getElem?_map, List.getElem?_eq_getElem hi]

theorem owns_mono {w : World} {base base' : Nat} {e : TypeId} {size : Nat} {v : Value} {n : Nat} {xs : List Value} (h : w.ownsRow base e size v n xs) (hb : base' ≤ base) : w.ownsRow base' e size v n xs := by
  refine ⟨h.1, ?_⟩
  rcases h.2 with h | ⟨g, cap, cur, hv, hg, r⟩
  · exact .inl h
  · exact .inr ⟨g, cap, cur, hv, Nat.le_trans hb hg, r⟩

theorem new_cell (w : World) (v : Value) (t : TypeId) : ∀ j u, [v][j]? = some u → (w.alloc (.cells #[v] t)).cell? ((⟨w.heap.size, 0, none⟩ : Addr).add j) = some u := by
  intro j u hj
  match j, hj with
  | 0, hj =>
    simp at hj; subst hj
    rw [Addr.add_lit, World.cell?_alloc_at _ _ _ _ (by simp)]; rfl
theorem one_int (k : IntKind) (n : Int) : ∀ u ∈ [Value.int k n], u.oneCell' = true := by
  intro u hu; simp at hu; subst hu; rfl
theorem slice_form {w : World} {base : Nat} {e : TypeId} {size : Nat} {v : Value} {n : Nat} {xs : List Value} (h : w.ownsRow base e size v n xs) : ∃ a c, v = .slice a n c := by
  rcases h.2 with ⟨h, h2⟩ | ⟨g, c, cur, h, _⟩
  · rw [h2]; exact ⟨_, _, h⟩
  · exact ⟨_, _, h⟩

theorem bdrewN {B : Nat} {a w : World} (h : Below B a w) (n : Nat) : Below B a (w.drewN n) := h.trans ⟨rfl, rfl, rfl, Nat.le_refl _, fun _ _ => rfl⟩
theorem ne_false {a b : Int} (h : a = b) : (a != b) = false := by simp [h]
theorem ne_true {a b : Int} (h : a ≠ b) : (a != b) = true := by simp [h]

theorem owns_below {w w' : World} {base B : Nat} {e : TypeId} {size : Nat} {v : Value} {n : Nat} {xs : List Value} (h : w.ownsRow base e size v n xs) (hb : Below B w w') (hB : w.heap.size ≤ B) : w'.ownsRow base e size v n xs := by
  refine ⟨h.1, ?_⟩
  rcases h.2 with h | ⟨g, cap, cur, hv, hg, hh, r⟩
  · exact .inl h
  · exact .inr ⟨g, cap, cur, hv, hg, (hb.block g (Nat.lt_of_lt_of_le (lt_of_block hh) hB)).trans hh, r⟩

/-- The number of some bytes, the greatest weight first. -/
def valB (xs : List Int) : Int := xs.foldl (fun a x => 256 * a + x) 0
theorem valB_snoc (xs : List Int) (k : Nat) (hk : k < xs.length) : valB (xs.take (k + 1)) = 256 * valB (xs.take k) + xs[k]?.getD 0 := by
  rw [List.take_add_one, List.getElem?_eq_getElem hk, valB, List.foldl_append]
  simp [valB]
theorem valB_rng (xs : List Int) (h : ∀ x ∈ xs, 0 ≤ x ∧ x ≤ 255) (k : Nat) : 0 ≤ valB (xs.take k) ∧ valB (xs.take k) < 256 ^ k := by
  induction k with
  | zero => simp [valB]
  | succ k ih =>
    rcases Nat.lt_or_ge k xs.length with hk | hk
    · rw [valB_snoc xs k hk, Int.pow_succ, List.getElem?_eq_getElem hk]
      have := h _ (List.getElem_mem hk)
      simp only [Option.getD_some]
      omega
    · rw [List.take_of_length_le (by omega), ← List.take_of_length_le hk, Int.pow_succ]
      omega
theorem wraps_u64 (n : Int) (h₀ : 0 ≤ n) (h₁ : n < 2 ^ 64) : IntKind.u64.wrap n = n := by rw [IntKind.wrap_u64]; omega
theorem or64 (x y : Int) (h1 : 0 ≤ x) (h2 : x ≤ 72057594037927935) (h3 : 0 ≤ y) (h4 : y ≤ 255) : bits .or .u64 (x * 256) y = 256 * x + y := by
  rw [bits_join .u64 64 (by decide) wraps_u64 8 _ _ (by omega) (by omega) (by omega) (by omega) (by omega) (by omega)]; omega

theorem madeZeros (k : IntKind) (n : Nat) : (madeCells #[Value.int k 0] n).toList = (List.replicate n 0).map (Value.int k) := by
  apply List.ext_getElem (by simp [madeCells])
  intro i h1 h2
  simp [madeCells, Nat.mod_one]

/-- The numbers of two bytes each. -/
def prs (xs : List Int) : List Int := (List.range ((xs.length + 1) / 2)).map fun k => 256 * xs[2 * k]?.getD 0 + xs[2 * k + 1]?.getD 0
theorem prs_len (xs : List Int) : (prs xs).length = (xs.length + 1) / 2 := by simp [prs]
theorem prs_take (xs : List Int) (k : Nat) (hk : 2 * k < xs.length) : (prs xs).take (k + 1) = (prs xs).take k ++ [256 * xs[2 * k]?.getD 0 + xs[2 * k + 1]?.getD 0] := by
  have h : k < (prs xs).length := by rw [prs_len]; omega
  rw [List.take_add_one, List.getElem?_eq_getElem h]
  simp [prs]

theorem wraps_u16 (n : Int) (h₀ : 0 ≤ n) (h₁ : n < 2 ^ 16) : IntKind.u16.wrap n = n := by rw [IntKind.wrap_u16]; omega
theorem or16 (x y : Int) (h1 : 0 ≤ x) (h2 : x ≤ 255) (h3 : 0 ≤ y) (h4 : y ≤ 255) : bits .or .u16 (x * 256) y = 256 * x + y := by
  rw [bits_join .u16 16 (by decide) wraps_u16 8 _ _ (by omega) (by omega) (by omega) (by omega) (by omega) (by omega)]; omega

theorem byte_at {xs : List Int} (h : ∀ x ∈ xs, 0 ≤ x ∧ x ≤ 255) (i : Nat) : 0 ≤ xs[i]?.getD 0 ∧ xs[i]?.getD 0 ≤ 255 := by
  rcases Nat.lt_or_ge i xs.length with hi | hi
  · rw [List.getElem?_eq_getElem hi]; exact h _ (List.getElem_mem hi)
  · rw [List.getElem?_eq_none hi]; simp

theorem div_step (n k : Nat) : (n : Int) / 256 ^ k / 256 = ((n / 256 ^ (k + 1) : Nat) : Int) := by
  rw [Nat.pow_succ, ← Nat.div_div_eq_div_mul]
  simp

end Go.Proofs.Ytgggcapgaikbeaa

/- What octet.Num and its helper answer: the bytes of a number, the greatest weight first, in new memory. -/
namespace Go.Proofs.Ytgggcapgaikbeaa
open Go.RowKit
set_option linter.unusedVariables false
set_option linter.unusedSimpArgs false
theorem Try.info5 : (Try.prog.info? 5).map (fun i => (i.zero, i.size, i.bytes)) = some (some (.int .u8 0), 1, 1) := by kernel_rfl

theorem bounded_any (n : Int) (w : World) :
    Calls Try.prog 94 #[.int .i64 n] w fun e w' => e = .returned (.int .i64 (sz n : Nat)) ∧ w = w' := by
  have e : ((sz n : Nat) : Int) = (if (if n < 0 then 0 else n) ≤ 8 then (if n < 0 then 0 else n) else 8) := by unfold sz; split <;> split <;> omega
  rw [e]; clear e
  by_cases h : n < 0
  · go_enter Try.func94, Try.ntmps94
    go_wp2
    go_ret
    simp [h]
  · by_cases h8 : n ≤ 8
    · go_enter Try.func94, Try.ntmps94
      go_wp2
      go_ret
      simp [h, h8]
    · go_enter Try.func94, Try.ntmps94
      go_wp2
      go_ret
      simp [h, h8]

set_option maxHeartbeats 400000 in
theorem num_aux (s : Int) (L : Nat) (n : Nat) (w : World) (hn : n < 18446744073709551616) (hs8 : L ≤ 8)
    (hb : Hid (∀ w, Calls Try.prog 94 #[.int .i64 s] w fun e w' => e = .returned (.int .i64 (L : Nat)) ∧ w = w')) :
    Calls Try.prog 74 #[.int .i64 s, .int .u64 n] w fun e w' => e = .returned (.slice (some ⟨w.heap.size, 0, none⟩) L L) ∧
      w'.ownsRow w.heap.size 5 1 (.slice (some ⟨w.heap.size, 0, none⟩) L L) L ((numB L n).map (Value.int .u8)) ∧ Below w.heap.size w w' := by
  obtain ⟨i0, hi, hz0, hz1, hz2⟩ := info_parts Try.info5
  go_enter Try.func74, Try.ntmps74
  go_wp2_with (first
    | (go_at_call 94; refine (hb.out _).mono ?_; rintro e w' ⟨rfl, rfl⟩)
    | (at_make; refine wpList_make_full _ rfl _ _ 25 rfl w.heap.size 5 i0 (.int .u8 0) 1 Try.underlying25 hi hz0 hz1 .i64 .i64 _ _ L rfl rfl rfl rfl (by rw [hz2]; omega) (by unfold maxLen; omega) (Nat.le_refl _) ?_))
  intro w1 hown hgrow
  have hbel : Below w.heap.size w w1 := (Below.refl _ _).grown hgrow (Nat.le_refl _) (fun k h => by cases h)
  rw [madeZeros, ← partB_zero L n] at hown
  clear hgrow
  go_wp2
  go_loopw [1, 12] (fun nn i wr => ∃ k : Nat, k ≤ L ∧ i = .int .i64 k ∧ nn = .int .u64 ((n / 256 ^ k : Nat) : Int) ∧
      wr.ownsRow w.heap.size 5 1 (.slice (some ⟨w.heap.size, 0, none⟩) L L) L ((partB L k n).map (Value.int .u8)) ∧ Below w.heap.size w wr)
    (fun _ i _ => L - (intOf i).toNat)
  case atStart => exact ⟨0, Nat.zero_le _, rfl, by simp, hown, hbel⟩
  case round =>
    clear hown hbel
    obtain ⟨k, hk, rfl, rfl, hown, hbel⟩ := hrel
    by_cases hlt : k < L
    · have hc : wr.cell? ⟨w.heap.size, L - 1 - k, none⟩ = some (.int .u8 ((partB L k n)[L - 1 - k]?.getD 0)) := by
        rw [hown.cellAt _ (by omega)]
        simp [partB_len, List.getElem?_map, List.getElem?_eq_getElem (show L - 1 - k < (partB L k n).length by rw [partB_len]; omega)]
      have hf := hown.frozenAt (L - 1 - k)
      go_wp2
      go_roundw
      case rel =>
        have e : (Value.int IntKind.u8 ((n : Int) / 256 ^ k % 256)) = .int .u8 (byteAt n k) := by unfold byteAt; congr 1
        refine ⟨k + 1, by omega, by go_num, ?_, ?_, hbel.setCell (Nat.le_refl _) _⟩
        · rw [div_step]
        · have h := (hown.stored (L - 1 - k) (.int .u8 (byteAt n k))).1
          rw [← List.map_set, partB_set L k n hlt] at h
          rw [e]; exact h
      case measure => simp [intOf]; omega
    · obtain rfl : k = L := by omega
      go_wp2
      go_ret
      rw [partB_full] at hown
      exact ⟨rfl, hown, hbel⟩

theorem num_any (s : Int) (n : Nat) (w : World) (hn : n < 18446744073709551616) :
    Calls Try.prog 74 #[.int .i64 s, .int .u64 n] w fun e w' => e = .returned (.slice (some ⟨w.heap.size, 0, none⟩) (sz s) (sz s)) ∧
      w'.ownsRow w.heap.size 5 1 (.slice (some ⟨w.heap.size, 0, none⟩) (sz s) (sz s)) (sz s) ((numB (sz s) n).map (Value.int .u8)) ∧ Below w.heap.size w w' :=
  num_aux s (sz s) n w hn (sz_le s) (fun w => bounded_any s w)
end Go.Proofs.Ytgggcapgaikbeaa

/- What slices.Grow, slices.Concat and octet.Join answer: the texts one behind the other, in new memory. -/
namespace Go.Proofs.Ytgggcapgaikbeaa
open Go.RowKit
set_option linter.unusedVariables false
set_option linter.unusedSimpArgs false
set_option maxRecDepth 100000
theorem grow_any (n : Nat) (w : World) (hn : n ≤ 1099511627776) :
    Calls Try.prog 101 #[.slice none 0 0, .int .i64 n] w fun e w' => ∃ v, e = .returned v ∧ w'.ownsRow w.heap.size 5 1 v 0 [] ∧ Below w.heap.size w w' := by
  obtain ⟨i0, hi, hz0, hz1, hz2⟩ := info_parts Try.info5
  by_cases h0 : 0 < n
  · have h1 : ¬ ((n : Int) < 0) := by omega
    have hrz := fun ty => Lib.run_append_nil_zeros (P := Try.prog) w 25 3 ty 5 i0 (.int .u8 0) .i64 .i64 Try.underlying25 Try.underlying3 hi hz0 n h0 (by omega) (by omega) (by rw [hz2]; omega)
    obtain ⟨G, hG⟩ : ∃ G, G = grownCap w n 0 5 := ⟨_, rfl⟩
    have hGn : n ≤ G := by have := grownCap_ge w n 0 5; omega
    have hG63 : G ≤ maxLen := by rw [hG]; exact grownCap_le_maxLen w n 0 5 (by unfold maxLen; omega)
    rw [← hG] at hrz
    have hown := World.ownsRow_made (base := w.heap.size) (e := 5) (size := 1) w.drew (Builtin.zeroCells #[.int .u8 0] n ++ Builtin.zeroCells #[.int .u8 0] (G - n)) G (Nat.le_refl _) hG63 (by
      simp [size_zeroCells]; omega)
    have HO := hide hown
    have HR := hide hrz
    clear hown hrz hG
    have hG : G ≤ 9223372036854775807 := by unfold maxLen at hG63; omega
    clear hG63
    have hbel : Below w.heap.size w (w.drew.alloc (.cells (Builtin.zeroCells #[.int .u8 0] n ++ Builtin.zeroCells #[.int .u8 0] (G - n)) 5)) := ((Below.refl _ w).drew).alloc (Nat.le_refl _) _
    have HB := hide hbel
    clear hbel
    go_enter Try.func101, Try.ntmps101
    go_wp2_with (at_builtin; refine Lib.wpList_append_run _ rfl _ _ _ _ rfl _ _ rfl rfl _ _ (HR.out _) ?_)
    go_ret
    exact ⟨_, rfl, HO.out, HB.out⟩
  · obtain rfl : n = 0 := by omega
    go_enter Try.func101, Try.ntmps101
    go_wp2
    go_ret
    exact ⟨_, rfl, World.ownsRow_nil _ _ _ _, Below.refl _ _⟩

/-- One of several slices of bytes: where it lies, its bytes, its capacity. -/
abbrev Part := Option Addr × List Int × Nat
def Part.v (p : Part) : Value := .slice p.1 p.2.1.length p.2.2
/-- A slice of slices of bytes that can be read. -/
structure Parts (w : World) (a : Option Addr) (L : List Part) : Prop where
  cells : L ≠ [] → ∃ b off, a = some ⟨b, off, none⟩ ∧ b < w.heap.size ∧ ∀ i p, L[i]? = some p → w.cell? ⟨b, off + i, none⟩ = some (Part.v p)
  rows : ∀ p ∈ L, Row .u8 w p.1 p.2.1 ∧ (p.1 = none → p.2.2 = 0)
def flat (L : List Part) : List Int := L.flatMap (·.2.1)
theorem flat_snoc (L : List Part) (k : Nat) (p : Part) (h : L[k]? = some p) : flat (L.take (k + 1)) = flat (L.take k) ++ p.2.1 := by
  have hk : k < L.length := (List.getElem?_eq_some_iff.1 h).1
  rw [List.take_add_one, h]
  simp [flat]
theorem flat_le (L : List Part) (k : Nat) : (flat (L.take k)).length ≤ (flat L).length := by
  have h : flat L = flat (L.take k) ++ flat (L.drop k) := by
    unfold flat
    rw [← List.flatMap_append, List.take_append_drop]
  rw [h]; simp
theorem Parts.below {w w' : World} {a : Option Addr} {L : List Part} {B : Nat} (h : Parts w a L) (hb : Below B w w') (hB : w.heap.size ≤ B) : Parts w' a L := by
  refine ⟨fun hne => ?_, fun p hp => ⟨(h.rows p hp).1.below hb hB, (h.rows p hp).2⟩⟩
  obtain ⟨b, off, rfl, hlt, hc⟩ := h.cells hne
  exact ⟨b, off, rfl, Nat.lt_of_lt_of_le hlt hb.size, fun i p hi => (hb.cell (p := ⟨b, off + i, none⟩) (show b < B by omega)).trans (hc i p hi)⟩
theorem row_none {k : IntKind} {w : World} {xs : List Int} (h : Row k w none xs) : xs = [] := by
  cases xs with
  | nil => rfl
  | cons x r => obtain ⟨b, off, h, _⟩ := h (by simp); cases h

theorem row_cells {k : IntKind} {w : World} {ad : Addr} {xs : List Int} (h : Row k w (some ad) xs) : ∀ j u, (xs.map (Value.int k))[j]? = some u → w.cell? (ad.add j) = some u := by
  intro j u hj
  have hj2 : j < xs.length := by
    rcases Nat.lt_or_ge j xs.length with h | h
    · exact h
    · simp [List.getElem?_eq_none h] at hj
  obtain ⟨b, off, e, hlt, hc⟩ := h.at hj2
  cases e
  rw [Addr.add_lit, hc j hj2]
  simpa [List.getElem?_map, List.getElem?_eq_getElem hj2] using hj
theorem ints_one (k : IntKind) (xs : List Int) : ∀ u ∈ xs.map (Value.int k), u.oneCell' = true := by intro u hu; simp at hu; obtain ⟨x, _, rfl⟩ := hu; rfl

set_option maxHeartbeats 800000 in
theorem concat_any (a : Option Addr) (L : List Part) (cap : Nat) (w : World) (hp : Parts w a L) (hlen : (flat L).length ≤ 1099511627776) (hL : L.length ≤ 1099511627776) :
    Calls Try.prog 95 #[.slice a L.length cap] w fun e w' => ∃ a' c', e = .returned (.slice a' (flat L).length c') ∧
      w'.ownsRow w.heap.size 5 1 (.slice a' (flat L).length c') (flat L).length ((flat L).map (Value.int .u8)) ∧ Below w.heap.size w w' := by
  obtain ⟨i0, hi, hz0, hz1, hz2⟩ := info_parts Try.info5
  have HPT := hide hp
  clear hp
  go_enter Try.func95, Try.ntmps95
  go_wp2
  go_loop [3, 11] (fun s i => ∃ k : Nat, k ≤ L.length ∧ i = .int .i64 k ∧ s = .int .i64 ((flat (L.take k)).length : Nat)) (fun _ i => L.length - (intOf i).toNat)
  case atStart => exact ⟨0, Nat.zero_le _, rfl, rfl⟩
  case round =>
    obtain ⟨k, hk, rfl, rfl⟩ := hrel
    by_cases hlt : k < L.length
    · obtain ⟨p, hpk⟩ : ∃ p, L[k]? = some p := ⟨L[k], List.getElem?_eq_getElem hlt⟩
      obtain ⟨b, off, rfl, hbl, hc⟩ := HPT.out.cells (by intro e; rw [e] at hlt; simp at hlt)
      have cx := hc k p hpk
      have hfs := congrArg List.length (flat_snoc L k p hpk)
      have hfl := flat_le L (k + 1)
      rw [List.length_append] at hfs
      unfold Part.v at cx
      obtain ⟨pa, pxs, pc⟩ := p
      simp only at cx hfs
      generalize pxs.length = pn at *
      generalize (flat (L.take k)).length = f0 at *
      have HF := hide hfs
      have hfb : f0 + pn ≤ 1099511627776 := by omega
      clear hfs hpk hc hfl
      go_wp2
      go_round
      case rel => exact ⟨k + 1, by omega, by go_num, by rw [HF.out]; go_num⟩
      case measure => simp [intOf]; omega
    · obtain rfl : k = L.length := by omega
      rw [List.take_length]
      go_wp2_with fail
      refine (grow_any _ w hlen).mono ?_
      rintro e w1 ⟨v, rfl, hown, hbel⟩
      obtain ⟨a1, c1, rfl⟩ := slice_form hown
      go_wp2
      go_loopw [6, 27] (fun s i wr => ∃ k : Nat, ∃ a' c', k ≤ L.length ∧ i = .int .i64 k ∧ s = .slice a' (flat (L.take k)).length c' ∧
          wr.ownsRow w.heap.size 5 1 (.slice a' (flat (L.take k)).length c') (flat (L.take k)).length ((flat (L.take k)).map (Value.int .u8)) ∧ Below w.heap.size w wr)
        (fun _ i _ => L.length - (intOf i).toNat)
      case atStart => exact ⟨0, a1, c1, Nat.zero_le _, rfl, rfl, hown, hbel⟩
      case round =>
        clear hown hbel
        obtain ⟨k, a', c', hk, rfl, rfl, hown, hbel⟩ := hrel
        by_cases hlt : k < L.length
        · obtain ⟨p, hpk⟩ : ∃ p, L[k]? = some p := ⟨L[k], List.getElem?_eq_getElem hlt⟩
          obtain ⟨b, off, rfl, hbl, hc⟩ := (HPT.out.below hbel (Nat.le_refl _)).cells (by intro e; rw [e] at hlt; simp at hlt)
          obtain ⟨hrow, hnil⟩ := (HPT.out.below hbel (Nat.le_refl _)).rows p (List.mem_of_getElem? hpk)
          have cx := hc k p hpk
          have hfs := flat_snoc L k p hpk
          have hfl := flat_le L (k + 1)
          rw [hfs, List.length_append] at hfl
          unfold Part.v at cx
          obtain ⟨pa, pxs, pc⟩ := p
          simp only at cx hfs hfl hrow hnil
          have HF := hide hfs
          have HO := hide hown
          generalize flat (L.take k) = f0 at *
          have hfb : f0.length + pxs.length ≤ 1099511627776 := by omega
          clear hfs hpk hc hfl hown
          cases pa with
          | none =>
            obtain rfl := row_none hrow
            obtain rfl := hnil rfl
            clear hrow hnil
            go_wp2_with (at_builtin; refine wpList_append_own_none rfl _ _ 25 rfl w.heap.size 5 i0 1 Try.underlying25 hi _ _ _ rfl HO.out rfl ?_)
            go_roundw
            case rel => exact ⟨k + 1, a', c', by omega, by go_num, by rw [HF.out]; simp, by rw [HF.out]; simpa using HO.out, hbel⟩
            case measure => simp [intOf]; omega
          | some ad =>
            clear hnil
            have hcl := row_cells hrow
            have HC := hide hcl
            clear hcl hrow
            go_wp2_with (at_builtin; refine wpList_append_own _ rfl _ _ 25 rfl w.heap.size 5 i0 (.int .u8 0) 1 1 Try.underlying25 hi hz0 hz1 hz2 rfl (by decide) _ _ _ rfl HO.out ad pxs.length pc (pxs.map (Value.int .u8)) rfl (by simp) HC.out (ints_one _ _) (by unfold maxLen; omega) (by omega) hbel.size ?_)
            intro v' w2 hown2 hgrow _
            obtain ⟨a2, c2, rfl⟩ := slice_form hown2
            have hbel2 : Below w.heap.size w w2 := hbel.grown hgrow hbel.size (fun j e => (HO.out.lt j e).1)
            have O2 := hide hown2
            have B2 := hide hbel2
            clear hown2 hbel2 hgrow
            go_wp2
            go_roundw
            case rel => exact ⟨k + 1, a2, c2, by omega, by go_num, by rw [HF.out]; simp, by rw [HF.out]; simpa using O2.out, B2.out⟩
            case measure => simp [intOf]; omega
        · obtain rfl : k = L.length := by omega
          rw [List.take_length] at hown ⊢
          go_wp2
          go_ret
          exact ⟨a', c', rfl, hown, hbel⟩

/-- 'Join'. -/
theorem join_any (a : Option Addr) (L : List Part) (cap : Nat) (w : World) (hp : Parts w a L) (hlen : (flat L).length ≤ 1099511627776) (hL : L.length ≤ 1099511627776) :
    Calls Try.prog 73 #[.slice a L.length cap] w fun e w' => ∃ a' c', e = .returned (.slice a' (flat L).length c') ∧
      w'.ownsRow w.heap.size 5 1 (.slice a' (flat L).length c') (flat L).length ((flat L).map (Value.int .u8)) ∧ Below w.heap.size w w' := by
  go_enter Try.func73, Try.ntmps73
  go_wp2_with (go_at_call 95; refine (concat_any a L cap w hp hlen hL).mono ?_; rintro e w1 ⟨a1, c1, rfl, hown, hbel⟩)
  go_ret
  exact ⟨a1, c1, rfl, hown, hbel⟩

theorem none_cap {w : World} {base : Nat} {e : TypeId} {a : Option Addr} {n c m : Nat} {xs : List Value} (h : w.ownsRow base e m (.slice a n c) n xs) : a = none → c = 0 := by
  intro ha
  rcases h.2 with ⟨h, _⟩ | ⟨g, cap, cur, hv, _⟩
  · simp at h; exact h.2.2
  · subst ha; simp at hv

/-- 'Join' of two, over the slice that the call's own operands make. -/
theorem join2_any (a1 a2 : Option Addr) (xs ys : List Int) (m1 m2 c1 c2 : Nat) (w : World) (l1 : xs.length = m1) (l2 : ys.length = m2) (h1 : Row .u8 w a1 xs) (n1 : a1 = none → c1 = 0) (h2 : Row .u8 w a2 ys) (n2 : a2 = none → c2 = 0) (hlen : m1 + m2 ≤ 1099511627776) :
    Calls Try.prog 73 #[.slice (some ⟨w.heap.size, 0, none⟩) 2 2] (w.alloc (.cells #[.slice a1 m1 c1, .slice a2 m2 c2] 25)) fun e w' => ∃ a' c', e = .returned (.slice a' (m1 + m2) c') ∧
      w'.ownsRow w.heap.size 5 1 (.slice a' (m1 + m2) c') (m1 + m2) ((xs ++ ys).map (Value.int .u8)) ∧ Below w.heap.size w w' := by
  subst l1; subst l2
  have hb : Below w.heap.size w (w.alloc (.cells #[.slice a1 xs.length c1, .slice a2 ys.length c2] 25)) := (Below.refl _ _).alloc (Nat.le_refl _) _
  have hp : Parts (w.alloc (.cells #[.slice a1 xs.length c1, .slice a2 ys.length c2] 25)) (some ⟨w.heap.size, 0, none⟩) [(a1, xs, c1), (a2, ys, c2)] := by
    refine ⟨fun _ => ⟨w.heap.size, 0, rfl, by simp, ?_⟩, ?_⟩
    · intro i p hi
      match i, hi with
      | 0, hi => simp at hi; subst hi; rw [World.cell?_alloc_at _ _ _ _ rfl]; rfl
      | 1, hi => simp at hi; subst hi; rw [World.cell?_alloc_at _ _ _ _ rfl]; rfl
    · intro p hp
      simp at hp
      rcases hp with rfl | rfl
      · exact ⟨h1.below hb (Nat.le_refl _), n1⟩
      · exact ⟨h2.below hb (Nat.le_refl _), n2⟩
  have hf : flat [(a1, xs, c1), (a2, ys, c2)] = xs ++ ys := by simp [flat]
  have h := join_any (some ⟨w.heap.size, 0, none⟩) [(a1, xs, c1), (a2, ys, c2)] 2 _ hp (by rw [hf]; simpa using hlen) (by simp)
  rw [hf] at h
  refine h.mono ?_
  rintro e w' ⟨a', c', rfl, hown, hbel⟩
  rw [List.length_append] at hown ⊢
  exact ⟨a', c', rfl, owns_mono hown (by simp), hb.trans (hbel.mono (by simp))⟩
end Go.Proofs.Ytgggcapgaikbeaa

/- The Internet's check sums: plain facts on numbers and lists. -/
namespace Go.Proofs.Ytgggcapgaikbeaa
/-- What goes beyond two bytes added to the rest, until nothing does. -/
def f16 (n : Int) : Int := if n ≤ 0 then 0 else (n - 1) % 65535 + 1
theorem f16_rng (n : Int) : 0 ≤ f16 n ∧ f16 n ≤ 65535 := by unfold f16; split <;> omega
theorem f16_small (n : Int) (h0 : 0 ≤ n) (h : n ≤ 65535) : f16 n = n := by unfold f16; split <;> omega
theorem f16_step (n : Int) (h0 : 0 ≤ n) : f16 (n / 65536 + n % 65536) = f16 n := by unfold f16; split <;> split <;> omega
theorem f16_add (a b : Int) (ha : 0 ≤ a) (hb : 0 ≤ b) : f16 (f16 a + b) = f16 (a + b) := by unfold f16; split <;> split <;> split <;> omega
theorem f16_two (a b : Int) (h1 : 0 ≤ a) (h2 : a ≤ 65535) (h3 : 0 ≤ b) (h4 : b ≤ 65535) : (if 65535 < a + b then a + b - 65535 else a + b) = f16 (a + b) := by unfold f16; split <;> split <;> omega
theorem xor_nat (b : Nat) (hb : b < 65536) : 65535 ^^^ b = 65535 - b := by
  have h : (BitVec.allOnes 16 ^^^ BitVec.ofNat 16 b).toNat = (~~~ BitVec.ofNat 16 b).toNat := by rw [BitVec.allOnes_xor]
  rw [BitVec.toNat_xor, BitVec.toNat_not, BitVec.toNat_allOnes, BitVec.toNat_ofNat, Nat.mod_eq_of_lt (by omega)] at h
  exact h
theorem xor16 (x : Int) (h1 : 0 ≤ x) (h2 : x ≤ 65535) : bits .xor .u16 IntKind.u16.max x = 65535 - x := by
  obtain ⟨b, rfl⟩ := Int.eq_ofNat_of_zero_le h1
  have h := u16_xor_nat 65535 b (by decide) (by omega)
  rw [xor_nat b (by omega)] at h
  have e : IntKind.u16.max = ((65535 : Nat) : Int) := rfl
  rw [e, h]
  omega
/-- The sum of the numbers of two bytes each; the check sum. -/
def psum (xs : List Int) : Int := (prs xs).sum
def csum (xs : List Int) : Int := 65535 - f16 (psum xs)
theorem csum_rng (xs : List Int) : 0 ≤ csum xs ∧ csum xs ≤ 65535 := by have := f16_rng (psum xs); unfold csum; omega
theorem prs_rng (xs : List Int) (h : ∀ x ∈ xs, 0 ≤ x ∧ x ≤ 255) : ∀ y ∈ prs xs, 0 ≤ y ∧ y ≤ 65535 := by
  intro y hy
  simp only [prs, List.mem_map] at hy
  obtain ⟨k, _, rfl⟩ := hy
  have h1 := byte_at h (2 * k)
  have h2 := byte_at h (2 * k + 1)
  omega
theorem sum_rng (ys : List Int) (h : ∀ y ∈ ys, 0 ≤ y ∧ y ≤ 65535) : 0 ≤ ys.sum ∧ ys.sum ≤ 65535 * ys.length := by
  induction ys with
  | nil => simp
  | cons y r ih =>
    have h1 := h y (by simp)
    have h2 := ih (fun z hz => h z (by simp [hz]))
    rw [List.sum_cons, List.length_cons]
    push_cast
    omega
theorem psum_rng (xs : List Int) (h : ∀ x ∈ xs, 0 ≤ x ∧ x ≤ 255) : 0 ≤ psum xs ∧ psum xs ≤ 65535 * xs.length := by
  have := sum_rng (prs xs) (prs_rng xs h)
  rw [prs_len] at this
  unfold psum
  omega
end Go.Proofs.Ytgggcapgaikbeaa

/- Sums of texts that are put one behind the other, or changed at one place: plain facts on lists. -/
namespace Go.Proofs.Ytgggcapgaikbeaa
theorem prs_cons2 (a b : Int) (r : List Int) : prs (a :: b :: r) = (256 * a + b) :: prs r := by
  unfold prs
  have h : ((a :: b :: r).length + 1) / 2 = (r.length + 1) / 2 + 1 := by simp; omega
  rw [h, List.range_succ_eq_map]
  simp [Nat.mul_add]
theorem prs_append : ∀ (xs ys : List Int), xs.length % 2 = 0 → prs (xs ++ ys) = prs xs ++ prs ys
  | [], ys, _ => by simp [prs]
  | [a], ys, h => by simp at h
  | a :: b :: r, ys, h => by
    have := prs_append r ys (by simp at h; omega)
    rw [List.cons_append, List.cons_append, prs_cons2, prs_cons2, this, List.cons_append]
theorem prs_pair (a b : Int) : prs [a, b] = [256 * a + b] := by rw [prs_cons2]; rfl
theorem psum_append (xs ys : List Int) (h : xs.length % 2 = 0) : psum (xs ++ ys) = psum xs + psum ys := by
  unfold psum; rw [prs_append xs ys h, List.sum_append]
theorem psum_pair (a b : Int) : psum [a, b] = 256 * a + b := by unfold psum; rw [prs_pair]; simp
/-- A number behind an even text. -/
theorem csum_behind (xs : List Int) (m : Nat) (hm : m ≤ 65535) (h : xs.length % 2 = 0) : csum (xs ++ numB 2 m) = 65535 - f16 (psum xs + m) := by
  have e : numB 2 m = [(m : Int) / 256, (m : Int) % 256] := by
    have h1 : numB 2 m = [byteAt m 1, byteAt m 0] := rfl
    rw [h1]; unfold byteAt; simp; omega
  unfold csum
  rw [psum_append _ _ h, e, psum_pair]
  congr 2
  omega
theorem right_good (P n : Int) (_hP : 0 ≤ P) (h : n = 65535 - f16 P) : 65535 - f16 (P + n) = 0 := by
  unfold f16 at *; split at h <;> split <;> omega
theorem right_top (P : Int) (_hP : 0 ≤ P) (h : (0 : Int) = 65535 - f16 P) : 65535 - f16 (P + 65535) = 0 := by
  unfold f16 at *; split at h <;> split <;> omega
theorem right_bad (P n m : Int) (_hP : 0 ≤ P) (h : n = 65535 - f16 P) (hm0 : 0 ≤ m) (hm1 : m ≤ 65535) (hne : m ≠ n) (hz : ¬ (n = 0 ∧ m = 65535)) : 65535 - f16 (P + m) ≠ 0 := by
  unfold f16 at *; split at h <;> split <;> omega
theorem xor_ne (n t : Nat) (h : t ≠ 0) : n ^^^ t ≠ n := by
  intro e
  have h2 : n ^^^ (n ^^^ t) = n ^^^ n := by rw [e]
  rw [← Nat.xor_assoc, Nat.xor_self, Nat.zero_xor] at h2
  exact h h2
theorem xor_lt (n t : Nat) (h1 : n < 65536) (h2 : t < 65536) : n ^^^ t < 65536 := Nat.xor_lt_two_pow (n := 16) h1 h2
theorem and_one (n : Nat) (h : n < 9223372036854775808) : bits .and .i64 (n : Int) 1 = ((n % 2 : Nat) : Int) := by
  have hk : ∀ m : Int, 0 ≤ m → m < 2 ^ 63 → IntKind.i64.wrap m = m := fun m h0 h1 => by rw [IntKind.wrap_i64]; omega
  have := bits_mask .i64 63 (by decide) hk 1 (by decide) (n : Int) (by omega) (by omega)
  exact this
theorem and_ffff (x : Int) : ∃ k : Nat, k ≤ 65535 ∧ bits .and .i64 x 65535 = (k : Int) := by
  refine ⟨(BitVec.ofInt 64 x &&& BitVec.ofInt 64 65535).toNat, ?_, ?_⟩
  · rw [BitVec.toNat_and]
    exact Nat.and_le_right
  · have hle : (BitVec.ofInt 64 x &&& BitVec.ofInt 64 65535).toNat ≤ 65535 := by rw [BitVec.toNat_and]; exact Nat.and_le_right
    show IntKind.i64.wrap (((BitVec.ofInt 64 x &&& BitVec.ofInt 64 65535).toNat : Nat) : Int) = _
    rw [IntKind.wrap_i64]
    omega
end Go.Proofs.Ytgggcapgaikbeaa

/- A text of which one number of two bytes becomes another: plain facts on its sum. -/
namespace Go.Proofs.Ytgggcapgaikbeaa
/-- The text with other bytes at a place. -/
def spl (xs : List Int) (o : Nat) (ys : List Int) : List Int := xs.take o ++ ys ++ xs.drop (o + ys.length)
theorem spl_len (xs : List Int) (o : Nat) (ys : List Int) (h : o + ys.length ≤ xs.length) : (spl xs o ys).length = xs.length := by
  simp [spl]; omega
theorem spl_rng (xs ys : List Int) (o : Nat) (h1 : ∀ x ∈ xs, 0 ≤ x ∧ x ≤ 255) (h2 : ∀ x ∈ ys, 0 ≤ x ∧ x ≤ 255) : ∀ x ∈ spl xs o ys, 0 ≤ x ∧ x ≤ 255 := by
  intro x hx
  rw [spl, List.mem_append, List.mem_append] at hx
  rcases hx with (h | h) | h
  · exact h1 x (List.mem_of_mem_take h)
  · exact h2 x h
  · exact h1 x (List.mem_of_mem_drop h)
theorem spl_self (xs : List Int) (q : Nat) (h : 2 * q + 1 < xs.length) : xs = spl xs (2 * q) [xs[2 * q]?.getD 0, xs[2 * q + 1]?.getD 0] := by
  rw [spl, List.getElem?_eq_getElem h, List.getElem?_eq_getElem (show 2 * q < xs.length by omega)]
  simp only [Option.getD_some, List.length_cons, List.length_nil]
  conv => lhs; rw [← List.take_append_drop (2 * q) xs, List.drop_eq_getElem_cons (show 2 * q < xs.length by omega), List.drop_eq_getElem_cons h]
  simp
theorem psum_spl (xs : List Int) (q : Nat) (a b : Int) (h : 2 * q + 1 < xs.length) : psum (spl xs (2 * q) [a, b]) = psum (xs.take (2 * q)) + (256 * a + b) + psum (xs.drop (2 * q + 2)) := by
  have h1 : (xs.take (2 * q)).length = 2 * q := by rw [List.length_take]; omega
  rw [spl, psum_append _ _ (by rw [List.length_append, h1]; simp), psum_append _ _ (by rw [h1]; omega), psum_pair]
  rfl
theorem psum_change (xs : List Int) (q : Nat) (a b : Int) (h : 2 * q + 1 < xs.length) :
    psum (spl xs (2 * q) [a, b]) = psum xs - (256 * xs[2 * q]?.getD 0 + xs[2 * q + 1]?.getD 0) + (256 * a + b) := by
  have h1 := psum_spl xs q a b h
  have h2 := psum_spl xs q (xs[2 * q]?.getD 0) (xs[2 * q + 1]?.getD 0) h
  rw [← spl_self xs q h] at h2
  omega
theorem psum_pos : ∀ (xs : List Int), (∀ x ∈ xs, 0 ≤ x ∧ x ≤ 255) → xs.length % 2 = 0 → (xs.all (· == 0)) = false → 0 < psum xs
  | [], _, _, h => by simp at h
  | [a], _, h, _ => by simp at h
  | a :: b :: r, hb, hl, h => by
    have ha := hb a (by simp)
    have hbb := hb b (by simp)
    have hr := psum_rng r (fun x hx => hb x (by simp [hx]))
    have e : psum (a :: b :: r) = (256 * a + b) + psum r := by unfold psum; rw [prs_cons2]; simp
    rw [e]
    by_cases h1 : a = 0 ∧ b = 0
    · have := psum_pos r (fun x hx => hb x (by simp [hx])) (by simp at hl; omega) (by simpa [h1.1, h1.2] using h)
      omega
    · omega
theorem f16_plus (m : Int) (h : 0 < m) : f16 (m + 65535) = f16 m := by unfold f16; split <;> split <;> omega
end Go.Proofs.Ytgggcapgaikbeaa

/- A copy of two bytes into a row; a slice's tail. -/
namespace Go.Proofs.Ytgggcapgaikbeaa
open Go.RowKit
set_option linter.unusedVariables false
set_option linter.unusedSimpArgs false
set_option maxRecDepth 100000
theorem copy2_run (w : World) (base g n c o L C : Nat) (xs ys : List Int) (ad : Addr) (c3 : Nat) (ty : TypeId) (hown : w.ownsRow base 5 1 (.slice (some ⟨g, 0, none⟩) n c) n (xs.map (Value.int .u8))) (hr : Row .u8 w (some ad) ys) (hy : ys.length = 2) (ho : o + 2 ≤ n) (hL : 2 ≤ L) :
    ∃ w', (Builtin.copy_ #[25, 25] ty #[.slice (some ⟨g, o, none⟩) L C, .slice (some ad) 2 c3]).run Try.prog w = .ok (.int .i64 2) w' ∧
      w'.ownsRow base 5 1 (.slice (some ⟨g, 0, none⟩) n c) n ((spl xs o ys).map (Value.int .u8)) ∧ w.grownBy w' (some g) := by
  have hxl : xs.length = n := by have := hown.1; simpa using this
  rcases hown.2 with ⟨h, _⟩ | ⟨g', cap, cur, hv, hg, hh, hnc, hcm, hcs, htk⟩
  · cases h
  · obtain ⟨rfl, rfl⟩ : g = g' ∧ c = cap := by simpa using hv
    have hrun := run_copy_row (P := Try.prog) w 25 25 ty 5 g o L C ad 2 c3 cur 5 (ys.map (Value.int .u8)) Try.underlying25 (by kernel_rfl) hh (by rw [List.length_map, hy]; exact (Nat.min_eq_left hL).symm)
      (row_cells hr) (by rw [List.length_map, hy]; omega) (ints_one _ _)
    rw [List.length_map, hy] at hrun
    refine ⟨w.setRow g (cur.toList.take o ++ ys.map (Value.int .u8) ++ cur.toList.drop (o + 2)).toArray, hrun, ?_, ⟨rfl, rfl, rfl, by simp [World.setRow], fun k hk hne => setRow_other w g k _ (by intro e; exact hne (by rw [e]))⟩⟩
    have hlt := lt_of_block hh
    have hcl : cur.toList.length = c := by simp; omega
    have hsame : (w.setRow g (cur.toList.take o ++ ys.map (Value.int .u8) ++ cur.toList.drop (o + 2)).toArray).heap[g]? = some (.cells (cur.toList.take o ++ ys.map (Value.int .u8) ++ cur.toList.drop (o + 2)).toArray 5 (0, 0)) := by
      have h' : w.heap[g] = .cells cur 5 (0, 0) := by simpa [Array.getElem?_eq_getElem hlt] using hh
      show (w.heap.modify g _)[g]? = _
      rw [Array.getElem?_eq_getElem (by simpa using hlt), Array.getElem_modify_self, h']
    refine ⟨by rw [List.length_map, spl_len _ _ _ (by omega), hxl, Nat.mul_one], .inr ⟨g, c, _, rfl, hg, hsame, hnc, hcm, ?_, ?_⟩⟩
    · simp [hy]; omega
    · have h1 : (spl xs o ys).map (Value.int .u8) = (xs.map (Value.int .u8)).take o ++ ys.map (Value.int .u8) ++ (xs.map (Value.int .u8)).drop (o + 2) := by
        rw [spl, List.map_append, List.map_append, List.map_take, List.map_drop, hy]
      rw [h1, ← htk, Nat.mul_one, List.take_take, Nat.min_eq_left (by omega), List.drop_take]
      rw [List.take_append, List.take_of_length_le (by simp [hy]; omega)]
      congr 2
      simp [hy]; omega

/-- A copy whose run is known, in a region that draws its order. -/
theorem step_copy_run {P : Program} {ops : Array Oper} {o : Oper} {a : Act} {w : World} {K : Act → World → Prop} {Q : Exit → Act → World → Prop} {E : Prop} (hgd : o.guard = none) (d s : Operand) (dT sT : TypeId)
    (ho : o.op = .call { callee := .builtin .copy, args := #[d, s], argTypes := #[dT, sT] }) (vs vx : Value) (hd : a.eval d = vs) (hs : a.eval s = vx) (v' : Value) (w' : World)
    (hr : (Builtin.copy_ #[dT, sT] o.type #[vs, vx]).run P w = .ok v' w') (h : K (a.put o.dst v') w') :
    if Region.wanted o (yielded ops a.tmps) = true then Oper.wp P o a w K Q else E := by
  have hw : Region.wanted o (yielded ops a.tmps) = true := by simp [Region.wanted, hgd]
  rw [if_pos hw]
  unfold Oper.wp
  simp [execOp, ho, resolve, invoke, builtin, hd, hs, hr, Result.andThen]
  exact h

theorem slice_tail_run (g n c o : Nat) (l : Int) (hl : l = (o : Int)) (h1 : o ≤ n) (h2 : o < c) (W : World) :
    (Instr.slice 25 (.slice (some ⟨g, 0, none⟩) n c) (some (.int .i64 l)) none none).run Try.prog W = .ok (.slice (some ⟨g, o, none⟩) (n - o) (c - o)) W := by
  subst hl
  have hz : ∀ W, (sizeOf 5).run Try.prog W = .ok 1 W := fun W => by
    obtain ⟨i0, hi, _, hs, _⟩ := info_parts Try.info5
    simp [sizeOf, typeInfo, hi, hs]
  have he : Try.prog.elem 25 = 5 := by kernel_rfl
  rw [run_slice_l (P := Try.prog) W 25 _ n c (by rw [he]; exact Try.underlying25) .i64 (o : Int) (by omega) (by omega), he, hz]
  have hne : ¬ c = o := by omega
  simp [sliced, Result.andThen, hne, Addr.add_lit]

end Go.Proofs.Ytgggcapgaikbeaa

/- What bytes.Clone answers: a copy in new memory. -/
namespace Go.Proofs.Ytgggcapgaikbeaa
open Go.RowKit
set_option linter.unusedVariables false
set_option linter.unusedSimpArgs false
theorem clone_any (a : Option Addr) (xs : List Int) (cap : Nat) (w : World) (hr : Row .u8 w a xs) (hlen : xs.length ≤ 140737488351232) :
    Calls Try.prog 92 #[.slice a xs.length cap] w fun e w' => ∃ a' cap', e = .returned (.slice a' xs.length cap') ∧
      w'.ownsRow w.heap.size 5 1 (.slice a' xs.length cap') xs.length (xs.map (Value.int .u8)) ∧ Below w.heap.size w w' := by
  obtain ⟨i0, hi, hz0, hz1, hz2⟩ := info_parts Try.info5
  have q22 : ∀ (w : World) (a : Option Addr) (n c n' c' : Nat), (binOp .eql 25 (.slice a n c) (.slice none n' c')).run Try.prog w = .ok (.bool a.isNone) w := fun w a n c n' c' => Lib.run_eql_slice_nil w _ _ a n c n' c' Try.underlying25
  cases a with
  | none =>
    have hx : xs = [] := by
      cases xs with
      | nil => rfl
      | cons x r => obtain ⟨b, off, h, _⟩ := hr (by simp); cases h
    subst hx
    go_enter Try.func92, Try.ntmps92
    go_wp2
    go_ret
    exact ⟨none, 0, rfl, World.ownsRow_nil _ _ _ _, Below.refl _ _⟩
  | some ad =>
    have hcell : ∀ j u, (xs.map (Value.int .u8))[j]? = some u → (w.alloc (.cells #[] 5)).cell? (ad.add j) = some u := by
      intro j u hj
      have hj2 : j < xs.length := by
        rcases Nat.lt_or_ge j xs.length with h | h
        · exact h
        · simp [List.getElem?_eq_none h] at hj
      obtain ⟨b, off, h, hlt, hc⟩ := hr.at hj2
      cases h
      rw [Addr.add_lit, World.cell?_alloc_past _ _ _ hlt, hc j hj2]
      simpa [List.getElem?_map, List.getElem?_eq_getElem hj2] using hj
    have hown0 : (w.alloc (.cells #[] 5)).ownsRow w.heap.size 5 1 (.slice (some ⟨w.heap.size, 0, none⟩) 0 0) 0 [] := World.ownsRow_lit w #[] 0 (Nat.le_refl _) (by unfold maxLen; omega) rfl
    have h1c : ∀ u ∈ xs.map (Value.int .u8), u.oneCell' = true := by intro u hu; simp at hu; obtain ⟨x, _, rfl⟩ := hu; rfl
    go_enter Try.func92, Try.ntmps92
    go_wp2_with (at_builtin; refine wpList_append_own _ rfl _ _ 25 rfl w.heap.size 5 i0 (.int .u8 0) 1 1 Try.underlying25 hi hz0 hz1 hz2 rfl (by decide) _ _ _ rfl hown0 ad xs.length cap (xs.map (Value.int .u8)) rfl (by simp) hcell h1c (by unfold maxLen; omega) (by omega) (by simp) ?_)
    intro v' w1 hown hgrow _
    replace hown : w1.ownsRow w.heap.size 5 1 v' xs.length (xs.map (Value.int .u8)) := by simpa using hown
    have hbel : Below w.heap.size w w1 := ((Below.refl _ _).alloc (Nat.le_refl _) _).grown hgrow (by simp) (fun k h => by cases h; exact Nat.le_refl _)
    clear hgrow
    go_wp2
    go_ret
    obtain ⟨a', cap', rfl⟩ : ∃ a' cap', v' = .slice a' xs.length cap' := by
      rcases hown.2 with ⟨h, h2⟩ | ⟨g, c, cur, h, _⟩
      · rw [h2]; exact ⟨_, _, h⟩
      · exact ⟨_, _, h⟩
    exact ⟨a', cap', rfl, hown, hbel⟩

end Go.Proofs.Ytgggcapgaikbeaa

/- What an Eye and the document's numbers answer: take, Num, Left, NewEye. -/
namespace Go.Proofs.Ytgggcapgaikbeaa
open Go.RowKit
set_option linter.unusedVariables false
set_option linter.unusedSimpArgs false
set_option maxRecDepth 100000
/-- What an Eye at block E has left. -/
def Left (w : World) (E B : Nat) (v : Value) (rest : List Int) : Prop :=
  (v = .slice none 0 0 ∧ rest = []) ∨
  ∃ b off c, v = .slice (some ⟨b, off, none⟩) rest.length c ∧ b ≠ E ∧ b < B ∧ rest.length ≤ c ∧ c ≤ 9223372036854775807 ∧ ∀ i, i < rest.length → w.cell? ⟨b, off + i, none⟩ = some (.int .u8 (rest[i]?.getD 0))
def EyeAt (w : World) (E B : Nat) (rest : List Int) (bad : Bool) : Prop := B ≤ w.heap.size ∧ ∃ v, w.heap[E]? = some (.cells #[v, .bool bad] 144 (0, 0)) ∧ Left w E B v rest

theorem two_cell0 {w : World} {b : Nat} {u v : Value} {t : TypeId} (h : w.heap[b]? = some (.cells #[u, v] t (0, 0))) : w.cell? ⟨b, 0, none⟩ = some u := by simp [World.cell?, h]
theorem two_cell1 {w : World} {b : Nat} {u v : Value} {t : TypeId} (h : w.heap[b]? = some (.cells #[u, v] t (0, 0))) : w.cell? ⟨b, 1, none⟩ = some v := by simp [World.cell?, h]
theorem two_free {w : World} {b : Nat} {u v : Value} {t : TypeId} (h : w.heap[b]? = some (.cells #[u, v] t (0, 0))) (i : Nat) : w.frozen? ⟨b, i, none⟩ = false := by simp [World.frozen?, h]
theorem two_set0 {w : World} {b : Nat} {u v x : Value} {t : TypeId} (h : w.heap[b]? = some (.cells #[u, v] t (0, 0))) : (w.setCell ⟨b, 0, none⟩ x).heap[b]? = some (.cells #[x, v] t (0, 0)) := by
  have hlt := lt_of_block h
  have h' : w.heap[b] = .cells #[u, v] t (0, 0) := by simpa [Array.getElem?_eq_getElem hlt] using h
  show (w.heap.modify b _)[b]? = _
  rw [Array.getElem?_eq_getElem (by simpa using hlt), Array.getElem_modify_self, h']
  rfl
theorem two_set1 {w : World} {b : Nat} {u v x : Value} {t : TypeId} (h : w.heap[b]? = some (.cells #[u, v] t (0, 0))) : (w.setCell ⟨b, 1, none⟩ x).heap[b]? = some (.cells #[u, x] t (0, 0)) := by
  have hlt := lt_of_block h
  have h' : w.heap[b] = .cells #[u, v] t (0, 0) := by simpa [Array.getElem?_eq_getElem hlt] using h
  show (w.heap.modify b _)[b]? = _
  rw [Array.getElem?_eq_getElem (by simpa using hlt), Array.getElem_modify_self, h']
  rfl

theorem gb_set (w : World) (E i : Nat) (x : Value) : w.grownBy (w.setCell ⟨E, i, none⟩ x) (some E) :=
  ⟨rfl, rfl, rfl, by simp, fun k hk hne => Below.heap_setCell _ _ _ _ (by intro e; exact hne (by rw [e]))⟩
theorem gb_trans {a b c : World} {r : Option Nat} (h : a.grownBy b r) (k : b.grownBy c r) : a.grownBy c r :=
  ⟨k.os.trans h.os, k.tape.trans h.tape, k.output.trans h.output, Nat.le_trans h.size k.size, fun i hi hne => (k.block i (Nat.lt_of_lt_of_le hi h.size) hne).trans (h.block i hi hne)⟩
theorem cell_set_ne (w : World) (E i : Nat) (x : Value) {a : Addr} (h : a.block ≠ E) : (w.setCell ⟨E, i, none⟩ x).cell? a = w.cell? a :=
  World.cell?_of_block (Below.heap_setCell _ _ _ _ h)

theorem take_any (E B : Nat) (rest : List Int) (bad : Bool) (n : Nat) (w : World) (h : EyeAt w E B rest bad) (hn : n ≤ 9223372036854775807) (hl : rest.length ≤ 1099511627776) :
    Calls Try.prog 93 #[.pointer (some ⟨E, 0, none⟩), .int .i64 n] w fun e w' => ∃ a c, e = .returned (.slice a (if n ≤ rest.length then n else 0) c) ∧ Row .u8 w' a (if n ≤ rest.length then rest.take n else []) ∧
      EyeAt w' E B (if n ≤ rest.length then rest.drop n else []) (bad || decide (rest.length < n)) ∧ w.grownBy w' (some E) := by
  obtain ⟨hBs, v, hE, hL⟩ := h
  have c0 := two_cell0 hE
  have c1 := two_cell1 hE
  have f0 := two_free hE 0
  have f1 := two_free hE 1
  by_cases hle : n ≤ rest.length
  · rw [if_pos hle, if_pos hle, if_pos hle]
    have hbd : (bad || decide (rest.length < n)) = bad := by simp; omega
    rw [hbd]
    clear hbd
    rcases hL with ⟨rfl, rfl⟩ | ⟨b, off, c, rfl, hbE, hb, hlc, hc63, hc⟩
    · obtain rfl : n = 0 := by simpa using hle
      go_enter Try.func93, Try.ntmps93
      go_wp2
      go_ret
      exact ⟨none, 0, rfl, fun h => absurd rfl h, ⟨by simpa using hBs, _, two_set0 hE, .inl ⟨rfl, rfl⟩⟩, gb_set _ _ _ _⟩
    · by_cases hcn : c = n
      · go_enter Try.func93, Try.ntmps93
        go_wp2
        go_ret
        have hdl : (rest.drop n).length = rest.length - n := List.length_drop
        refine ⟨some ⟨b, off, none⟩, n, rfl, fun hne => ⟨b, off, rfl, by simp; omega, fun i hi => by rw [cell_set_ne _ _ _ _ hbE, hc i (by simp at hi; omega), List.getElem?_take_of_lt (by simp at hi; omega)]⟩, ⟨by simpa using hBs, _, two_set0 hE, .inr ⟨b, off, 0, by rw [hdl], hbE, hb, by rw [hdl]; omega, by omega, fun i hi => by rw [hdl] at hi; omega⟩⟩, gb_set _ _ _ _⟩
      · go_enter Try.func93, Try.ntmps93
        go_wp2
        go_ret
        have hdl : (rest.drop n).length = rest.length - n := List.length_drop
        refine ⟨some ⟨b, off, none⟩, c, rfl, fun hne => ⟨b, off, rfl, by simp; omega, fun i hi => by rw [cell_set_ne _ _ _ _ hbE, hc i (by simp at hi; omega), List.getElem?_take_of_lt (by simp at hi; omega)]⟩, ⟨by simpa using hBs, _, two_set0 hE, .inr ⟨b, off + n, c - n, by rw [hdl], hbE, hb, by rw [hdl]; omega, by omega, fun i hi => by rw [hdl] at hi; rw [cell_set_ne _ _ _ _ hbE, List.getElem?_drop, Nat.add_assoc]; exact hc (n + i) (by omega)⟩⟩, gb_set _ _ _ _⟩
  · have hbd : (bad || decide (rest.length < n)) = true := by simp; omega
    rw [if_neg hle, if_neg hle, if_neg hle, hbd]
    clear hbd
    obtain ⟨a, cc, rfl⟩ : ∃ a cc, v = .slice a rest.length cc := by
      rcases hL with ⟨rfl, rfl⟩ | ⟨b, off, c, rfl, _⟩
      · exact ⟨_, _, rfl⟩
      · exact ⟨_, _, rfl⟩
    go_enter Try.func93, Try.ntmps93
    go_wp2
    go_ret
    refine ⟨none, 0, rfl, fun h => absurd rfl h, ⟨by simpa using hBs, _, two_set1 (two_set0 hE), .inl ⟨rfl, rfl⟩⟩, gb_trans (gb_set _ _ _ _) (gb_set _ _ _ _)⟩

set_option maxHeartbeats 800000 in
theorem eyeNum_any (E B : Nat) (rest : List Int) (bad : Bool) (s : Int) (w : World) (h : EyeAt w E B rest bad) (hb : ∀ x ∈ rest, 0 ≤ x ∧ x ≤ 255) (hl : rest.length ≤ 1099511627776) :
    Calls Try.prog 69 #[.pointer (some ⟨E, 0, none⟩), .int .i64 s] w fun e w' => e = .returned (.int .u64 (valB (if sz s ≤ rest.length then rest.take (sz s) else []))) ∧
      EyeAt w' E B (if sz s ≤ rest.length then rest.drop (sz s) else []) (bad || decide (rest.length < sz s)) ∧ w.grownBy w' (some E) := by
  have hs8 := sz_le s
  have ht := take_any E B rest bad (sz s) w h (by omega) hl
  have hbd := bounded_any s w
  have hxb : ∀ x ∈ (if sz s ≤ rest.length then rest.take (sz s) else []), 0 ≤ x ∧ x ≤ 255 := by
    split
    · exact fun x hx => hb x (List.mem_of_mem_take hx)
    · simp
  have hxl : (if sz s ≤ rest.length then rest.take (sz s) else []).length = (if sz s ≤ rest.length then sz s else 0) := by
    split
    · rw [List.length_take]; omega
    · rfl
  have hx8 : (if sz s ≤ rest.length then sz s else 0) ≤ 8 := by split <;> omega
  generalize (if sz s ≤ rest.length then rest.take (sz s) else []) = xs at *
  generalize (if sz s ≤ rest.length then sz s else 0) = m at *
  generalize (if sz s ≤ rest.length then rest.drop (sz s) else []) = rest' at *
  generalize (bad || decide (rest.length < sz s)) = bad' at *
  generalize sz s = S at *
  have HT := hide ht
  have HBD := hide hbd
  have HXB := hide hxb
  have HXL := hide hxl
  clear ht hbd hxb hxl h hb hl hs8
  go_enter Try.func69, Try.ntmps69
  go_wp2_with fail
  refine HBD.out.mono ?_
  rintro e w1 ⟨rfl, rfl⟩
  go_wp2_with fail
  refine HT.out.mono ?_
  rintro e w2 ⟨a, c, rfl, hrow, heye, hgr⟩
  have HR := hide hrow
  have HE := hide heye
  have HG := hide hgr
  clear hrow heye hgr
  go_wp2
  go_loop [5, 13] (fun v i => ∃ k : Nat, k ≤ m ∧ i = .int .i64 k ∧ v = .int .u64 (valB (xs.take k))) (fun _ i => m - (intOf i).toNat)
  case atStart => exact ⟨0, Nat.zero_le _, rfl, rfl⟩
  case round =>
    obtain ⟨k, hk, rfl, rfl⟩ := hrel
    have HX := HXL.out
    by_cases hlt : k < m
    · obtain ⟨b, off, rfl, hbl, hc⟩ := HR.out.at (i := k) (by omega)
      have cx := hc k (by omega)
      have hv := valB_snoc xs k (by omega)
      have hr1 := valB_rng xs HXB.out k
      have hr2 := byte_at HXB.out k
      have hp : (256 : Int) ^ k ≤ 72057594037927936 := by
        have : k ≤ 7 := by omega
        have := Nat.pow_le_pow_right (show 0 < 256 by decide) this
        have h2 : ((256 ^ k : Nat) : Int) ≤ ((256 ^ 7 : Nat) : Int) := by exact_mod_cast this
        simpa using h2
      generalize xs[k]?.getD 0 = y at *
      generalize valB (xs.take k) = x at *
      have hx1 : 0 ≤ x := hr1.1
      have hx2 : x ≤ 72057594037927935 := by omega
      have hy1 := hr2.1
      have hy2 := hr2.2
      have HV := hide hv
      clear hv hr1 hr2 hp hc HX
      go_wp2
      go_round
      case rel => exact ⟨k + 1, by omega, by go_num, by rw [HV.out, or64 x y hx1 hx2 hy1 hy2]⟩
      case measure => simp [intOf]; omega
    · have hkm : k = m := by omega
      subst hkm
      rw [List.take_of_length_le (by omega)]
      clear HX
      go_wp2
      go_ret
      exact ⟨rfl, HE.out, HG.out⟩

theorem left_any (E B : Nat) (rest : List Int) (bad : Bool) (w : World) (h : EyeAt w E B rest bad) :
    Calls Try.prog 72 #[.pointer (some ⟨E, 0, none⟩)] w fun e w' => e = .returned (.int .i64 (rest.length : Nat)) ∧ w = w' := by
  obtain ⟨hBs, v, hE, hL⟩ := h
  obtain ⟨a, cc, rfl⟩ : ∃ a cc, v = .slice a rest.length cc := by
    rcases hL with ⟨rfl, rfl⟩ | ⟨b, off, c, rfl, _⟩
    · exact ⟨_, _, rfl⟩
    · exact ⟨_, _, rfl⟩
  have c0 := two_cell0 hE
  clear hE hL
  go_enter Try.func72, Try.ntmps72
  go_wp2
  go_ret
  exact ⟨rfl, rfl⟩
theorem newEye_any (a : Option Addr) (xs : List Int) (cap : Nat) (w : World) (hr : Row .u8 w a xs) (hlen : xs.length ≤ 1099511627776) :
    Calls Try.prog 68 #[.slice a xs.length cap] w fun e w' => ∃ E, e = .returned (.pointer (some ⟨E, 0, none⟩)) ∧ w.heap.size ≤ E ∧ EyeAt w' E E xs false ∧ Below w.heap.size w w' := by
  go_enter Try.func68, Try.ntmps68
  go_wp2_with (go_at_call 92; refine (clone_any a xs cap _ hr (by omega)).mono ?_; rintro e w1 ⟨a', cap', rfl, hown, hbel⟩)
  go_ret
  refine ⟨w1.heap.size, rfl, hbel.size, ⟨by simp, _, heap_alloc_new w1 _, ?_⟩, hbel.alloc hbel.size _⟩
  rcases hown.2 with ⟨h, h0⟩ | ⟨g, c, cur, hv, hg, hh, hnc, hcm, _⟩
  · exact .inl ⟨h, List.length_eq_zero_iff.1 h0⟩
  · have hgl := lt_of_block hh
    refine .inr ⟨g, 0, c, hv, by omega, hgl, hnc, by unfold maxLen at hcm; omega, fun i hi => ?_⟩
    obtain ⟨rfl, rfl⟩ : a' = some ⟨g, 0, none⟩ ∧ cap' = c := by simpa using hv
    rw [World.cell?_alloc_past _ _ _ hgl, show 0 + i = i from by omega, hown.cellAt i (by omega)]
    simp [List.getElem?_map, List.getElem?_eq_getElem hi]

end Go.Proofs.Ytgggcapgaikbeaa

/- What octet.Pairs answers: a closure over a box that holds a copy. -/
namespace Go.Proofs.Ytgggcapgaikbeaa
open Go.RowKit
set_option linter.unusedVariables false
set_option linter.unusedSimpArgs false
/-- 'Pairs(b)': a closure over a box that holds a copy. -/
theorem pairs_make (a : Option Addr) (xs : List Int) (cap : Nat) (w : World) (hr : Row .u8 w a xs) (hlen : xs.length ≤ 140737488351232) :
    Calls Try.prog 96 #[.slice a xs.length cap] w fun e w' => ∃ a' cap' B, e = .returned (.func (.func 102) #[] #[.pointer (some ⟨B, 0, none⟩)]) ∧
      w.heap.size ≤ B ∧ w'.heap[B]? = some (.cells #[.slice a' xs.length cap'] 25 (0, 0)) ∧ w'.ownsRow w.heap.size 5 1 (.slice a' xs.length cap') xs.length (xs.map (Value.int .u8)) ∧ Below w.heap.size w w' := by
  have hmf : ∀ (fn : Fn) (first cap : Array Value) (w : World), (Instr.makeFunc fn first cap).run Try.prog w = .ok (.func fn first cap) w := fun _ _ _ _ => rfl
  go_enter Try.func96, Try.ntmps96
  go_wp2_with (go_at_call 92; refine (clone_any a xs cap _ hr hlen).mono ?_; rintro e w1 ⟨a', cap', rfl, hown, hbel⟩)
  go_ret
  exact ⟨a', cap', _, rfl, hbel.size, heap_alloc_new _ _, hown.alloc _, hbel.alloc hbel.size _⟩
end Go.Proofs.Ytgggcapgaikbeaa

/- Blocks of other types stay. -/
namespace Go.Proofs.Ytgggcapgaikbeaa
open Go.RowKit
set_option linter.unusedVariables false
set_option linter.unusedSimpArgs false
theorem Try.info22 : (Try.prog.info? 22).map (fun i => (i.zero, i.size, i.bytes)) = some (some (.int .u16 0), 1, 2) := by kernel_rfl

/-- Blocks of other types stay. -/
def Keep (w w' : World) : Prop := ∀ (B : Nat) (cs : Array Value) (t : TypeId), w.heap[B]? = some (.cells cs t (0, 0)) → t = 25 ∨ t = 5 → w'.heap[B]? = some (.cells cs t (0, 0))
theorem Keep.trans {a b c : World} (h : Keep a b) (k : Keep b c) : Keep a c := fun B cs t hB ht => k B cs t (h B cs t hB ht) ht
theorem Keep.owns {w w' : World} {base : Nat} {v : Value} {n : Nat} {xs : List Value} (h : Keep w w') (ho : w.ownsRow base 5 1 v n xs) : w'.ownsRow base 5 1 v n xs := by
  refine ⟨ho.1, ?_⟩
  rcases ho.2 with h1 | ⟨g, cap, cur, hv, hg, hh, r⟩
  · exact .inl h1
  · exact .inr ⟨g, cap, cur, hv, hg, h g cur 5 hh (.inr rfl), r⟩
end Go.Proofs.Ytgggcapgaikbeaa
