/- Plain facts on numbers and lists of bytes that the walks of this seat use; no program is named. -/
import Derived.WalkKit
import Derived.Deep.QuietTactic
import Derived.BigQuiet
import Derived.Test.YtgggcapgaikbeaaRows
import Derived.Lib.SliceRun
import Derived.Lib.AppendZerosOnto
import Derived.Laws.AppendOwnNone
namespace Go.Proofs.Ytgggcapgaikbeaa
open Go.RowKit

/-- A fact kept from the walk. -/
theorem hide {p : Prop} (h : p) : Hid p := h

/-- A size within its bounds. -/
def sz (s : Int) : Nat := (min (max s 0) 8).toNat
theorem sz_le (s : Int) : sz s ≤ 8 := by unfold sz; omega

/-- The byte of n of weight i. -/
def byteAt (n i : Nat) : Int := ((n / 256 ^ i % 256 : Nat) : Int)
theorem byteAt_rng (n i : Nat) : 0 ≤ byteAt n i ∧ byteAt n i ≤ 255 := by
  unfold byteAt; have := Nat.mod_lt (n / 256 ^ i) (show 0 < 256 by decide); omega
/-- L bytes, of which the last k are n's. -/
def partB (L k n : Nat) : List Int := (List.range L).map fun j => if L - k ≤ j then byteAt n (L - 1 - j) else 0
def numB (L n : Nat) : List Int := (List.range L).map fun j => byteAt n (L - 1 - j)
theorem partB_len (L k n : Nat) : (partB L k n).length = L := by simp [partB]
theorem numB_len (L n : Nat) : (numB L n).length = L := by simp [numB]
theorem partB_zero (L n : Nat) : partB L 0 n = List.replicate L 0 := by
  apply List.ext_getElem (by simp [partB])
  intro i h1 h2
  simp [partB] at h1 ⊢
  intro h; omega
theorem partB_full (L n : Nat) : partB L L n = numB L n := by
  simp [partB, numB]
theorem partB_set (L k n : Nat) (hk : k < L) : (partB L k n).set (L - 1 - k) (byteAt n k) = partB L (k + 1) n := by
  apply List.ext_getElem (by simp [partB])
  intro i h1 h2
  simp only [List.getElem_set, partB, List.getElem_map, List.getElem_range]
  simp [partB] at h1
  by_cases e : L - 1 - k = i
  · rw [if_pos e, if_pos (by omega)]; congr 1; omega
  · rw [if_neg e]
    by_cases f : L - k ≤ i
    · rw [if_pos f, if_pos (by omega)]
    · rw [if_neg f, if_neg (by omega)]
theorem numB_rng (L n : Nat) : ∀ x ∈ numB L n, 0 ≤ x ∧ x ≤ 255 := by
  intro x hx; simp [numB] at hx; obtain ⟨j, _, rfl⟩ := hx; exact byteAt_rng _ _

/-- A slice whose elements can be read: xs. -/
def Row (k : IntKind) (w : World) (a : Option Addr) (xs : List Int) : Prop :=
  xs ≠ [] → ∃ b off, a = some ⟨b, off, none⟩ ∧ b < w.heap.size ∧ ∀ i, i < xs.length → w.cell? ⟨b, off + i, none⟩ = some (.int k (xs[i]?.getD 0))

theorem Row.at {k : IntKind} {w : World} {a : Option Addr} {xs : List Int} (h : Row k w a xs) {i : Nat} (hi : i < xs.length) :
    ∃ b off, a = some ⟨b, off, none⟩ ∧ b < w.heap.size ∧ ∀ i, i < xs.length → w.cell? ⟨b, off + i, none⟩ = some (.int k (xs[i]?.getD 0)) :=
  h (by intro e; subst e; simp at hi)

theorem Row.below {k : IntKind} {w w' : World} {a : Option Addr} {xs : List Int} {B : Nat} (h : Row k w a xs) (hb : Below B w w') (hB : w.heap.size ≤ B) : Row k w' a xs := by
  intro hne
  obtain ⟨b, off, rfl, hlt, hc⟩ := h hne
  exact ⟨b, off, rfl, Nat.lt_of_lt_of_le hlt hb.size, fun i hi => (hb.cell (p := ⟨b, off + i, none⟩) (show b < B by omega)).trans (hc i hi)⟩

theorem Row.of_owns {k : IntKind} {w : World} {base : Nat} {e : TypeId} {a : Option Addr} {n cap : Nat} {xs : List Int}
    (h : w.ownsRow base e 1 (.slice a n cap) n (xs.map (Value.int k))) : Row k w a xs := by
  intro hne
  have hl := h.1
  rcases h.2 with ⟨hv, hn⟩ | ⟨g, cap', cur, hv, hg, hh, r⟩
  · exact absurd (List.length_eq_zero_iff.1 (by simpa [hn] using hl)) hne
  · have h2 := h
    obtain ⟨rfl, rfl⟩ : a = some ⟨g, 0, none⟩ ∧ cap = cap' := by simpa using hv
    refine ⟨g, 0, rfl, (Array.getElem?_eq_some_iff.1 hh).1, fun i hi => ?_⟩
    have hl' : xs.length = n := by simpa using hl
    rw [show 0 + i = i from by omega, h.cellAt i (by omega)]
    simp [List.getElem?_map, List.getElem?_eq_getElem hi]

theorem owns_mono {w : World} {base base' : Nat} {e : TypeId} {size : Nat} {v : Value} {n : Nat} {xs : List Value} (h : w.ownsRow base e size v n xs) (hb : base' ≤ base) : w.ownsRow base' e size v n xs := by
  refine ⟨h.1, ?_⟩
  rcases h.2 with h | ⟨g, cap, cur, hv, hg, r⟩
  · exact .inl h
  · exact .inr ⟨g, cap, cur, hv, Nat.le_trans hb hg, r⟩

theorem new_cell (w : World) (v : Value) (t : TypeId) : ∀ j u, [v][j]? = some u → (w.alloc (.cells #[v] t)).cell? ((⟨w.heap.size, 0, none⟩ : Addr).add j) = some u := by
  intro j u hj
  match j, hj with
  | 0, hj =>
    simp at hj; subst hj
    rw [Addr.add_lit, World.cell?_alloc_at _ _ _ _ (by simp)]; rfl
theorem one_int (k : IntKind) (n : Int) : ∀ u ∈ [Value.int k n], u.oneCell' = true := by
  intro u hu; simp at hu; subst hu; rfl
theorem slice_form {w : World} {base : Nat} {e : TypeId} {size : Nat} {v : Value} {n : Nat} {xs : List Value} (h : w.ownsRow base e size v n xs) : ∃ a c, v = .slice a n c := by
  rcases h.2 with ⟨h, h2⟩ | ⟨g, c, cur, h, _⟩
  · rw [h2]; exact ⟨_, _, h⟩
  · exact ⟨_, _, h⟩

theorem bdrewN {B : Nat} {a w : World} (h : Below B a w) (n : Nat) : Below B a (w.drewN n) := h.trans ⟨rfl, rfl, rfl, Nat.le_refl _, fun _ _ => rfl⟩
theorem owns_below {w w' : World} {base B : Nat} {e : TypeId} {size : Nat} {v : Value} {n : Nat} {xs : List Value} (h : w.ownsRow base e size v n xs) (hb : Below B w w') (hB : w.heap.size ≤ B) : w'.ownsRow base e size v n xs := by
  refine ⟨h.1, ?_⟩
  rcases h.2 with h | ⟨g, cap, cur, hv, hg, hh, r⟩
  · exact .inl h
  · exact .inr ⟨g, cap, cur, hv, hg, (hb.block g (Nat.lt_of_lt_of_le (lt_of_block hh) hB)).trans hh, r⟩

/-- The number of some bytes, the greatest weight first. -/
def valB (xs : List Int) : Int := xs.foldl (fun a x => 256 * a + x) 0
theorem valB_snoc (xs : List Int) (k : Nat) (hk : k < xs.length) : valB (xs.take (k + 1)) = 256 * valB (xs.take k) + xs[k]?.getD 0 := by
  rw [List.take_add_one, List.getElem?_eq_getElem hk, valB, List.foldl_append]
  simp [valB]
theorem valB_rng (xs : List Int) (h : ∀ x ∈ xs, 0 ≤ x ∧ x ≤ 255) (k : Nat) : 0 ≤ valB (xs.take k) ∧ valB (xs.take k) < 256 ^ k := by
  induction k with
  | zero => simp [valB]
  | succ k ih =>
    rcases Nat.lt_or_ge k xs.length with hk | hk
    · rw [valB_snoc xs k hk, Int.pow_succ, List.getElem?_eq_getElem hk]
      have := h _ (List.getElem_mem hk)
      simp only [Option.getD_some]
      omega
    · rw [List.take_of_length_le (by omega), ← List.take_of_length_le hk, Int.pow_succ]
      omega
theorem wraps_u64 (n : Int) (h₀ : 0 ≤ n) (h₁ : n < 2 ^ 64) : IntKind.u64.wrap n = n := by rw [IntKind.wrap_u64]; omega
theorem or64 (x y : Int) (h1 : 0 ≤ x) (h2 : x ≤ 72057594037927935) (h3 : 0 ≤ y) (h4 : y ≤ 255) : bits .or .u64 (x * 256) y = 256 * x + y := by
  rw [bits_join .u64 64 (by decide) wraps_u64 8 _ _ (by omega) (by omega) (by omega) (by omega) (by omega) (by omega)]; omega

theorem madeZeros (k : IntKind) (n : Nat) : (madeCells #[Value.int k 0] n).toList = (List.replicate n 0).map (Value.int k) := by
  apply List.ext_getElem (by simp [madeCells])
  intro i h1 h2
  simp [madeCells, Nat.mod_one]

/-- The numbers of two bytes each. -/
def prs (xs : List Int) : List Int := (List.range ((xs.length + 1) / 2)).map fun k => 256 * xs[2 * k]?.getD 0 + xs[2 * k + 1]?.getD 0
theorem prs_len (xs : List Int) : (prs xs).length = (xs.length + 1) / 2 := by simp [prs]
theorem prs_take (xs : List Int) (k : Nat) (hk : 2 * k < xs.length) : (prs xs).take (k + 1) = (prs xs).take k ++ [256 * xs[2 * k]?.getD 0 + xs[2 * k + 1]?.getD 0] := by
  have h : k < (prs xs).length := by rw [prs_len]; omega
  rw [List.take_add_one, List.getElem?_eq_getElem h]
  simp [prs]

theorem wraps_u16 (n : Int) (h₀ : 0 ≤ n) (h₁ : n < 2 ^ 16) : IntKind.u16.wrap n = n := by rw [IntKind.wrap_u16]; omega
theorem or16 (x y : Int) (h1 : 0 ≤ x) (h2 : x ≤ 255) (h3 : 0 ≤ y) (h4 : y ≤ 255) : bits .or .u16 (x * 256) y = 256 * x + y := by
  rw [bits_join .u16 16 (by decide) wraps_u16 8 _ _ (by omega) (by omega) (by omega) (by omega) (by omega) (by omega)]; omega

theorem byte_at {xs : List Int} (h : ∀ x ∈ xs, 0 ≤ x ∧ x ≤ 255) (i : Nat) : 0 ≤ xs[i]?.getD 0 ∧ xs[i]?.getD 0 ≤ 255 := by
  rcases Nat.lt_or_ge i xs.length with hi | hi
  · rw [List.getElem?_eq_getElem hi]; exact h _ (List.getElem_mem hi)
  · rw [List.getElem?_eq_none hi]; simp

theorem div_step (n k : Nat) : (n : Int) / 256 ^ k / 256 = ((n / 256 ^ (k + 1) : Nat) : Int) := by
  rw [Nat.pow_succ, ← Nat.div_div_eq_div_mul]
  simp

end Go.Proofs.Ytgggcapgaikbeaa

/- What octet.Num and its helper answer: the bytes of a number, the greatest weight first, in new memory. -/
namespace Go.Proofs.Ytgggcapgaikbeaa
open Go.RowKit
set_option linter.unusedVariables false
set_option linter.unusedSimpArgs false
theorem Try.info5 : (Try.prog.info? 5).map (fun i => (i.zero, i.size, i.bytes)) = some (some (.int .u8 0), 1, 1) := by kernel_rfl

theorem bounded_any (n : Int) (w : World) :
    Calls Try.prog 94 #[.int .i64 n] w fun e w' => e = .returned (.int .i64 (sz n : Nat)) ∧ w = w' := by
  have e : ((sz n : Nat) : Int) = (if (if n < 0 then 0 else n) ≤ 8 then (if n < 0 then 0 else n) else 8) := by unfold sz; split <;> split <;> omega
  rw [e]; clear e
  by_cases h : n < 0
  · go_enter Try.func94, Try.ntmps94
    go_wp2
    go_ret
    simp [h]
  · by_cases h8 : n ≤ 8
    · go_enter Try.func94, Try.ntmps94
      go_wp2
      go_ret
      simp [h, h8]
    · go_enter Try.func94, Try.ntmps94
      go_wp2
      go_ret
      simp [h, h8]

set_option maxHeartbeats 400000 in
theorem num_aux (s : Int) (L : Nat) (n : Nat) (w : World) (hn : n < 18446744073709551616) (hs8 : L ≤ 8)
    (hb : Hid (∀ w, Calls Try.prog 94 #[.int .i64 s] w fun e w' => e = .returned (.int .i64 (L : Nat)) ∧ w = w')) :
    Calls Try.prog 74 #[.int .i64 s, .int .u64 n] w fun e w' => e = .returned (.slice (some ⟨w.heap.size, 0, none⟩) L L) ∧
      w'.ownsRow w.heap.size 5 1 (.slice (some ⟨w.heap.size, 0, none⟩) L L) L ((numB L n).map (Value.int .u8)) ∧ Below w.heap.size w w' := by
  obtain ⟨i0, hi, hz0, hz1, hz2⟩ := info_parts Try.info5
  go_enter Try.func74, Try.ntmps74
  go_wp2_with (first
    | (go_at_call 94; refine (hb.out _).mono ?_; rintro e w' ⟨rfl, rfl⟩)
    | (at_make; refine wpList_make_full _ rfl _ _ 25 rfl w.heap.size 5 i0 (.int .u8 0) 1 Try.underlying25 hi hz0 hz1 .i64 .i64 _ _ L rfl rfl rfl rfl (by rw [hz2]; omega) (by unfold maxLen; omega) (Nat.le_refl _) ?_))
  intro w1 hown hgrow
  have hbel : Below w.heap.size w w1 := (Below.refl _ _).grown hgrow (Nat.le_refl _) (fun k h => by cases h)
  rw [madeZeros, ← partB_zero L n] at hown
  clear hgrow
  go_wp2
  go_loopw [1, 12] (fun nn i wr => ∃ k : Nat, k ≤ L ∧ i = .int .i64 k ∧ nn = .int .u64 ((n / 256 ^ k : Nat) : Int) ∧
      wr.ownsRow w.heap.size 5 1 (.slice (some ⟨w.heap.size, 0, none⟩) L L) L ((partB L k n).map (Value.int .u8)) ∧ Below w.heap.size w wr)
    (fun _ i _ => L - (intOf i).toNat)
  case atStart => exact ⟨0, Nat.zero_le _, rfl, by simp, hown, hbel⟩
  case round =>
    clear hown hbel
    obtain ⟨k, hk, rfl, rfl, hown, hbel⟩ := hrel
    by_cases hlt : k < L
    · have hc : wr.cell? ⟨w.heap.size, L - 1 - k, none⟩ = some (.int .u8 ((partB L k n)[L - 1 - k]?.getD 0)) := by
        rw [hown.cellAt _ (by omega)]
        simp [partB_len, List.getElem?_map, List.getElem?_eq_getElem (show L - 1 - k < (partB L k n).length by rw [partB_len]; omega)]
      have hf := hown.frozenAt (L - 1 - k)
      go_wp2
      go_roundw
      case rel =>
        have e : (Value.int IntKind.u8 ((n : Int) / 256 ^ k % 256)) = .int .u8 (byteAt n k) := by unfold byteAt; congr 1
        refine ⟨k + 1, by omega, by go_num, ?_, ?_, hbel.setCell (Nat.le_refl _) _⟩
        · rw [div_step]
        · have h := (hown.stored (L - 1 - k) (.int .u8 (byteAt n k))).1
          rw [← List.map_set, partB_set L k n hlt] at h
          rw [e]; exact h
      case measure => simp [intOf]; omega
    · obtain rfl : k = L := by omega
      go_wp2
      go_ret
      rw [partB_full] at hown
      exact ⟨rfl, hown, hbel⟩

theorem num_any (s : Int) (n : Nat) (w : World) (hn : n < 18446744073709551616) :
    Calls Try.prog 74 #[.int .i64 s, .int .u64 n] w fun e w' => e = .returned (.slice (some ⟨w.heap.size, 0, none⟩) (sz s) (sz s)) ∧
      w'.ownsRow w.heap.size 5 1 (.slice (some ⟨w.heap.size, 0, none⟩) (sz s) (sz s)) (sz s) ((numB (sz s) n).map (Value.int .u8)) ∧ Below w.heap.size w w' :=
  num_aux s (sz s) n w hn (sz_le s) (fun w => bounded_any s w)
end Go.Proofs.Ytgggcapgaikbeaa

/- What bytes.Clone answers: a copy in new memory. -/
namespace Go.Proofs.Ytgggcapgaikbeaa
open Go.RowKit
set_option linter.unusedVariables false
set_option linter.unusedSimpArgs false
theorem clone_any (a : Option Addr) (xs : List Int) (cap : Nat) (w : World) (hr : Row .u8 w a xs) (hlen : xs.length ≤ 140737488351232) :
    Calls Try.prog 92 #[.slice a xs.length cap] w fun e w' => ∃ a' cap', e = .returned (.slice a' xs.length cap') ∧
      w'.ownsRow w.heap.size 5 1 (.slice a' xs.length cap') xs.length (xs.map (Value.int .u8)) ∧ Below w.heap.size w w' := by
  obtain ⟨i0, hi, hz0, hz1, hz2⟩ := info_parts Try.info5
  have q22 : ∀ (w : World) (a : Option Addr) (n c n' c' : Nat), (binOp .eql 25 (.slice a n c) (.slice none n' c')).run Try.prog w = .ok (.bool a.isNone) w := fun w a n c n' c' => Lib.run_eql_slice_nil w _ _ a n c n' c' Try.underlying25
  cases a with
  | none =>
    have hx : xs = [] := by
      cases xs with
      | nil => rfl
      | cons x r => obtain ⟨b, off, h, _⟩ := hr (by simp); cases h
    subst hx
    go_enter Try.func92, Try.ntmps92
    go_wp2
    go_ret
    exact ⟨none, 0, rfl, World.ownsRow_nil _ _ _ _, Below.refl _ _⟩
  | some ad =>
    have hcell : ∀ j u, (xs.map (Value.int .u8))[j]? = some u → (w.alloc (.cells #[] 5)).cell? (ad.add j) = some u := by
      intro j u hj
      have hj2 : j < xs.length := by
        rcases Nat.lt_or_ge j xs.length with h | h
        · exact h
        · simp [List.getElem?_eq_none h] at hj
      obtain ⟨b, off, h, hlt, hc⟩ := hr.at hj2
      cases h
      rw [Addr.add_lit, World.cell?_alloc_past _ _ _ hlt, hc j hj2]
      simpa [List.getElem?_map, List.getElem?_eq_getElem hj2] using hj
    have hown0 : (w.alloc (.cells #[] 5)).ownsRow w.heap.size 5 1 (.slice (some ⟨w.heap.size, 0, none⟩) 0 0) 0 [] := World.ownsRow_lit w #[] 0 (Nat.le_refl _) (by unfold maxLen; omega) rfl
    have h1c : ∀ u ∈ xs.map (Value.int .u8), u.oneCell' = true := by intro u hu; simp at hu; obtain ⟨x, _, rfl⟩ := hu; rfl
    go_enter Try.func92, Try.ntmps92
    go_wp2_with (at_builtin; refine wpList_append_own _ rfl _ _ 25 rfl w.heap.size 5 i0 (.int .u8 0) 1 1 Try.underlying25 hi hz0 hz1 hz2 rfl (by decide) _ _ _ rfl hown0 ad xs.length cap (xs.map (Value.int .u8)) rfl (by simp) hcell h1c (by unfold maxLen; omega) (by omega) (by simp) ?_)
    intro v' w1 hown hgrow _
    replace hown : w1.ownsRow w.heap.size 5 1 v' xs.length (xs.map (Value.int .u8)) := by simpa using hown
    have hbel : Below w.heap.size w w1 := ((Below.refl _ _).alloc (Nat.le_refl _) _).grown hgrow (by simp) (fun k h => by cases h; exact Nat.le_refl _)
    clear hgrow
    go_wp2
    go_ret
    obtain ⟨a', cap', rfl⟩ : ∃ a' cap', v' = .slice a' xs.length cap' := by
      rcases hown.2 with ⟨h, h2⟩ | ⟨g, c, cur, h, _⟩
      · rw [h2]; exact ⟨_, _, h⟩
      · exact ⟨_, _, h⟩
    exact ⟨a', cap', rfl, hown, hbel⟩

end Go.Proofs.Ytgggcapgaikbeaa

/- What slices.Grow, slices.Concat and octet.Join answer: the texts one behind the other, in new memory. -/
namespace Go.Proofs.Ytgggcapgaikbeaa
open Go.RowKit
set_option linter.unusedVariables false
set_option linter.unusedSimpArgs false
set_option maxRecDepth 100000
theorem grow_any (n : Nat) (w : World) (hn : n ≤ 1099511627776) :
    Calls Try.prog 101 #[.slice none 0 0, .int .i64 n] w fun e w' => ∃ v, e = .returned v ∧ w'.ownsRow w.heap.size 5 1 v 0 [] ∧ Below w.heap.size w w' := by
  obtain ⟨i0, hi, hz0, hz1, hz2⟩ := info_parts Try.info5
  by_cases h0 : 0 < n
  · have h1 : ¬ ((n : Int) < 0) := by omega
    have hrz := fun ty => Lib.run_append_nil_zeros (P := Try.prog) w 25 3 ty 5 i0 (.int .u8 0) .i64 .i64 Try.underlying25 Try.underlying3 hi hz0 n h0 (by omega) (by omega) (by rw [hz2]; omega)
    obtain ⟨G, hG⟩ : ∃ G, G = grownCap w n 0 5 := ⟨_, rfl⟩
    have hGn : n ≤ G := by have := grownCap_ge w n 0 5; omega
    have hG63 : G ≤ maxLen := by rw [hG]; exact grownCap_le_maxLen w n 0 5 (by unfold maxLen; omega)
    rw [← hG] at hrz
    have hown := World.ownsRow_made (base := w.heap.size) (e := 5) (size := 1) w.drew (Builtin.zeroCells #[.int .u8 0] n ++ Builtin.zeroCells #[.int .u8 0] (G - n)) G (Nat.le_refl _) hG63 (by
      simp [size_zeroCells]; omega)
    have HO := hide hown
    have HR := hide hrz
    clear hown hrz hG
    have hG : G ≤ 9223372036854775807 := by unfold maxLen at hG63; omega
    clear hG63
    have hbel : Below w.heap.size w (w.drew.alloc (.cells (Builtin.zeroCells #[.int .u8 0] n ++ Builtin.zeroCells #[.int .u8 0] (G - n)) 5)) := ((Below.refl _ w).drew).alloc (Nat.le_refl _) _
    have HB := hide hbel
    clear hbel
    go_enter Try.func101, Try.ntmps101
    go_wp2_with (at_builtin; refine Lib.wpList_append_run _ rfl _ _ _ _ rfl _ _ rfl rfl _ _ (HR.out _) ?_)
    go_ret
    exact ⟨_, rfl, HO.out, HB.out⟩
  · obtain rfl : n = 0 := by omega
    go_enter Try.func101, Try.ntmps101
    go_wp2
    go_ret
    exact ⟨_, rfl, World.ownsRow_nil _ _ _ _, Below.refl _ _⟩

/-- One of several slices of bytes: where it lies, its bytes, its capacity. -/
abbrev Part := Option Addr × List Int × Nat
def Part.v (p : Part) : Value := .slice p.1 p.2.1.length p.2.2
/-- A slice of slices of bytes that can be read. -/
structure Parts (w : World) (a : Option Addr) (L : List Part) : Prop where
  cells : L ≠ [] → ∃ b off, a = some ⟨b, off, none⟩ ∧ b < w.heap.size ∧ ∀ i p, L[i]? = some p → w.cell? ⟨b, off + i, none⟩ = some (Part.v p)
  rows : ∀ p ∈ L, Row .u8 w p.1 p.2.1 ∧ (p.1 = none → p.2.2 = 0)
def flat (L : List Part) : List Int := L.flatMap (·.2.1)
theorem flat_snoc (L : List Part) (k : Nat) (p : Part) (h : L[k]? = some p) : flat (L.take (k + 1)) = flat (L.take k) ++ p.2.1 := by
  have hk : k < L.length := (List.getElem?_eq_some_iff.1 h).1
  rw [List.take_add_one, h]
  simp [flat]
theorem flat_le (L : List Part) (k : Nat) : (flat (L.take k)).length ≤ (flat L).length := by
  have h : flat L = flat (L.take k) ++ flat (L.drop k) := by
    unfold flat
    rw [← List.flatMap_append, List.take_append_drop]
  rw [h]; simp
theorem Parts.below {w w' : World} {a : Option Addr} {L : List Part} {B : Nat} (h : Parts w a L) (hb : Below B w w') (hB : w.heap.size ≤ B) : Parts w' a L := by
  refine ⟨fun hne => ?_, fun p hp => ⟨(h.rows p hp).1.below hb hB, (h.rows p hp).2⟩⟩
  obtain ⟨b, off, rfl, hlt, hc⟩ := h.cells hne
  exact ⟨b, off, rfl, Nat.lt_of_lt_of_le hlt hb.size, fun i p hi => (hb.cell (p := ⟨b, off + i, none⟩) (show b < B by omega)).trans (hc i p hi)⟩
theorem row_none {k : IntKind} {w : World} {xs : List Int} (h : Row k w none xs) : xs = [] := by
  cases xs with
  | nil => rfl
  | cons x r => obtain ⟨b, off, h, _⟩ := h (by simp); cases h

theorem row_cells {k : IntKind} {w : World} {ad : Addr} {xs : List Int} (h : Row k w (some ad) xs) : ∀ j u, (xs.map (Value.int k))[j]? = some u → w.cell? (ad.add j) = some u := by
  intro j u hj
  have hj2 : j < xs.length := by
    rcases Nat.lt_or_ge j xs.length with h | h
    · exact h
    · simp [List.getElem?_eq_none h] at hj
  obtain ⟨b, off, e, hlt, hc⟩ := h.at hj2
  cases e
  rw [Addr.add_lit, hc j hj2]
  simpa [List.getElem?_map, List.getElem?_eq_getElem hj2] using hj
theorem ints_one (k : IntKind) (xs : List Int) : ∀ u ∈ xs.map (Value.int k), u.oneCell' = true := by intro u hu; simp at hu; obtain ⟨x, _, rfl⟩ := hu; rfl

set_option maxHeartbeats 800000 in
theorem concat_any (a : Option Addr) (L : List Part) (cap : Nat) (w : World) (hp : Parts w a L) (hlen : (flat L).length ≤ 1099511627776) (hL : L.length ≤ 1099511627776) :
    Calls Try.prog 95 #[.slice a L.length cap] w fun e w' => ∃ a' c', e = .returned (.slice a' (flat L).length c') ∧
      w'.ownsRow w.heap.size 5 1 (.slice a' (flat L).length c') (flat L).length ((flat L).map (Value.int .u8)) ∧ Below w.heap.size w w' := by
  obtain ⟨i0, hi, hz0, hz1, hz2⟩ := info_parts Try.info5
  have HPT := hide hp
  clear hp
  go_enter Try.func95, Try.ntmps95
  go_wp2
  go_loop [3, 11] (fun s i => ∃ k : Nat, k ≤ L.length ∧ i = .int .i64 k ∧ s = .int .i64 ((flat (L.take k)).length : Nat)) (fun _ i => L.length - (intOf i).toNat)
  case atStart => exact ⟨0, Nat.zero_le _, rfl, rfl⟩
  case round =>
    obtain ⟨k, hk, rfl, rfl⟩ := hrel
    by_cases hlt : k < L.length
    · obtain ⟨p, hpk⟩ : ∃ p, L[k]? = some p := ⟨L[k], List.getElem?_eq_getElem hlt⟩
      obtain ⟨b, off, rfl, hbl, hc⟩ := HPT.out.cells (by intro e; rw [e] at hlt; simp at hlt)
      have cx := hc k p hpk
      have hfs := congrArg List.length (flat_snoc L k p hpk)
      have hfl := flat_le L (k + 1)
      rw [List.length_append] at hfs
      unfold Part.v at cx
      obtain ⟨pa, pxs, pc⟩ := p
      simp only at cx hfs
      generalize pxs.length = pn at *
      generalize (flat (L.take k)).length = f0 at *
      have HF := hide hfs
      have hfb : f0 + pn ≤ 1099511627776 := by omega
      clear hfs hpk hc hfl
      go_wp2
      go_round
      case rel => exact ⟨k + 1, by omega, by go_num, by rw [HF.out]; go_num⟩
      case measure => simp [intOf]; omega
    · obtain rfl : k = L.length := by omega
      rw [List.take_length]
      go_wp2_with fail
      refine (grow_any _ w hlen).mono ?_
      rintro e w1 ⟨v, rfl, hown, hbel⟩
      obtain ⟨a1, c1, rfl⟩ := slice_form hown
      go_wp2
      go_loopw [6, 27] (fun s i wr => ∃ k : Nat, ∃ a' c', k ≤ L.length ∧ i = .int .i64 k ∧ s = .slice a' (flat (L.take k)).length c' ∧
          wr.ownsRow w.heap.size 5 1 (.slice a' (flat (L.take k)).length c') (flat (L.take k)).length ((flat (L.take k)).map (Value.int .u8)) ∧ Below w.heap.size w wr)
        (fun _ i _ => L.length - (intOf i).toNat)
      case atStart => exact ⟨0, a1, c1, Nat.zero_le _, rfl, rfl, hown, hbel⟩
      case round =>
        clear hown hbel
        obtain ⟨k, a', c', hk, rfl, rfl, hown, hbel⟩ := hrel
        by_cases hlt : k < L.length
        · obtain ⟨p, hpk⟩ : ∃ p, L[k]? = some p := ⟨L[k], List.getElem?_eq_getElem hlt⟩
          obtain ⟨b, off, rfl, hbl, hc⟩ := (HPT.out.below hbel (Nat.le_refl _)).cells (by intro e; rw [e] at hlt; simp at hlt)
          obtain ⟨hrow, hnil⟩ := (HPT.out.below hbel (Nat.le_refl _)).rows p (List.mem_of_getElem? hpk)
          have cx := hc k p hpk
          have hfs := flat_snoc L k p hpk
          have hfl := flat_le L (k + 1)
          rw [hfs, List.length_append] at hfl
          unfold Part.v at cx
          obtain ⟨pa, pxs, pc⟩ := p
          simp only at cx hfs hfl hrow hnil
          have HF := hide hfs
          have HO := hide hown
          generalize flat (L.take k) = f0 at *
          have hfb : f0.length + pxs.length ≤ 1099511627776 := by omega
          clear hfs hpk hc hfl hown
          cases pa with
          | none =>
            obtain rfl := row_none hrow
            obtain rfl := hnil rfl
            clear hrow hnil
            go_wp2_with (at_builtin; refine wpList_append_own_none rfl _ _ 25 rfl w.heap.size 5 i0 1 Try.underlying25 hi _ _ _ rfl HO.out rfl ?_)
            go_roundw
            case rel => exact ⟨k + 1, a', c', by omega, by go_num, by rw [HF.out]; simp, by rw [HF.out]; simpa using HO.out, hbel⟩
            case measure => simp [intOf]; omega
          | some ad =>
            clear hnil
            have hcl := row_cells hrow
            have HC := hide hcl
            clear hcl hrow
            go_wp2_with (at_builtin; refine wpList_append_own _ rfl _ _ 25 rfl w.heap.size 5 i0 (.int .u8 0) 1 1 Try.underlying25 hi hz0 hz1 hz2 rfl (by decide) _ _ _ rfl HO.out ad pxs.length pc (pxs.map (Value.int .u8)) rfl (by simp) HC.out (ints_one _ _) (by unfold maxLen; omega) (by omega) hbel.size ?_)
            intro v' w2 hown2 hgrow _
            obtain ⟨a2, c2, rfl⟩ := slice_form hown2
            have hbel2 : Below w.heap.size w w2 := hbel.grown hgrow hbel.size (fun j e => (HO.out.lt j e).1)
            have O2 := hide hown2
            have B2 := hide hbel2
            clear hown2 hbel2 hgrow
            go_wp2
            go_roundw
            case rel => exact ⟨k + 1, a2, c2, by omega, by go_num, by rw [HF.out]; simp, by rw [HF.out]; simpa using O2.out, B2.out⟩
            case measure => simp [intOf]; omega
        · obtain rfl : k = L.length := by omega
          rw [List.take_length] at hown ⊢
          go_wp2
          go_ret
          exact ⟨a', c', rfl, hown, hbel⟩

/-- 'Join'. -/
theorem join_any (a : Option Addr) (L : List Part) (cap : Nat) (w : World) (hp : Parts w a L) (hlen : (flat L).length ≤ 1099511627776) (hL : L.length ≤ 1099511627776) :
    Calls Try.prog 73 #[.slice a L.length cap] w fun e w' => ∃ a' c', e = .returned (.slice a' (flat L).length c') ∧
      w'.ownsRow w.heap.size 5 1 (.slice a' (flat L).length c') (flat L).length ((flat L).map (Value.int .u8)) ∧ Below w.heap.size w w' := by
  go_enter Try.func73, Try.ntmps73
  go_wp2_with (go_at_call 95; refine (concat_any a L cap w hp hlen hL).mono ?_; rintro e w1 ⟨a1, c1, rfl, hown, hbel⟩)
  go_ret
  exact ⟨a1, c1, rfl, hown, hbel⟩

theorem none_cap {w : World} {base : Nat} {e : TypeId} {a : Option Addr} {n c m : Nat} {xs : List Value} (h : w.ownsRow base e m (.slice a n c) n xs) : a = none → c = 0 := by
  intro ha
  rcases h.2 with ⟨h, _⟩ | ⟨g, cap, cur, hv, _⟩
  · simp at h; exact h.2.2
  · subst ha; simp at hv

end Go.Proofs.Ytgggcapgaikbeaa

/- What an Eye and the document's numbers answer: take, Num, Left, NewEye. -/
namespace Go.Proofs.Ytgggcapgaikbeaa
open Go.RowKit
set_option linter.unusedVariables false
set_option linter.unusedSimpArgs false
set_option maxRecDepth 100000
/-- What an Eye at block E has left. -/
def Left (w : World) (E B : Nat) (v : Value) (rest : List Int) : Prop :=
  (v = .slice none 0 0 ∧ rest = []) ∨
  ∃ b off c, v = .slice (some ⟨b, off, none⟩) rest.length c ∧ b ≠ E ∧ b < B ∧ rest.length ≤ c ∧ c ≤ 9223372036854775807 ∧ ∀ i, i < rest.length → w.cell? ⟨b, off + i, none⟩ = some (.int .u8 (rest[i]?.getD 0))
def EyeAt (w : World) (E B : Nat) (rest : List Int) (bad : Bool) : Prop := B ≤ w.heap.size ∧ ∃ v, w.heap[E]? = some (.cells #[v, .bool bad] 144 (0, 0)) ∧ Left w E B v rest

theorem two_cell0 {w : World} {b : Nat} {u v : Value} {t : TypeId} (h : w.heap[b]? = some (.cells #[u, v] t (0, 0))) : w.cell? ⟨b, 0, none⟩ = some u := by simp [World.cell?, h]
theorem two_cell1 {w : World} {b : Nat} {u v : Value} {t : TypeId} (h : w.heap[b]? = some (.cells #[u, v] t (0, 0))) : w.cell? ⟨b, 1, none⟩ = some v := by simp [World.cell?, h]
theorem two_free {w : World} {b : Nat} {u v : Value} {t : TypeId} (h : w.heap[b]? = some (.cells #[u, v] t (0, 0))) (i : Nat) : w.frozen? ⟨b, i, none⟩ = false := by simp [World.frozen?, h]
theorem two_set0 {w : World} {b : Nat} {u v x : Value} {t : TypeId} (h : w.heap[b]? = some (.cells #[u, v] t (0, 0))) : (w.setCell ⟨b, 0, none⟩ x).heap[b]? = some (.cells #[x, v] t (0, 0)) := by
  have hlt := lt_of_block h
  have h' : w.heap[b] = .cells #[u, v] t (0, 0) := by simpa [Array.getElem?_eq_getElem hlt] using h
  show (w.heap.modify b _)[b]? = _
  rw [Array.getElem?_eq_getElem (by simpa using hlt), Array.getElem_modify_self, h']
  rfl
theorem two_set1 {w : World} {b : Nat} {u v x : Value} {t : TypeId} (h : w.heap[b]? = some (.cells #[u, v] t (0, 0))) : (w.setCell ⟨b, 1, none⟩ x).heap[b]? = some (.cells #[u, x] t (0, 0)) := by
  have hlt := lt_of_block h
  have h' : w.heap[b] = .cells #[u, v] t (0, 0) := by simpa [Array.getElem?_eq_getElem hlt] using h
  show (w.heap.modify b _)[b]? = _
  rw [Array.getElem?_eq_getElem (by simpa using hlt), Array.getElem_modify_self, h']
  rfl

theorem gb_set (w : World) (E i : Nat) (x : Value) : w.grownBy (w.setCell ⟨E, i, none⟩ x) (some E) :=
  ⟨rfl, rfl, rfl, by simp, fun k hk hne => Below.heap_setCell _ _ _ _ (by intro e; exact hne (by rw [e]))⟩
theorem gb_trans {a b c : World} {r : Option Nat} (h : a.grownBy b r) (k : b.grownBy c r) : a.grownBy c r :=
  ⟨k.os.trans h.os, k.tape.trans h.tape, k.output.trans h.output, Nat.le_trans h.size k.size, fun i hi hne => (k.block i (Nat.lt_of_lt_of_le hi h.size) hne).trans (h.block i hi hne)⟩
theorem cell_set_ne (w : World) (E i : Nat) (x : Value) {a : Addr} (h : a.block ≠ E) : (w.setCell ⟨E, i, none⟩ x).cell? a = w.cell? a :=
  World.cell?_of_block (Below.heap_setCell _ _ _ _ h)

theorem take_any (E B : Nat) (rest : List Int) (bad : Bool) (n : Nat) (w : World) (h : EyeAt w E B rest bad) (hn : n ≤ 9223372036854775807) (hl : rest.length ≤ 1099511627776) :
    Calls Try.prog 93 #[.pointer (some ⟨E, 0, none⟩), .int .i64 n] w fun e w' => ∃ a c, e = .returned (.slice a (if n ≤ rest.length then n else 0) c) ∧ Row .u8 w' a (if n ≤ rest.length then rest.take n else []) ∧
      EyeAt w' E B (if n ≤ rest.length then rest.drop n else []) (bad || decide (rest.length < n)) ∧ w.grownBy w' (some E) := by
  obtain ⟨hBs, v, hE, hL⟩ := h
  have c0 := two_cell0 hE
  have c1 := two_cell1 hE
  have f0 := two_free hE 0
  have f1 := two_free hE 1
  by_cases hle : n ≤ rest.length
  · rw [if_pos hle, if_pos hle, if_pos hle]
    have hbd : (bad || decide (rest.length < n)) = bad := by simp; omega
    rw [hbd]
    clear hbd
    rcases hL with ⟨rfl, rfl⟩ | ⟨b, off, c, rfl, hbE, hb, hlc, hc63, hc⟩
    · obtain rfl : n = 0 := by simpa using hle
      go_enter Try.func93, Try.ntmps93
      go_wp2
      go_ret
      exact ⟨none, 0, rfl, fun h => absurd rfl h, ⟨by simpa using hBs, _, two_set0 hE, .inl ⟨rfl, rfl⟩⟩, gb_set _ _ _ _⟩
    · by_cases hcn : c = n
      · go_enter Try.func93, Try.ntmps93
        go_wp2
        go_ret
        have hdl : (rest.drop n).length = rest.length - n := List.length_drop
        refine ⟨some ⟨b, off, none⟩, n, rfl, fun hne => ⟨b, off, rfl, by simp; omega, fun i hi => by rw [cell_set_ne _ _ _ _ hbE, hc i (by simp at hi; omega), List.getElem?_take_of_lt (by simp at hi; omega)]⟩, ⟨by simpa using hBs, _, two_set0 hE, .inr ⟨b, off, 0, by rw [hdl], hbE, hb, by rw [hdl]; omega, by omega, fun i hi => by rw [hdl] at hi; omega⟩⟩, gb_set _ _ _ _⟩
      · go_enter Try.func93, Try.ntmps93
        go_wp2
        go_ret
        have hdl : (rest.drop n).length = rest.length - n := List.length_drop
        refine ⟨some ⟨b, off, none⟩, c, rfl, fun hne => ⟨b, off, rfl, by simp; omega, fun i hi => by rw [cell_set_ne _ _ _ _ hbE, hc i (by simp at hi; omega), List.getElem?_take_of_lt (by simp at hi; omega)]⟩, ⟨by simpa using hBs, _, two_set0 hE, .inr ⟨b, off + n, c - n, by rw [hdl], hbE, hb, by rw [hdl]; omega, by omega, fun i hi => by rw [hdl] at hi; rw [cell_set_ne _ _ _ _ hbE, List.getElem?_drop, Nat.add_assoc]; exact hc (n + i) (by omega)⟩⟩, gb_set _ _ _ _⟩
  · have hbd : (bad || decide (rest.length < n)) = true := by simp; omega
    rw [if_neg hle, if_neg hle, if_neg hle, hbd]
    clear hbd
    obtain ⟨a, cc, rfl⟩ : ∃ a cc, v = .slice a rest.length cc := by
      rcases hL with ⟨rfl, rfl⟩ | ⟨b, off, c, rfl, _⟩
      · exact ⟨_, _, rfl⟩
      · exact ⟨_, _, rfl⟩
    go_enter Try.func93, Try.ntmps93
    go_wp2
    go_ret
    refine ⟨none, 0, rfl, fun h => absurd rfl h, ⟨by simpa using hBs, _, two_set1 (two_set0 hE), .inl ⟨rfl, rfl⟩⟩, gb_trans (gb_set _ _ _ _) (gb_set _ _ _ _)⟩

set_option maxHeartbeats 800000 in
theorem eyeNum_any (E B : Nat) (rest : List Int) (bad : Bool) (s : Int) (w : World) (h : EyeAt w E B rest bad) (hb : ∀ x ∈ rest, 0 ≤ x ∧ x ≤ 255) (hl : rest.length ≤ 1099511627776) :
    Calls Try.prog 69 #[.pointer (some ⟨E, 0, none⟩), .int .i64 s] w fun e w' => e = .returned (.int .u64 (valB (if sz s ≤ rest.length then rest.take (sz s) else []))) ∧
      EyeAt w' E B (if sz s ≤ rest.length then rest.drop (sz s) else []) (bad || decide (rest.length < sz s)) ∧ w.grownBy w' (some E) := by
  have hs8 := sz_le s
  have ht := take_any E B rest bad (sz s) w h (by omega) hl
  have hbd := bounded_any s w
  have hxb : ∀ x ∈ (if sz s ≤ rest.length then rest.take (sz s) else []), 0 ≤ x ∧ x ≤ 255 := by
    split
    · exact fun x hx => hb x (List.mem_of_mem_take hx)
    · simp
  have hxl : (if sz s ≤ rest.length then rest.take (sz s) else []).length = (if sz s ≤ rest.length then sz s else 0) := by
    split
    · rw [List.length_take]; omega
    · rfl
  have hx8 : (if sz s ≤ rest.length then sz s else 0) ≤ 8 := by split <;> omega
  generalize (if sz s ≤ rest.length then rest.take (sz s) else []) = xs at *
  generalize (if sz s ≤ rest.length then sz s else 0) = m at *
  generalize (if sz s ≤ rest.length then rest.drop (sz s) else []) = rest' at *
  generalize (bad || decide (rest.length < sz s)) = bad' at *
  generalize sz s = S at *
  have HT := hide ht
  have HBD := hide hbd
  have HXB := hide hxb
  have HXL := hide hxl
  clear ht hbd hxb hxl h hb hl hs8
  go_enter Try.func69, Try.ntmps69
  go_wp2_with fail
  refine HBD.out.mono ?_
  rintro e w1 ⟨rfl, rfl⟩
  go_wp2_with fail
  refine HT.out.mono ?_
  rintro e w2 ⟨a, c, rfl, hrow, heye, hgr⟩
  have HR := hide hrow
  have HE := hide heye
  have HG := hide hgr
  clear hrow heye hgr
  go_wp2
  go_loop [5, 13] (fun v i => ∃ k : Nat, k ≤ m ∧ i = .int .i64 k ∧ v = .int .u64 (valB (xs.take k))) (fun _ i => m - (intOf i).toNat)
  case atStart => exact ⟨0, Nat.zero_le _, rfl, rfl⟩
  case round =>
    obtain ⟨k, hk, rfl, rfl⟩ := hrel
    have HX := HXL.out
    by_cases hlt : k < m
    · obtain ⟨b, off, rfl, hbl, hc⟩ := HR.out.at (i := k) (by omega)
      have cx := hc k (by omega)
      have hv := valB_snoc xs k (by omega)
      have hr1 := valB_rng xs HXB.out k
      have hr2 := byte_at HXB.out k
      have hp : (256 : Int) ^ k ≤ 72057594037927936 := by
        have : k ≤ 7 := by omega
        have := Nat.pow_le_pow_right (show 0 < 256 by decide) this
        have h2 : ((256 ^ k : Nat) : Int) ≤ ((256 ^ 7 : Nat) : Int) := by exact_mod_cast this
        simpa using h2
      generalize xs[k]?.getD 0 = y at *
      generalize valB (xs.take k) = x at *
      have hx1 : 0 ≤ x := hr1.1
      have hx2 : x ≤ 72057594037927935 := by omega
      have hy1 := hr2.1
      have hy2 := hr2.2
      have HV := hide hv
      clear hv hr1 hr2 hp hc HX
      go_wp2
      go_round
      case rel => exact ⟨k + 1, by omega, by go_num, by rw [HV.out, or64 x y hx1 hx2 hy1 hy2]⟩
      case measure => simp [intOf]; omega
    · have hkm : k = m := by omega
      subst hkm
      rw [List.take_of_length_le (by omega)]
      clear HX
      go_wp2
      go_ret
      exact ⟨rfl, HE.out, HG.out⟩

theorem left_any (E B : Nat) (rest : List Int) (bad : Bool) (w : World) (h : EyeAt w E B rest bad) :
    Calls Try.prog 72 #[.pointer (some ⟨E, 0, none⟩)] w fun e w' => e = .returned (.int .i64 (rest.length : Nat)) ∧ w = w' := by
  obtain ⟨hBs, v, hE, hL⟩ := h
  obtain ⟨a, cc, rfl⟩ : ∃ a cc, v = .slice a rest.length cc := by
    rcases hL with ⟨rfl, rfl⟩ | ⟨b, off, c, rfl, _⟩
    · exact ⟨_, _, rfl⟩
    · exact ⟨_, _, rfl⟩
  have c0 := two_cell0 hE
  clear hE hL
  go_enter Try.func72, Try.ntmps72
  go_wp2
  go_ret
  exact ⟨rfl, rfl⟩
theorem newEye_any (a : Option Addr) (xs : List Int) (cap : Nat) (w : World) (hr : Row .u8 w a xs) (hlen : xs.length ≤ 1099511627776) :
    Calls Try.prog 68 #[.slice a xs.length cap] w fun e w' => ∃ E, e = .returned (.pointer (some ⟨E, 0, none⟩)) ∧ w.heap.size ≤ E ∧ EyeAt w' E E xs false ∧ Below w.heap.size w w' := by
  go_enter Try.func68, Try.ntmps68
  go_wp2_with (go_at_call 92; refine (clone_any a xs cap _ hr (by omega)).mono ?_; rintro e w1 ⟨a', cap', rfl, hown, hbel⟩)
  go_ret
  refine ⟨w1.heap.size, rfl, hbel.size, ⟨by simp, _, heap_alloc_new w1 _, ?_⟩, hbel.alloc hbel.size _⟩
  rcases hown.2 with ⟨h, h0⟩ | ⟨g, c, cur, hv, hg, hh, hnc, hcm, _⟩
  · exact .inl ⟨h, List.length_eq_zero_iff.1 h0⟩
  · have hgl := lt_of_block hh
    refine .inr ⟨g, 0, c, hv, by omega, hgl, hnc, by unfold maxLen at hcm; omega, fun i hi => ?_⟩
    obtain ⟨rfl, rfl⟩ : a' = some ⟨g, 0, none⟩ ∧ cap' = c := by simpa using hv
    rw [World.cell?_alloc_past _ _ _ hgl, show 0 + i = i from by omega, hown.cellAt i (by omega)]
    simp [List.getElem?_map, List.getElem?_eq_getElem hi]

end Go.Proofs.Ytgggcapgaikbeaa

/- What an Eye's Bytes answers. -/
namespace Go.Proofs.Ytgggcapgaikbeaa
open Go.RowKit
set_option linter.unusedVariables false
set_option linter.unusedSimpArgs false
theorem grownBy_below {w w' : World} {E B : Nat} (h : w.grownBy w' (some E)) (hE : B ≤ E) (hB : B ≤ w.heap.size) : Below B w w' := (Below.refl B w).grown h hB (fun k e => by cases e; exact hE)

theorem gb_drewN (w : World) (n : Nat) (r : Option Nat) : w.grownBy (w.drewN n) r := ⟨rfl, rfl, rfl, Nat.le_refl _, fun _ _ _ => rfl⟩
/-- 'Bytes' of an Eye: a copy in new memory. -/
theorem eyeBytes_any (E B : Nat) (rest : List Int) (bad : Bool) (s : Int) (w : World) (h : EyeAt w E B rest bad) (hl : rest.length ≤ 1099511627776) (hs : -9223372036854775808 ≤ s ∧ s ≤ 9223372036854775807) :
    Calls Try.prog 71 #[.pointer (some ⟨E, 0, none⟩), .int .i64 s] w fun e w' => ∃ w1 a c, e = .returned (.slice a (if s.toNat ≤ rest.length then s.toNat else 0) c) ∧
      w'.ownsRow w1.heap.size 5 1 (.slice a (if s.toNat ≤ rest.length then s.toNat else 0) c) (if s.toNat ≤ rest.length then s.toNat else 0) ((if s.toNat ≤ rest.length then rest.take s.toNat else []).map (Value.int .u8)) ∧
      EyeAt w1 E B (if s.toNat ≤ rest.length then rest.drop s.toNat else []) (bad || decide (rest.length < s.toNat)) ∧ w.grownBy w1 (some E) ∧ Below w1.heap.size w1 w' := by
  have ht := take_any E B rest bad s.toNat w h (by omega) hl
  have hxl : (if s.toNat ≤ rest.length then rest.take s.toNat else []).length = (if s.toNat ≤ rest.length then s.toNat else 0) := by
    split
    · rw [List.length_take]; omega
    · rfl
  have hm : (if s.toNat ≤ rest.length then s.toNat else 0) ≤ 1099511627776 := by split <;> omega
  generalize (if s.toNat ≤ rest.length then rest.take s.toNat else []) = xs at *
  generalize (if s.toNat ≤ rest.length then s.toNat else 0) = m at *
  generalize (if s.toNat ≤ rest.length then rest.drop s.toNat else []) = rest' at *
  generalize (bad || decide (rest.length < s.toNat)) = bad' at *
  obtain ⟨k, hk⟩ : ∃ k : Nat, s.toNat = k := ⟨_, rfl⟩
  rw [hk] at ht
  have HT := hide ht
  have HXL := hide hxl
  have hcl : ∀ (W : World) (a : Option Addr) (c : Nat), Row .u8 W a xs → Calls Try.prog 92 #[.slice a m c] W fun e w' => ∃ a' cap', e = .returned (.slice a' m cap') ∧ w'.ownsRow W.heap.size 5 1 (.slice a' m cap') m (xs.map (Value.int .u8)) ∧ Below W.heap.size W w' := fun W a c hr => by
    have := clone_any a xs c W hr (by rw [hxl]; omega)
    rw [hxl] at this; exact this
  have HCL := hide hcl
  clear ht hxl hcl h
  have fin : ∀ (e : Ending) (w' : World), (∃ w1 a c, e = .returned (.slice a m c) ∧ w'.ownsRow w1.heap.size 5 1 (.slice a m c) m (xs.map (Value.int .u8)) ∧ EyeAt w1 E B rest' bad' ∧ w.grownBy w1 (some E) ∧ Below w1.heap.size w1 w') →
      ∃ w1 a c, e = .returned (.slice a m c) ∧ w'.ownsRow w1.heap.size 5 1 (.slice a m c) m (xs.map (Value.int .u8)) ∧ EyeAt w1 E B rest' bad' ∧ w.grownBy w1 (some E) ∧ Below w1.heap.size w1 w' := by
    rintro e w' ⟨w1, a, c, h1, h2, h3, h4, h5⟩
    exact ⟨w1, a, c, h1, h2, h3, h4, h5⟩
  by_cases hneg : s < 0
  · have hk0 : k = 0 := by omega
    rw [hk0] at HT
    clear hk0 hk
    go_enter Try.func71, Try.ntmps71
    go_wp2_with fail
    refine HT.out.mono ?_
    rintro e w1 ⟨a1, c1, rfl, hr, heye, hg⟩
    go_wp2_with fail
    refine (HCL.out w1 a1 c1 hr).mono ?_
    rintro e w2 ⟨a2, c2, rfl, hown, hbel⟩
    go_wp2
    go_ret
    exact fin _ _ ⟨w1, a2, c2, rfl, hown, heye, hg, hbel⟩
  · have hsk : s = (k : Int) := by omega
    clear hk
    subst hsk
    go_enter Try.func71, Try.ntmps71
    go_wp2_with fail
    refine HT.out.mono ?_
    rintro e w1 ⟨a1, c1, rfl, hr, heye, hg⟩
    go_wp2_with fail
    refine (HCL.out w1 a1 c1 hr).mono ?_
    rintro e w2 ⟨a2, c2, rfl, hown, hbel⟩
    go_wp2
    go_ret
    exact fin _ _ ⟨w1, a2, c2, rfl, hown, heye, hg, hbel⟩

end Go.Proofs.Ytgggcapgaikbeaa

/- The document's Size and Num. -/
namespace Go.Proofs.Ytgggcapgaikbeaa
open Go.RowKit
set_option linter.unusedVariables false
set_option linter.unusedSimpArgs false
theorem refSize_any (n : Int) (w : World) :
    Calls Try.prog 77 #[.int .i64 n] w fun e w' => e = .returned (.int .i64 (sz n : Nat)) ∧ w = w' := by
  by_cases h : n < 0
  · have e : sz n = 0 := by unfold sz; omega
    rw [e]; clear e
    go_enter Try.func77, Try.ntmps77
    go_wp2
    go_ret
    exact ⟨rfl, rfl⟩
  · by_cases h8 : 8 < n
    · have e : sz n = 8 := by unfold sz; omega
      rw [e]; clear e
      go_enter Try.func77, Try.ntmps77
      go_wp2
      go_ret
      exact ⟨rfl, rfl⟩
    · have e : ((sz n : Nat) : Int) = n := by unfold sz; omega
      rw [e]; clear e
      go_enter Try.func77, Try.ntmps77
      go_wp2
      go_ret
      exact ⟨rfl, rfl⟩

/-- The last k bytes of n. -/
theorem numB_succ (k n : Nat) : numB (k + 1) n = byteAt n k :: numB k n := by
  unfold numB
  rw [List.range_succ_eq_map]
  simp
  intro i hi
  congr 1; omega

set_option maxHeartbeats 800000 in
theorem refNum_own (s : Int) (n : Nat) (w : World) (hn : n < 18446744073709551616) :
    Calls Try.prog 48 #[.int .i64 s, .int .u64 n] w fun e w' => ∃ g c, e = .returned (.slice (some ⟨g, 0, none⟩) (sz s) c) ∧ w'.ownsRow w.heap.size 5 1 (.slice (some ⟨g, 0, none⟩) (sz s) c) (sz s) ((numB (sz s) n).map (Value.int .u8)) ∧ Below w.heap.size w w' := by
  obtain ⟨i0, hi, hz0, hz1, hz2⟩ := info_parts Try.info5
  have hs8 := sz_le s
  have hsz : ∀ w, Calls Try.prog 77 #[.int .i64 s] w fun e w' => e = .returned (.int .i64 (sz s : Nat)) ∧ w = w' := fun w => refSize_any s w
  generalize sz s = L at *
  have HS := hide hsz
  clear hsz
  have hown0 : (w.alloc (.cells #[] 5)).ownsRow w.heap.size 5 1 (.slice (some ⟨w.heap.size, 0, none⟩) 0 0) 0 [] := World.ownsRow_lit w #[] 0 (Nat.le_refl _) (by unfold maxLen; omega) rfl
  go_enter Try.func48, Try.ntmps48
  go_wp2
  go_loopw [5, 6, 7] (fun v x i wr => ∃ k : Nat, ∃ g c', k ≤ L ∧ i = .int .i64 k ∧ x = .int .u64 ((n / 256 ^ k : Nat) : Int) ∧ v = .slice (some ⟨g, 0, none⟩) k c' ∧
      wr.ownsRow w.heap.size 5 1 (.slice (some ⟨g, 0, none⟩) k c') k ((numB k n).map (Value.int .u8)) ∧ Below w.heap.size w wr)
    (fun _ _ i _ => L - (intOf i).toNat)
  case atStart => exact ⟨0, _, _, Nat.zero_le _, rfl, by simp, rfl, hown0, (Below.refl _ _).alloc (Nat.le_refl _) _⟩
  case round =>
    clear hown0
    obtain ⟨k, g, c', hk, rfl, rfl, rfl, hown, hbel⟩ := hrel
    by_cases hlt : k < L
    · have HO := hide hown
      have hcl := (hown.alloc (.cells #[.int .u8 (byteAt n k)] 5)).cells (g := g) rfl
      have HC := hide hcl
      clear hown hcl
      have hq : n / 256 ^ k ≤ 18446744073709551615 := Nat.le_trans (Nat.div_le_self _ _) (by omega)
      have hby : ((n / 256 ^ k : Nat) : Int) % 256 = byteAt n k := by unfold byteAt; simp
      have hdv : ((n / 256 ^ k : Nat) : Int) / 256 = ((n / 256 ^ (k + 1) : Nat) : Int) := by rw [← div_step]; simp
      have hbr := byteAt_rng n k
      have HBY := hide hby
      have HDV := hide hdv
      clear hby hdv
      generalize n / 256 ^ k = q at *
      go_wp2_with fail
      refine (HS.out _).mono ?_
      rintro e w1 ⟨rfl, rfl⟩
      have hown1 := World.ownsRow_lit (base := w.heap.size) (e := 5) (size := 1) wr #[.int .u8 (byteAt n k)] 1 hbel.size (by unfold maxLen; omega) rfl
      have H1 := hide hown1
      clear hown1
      rw [← HBY.out] at H1 HC
      go_wp2_with (at_builtin; refine wpList_append_own _ rfl _ _ 25 rfl w.heap.size 5 i0 (.int .u8 0) 1 1 Try.underlying25 hi hz0 hz1 hz2 rfl (by decide) _ _ _ rfl H1.out ⟨g, 0, none⟩ k c' ((numB k n).map (Value.int .u8)) rfl (by simp [numB_len]) HC.out (ints_one _ _) (by unfold maxLen; omega) (by omega) (by have := hbel.size; simp; omega) ?_)
      intro v' w2 hown2 hgrow hnn
      have hv' : v' ≠ .slice none 0 0 := hnn
      obtain ⟨g2, c2, rfl⟩ : ∃ g2 c2, v' = .slice (some ⟨g2, 0, none⟩) (k + 1) c2 := by
        rcases hown2.2 with ⟨h, _⟩ | ⟨g, c, cur, h, _⟩
        · exact absurd h hv'
        · exact ⟨g, c, by rw [h, Nat.add_comm]⟩
      have hbel2 : Below w.heap.size w w2 := (hbel.alloc hbel.size _).grown hgrow (by have := hbel.size; simp; omega) (fun j e => by simp [Value.ownBlock] at e; have := hbel.size; omega)
      have hown3 : w2.ownsRow w.heap.size 5 1 (.slice (some ⟨g2, 0, none⟩) (k + 1) c2) (k + 1) ((numB (k + 1) n).map (Value.int .u8)) := by
        rw [numB_succ, List.map_cons, ← HBY.out]
        rw [Nat.add_comm 1 k] at hown2
        exact hown2
      have O3 := hide hown3
      have B2 := hide hbel2
      clear hown2 hown3 hbel2 hgrow hnn hv'
      go_wp2
      go_roundw
      case rel => exact ⟨k + 1, g2, c2, by omega, by go_num, by rw [HDV.out], rfl, O3.out, B2.out⟩
      case measure => simp [intOf]; omega
    · obtain rfl : k = L := by omega
      go_wp2_with fail
      refine (HS.out _).mono ?_
      rintro e w1 ⟨rfl, rfl⟩
      go_wp2
      go_ret
      exact ⟨_, _, rfl, hown, hbel⟩
end Go.Proofs.Ytgggcapgaikbeaa
