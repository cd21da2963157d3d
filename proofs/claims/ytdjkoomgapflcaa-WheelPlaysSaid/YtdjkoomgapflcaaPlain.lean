/- Plain facts on numbers and lists of bytes that the walks of this seat use; no program is named. -/
import Derived.WalkKit
import Derived.Deep.QuietTactic
import Derived.BigQuiet
namespace Go.Proofs.Ytdjkoomgapflcaa
open Go.RowKit

/-- A fact kept from the walk. -/
theorem hide {p : Prop} (h : p) : Hid p := h

/-- A size within its bounds. -/
def sz (s : Int) : Nat := (min (max s 0) 8).toNat
theorem sz_le (s : Int) : sz s ≤ 8 := by unfold sz; omega

/-- The byte of n of weight i. -/
def byteAt (n i : Nat) : Int := ((n / 256 ^ i % 256 : Nat) : Int)
theorem byteAt_rng (n i : Nat) : 0 ≤ byteAt n i ∧ byteAt n i ≤ 255 := by
  unfold byteAt; have := Nat.mod_lt (n / 256 ^ i) (show 0 < 256 by decide); omega
/-- L bytes, of which the last k are n's. -/
def partB (L k n : Nat) : List Int := (List.range L).map fun j => if L - k ≤ j then byteAt n (L - 1 - j) else 0
def numB (L n : Nat) : List Int := (List.range L).map fun j => byteAt n (L - 1 - j)
theorem partB_len (L k n : Nat) : (partB L k n).length = L := by simp [partB]
theorem numB_len (L n : Nat) : (numB L n).length = L := by simp [numB]
theorem partB_zero (L n : Nat) : partB L 0 n = List.replicate L 0 := by
  apply List.ext_getElem (by simp [partB])
  intro i h1 h2
  simp [partB] at h1 ⊢
  intro h; omega
theorem partB_full (L n : Nat) : partB L L n = numB L n := by
  simp [partB, numB]
theorem partB_set (L k n : Nat) (hk : k < L) : (partB L k n).set (L - 1 - k) (byteAt n k) = partB L (k + 1) n := by
  apply List.ext_getElem (by simp [partB])
  intro i h1 h2
  simp only [List.getElem_set, partB, List.getElem_map, List.getElem_range]
  simp [partB] at h1
  by_cases e : L - 1 - k = i
  · rw [if_pos e, if_pos (by omega)]; congr 1; omega
  · rw [if_neg e]
    by_cases f : L - k ≤ i
    · rw [if_pos f, if_pos (by omega)]
    · rw [if_neg f, if_neg (by omega)]
theorem numB_rng (L n : Nat) : ∀ x ∈ numB L n, 0 ≤ x ∧ x ≤ 255 := by
  intro x hx; simp [numB] at hx; obtain ⟨j, _, rfl⟩ := hx; exact byteAt_rng _ _

/-- A slice whose elements can be read: xs. -/
def Row (k : IntKind) (w : World) (a : Option Addr) (xs : List Int) : Prop :=
  xs ≠ [] → ∃ b off, a = some ⟨b, off, none⟩ ∧ b < w.heap.size ∧ ∀ i, i < xs.length → w.cell? ⟨b, off + i, none⟩ = some (.int k (xs[i]?.getD 0))

theorem Row.at {k : IntKind} {w : World} {a : Option Addr} {xs : List Int} (h : Row k w a xs) {i : Nat} (hi : i < xs.length) :
    ∃ b off, a = some ⟨b, off, none⟩ ∧ b < w.heap.size ∧ ∀ i, i < xs.length → w.cell? ⟨b, off + i, none⟩ = some (.int k (xs[i]?.getD 0)) :=
  h (by intro e; subst e; simp at hi)

theorem Row.below {k : IntKind} {w w' : World} {a : Option Addr} {xs : List Int} {B : Nat} (h : Row k w a xs) (hb : Below B w w') (hB : w.heap.size ≤ B) : Row k w' a xs := by
  intro hne
  obtain ⟨b, off, rfl, hlt, hc⟩ := h hne
  exact ⟨b, off, rfl, Nat.lt_of_lt_of_le hlt hb.size, fun i hi => (hb.cell (p := ⟨b, off + i, none⟩) (show b < B by omega)).trans (hc i hi)⟩

theorem Row.of_owns {k : IntKind} {w : World} {base : Nat} {e : TypeId} {a : Option Addr} {n cap : Nat} {xs : List Int}
    (h : w.ownsRow base e 1 (.slice a n cap) n (xs.map (Value.int k))) : Row k w a xs := by
  intro hne
  have hl := h.1
  rcases h.2 with ⟨hv, hn⟩ | ⟨g, cap', cur, hv, hg, hh, r⟩
  · exact absurd (List.length_eq_zero_iff.1 (by simpa [hn] using hl)) hne
  · have h2 := h
    obtain ⟨rfl, rfl⟩ : a = some ⟨g, 0, none⟩ ∧ cap = cap' := by simpa using hv
    refine ⟨g, 0, rfl, (Array.getElem?_eq_some_iff.1 hh).1, fun i hi => ?_⟩
    have hl' : xs.length = n := by simpa using hl
    rw [show 0 + i = i from by omega, h.cellAt i (by omega)]
    simp [List.getElem?_map, List.getElem?_eq_getElem hi]

theorem owns_mono {w : World} {base base' : Nat} {e : TypeId} {size : Nat} {v : Value} {n : Nat} {xs : List Value} (h : w.ownsRow base e size v n xs) (hb : base' ≤ base) : w.ownsRow base' e size v n xs := by
  refine ⟨h.1, ?_⟩
  rcases h.2 with h | ⟨g, cap, cur, hv, hg, r⟩
  · exact .inl h
  · exact .inr ⟨g, cap, cur, hv, Nat.le_trans hb hg, r⟩

theorem new_cell (w : World) (v : Value) (t : TypeId) : ∀ j u, [v][j]? = some u → (w.alloc (.cells #[v] t)).cell? ((⟨w.heap.size, 0, none⟩ : Addr).add j) = some u := by
  intro j u hj
  match j, hj with
  | 0, hj =>
    simp at hj; subst hj
    rw [Addr.add_lit, World.cell?_alloc_at _ _ _ _ (by simp)]; rfl
theorem one_int (k : IntKind) (n : Int) : ∀ u ∈ [Value.int k n], u.oneCell' = true := by
  intro u hu; simp at hu; subst hu; rfl
theorem slice_form {w : World} {base : Nat} {e : TypeId} {size : Nat} {v : Value} {n : Nat} {xs : List Value} (h : w.ownsRow base e size v n xs) : ∃ a c, v = .slice a n c := by
  rcases h.2 with ⟨h, h2⟩ | ⟨g, c, cur, h, _⟩
  · rw [h2]; exact ⟨_, _, h⟩
  · exact ⟨_, _, h⟩

theorem bdrewN {B : Nat} {a w : World} (h : Below B a w) (n : Nat) : Below B a (w.drewN n) := h.trans ⟨rfl, rfl, rfl, Nat.le_refl _, fun _ _ => rfl⟩
theorem ne_false {a b : Int} (h : a = b) : (a != b) = false := by simp [h]
theorem ne_true {a b : Int} (h : a ≠ b) : (a != b) = true := by simp [h]

theorem owns_below {w w' : World} {base B : Nat} {e : TypeId} {size : Nat} {v : Value} {n : Nat} {xs : List Value} (h : w.ownsRow base e size v n xs) (hb : Below B w w') (hB : w.heap.size ≤ B) : w'.ownsRow base e size v n xs := by
  refine ⟨h.1, ?_⟩
  rcases h.2 with h | ⟨g, cap, cur, hv, hg, hh, r⟩
  · exact .inl h
  · exact .inr ⟨g, cap, cur, hv, hg, (hb.block g (Nat.lt_of_lt_of_le (lt_of_block hh) hB)).trans hh, r⟩

/-- The number of some bytes, the greatest weight first. -/
def valB (xs : List Int) : Int := xs.foldl (fun a x => 256 * a + x) 0
theorem valB_snoc (xs : List Int) (k : Nat) (hk : k < xs.length) : valB (xs.take (k + 1)) = 256 * valB (xs.take k) + xs[k]?.getD 0 := by
  rw [List.take_add_one, List.getElem?_eq_getElem hk, valB, List.foldl_append]
  simp [valB]
theorem valB_rng (xs : List Int) (h : ∀ x ∈ xs, 0 ≤ x ∧ x ≤ 255) (k : Nat) : 0 ≤ valB (xs.take k) ∧ valB (xs.take k) < 256 ^ k := by
  induction k with
  | zero => simp [valB]
  | succ k ih =>
    rcases Nat.lt_or_ge k xs.length with hk | hk
    · rw [valB_snoc xs k hk, Int.pow_succ, List.getElem?_eq_getElem hk]
      have := h _ (List.getElem_mem hk)
      simp only [Option.getD_some]
      omega
    · rw [List.take_of_length_le (by omega), ← List.take_of_length_le hk, Int.pow_succ]
      omega
theorem wraps_u64 (n : Int) (h₀ : 0 ≤ n) (h₁ : n < 2 ^ 64) : IntKind.u64.wrap n = n := by rw [IntKind.wrap_u64]; omega
theorem or64 (x y : Int) (h1 : 0 ≤ x) (h2 : x ≤ 72057594037927935) (h3 : 0 ≤ y) (h4 : y ≤ 255) : bits .or .u64 (x * 256) y = 256 * x + y := by
  rw [bits_join .u64 64 (by decide) wraps_u64 8 _ _ (by omega) (by omega) (by omega) (by omega) (by omega) (by omega)]; omega

theorem madeZeros (k : IntKind) (n : Nat) : (madeCells #[Value.int k 0] n).toList = (List.replicate n 0).map (Value.int k) := by
  apply List.ext_getElem (by simp [madeCells])
  intro i h1 h2
  simp [madeCells, Nat.mod_one]

/-- The numbers of two bytes each. -/
def prs (xs : List Int) : List Int := (List.range ((xs.length + 1) / 2)).map fun k => 256 * xs[2 * k]?.getD 0 + xs[2 * k + 1]?.getD 0
theorem prs_len (xs : List Int) : (prs xs).length = (xs.length + 1) / 2 := by simp [prs]
theorem prs_take (xs : List Int) (k : Nat) (hk : 2 * k < xs.length) : (prs xs).take (k + 1) = (prs xs).take k ++ [256 * xs[2 * k]?.getD 0 + xs[2 * k + 1]?.getD 0] := by
  have h : k < (prs xs).length := by rw [prs_len]; omega
  rw [List.take_add_one, List.getElem?_eq_getElem h]
  simp [prs]

theorem wraps_u16 (n : Int) (h₀ : 0 ≤ n) (h₁ : n < 2 ^ 16) : IntKind.u16.wrap n = n := by rw [IntKind.wrap_u16]; omega
theorem or16 (x y : Int) (h1 : 0 ≤ x) (h2 : x ≤ 255) (h3 : 0 ≤ y) (h4 : y ≤ 255) : bits .or .u16 (x * 256) y = 256 * x + y := by
  rw [bits_join .u16 16 (by decide) wraps_u16 8 _ _ (by omega) (by omega) (by omega) (by omega) (by omega) (by omega)]; omega

theorem byte_at {xs : List Int} (h : ∀ x ∈ xs, 0 ≤ x ∧ x ≤ 255) (i : Nat) : 0 ≤ xs[i]?.getD 0 ∧ xs[i]?.getD 0 ≤ 255 := by
  rcases Nat.lt_or_ge i xs.length with hi | hi
  · rw [List.getElem?_eq_getElem hi]; exact h _ (List.getElem_mem hi)
  · rw [List.getElem?_eq_none hi]; simp

theorem div_step (n k : Nat) : (n : Int) / 256 ^ k / 256 = ((n / 256 ^ (k + 1) : Nat) : Int) := by
  rw [Nat.pow_succ, ← Nat.div_div_eq_div_mul]
  simp

end Go.Proofs.Ytdjkoomgapflcaa
