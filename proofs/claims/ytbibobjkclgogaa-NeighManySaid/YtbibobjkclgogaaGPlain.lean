/- Plain facts on numbers and lists of bytes that the walks of this seat use; no program is named. -/
import Derived.WalkKit
import Derived.Deep.QuietTactic
import Derived.BigQuiet
import Derived.Deep.Trees
namespace Go.Proofs.Ytbibobjkclgogaa
open Go.RowKit

/-- A fact kept from the walk. -/
theorem hide {p : Prop} (h : p) : Hid p := h

/-- A size within its bounds. -/
def sz (s : Int) : Nat := (min (max s 0) 8).toNat
theorem sz_le (s : Int) : sz s ≤ 8 := by unfold sz; omega

/-- The byte of n of weight i. -/
def byteAt (n i : Nat) : Int := ((n / 256 ^ i % 256 : Nat) : Int)
theorem byteAt_rng (n i : Nat) : 0 ≤ byteAt n i ∧ byteAt n i ≤ 255 := by
  unfold byteAt; have := Nat.mod_lt (n / 256 ^ i) (show 0 < 256 by decide); omega
/-- L bytes, of which the last k are n's. -/
def partB (L k n : Nat) : List Int := (List.range L).map fun j => if L - k ≤ j then byteAt n (L - 1 - j) else 0
def numB (L n : Nat) : List Int := (List.range L).map fun j => byteAt n (L - 1 - j)
theorem partB_len (L k n : Nat) : (partB L k n).length = L := by simp [partB]
theorem numB_len (L n : Nat) : (numB L n).length = L := by simp [numB]
theorem partB_zero (L n : Nat) : partB L 0 n = List.replicate L 0 := by
  apply List.ext_getElem (by simp [partB])
  intro i h1 h2
  simp [partB] at h1 ⊢
  intro h; omega
theorem partB_full (L n : Nat) : partB L L n = numB L n := by
  simp [partB, numB]
theorem partB_set (L k n : Nat) (hk : k < L) : (partB L k n).set (L - 1 - k) (byteAt n k) = partB L (k + 1) n := by
  apply List.ext_getElem (by simp [partB])
  intro i h1 h2
  simp only [List.getElem_set, partB, List.getElem_map, List.getElem_range]
  simp [partB] at h1
  by_cases e : L - 1 - k = i
  · rw [if_pos e, if_pos (by omega)]; congr 1; omega
  · rw [if_neg e]
    by_cases f : L - k ≤ i
    · rw [if_pos f, if_pos (by omega)]
    · rw [if_neg f, if_neg (by omega)]
theorem numB_rng (L n : Nat) : ∀ x ∈ numB L n, 0 ≤ x ∧ x ≤ 255 := by
  intro x hx; simp [numB] at hx; obtain ⟨j, _, rfl⟩ := hx; exact byteAt_rng _ _

/-- A slice whose elements can be read: xs. -/
def Row (k : IntKind) (w : World) (a : Option Addr) (xs : List Int) : Prop :=
  xs ≠ [] → ∃ b off, a = some ⟨b, off, none⟩ ∧ b < w.heap.size ∧ ∀ i, i < xs.length → w.cell? ⟨b, off + i, none⟩ = some (.int k (xs[i]?.getD 0))

theorem Row.at {k : IntKind} {w : World} {a : Option Addr} {xs : List Int} (h : Row k w a xs) {i : Nat} (hi : i < xs.length) :
    ∃ b off, a = some ⟨b, off, none⟩ ∧ b < w.heap.size ∧ ∀ i, i < xs.length → w.cell? ⟨b, off + i, none⟩ = some (.int k (xs[i]?.getD 0)) :=
  h (by intro e; subst e; simp at hi)

theorem Row.below {k : IntKind} {w w' : World} {a : Option Addr} {xs : List Int} {B : Nat} (h : Row k w a xs) (hb : Below B w w') (hB : w.heap.size ≤ B) : Row k w' a xs := by
  intro hne
  obtain ⟨b, off, rfl, hlt, hc⟩ := h hne
  exact ⟨b, off, rfl, Nat.lt_of_lt_of_le hlt hb.size, fun i hi => (hb.cell (p := ⟨b, off + i, none⟩) (show b < B by omega)).trans (hc i hi)⟩

theorem Row.of_owns {k : IntKind} {w : World} {base : Nat} {e : TypeId} {a : Option Addr} {n cap : Nat} {xs : List Int}
    (h : w.ownsRow base e 1 (.slice a n cap) n (xs.map (Value.int k))) : Row k w a xs := by
  intro hne
  have hl := h.1
  rcases h.2 with ⟨hv, hn⟩ | ⟨g, cap', cur, hv, hg, hh, r⟩
  · exact absurd (List.length_eq_zero_iff.1 (by simpa [hn] using hl)) hne
  · have h2 := h
    obtain ⟨rfl, rfl⟩ : a = some ⟨g, 0, none⟩ ∧ cap = cap' := by simpa using hv
    refine ⟨g, 0, rfl, (Array.getElem?_eq_some_iff.1 hh).1, fun i hi => ?_⟩
    have hl' : xs.length = n := by simpa using hl
    rw [show 0 + i = i from by omega, h.cellAt i (by omega)]
    simp [List.getElem?_map, List.getElem?_eq_getElem hi]

theorem owns_mono {w : World} {base base' : Nat} {e : TypeId} {size : Nat} {v : Value} {n : Nat} {xs : List Value} (h : w.ownsRow base e size v n xs) (hb : base' ≤ base) : w.ownsRow base' e size v n xs := by
  refine ⟨h.1, ?_⟩
  rcases h.2 with h | ⟨g, cap, cur, hv, hg, r⟩
  · exact .inl h
  · exact .inr ⟨g, cap, cur, hv, Nat.le_trans hb hg, r⟩

theorem new_cell (w : World) (v : Value) (t : TypeId) : ∀ j u, [v][j]? = some u → (w.alloc (.cells #[v] t)).cell? ((⟨w.heap.size, 0, none⟩ : Addr).add j) = some u := by
  intro j u hj
  match j, hj with
  | 0, hj =>
    simp at hj; subst hj
    rw [Addr.add_lit, World.cell?_alloc_at _ _ _ _ (by simp)]; rfl
theorem one_int (k : IntKind) (n : Int) : ∀ u ∈ [Value.int k n], u.oneCell' = true := by
  intro u hu; simp at hu; subst hu; rfl
theorem slice_form {w : World} {base : Nat} {e : TypeId} {size : Nat} {v : Value} {n : Nat} {xs : List Value} (h : w.ownsRow base e size v n xs) : ∃ a c, v = .slice a n c := by
  rcases h.2 with ⟨h, h2⟩ | ⟨g, c, cur, h, _⟩
  · rw [h2]; exact ⟨_, _, h⟩
  · exact ⟨_, _, h⟩

theorem bdrewN {B : Nat} {a w : World} (h : Below B a w) (n : Nat) : Below B a (w.drewN n) := h.trans ⟨rfl, rfl, rfl, Nat.le_refl _, fun _ _ => rfl⟩
theorem ne_false {a b : Int} (h : a = b) : (a != b) = false := by simp [h]
theorem ne_true {a b : Int} (h : a ≠ b) : (a != b) = true := by simp [h]

theorem owns_below {w w' : World} {base B : Nat} {e : TypeId} {size : Nat} {v : Value} {n : Nat} {xs : List Value} (h : w.ownsRow base e size v n xs) (hb : Below B w w') (hB : w.heap.size ≤ B) : w'.ownsRow base e size v n xs := by
  refine ⟨h.1, ?_⟩
  rcases h.2 with h | ⟨g, cap, cur, hv, hg, hh, r⟩
  · exact .inl h
  · exact .inr ⟨g, cap, cur, hv, hg, (hb.block g (Nat.lt_of_lt_of_le (lt_of_block hh) hB)).trans hh, r⟩

/-- The number of some bytes, the greatest weight first. -/
def valB (xs : List Int) : Int := xs.foldl (fun a x => 256 * a + x) 0
theorem valB_snoc (xs : List Int) (k : Nat) (hk : k < xs.length) : valB (xs.take (k + 1)) = 256 * valB (xs.take k) + xs[k]?.getD 0 := by
  rw [List.take_add_one, List.getElem?_eq_getElem hk, valB, List.foldl_append]
  simp [valB]
theorem valB_rng (xs : List Int) (h : ∀ x ∈ xs, 0 ≤ x ∧ x ≤ 255) (k : Nat) : 0 ≤ valB (xs.take k) ∧ valB (xs.take k) < 256 ^ k := by
  induction k with
  | zero => simp [valB]
  | succ k ih =>
    rcases Nat.lt_or_ge k xs.length with hk | hk
    · rw [valB_snoc xs k hk, Int.pow_succ, List.getElem?_eq_getElem hk]
      have := h _ (List.getElem_mem hk)
      simp only [Option.getD_some]
      omega
    · rw [List.take_of_length_le (by omega), ← List.take_of_length_le hk, Int.pow_succ]
      omega
theorem wraps_u64 (n : Int) (h₀ : 0 ≤ n) (h₁ : n < 2 ^ 64) : IntKind.u64.wrap n = n := by rw [IntKind.wrap_u64]; omega
theorem or64 (x y : Int) (h1 : 0 ≤ x) (h2 : x ≤ 72057594037927935) (h3 : 0 ≤ y) (h4 : y ≤ 255) : bits .or .u64 (x * 256) y = 256 * x + y := by
  rw [bits_join .u64 64 (by decide) wraps_u64 8 _ _ (by omega) (by omega) (by omega) (by omega) (by omega) (by omega)]; omega

theorem madeZeros (k : IntKind) (n : Nat) : (madeCells #[Value.int k 0] n).toList = (List.replicate n 0).map (Value.int k) := by
  apply List.ext_getElem (by simp [madeCells])
  intro i h1 h2
  simp [madeCells, Nat.mod_one]

/-- The numbers of two bytes each. -/
def prs (xs : List Int) : List Int := (List.range ((xs.length + 1) / 2)).map fun k => 256 * xs[2 * k]?.getD 0 + xs[2 * k + 1]?.getD 0
theorem prs_len (xs : List Int) : (prs xs).length = (xs.length + 1) / 2 := by simp [prs]
theorem prs_take (xs : List Int) (k : Nat) (hk : 2 * k < xs.length) : (prs xs).take (k + 1) = (prs xs).take k ++ [256 * xs[2 * k]?.getD 0 + xs[2 * k + 1]?.getD 0] := by
  have h : k < (prs xs).length := by rw [prs_len]; omega
  rw [List.take_add_one, List.getElem?_eq_getElem h]
  simp [prs]

theorem wraps_u16 (n : Int) (h₀ : 0 ≤ n) (h₁ : n < 2 ^ 16) : IntKind.u16.wrap n = n := by rw [IntKind.wrap_u16]; omega
theorem or16 (x y : Int) (h1 : 0 ≤ x) (h2 : x ≤ 255) (h3 : 0 ≤ y) (h4 : y ≤ 255) : bits .or .u16 (x * 256) y = 256 * x + y := by
  rw [bits_join .u16 16 (by decide) wraps_u16 8 _ _ (by omega) (by omega) (by omega) (by omega) (by omega) (by omega)]; omega

theorem byte_at {xs : List Int} (h : ∀ x ∈ xs, 0 ≤ x ∧ x ≤ 255) (i : Nat) : 0 ≤ xs[i]?.getD 0 ∧ xs[i]?.getD 0 ≤ 255 := by
  rcases Nat.lt_or_ge i xs.length with hi | hi
  · rw [List.getElem?_eq_getElem hi]; exact h _ (List.getElem_mem hi)
  · rw [List.getElem?_eq_none hi]; simp

theorem div_step (n k : Nat) : (n : Int) / 256 ^ k / 256 = ((n / 256 ^ (k + 1) : Nat) : Int) := by
  rw [Nat.pow_succ, ← Nat.div_div_eq_div_mul]
  simp

end Go.Proofs.Ytbibobjkclgogaa

/- Lists of keys with values of any kinds, in order; trees of them. -/
namespace Go.Proofs.Ytbibobjkclgogaa
open Go.Deep
set_option linter.unusedVariables false
section
variable {κ ν : Type}
/-- Keys rising by a measure of theirs. -/
def Asc (τ : κ → Int) (L : List (κ × ν)) : Prop := L.Pairwise fun a b => τ a.1 < τ b.1
theorem asc_mid {τ : κ → Int} {l r : List (κ × ν)} {a : κ × ν} : Asc τ (l ++ a :: r) ↔ Asc τ l ∧ Asc τ r ∧ (∀ x ∈ l, τ x.1 < τ a.1) ∧ (∀ x ∈ r, τ a.1 < τ x.1) := by
  unfold Asc
  rw [List.pairwise_append, List.pairwise_cons]
  constructor
  · rintro ⟨h1, ⟨h2, h3⟩, h4⟩
    exact ⟨h1, h3, fun x hx => h4 x hx a (by simp), h2⟩
  · rintro ⟨h1, h2, h3, h4⟩
    refine ⟨h1, ⟨h4, h2⟩, fun x hx y hy => ?_⟩
    rcases List.mem_cons.1 hy with rfl | hy
    · exact h3 x hx
    · have := h3 x hx
      have := h4 y hy
      omega
def insL (τ : κ → Int) (k : κ) (v : ν) : List (κ × ν) → List (κ × ν)
  | [] => [(k, v)]
  | x :: xs => if τ k < τ x.1 then (k, v) :: x :: xs else if τ k = τ x.1 then (x.1, v) :: xs else x :: insL τ k v xs
theorem ins_left {τ : κ → Int} {k : κ} {v : ν} {a : κ × ν} {r : List (κ × ν)} (h : τ k < τ a.1) : ∀ l : List (κ × ν), insL τ k v (l ++ a :: r) = insL τ k v l ++ a :: r
  | [] => by simp [insL, h]
  | x :: l => by
    rw [List.cons_append, insL, insL, ins_left h l]
    split
    · rfl
    · split <;> rfl
theorem ins_right {τ : κ → Int} {k : κ} {v : ν} {a : κ × ν} {r : List (κ × ν)} (h : τ a.1 < τ k) : ∀ l : List (κ × ν), (∀ x ∈ l, τ x.1 < τ a.1) → insL τ k v (l ++ a :: r) = l ++ a :: insL τ k v r
  | [], _ => by
    rw [List.nil_append, insL, if_neg (by omega), if_neg (by omega)]; rfl
  | x :: l, hl => by
    have hx := hl x (by simp)
    rw [List.cons_append, insL, if_neg (by omega), if_neg (by omega), ins_right h l (fun y hy => hl y (by simp [hy]))]
    rfl
theorem ins_here {τ : κ → Int} {k : κ} {v : ν} {a : κ × ν} {r : List (κ × ν)} (h : τ k = τ a.1) : ∀ l : List (κ × ν), (∀ x ∈ l, τ x.1 < τ a.1) → insL τ k v (l ++ a :: r) = l ++ (a.1, v) :: r
  | [], _ => by
    rw [List.nil_append, insL, if_neg (by omega), if_pos h]; rfl
  | x :: l, hl => by
    have hx := hl x (by simp)
    rw [List.cons_append, insL, if_neg (by omega), if_neg (by omega), ins_here h l (fun y hy => hl y (by simp [hy]))]
    rfl
theorem ins_mem {τ : κ → Int} {k : κ} {v : ν} : ∀ {L : List (κ × ν)} {x : κ × ν}, x ∈ insL τ k v L → τ x.1 = τ k ∨ x ∈ L
  | [], x, h => by
    rw [insL, List.mem_singleton] at h
    subst h; exact .inl rfl
  | y :: L, x, h => by
    rw [insL] at h
    split at h
    · rcases List.mem_cons.1 h with rfl | h
      · exact .inl rfl
      · exact .inr h
    · split at h
      · rcases List.mem_cons.1 h with rfl | h
        · rename_i h1 h2; exact .inl h2.symm
        · exact .inr (List.mem_cons_of_mem _ h)
      · rcases List.mem_cons.1 h with rfl | h
        · exact .inr (by simp)
        · rcases ins_mem h with h | h
          · exact .inl h
          · exact .inr (List.mem_cons_of_mem _ h)
theorem ins_asc {τ : κ → Int} {k : κ} {v : ν} : ∀ {L : List (κ × ν)}, Asc τ L → Asc τ (insL τ k v L)
  | [], _ => by simp [insL, Asc]
  | y :: L, h => by
    have h' := List.pairwise_cons.1 h
    rw [insL]
    split
    · rename_i hk
      refine List.pairwise_cons.2 ⟨fun x hx => ?_, h⟩
      rcases List.mem_cons.1 hx with rfl | hx
      · exact hk
      · have := h'.1 x hx
        show τ k < τ x.1
        omega
    · split
      · exact List.pairwise_cons.2 ⟨h'.1, h'.2⟩
      · refine List.pairwise_cons.2 ⟨fun x hx => ?_, ins_asc h'.2⟩
        rcases ins_mem hx with hx | hx
        · omega
        · exact h'.1 x hx
/-- Does a key stand in a list? -/
def hasL (τ : κ → Int) (k : κ) (L : List (κ × ν)) : Bool := L.any fun x => decide (τ k = τ x.1)
def getL (τ : κ → Int) (k : κ) (L : List (κ × ν)) : Option ν := (L.find? fun x => decide (τ k = τ x.1)).map (·.2)
def delL (τ : κ → Int) (k : κ) (L : List (κ × ν)) : List (κ × ν) := L.filter fun x => decide (τ k ≠ τ x.1)
theorem ins_len {τ : κ → Int} {k : κ} {v : ν} : ∀ {L : List (κ × ν)}, Asc τ L → (insL τ k v L).length = if hasL τ k L then L.length else L.length + 1
  | [], _ => by simp [insL, hasL]
  | y :: L, h => by
    have h' := List.pairwise_cons.1 h
    rw [insL]
    split
    · rename_i hk
      have : hasL τ k (y :: L) = false := by
        simp only [hasL, List.any_eq_false, decide_eq_true_eq]
        intro x hx
        rcases List.mem_cons.1 hx with rfl | hx
        · omega
        · have := h'.1 x hx; omega
      rw [this]; simp
    · split
      · rename_i h1 h2
        have : hasL τ k (y :: L) = true := by simp [hasL, h2]
        rw [this]; simp
      · rename_i h1 h2
        have : hasL τ k (y :: L) = hasL τ k L := by simp [hasL, h2]
        rw [this, List.length_cons, ins_len h'.2]
        split <;> simp
theorem has_left {τ : κ → Int} {k : κ} {a : κ × ν} {l r : List (κ × ν)} (h : τ k < τ a.1) (hr : ∀ x ∈ r, τ a.1 < τ x.1) : hasL τ k (l ++ a :: r) = hasL τ k l := by
  have : hasL τ k (a :: r) = false := by
    simp only [hasL, List.any_eq_false, decide_eq_true_eq]
    intro x hx
    rcases List.mem_cons.1 hx with rfl | hx
    · omega
    · have := hr x hx; omega
  unfold hasL at *
  rw [List.any_append, this, Bool.or_false]
theorem has_right {τ : κ → Int} {k : κ} {a : κ × ν} {l r : List (κ × ν)} (h : τ a.1 < τ k) (hl : ∀ x ∈ l, τ x.1 < τ a.1) : hasL τ k (l ++ a :: r) = hasL τ k r := by
  have h1 : hasL τ k l = false := by
    simp only [hasL, List.any_eq_false, decide_eq_true_eq]
    intro x hx
    have := hl x hx; omega
  have h2 : decide (τ k = τ a.1) = false := by simp; omega
  unfold hasL at *
  rw [List.any_append, List.any_cons, h1, h2, Bool.false_or, Bool.false_or]
theorem has_here {τ : κ → Int} {k : κ} {a : κ × ν} {l r : List (κ × ν)} (h : τ k = τ a.1) : hasL τ k (l ++ a :: r) = true := by
  unfold hasL
  rw [List.any_append, List.any_cons]
  simp [h]
theorem del_left {τ : κ → Int} {k : κ} {a : κ × ν} {l r : List (κ × ν)} (h : τ k < τ a.1) (hr : ∀ x ∈ r, τ a.1 < τ x.1) : delL τ k (l ++ a :: r) = delL τ k l ++ a :: r := by
  unfold delL
  rw [List.filter_append]
  congr 1
  rw [List.filter_eq_self]
  intro x hx
  rw [decide_eq_true_eq]
  rcases List.mem_cons.1 hx with rfl | hx
  · omega
  · have := hr x hx; omega
theorem del_right {τ : κ → Int} {k : κ} {a : κ × ν} {l r : List (κ × ν)} (h : τ a.1 < τ k) (hl : ∀ x ∈ l, τ x.1 < τ a.1) : delL τ k (l ++ a :: r) = l ++ a :: delL τ k r := by
  unfold delL
  rw [List.filter_append, List.filter_cons, if_pos (by rw [decide_eq_true_eq]; omega)]
  congr 1
  rw [List.filter_eq_self]
  intro x hx
  rw [decide_eq_true_eq]
  have := hl x hx; omega
theorem del_here {τ : κ → Int} {k : κ} {a : κ × ν} {l r : List (κ × ν)} (h : τ k = τ a.1) (hl : ∀ x ∈ l, τ x.1 < τ a.1) (hr : ∀ x ∈ r, τ a.1 < τ x.1) : delL τ k (l ++ a :: r) = l ++ r := by
  unfold delL
  rw [List.filter_append, List.filter_cons, if_neg (by rw [decide_eq_true_eq]; omega)]
  congr 1
  · rw [List.filter_eq_self]
    intro x hx
    rw [decide_eq_true_eq]
    have := hl x hx; omega
  · rw [List.filter_eq_self]
    intro x hx
    rw [decide_eq_true_eq]
    have := hr x hx; omega
theorem get_left {τ : κ → Int} {k : κ} {a : κ × ν} {l r : List (κ × ν)} (h : τ k < τ a.1) (hr : ∀ x ∈ r, τ a.1 < τ x.1) : getL τ k (l ++ a :: r) = getL τ k l := by
  unfold getL
  rw [List.find?_append]
  cases hf : l.find? fun x => decide (τ k = τ x.1) with
  | some y => rfl
  | none =>
    have : (a :: r).find? (fun x => decide (τ k = τ x.1)) = none := by
      rw [List.find?_eq_none]
      intro x hx
      rw [decide_eq_true_eq]
      rcases List.mem_cons.1 hx with rfl | hx
      · omega
      · have := hr x hx; omega
    rw [this]; rfl
theorem get_right {τ : κ → Int} {k : κ} {a : κ × ν} {l r : List (κ × ν)} (h : τ a.1 < τ k) (hl : ∀ x ∈ l, τ x.1 < τ a.1) : getL τ k (l ++ a :: r) = getL τ k r := by
  unfold getL
  rw [List.find?_append]
  have : l.find? (fun x => decide (τ k = τ x.1)) = none := by
    rw [List.find?_eq_none]
    intro x hx
    rw [decide_eq_true_eq]
    have := hl x hx; omega
  rw [this, List.find?_cons]
  have h2 : decide (τ k = τ a.1) = false := by simp; omega
  rw [h2]; rfl
theorem get_here {τ : κ → Int} {k : κ} {a : κ × ν} {l r : List (κ × ν)} (h : τ k = τ a.1) (hl : ∀ x ∈ l, τ x.1 < τ a.1) : getL τ k (l ++ a :: r) = some a.2 := by
  unfold getL
  rw [List.find?_append]
  have : l.find? (fun x => decide (τ k = τ x.1)) = none := by
    rw [List.find?_eq_none]
    intro x hx
    rw [decide_eq_true_eq]
    have := hl x hx; omega
  rw [this, List.find?_cons]
  have h2 : decide (τ k = τ a.1) = true := by simp [h]
  rw [h2]; rfl
/-- A tree's keys with their values, from the left. -/
def toL : BT (κ × ν) → List (κ × ν)
  | .nil => []
  | .node _ _ a l r => toL l ++ a :: toL r
theorem hasL_iff {τ : κ → Int} {k : κ} {L : List (κ × ν)} : hasL τ k L = true ↔ ∃ x ∈ L, τ k = τ x.1 := by
  unfold hasL
  rw [List.any_eq_true]
  simp
theorem ins_mem2 {τ : κ → Int} {k : κ} {v : ν} : ∀ {L : List (κ × ν)} {x : κ × ν}, x ∈ L → τ x.1 ≠ τ k → x ∈ insL τ k v L
  | y :: L, x, h, hne => by
    rw [insL]
    split
    · exact List.mem_cons_of_mem _ h
    · split
      · rename_i h1 h2
        rcases List.mem_cons.1 h with rfl | h
        · exact absurd h2.symm hne
        · exact List.mem_cons_of_mem _ h
      · rcases List.mem_cons.1 h with rfl | h
        · simp
        · exact List.mem_cons_of_mem _ (ins_mem2 h hne)
theorem has_ins {τ : κ → Int} {k : κ} {v : ν} : ∀ (L : List (κ × ν)), hasL τ k (insL τ k v L) = true
  | [] => by simp [insL, hasL]
  | y :: L => by
    rw [insL]
    split
    · simp [hasL]
    · split
      · rename_i h1 h2; simp [hasL, h2]
      · rw [hasL_iff]
        obtain ⟨x, hx, e⟩ := hasL_iff.1 (has_ins L)
        exact ⟨x, List.mem_cons_of_mem _ hx, e⟩
theorem has_ins_ne {τ : κ → Int} {k j : κ} {v : ν} (h : τ k ≠ τ j) (L : List (κ × ν)) : hasL τ k (insL τ j v L) = hasL τ k L := by
  rw [Bool.eq_iff_iff, hasL_iff, hasL_iff]
  constructor
  · rintro ⟨x, hx, e⟩
    rcases ins_mem hx with h1 | h1
    · exact absurd (e.trans h1) h
    · exact ⟨x, h1, e⟩
  · rintro ⟨x, hx, e⟩
    exact ⟨x, ins_mem2 hx (fun e2 => h (e.trans e2)), e⟩
theorem get_ins {τ : κ → Int} {k : κ} {v : ν} : ∀ {L : List (κ × ν)}, Asc τ L → getL τ k (insL τ k v L) = some v
  | [], _ => by simp [insL, getL]
  | y :: L, ha => by
    have ha' := List.pairwise_cons.1 ha
    rw [insL]
    split
    · simp [getL]
    · split
      · rename_i h1 h2; simp [getL, h2]
      · rename_i h1 h2
        have := get_ins (k := k) (v := v) ha'.2
        unfold getL at *
        rw [List.find?_cons, decide_eq_false h2]
        exact this
theorem get_ins_ne {τ : κ → Int} {k j : κ} {v : ν} (h : τ k ≠ τ j) : ∀ (L : List (κ × ν)), getL τ k (insL τ j v L) = getL τ k L
  | [] => by simp [insL, getL, h]
  | y :: L => by
    rw [insL]
    split
    · unfold getL; rw [List.find?_cons, decide_eq_false h]
    · split
      · rename_i h1 h2
        have : τ k ≠ τ y.1 := fun e => h (e.trans h2.symm)
        unfold getL
        rw [List.find?_cons, List.find?_cons, decide_eq_false this]
      · have ih := get_ins_ne (v := v) h L
        unfold getL at *
        rw [List.find?_cons, List.find?_cons]
        split
        · rfl
        · exact ih
theorem del_has {τ : κ → Int} {k : κ} (L : List (κ × ν)) : hasL τ k (delL τ k L) = false := by
  unfold hasL delL
  rw [List.any_eq_false]
  intro x hx
  have := (List.mem_filter.1 hx).2
  simpa using this
theorem del_lt {τ : κ → Int} {k : κ} {L : List (κ × ν)} (h : hasL τ k L = true) : (delL τ k L).length < L.length := by
  obtain ⟨x, hx, e⟩ := hasL_iff.1 h
  unfold delL
  rw [List.length_filter_lt_length_iff_exists]
  exact ⟨x, hx, by simp [e]⟩
theorem del_asc {τ : κ → Int} {k : κ} {L : List (κ × ν)} (h : Asc τ L) : Asc τ (delL τ k L) := List.Pairwise.sublist (List.filter_sublist) h
theorem ins_le {τ : κ → Int} {k : κ} {v : ν} : ∀ L : List (κ × ν), (insL τ k v L).length ≤ L.length + 1
  | [] => by simp [insL]
  | x :: L => by
    rw [insL]
    split
    · simp
    · split
      · simp
      · have := ins_le (τ := τ) (k := k) (v := v) L
        simp; omega

theorem del_le {τ : κ → Int} {k : κ} (L : List (κ × ν)) : (delL τ k L).length ≤ L.length := List.length_filter_le _ _
theorem get_none {τ : κ → Int} {k : κ} {L : List (κ × ν)} (h : hasL τ k L = false) : getL τ k L = none := by
  unfold getL
  have : L.find? (fun x => decide (τ k = τ x.1)) = none := by
    rw [List.find?_eq_none]
    intro x hx
    have := List.any_eq_false.1 h x hx
    exact this
  rw [this]; rfl
end
end Go.Proofs.Ytbibobjkclgogaa
