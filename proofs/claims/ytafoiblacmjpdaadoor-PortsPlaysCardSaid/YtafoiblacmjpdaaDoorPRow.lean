/- Ports: rows of numbers, and appends onto them. -/
import Derived.Test.YtafoiblacmjpdaaDoorPPick
import Derived.Laws.AppendOwn
import Derived.Lib.SliceRun
import Derived.Lib.AppendZerosOnto
import Derived.Deep.OwnRows
namespace Go.Proofs.YtafoiblacmjpdaaDoor
open Go.RowKit
set_option linter.unusedVariables false
set_option linter.unusedSimpArgs false
set_option maxRecDepth 100000
theorem Tryd.info30 : (Tryd.prog.info? 30).map (fun i => (i.zero, i.size, i.bytes)) = some (some (.int .u16 0), 1, 2) := by kernel_rfl
theorem Tryd.info4 : (Tryd.prog.info? 4).map (fun i => (i.zero, i.size, i.bytes)) = some (some (.bool false), 1, 1) := by kernel_rfl
def Row (k : IntKind) (w : World) (a : Option Addr) (xs : List Int) : Prop :=
  xs ≠ [] → ∃ b off, a = some ⟨b, off, none⟩ ∧ b < w.heap.size ∧ ∀ i, i < xs.length → w.cell? ⟨b, off + i, none⟩ = some (.int k (xs[i]?.getD 0))

theorem Row.at {k : IntKind} {w : World} {a : Option Addr} {xs : List Int} (h : Row k w a xs) {i : Nat} (hi : i < xs.length) :
    ∃ b off, a = some ⟨b, off, none⟩ ∧ b < w.heap.size ∧ ∀ i, i < xs.length → w.cell? ⟨b, off + i, none⟩ = some (.int k (xs[i]?.getD 0)) :=
  h (by intro e; subst e; simp at hi)

theorem Row.below {k : IntKind} {w w' : World} {a : Option Addr} {xs : List Int} {B : Nat} (h : Row k w a xs) (hb : Below B w w') (hB : w.heap.size ≤ B) : Row k w' a xs := by
  intro hne
  obtain ⟨b, off, rfl, hlt, hc⟩ := h hne
  exact ⟨b, off, rfl, Nat.lt_of_lt_of_le hlt hb.size, fun i hi => (hb.cell (p := ⟨b, off + i, none⟩) (show b < B by omega)).trans (hc i hi)⟩

theorem Row.of_owns {k : IntKind} {w : World} {base : Nat} {e : TypeId} {a : Option Addr} {n cap : Nat} {xs : List Int}
    (h : w.ownsRow base e 1 (.slice a n cap) n (xs.map (Value.int k))) : Row k w a xs := by
  intro hne
  have hl := h.1
  rcases h.2 with ⟨hv, hn⟩ | ⟨g, cap', cur, hv, hg, hh, r⟩
  · exact absurd (List.length_eq_zero_iff.1 (by simpa [hn] using hl)) hne
  · have h2 := h
    obtain ⟨rfl, rfl⟩ : a = some ⟨g, 0, none⟩ ∧ cap = cap' := by simpa using hv
    refine ⟨g, 0, rfl, (Array.getElem?_eq_some_iff.1 hh).1, fun i hi => ?_⟩
    have hl' : xs.length = n := by simpa using hl
    rw [show 0 + i = i from by omega, h.cellAt i (by omega)]
    simp [List.getElem?_map, List.getElem?_eq_getElem hi]

theorem owns_mono {w : World} {base base' : Nat} {e : TypeId} {size : Nat} {v : Value} {n : Nat} {xs : List Value} (h : w.ownsRow base e size v n xs) (hb : base' ≤ base) : w.ownsRow base' e size v n xs := by
  refine ⟨h.1, ?_⟩
  rcases h.2 with h | ⟨g, cap, cur, hv, hg, r⟩
  · exact .inl h
  · exact .inr ⟨g, cap, cur, hv, Nat.le_trans hb hg, r⟩

theorem slice_form {w : World} {base : Nat} {e : TypeId} {size : Nat} {v : Value} {n : Nat} {xs : List Value} (h : w.ownsRow base e size v n xs) : ∃ a c, v = .slice a n c := by
  rcases h.2 with ⟨h, h2⟩ | ⟨g, c, cur, h, _⟩
  · rw [h2]; exact ⟨_, _, h⟩
  · exact ⟨_, _, h⟩

theorem owns_below {w w' : World} {base B : Nat} {e : TypeId} {size : Nat} {v : Value} {n : Nat} {xs : List Value} (h : w.ownsRow base e size v n xs) (hb : Below B w w') (hB : w.heap.size ≤ B) : w'.ownsRow base e size v n xs := by
  refine ⟨h.1, ?_⟩
  rcases h.2 with h | ⟨g, cap, cur, hv, hg, hh, r⟩
  · exact .inl h
  · exact .inr ⟨g, cap, cur, hv, hg, (hb.block g (Nat.lt_of_lt_of_le (lt_of_block hh) hB)).trans hh, r⟩

theorem row_none {k : IntKind} {w : World} {xs : List Int} (h : Row k w none xs) : xs = [] := by
  cases xs with
  | nil => rfl
  | cons x r => obtain ⟨b, off, h, _⟩ := h (by simp); cases h

theorem row_cells {k : IntKind} {w : World} {ad : Addr} {xs : List Int} (h : Row k w (some ad) xs) : ∀ j u, (xs.map (Value.int k))[j]? = some u → w.cell? (ad.add j) = some u := by
  intro j u hj
  have hj2 : j < xs.length := by
    rcases Nat.lt_or_ge j xs.length with h | h
    · exact h
    · simp [List.getElem?_eq_none h] at hj
  obtain ⟨b, off, e, hlt, hc⟩ := h.at hj2
  cases e
  rw [Addr.add_lit, hc j hj2]
  simpa [List.getElem?_map, List.getElem?_eq_getElem hj2] using hj
theorem ints_one (k : IntKind) (xs : List Int) : ∀ u ∈ xs.map (Value.int k), u.oneCell' = true := by intro u hu; simp at hu; obtain ⟨x, _, rfl⟩ := hu; rfl

theorem app16 (V : World) (base : Nat) (v : Value) (n : Nat) (xs : List Int) (hV : V.ownsRow base 30 1 v n (xs.map (Value.int .u16))) (a : Option Addr) (ys : List Int) (m c : Nat) (hr : Row .u16 V a ys) (hl : ys.length = m) (hn : a = none → c = 0)
    (hs : n + m ≤ 1099511627776) (hb : base ≤ V.heap.size) :
    ∃ v' w', (Builtin.append_ #[45, 45] 45 #[v, .slice a m c]).run Tryd.prog V = .ok v' w' ∧ (w'.ownsRow base 30 1 v' (n + m) ((xs ++ ys).map (Value.int .u16)) ∧ Below base V w' ∧ ∀ (L : Nat) (o : Obj), V.heap[L]? = some o → v.ownBlock ≠ some L → w'.heap[L]? = some o) := by
  obtain ⟨i0, hi, hz0, hz1, hz2⟩ := info_parts Tryd.info30
  cases a with
  | none =>
    have hy : ys = [] := row_none hr
    have hm0 : m = 0 := by rw [← hl, hy]; rfl
    have hrun := run_append_owned_none (P := Tryd.prog) (w := V) base 45 45 30 i0 1 Tryd.underlying45 hi v n (xs.map (Value.int .u16)) hV
    rw [hn rfl, hm0, hy, List.append_nil]
    exact ⟨_, _, hrun, hV, Below.refl _ _, fun _ _ h _ => h⟩
  | some ad =>
    obtain ⟨v', w', h1, h2, h3, _⟩ := run_append_own (P := Tryd.prog) V base 45 45 30 i0 (.int .u16 0) 1 2 Tryd.underlying45 hi hz0 hz1 hz2 rfl (by decide) v n (xs.map (Value.int .u16)) hV ad m c (ys.map (Value.int .u16)) (by simp [hl]) (row_cells hr) (ints_one _ _) (by unfold maxLen; omega) (by omega) hb
    rw [← List.map_append] at h2
    exact ⟨_, _, h1, h2, (Below.refl base V).grown h3 hb (fun k e => (hV.lt k e).1), fun L o h hne => (h3.block L (lt_of_block h) hne.symm).trans h⟩
/-- A row of truths of one's own: what was seen. -/
def SeenAt (w : World) (g N : Nat) (s : Nat → Bool) : Prop := ∃ cs : Array Value, w.heap[g]? = some (.cells cs 4 (0, 0)) ∧ cs.size = N ∧ ∀ i, i < N → cs[i]? = some (.bool (s i))
theorem SeenAt.below {w w' : World} {g N K : Nat} {s : Nat → Bool} (h : SeenAt w g N s) (hb : Below K w w') (hK : w.heap.size ≤ K) : SeenAt w' g N s := by
  obtain ⟨cs, h1, h2⟩ := h
  exact ⟨cs, below_block hb h1 hK, h2⟩
theorem SeenAt.only {w w' : World} {g N B : Nat} {s : Nat → Bool} (h : SeenAt w g N s) (hb : OnlyB B w w') (hg : g ≠ B) : SeenAt w' g N s := by
  obtain ⟨cs, h1, h2⟩ := h
  exact ⟨cs, (hb.block g (lt_of_block h1) hg).trans h1, h2⟩
theorem SeenAt.lt {w : World} {g N : Nat} {s : Nat → Bool} (h : SeenAt w g N s) : g < w.heap.size := lt_of_block h.choose_spec.1
theorem SeenAt.at {w : World} {g N : Nat} {s : Nat → Bool} (h : SeenAt w g N s) (i : Nat) (hi : i < N) : w.cell? ⟨g, i, none⟩ = some (.bool (s i)) ∧ w.frozen? ⟨g, i, none⟩ = false := by
  obtain ⟨cs, h1, h2, h3⟩ := h
  simp [World.cell?, World.frozen?, h1, h3 i hi]
theorem SeenAt.put {w : World} {g N : Nat} {s : Nat → Bool} (h : SeenAt w g N s) (i : Nat) (v : Bool) : SeenAt (w.setCell ⟨g, i, none⟩ (.bool v)) g N (put s i v) := by
  obtain ⟨cs, h1, h2, h3⟩ := h
  refine ⟨_, heap_set h1 i (.bool v) rfl, by simp [h2], fun k hk => ?_⟩
  rw [Array.getElem?_setIfInBounds]
  unfold Go.Proofs.YtafoiblacmjpdaaDoor.put
  by_cases e : i = k
  · rw [if_pos e, if_pos (by omega), if_pos e.symm]
  · rw [if_neg e, h3 k hk, if_neg (fun x => e x.symm)]
theorem PAt.only {w w' : World} {g B : Nat} {t : Nat → Bool} {n : Int} (h : PAt w B t n) (hb : OnlyB g w w') (hg : B ≠ g) : PAt w' B t n := by
  obtain ⟨cs, h1, h2⟩ := h
  exact ⟨cs, (hb.block B (lt_of_block h1) hg).trans h1, h2⟩
theorem make_seen (N : Nat) (hN : N = 65536) : ∃ Z : Array Value, (∀ W, (Instr.makeSlice 43 (.int .i64 65536) (.int .i64 65536)).run Tryd.prog W = .ok (.slice (some ⟨W.heap.size, 0, none⟩) N N) (W.alloc (.cells Z 4))) ∧ ∀ W : World, SeenAt (W.alloc (.cells Z 4)) W.heap.size N none_ := by
  refine ⟨madeCells #[.bool false] N, fun W => ?_, fun W => ⟨_, heap_alloc_new _ _, by simp [madeCells], fun i hi => ?_⟩⟩
  · have h := run_make_row' (P := Tryd.prog) 43 4 (.bool false) 1 Tryd.underlying43 Tryd.info4 rfl .i64 .i64 N (by omega) (by omega) W
    rw [hN] at h ⊢
    exact h
  · simp [madeCells, hi, none_, Nat.mod_one]
end Go.Proofs.YtafoiblacmjpdaaDoor
