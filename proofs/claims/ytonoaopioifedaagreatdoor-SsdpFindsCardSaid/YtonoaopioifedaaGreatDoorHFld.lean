/- Head: fields that came in; the values of a name. -/
import Derived.Test.YtonoaopioifedaaGreatDoorHEnv
import Derived.Test.YtonoaopioifedaaGreatDoorRows
import Derived.Deep.Slices
import Derived.OpenShut
import Derived.ChangeArms
import Derived.ProofKit
namespace Go.Proofs.YtonoaopioifedaaGreatDoor.H
open Go.RowKit Go.Deep
open Go.ChangeShapes Go.WideShapes Go.ChangeAt
set_option linter.unusedVariables false
set_option linter.unusedSimpArgs false
set_option maxRecDepth 100000
structure fldRec where
  x0 : ByteArray
  x1 : ByteArray
def fldAt (w : World) (a : Option Addr) (l : List fldRec) : Prop := l ≠ [] → ∃ b off, a = some ⟨b, off, none⟩ ∧ b < w.heap.size ∧ ∀ i o, l[i]? = some o → w.cell? ⟨b, off + i * 2, none⟩ = some (.string o.x0) ∧ w.cell? ⟨b, off + i * 2 + 1, none⟩ = some (.string o.x1)
section
variable {H : Type} {enc : TypeId × Value → H} {W : World} {base : Nat} {held : Bool}
theorem choose_fld {n : Nat} {P : Nat → fldRec → Prop} (h : ∀ i, i < n → ∃ o, P i o) : ∃ l : List fldRec, l.length = n ∧ ∀ i o, l[i]? = some o → P i o := by
  induction n with
  | zero => exact ⟨[], rfl, fun i o h => by simp at h⟩
  | succ n ih =>
    obtain ⟨l, hl, hp⟩ := ih (fun i hi => h i (by omega))
    obtain ⟨o, ho⟩ := h n (by omega)
    refine ⟨l ++ [o], by simp [hl], fun i x hx => ?_⟩
    rcases Nat.lt_trichotomy i n with hi | hi | hi
    · rw [List.getElem?_append_left (by omega)] at hx; exact hp i x hx
    · subst hi
      rw [List.getElem?_append_right (by omega), hl, Nat.sub_self] at hx
      simp at hx; subst hx; exact ho
    · rw [List.getElem?_eq_none (by simp; omega)] at hx; cases hx
theorem open_fld {fuel : Nat} {c : Value} {x : DataW H × List MemPlace} (h : DataW.trod enc Tryz.prog W base (fun _ => true) held fuel 58 [c] = some x) :
    ∃ a len cap l, c = .slice a len cap ∧ l.length = len ∧ fldAt W a l ∧ len ≤ 9223372036854775807 := by
  have hC : Tryz.prog.cellsOf 60 = 2 := by kernel_rfl
  rcases open_slice Tryz.underlying58 h with ⟨hc, _⟩ | ⟨a, len, cap, m, n, D, Pl, hc, hb, hl, hm, hmm, hx, hcell⟩
  · have e : c = .slice none 0 0 := by simpa using hc
    exact ⟨none, 0, 0, [], e, rfl, fun h => absurd rfl h, by omega⟩
  · have e : c = .slice (some a) len cap := by simpa using hc
    rw [hC] at hcell
    obtain ⟨l, hol, hop⟩ := choose_fld (n := len) (P := fun i o => W.cell? ((a.add (i * 2)).add 0) = some (.string o.x0) ∧ W.cell? ((a.add (i * 2)).add 1) = some (.string o.x1)) (fun i hi => by
      obtain ⟨cs, h1, h2⟩ := hcell i (by rw [hmm]; simp; omega)
      obtain ⟨_, hlen, hat⟩ := World.cells?_some h1
      obtain ⟨xs, n', _, hxx, _, hlen2, hg⟩ := DataW.trod_struct Tryz.underlying60 h2
      match cs, hlen with
      | [c0, c1], _ =>
        match xs, hlen2 with
        | [y0, y1], _ =>
          have g0 := hg 0 _ rfl
          have g1 := hg 1 _ rfl
          obtain ⟨x0, e0, _⟩ := DataW.trod_string Tryz.underlying9 (show DataW.trod enc Tryz.prog W base (fun _ => true) held n' 9 [c0] = some y0 from g0)
          obtain ⟨x1, e1, _⟩ := DataW.trod_string Tryz.underlying9 (show DataW.trod enc Tryz.prog W base (fun _ => true) held n' 9 [c1] = some y1 from g1)
          simp only [List.cons.injEq, and_true] at e0 e1
          subst e0 e1
          exact ⟨⟨x0, x1⟩, hat 0 (by omega), hat 1 (by omega)⟩)
    refine ⟨some a, len, cap, l, e, hol, fun hne => ?_, by unfold maxLen at hm; omega⟩
    obtain ⟨b, off, spot⟩ := a
    obtain ⟨o, ho⟩ : ∃ o, l[0]? = some o := by
      cases l with
      | nil => exact absurd rfl hne
      | cons o r => exact ⟨o, rfl⟩
    have h0 := (hop 0 o ho).1
    have hspot : spot = none := by simpa [Addr.add] using World.cell?_spot h0
    subst hspot
    refine ⟨b, off, rfl, World.block_lt_of_cell? W _ h0, fun i o ho => ?_⟩
    have := hop i o ho
    simpa [Addr.add_lit, Nat.add_assoc] using this
end
theorem fldAt.at {w wz : World} {a : Option Addr} {l : List fldRec} (h : fldAt w a l) (hb : Below w.heap.size w wz) {i : Nat} {o : fldRec} (ho : l[i]? = some o) : ∃ b off, a = some ⟨b, off, none⟩ ∧ wz.cell? ⟨b, off + i * 2, none⟩ = some (.string o.x0) ∧ wz.cell? ⟨b, off + i * 2 + 1, none⟩ = some (.string o.x1) := by
  obtain ⟨b, off, e, hbl, hc⟩ := h (by intro e; rw [e] at ho; simp at ho)
  obtain ⟨h1, h2⟩ := hc i o ho
  exact ⟨b, off, e, (hb.cell (p := ⟨b, off + i * 2, none⟩) hbl).trans h1, (hb.cell (p := ⟨b, off + i * 2 + 1, none⟩) hbl).trans h2⟩
theorem fldAt.below {w wz : World} {a : Option Addr} {l : List fldRec} (h : fldAt w a l) (hb : Below w.heap.size w wz) : fldAt wz a l := by
  intro hne
  obtain ⟨b, off, e, hbl, hc⟩ := h hne
  exact ⟨b, off, e, Nat.lt_of_lt_of_le hbl hb.size, fun i o ho => ⟨(hb.cell (p := ⟨b, off + i * 2, none⟩) hbl).trans (hc i o ho).1, (hb.cell (p := ⟨b, off + i * 2 + 1, none⟩) hbl).trans (hc i o ho).2⟩⟩
theorem Tryz.infoStr : (Tryz.prog.info? 9).map (fun i => (i.zero, i.size, i.bytes)) = some (some (.string ⟨#[]⟩), 1, 16) := by kernel_rfl
/-- A row of texts of one's own. -/
def OwnS (w : World) (K : Nat) (a : Option Addr) (n c : Nat) (l : List ByteArray) : Prop := w.ownsRow K 9 1 (.slice a n c) n (l.map Value.string)
theorem OwnS.len {w : World} {K : Nat} {a : Option Addr} {n c : Nat} {l : List ByteArray} (h : OwnS w K a n c l) : l.length = n := by have := h.1; simpa using this
theorem OwnS.below {w w' : World} {K B : Nat} {a : Option Addr} {n c : Nat} {l : List ByteArray} (h : OwnS w K a n c l) (hb : Below B w w') (hB : w.heap.size ≤ B) : OwnS w' K a n c l := owns_below h hb hB
theorem pushS (V : World) (K : Nat) (a : Option Addr) (n c : Nat) (l : List ByteArray) (hV : OwnS V K a n c l) (y : ByteArray) (hs : n ≤ 1000000) (hK : K ≤ V.heap.size) :
    ∃ a' c' w', (Builtin.append_ #[35, 35] 35 #[.slice a n c, .slice (some ⟨V.heap.size, 0, none⟩) 1 1]).run Tryz.prog (V.alloc (.cells #[.string y] 9)) = .ok (.slice a' (n + 1) c') w' ∧ OwnS w' K a' (n + 1) c' (l ++ [y]) ∧ Below K V w' := by
  have hal : Below V.heap.size V (V.alloc (.cells #[.string y] 9)) := (Below.refl _ _).alloc (Nat.le_refl _) _
  have hr2 := World.ownsRow.alloc hV (.cells #[.string y] 9)
  have hc : (V.alloc (.cells #[.string y] 9)).heap[V.heap.size]? = some (.cells #[.string y] 9 (0, 0)) := heap_alloc_new _ _
  obtain ⟨i0, hi, hz0, hz1, hz2⟩ := info_parts Tryz.infoStr
  obtain ⟨v', w', h1, h2, h3, _, h5⟩ := run_append_own_at (P := Tryz.prog) (V.alloc (.cells #[.string y] 9)) K 35 35 9 i0 (.string ⟨#[]⟩) 1 16 Tryz.underlying35 hi hz0 hz1 hz2 rfl (by decide) (.slice a n c) n (l.map Value.string) hr2 ⟨V.heap.size, 0, none⟩ 1 1 [.string y] rfl (fun j u hj => by
    cases j with
    | zero => cases hj; show (V.alloc (.cells #[.string y] 9)).cell? ⟨V.heap.size, 0, none⟩ = _; simp only [World.cell?, hc]; rfl
    | succ j => simp at hj) (by intro u hu; rw [List.mem_singleton.1 hu]; rfl) (by unfold maxLen; omega) (by omega) (by have := hal.size; omega)
  obtain ⟨a', c', rfl⟩ := slice_form h2
  refine ⟨a', c', w', h1, ?_, (hal.mono hK).grown h3 (by have := hal.size; omega) (fun z e => (hr2.lt z e).1)⟩
  unfold OwnS
  rw [List.map_append]
  exact h2
theorem OwnS.at {w : World} {K : Nat} {a : Option Addr} {n c : Nat} {l : List ByteArray} (h : OwnS w K a n c l) {i : Nat} {y : ByteArray} (hy : l[i]? = some y) : ∃ g, a = some ⟨g, 0, none⟩ ∧ w.cell? ⟨g, i, none⟩ = some (.string y) := by
  have hl := h.len
  have hi : i < l.length := (List.getElem?_eq_some_iff.1 hy).1
  have h9 := h
  rcases h.2 with ⟨h1, h2⟩ | ⟨g, cap, cur, h1, _⟩
  · omega
  · obtain ⟨rfl, rfl⟩ : a = some ⟨g, 0, none⟩ ∧ c = cap := by simpa using h1
    refine ⟨g, rfl, ?_⟩
    have := World.ownsRow.cellAt h9 i (by omega)
    rw [this]
    simp [List.getElem?_map, hy]
/-- The values of a name. -/
def isN (name : ByteArray) (o : fldRec) : Bool := o.x0.toList == name.toList
def getL (os : List fldRec) (name : ByteArray) : List ByteArray := (os.filter (isN name)).map (·.x1)
theorem getL_succ (os : List fldRec) (name : ByteArray) (j : Nat) (o : fldRec) (ho : os[j]? = some o) : getL (os.take (j + 1)) name = getL (os.take j) name ++ (if isN name o then [o.x1] else []) := by
  unfold getL
  rw [List.take_add_one, ho, Option.toList_some, List.filter_append, List.map_append]
  cases h : isN name o <;> simp [h]
theorem getL_le (os : List fldRec) (name : ByteArray) : (getL os name).length ≤ os.length := by
  unfold getL
  rw [List.length_map]
  exact List.length_filter_le _ _
end Go.Proofs.YtonoaopioifedaaGreatDoor.H
