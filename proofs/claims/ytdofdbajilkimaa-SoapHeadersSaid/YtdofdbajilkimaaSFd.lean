/- soap: arguments that came in; an argument's value. -/
import Derived.Test.YtdofdbajilkimaaPlain
import Derived.Test.YtdofdbajilkimaaRows
import Derived.Deep.Slices
import Derived.OpenShut
import Derived.ChangeArms
import Derived.ProofKit
import Derived.Lib.Walk
import Derived.Below
import Derived.OwnWalk
import Derived.WalkKit
namespace Go.Proofs.Ytdofdbajilkimaa
open Go.RowKit Go.Deep
open Go.ChangeShapes Go.WideShapes Go.ChangeAt
set_option linter.unusedVariables false
set_option linter.unusedSimpArgs false
set_option maxRecDepth 100000
structure fldRec where
  x0 : ByteArray
  x1 : ByteArray
def fldAt (w : World) (a : Option Addr) (l : List fldRec) : Prop := l ≠ [] → ∃ b off, a = some ⟨b, off, none⟩ ∧ b < w.heap.size ∧ ∀ i o, l[i]? = some o → w.cell? ⟨b, off + i * 2, none⟩ = some (.string o.x0) ∧ w.cell? ⟨b, off + i * 2 + 1, none⟩ = some (.string o.x1)
section
variable {H : Type} {enc : TypeId × Value → H} {W : World} {base : Nat} {held : Bool}
theorem choose_fld {n : Nat} {P : Nat → fldRec → Prop} (h : ∀ i, i < n → ∃ o, P i o) : ∃ l : List fldRec, l.length = n ∧ ∀ i o, l[i]? = some o → P i o := by
  induction n with
  | zero => exact ⟨[], rfl, fun i o h => by simp at h⟩
  | succ n ih =>
    obtain ⟨l, hl, hp⟩ := ih (fun i hi => h i (by omega))
    obtain ⟨o, ho⟩ := h n (by omega)
    refine ⟨l ++ [o], by simp [hl], fun i x hx => ?_⟩
    rcases Nat.lt_trichotomy i n with hi | hi | hi
    · rw [List.getElem?_append_left (by omega)] at hx; exact hp i x hx
    · subst hi
      rw [List.getElem?_append_right (by omega), hl, Nat.sub_self] at hx
      simp at hx; subst hx; exact ho
    · rw [List.getElem?_eq_none (by simp; omega)] at hx; cases hx
theorem open_fld {fuel : Nat} {c : Value} {x : DataW H × List MemPlace} (h : DataW.trod enc Try.prog W base (fun _ => true) held fuel 22 [c] = some x) :
    ∃ a len cap l, c = .slice a len cap ∧ l.length = len ∧ fldAt W a l ∧ len ≤ 9223372036854775807 := by
  have hC : Try.prog.cellsOf 33 = 2 := by kernel_rfl
  rcases open_slice Try.underlying22 h with ⟨hc, _⟩ | ⟨a, len, cap, m, n, D, Pl, hc, hb, hl, hm, hmm, hx, hcell⟩
  · have e : c = .slice none 0 0 := by simpa using hc
    exact ⟨none, 0, 0, [], e, rfl, fun h => absurd rfl h, by omega⟩
  · have e : c = .slice (some a) len cap := by simpa using hc
    rw [hC] at hcell
    obtain ⟨l, hol, hop⟩ := choose_fld (n := len) (P := fun i o => W.cell? ((a.add (i * 2)).add 0) = some (.string o.x0) ∧ W.cell? ((a.add (i * 2)).add 1) = some (.string o.x1)) (fun i hi => by
      obtain ⟨cs, h1, h2⟩ := hcell i (by rw [hmm]; simp; omega)
      obtain ⟨_, hlen, hat⟩ := World.cells?_some h1
      obtain ⟨xs, n', _, hxx, _, hlen2, hg⟩ := DataW.trod_struct Try.underlying33 h2
      match cs, hlen with
      | [c0, c1], _ =>
        match xs, hlen2 with
        | [y0, y1], _ =>
          have g0 := hg 0 _ rfl
          have g1 := hg 1 _ rfl
          obtain ⟨x0, e0, _⟩ := DataW.trod_string Try.underlying9 (show DataW.trod enc Try.prog W base (fun _ => true) held n' 9 [c0] = some y0 from g0)
          obtain ⟨x1, e1, _⟩ := DataW.trod_string Try.underlying9 (show DataW.trod enc Try.prog W base (fun _ => true) held n' 9 [c1] = some y1 from g1)
          simp only [List.cons.injEq, and_true] at e0 e1
          subst e0 e1
          exact ⟨⟨x0, x1⟩, hat 0 (by omega), hat 1 (by omega)⟩)
    refine ⟨some a, len, cap, l, e, hol, fun hne => ?_, by unfold maxLen at hm; omega⟩
    obtain ⟨b, off, spot⟩ := a
    obtain ⟨o, ho⟩ : ∃ o, l[0]? = some o := by
      cases l with
      | nil => exact absurd rfl hne
      | cons o r => exact ⟨o, rfl⟩
    have h0 := (hop 0 o ho).1
    have hspot : spot = none := by simpa [Addr.add] using World.cell?_spot h0
    subst hspot
    refine ⟨b, off, rfl, World.block_lt_of_cell? W _ h0, fun i o ho => ?_⟩
    have := hop i o ho
    simpa [Addr.add_lit, Nat.add_assoc] using this
end
theorem fldAt.at {w wz : World} {a : Option Addr} {l : List fldRec} (h : fldAt w a l) (hb : Below w.heap.size w wz) {i : Nat} {o : fldRec} (ho : l[i]? = some o) : ∃ b off, a = some ⟨b, off, none⟩ ∧ wz.cell? ⟨b, off + i * 2, none⟩ = some (.string o.x0) ∧ wz.cell? ⟨b, off + i * 2 + 1, none⟩ = some (.string o.x1) := by
  obtain ⟨b, off, e, hbl, hc⟩ := h (by intro e; rw [e] at ho; simp at ho)
  obtain ⟨h1, h2⟩ := hc i o ho
  exact ⟨b, off, e, (hb.cell (p := ⟨b, off + i * 2, none⟩) hbl).trans h1, (hb.cell (p := ⟨b, off + i * 2 + 1, none⟩) hbl).trans h2⟩
theorem fldAt.below {w wz : World} {a : Option Addr} {l : List fldRec} (h : fldAt w a l) (hb : Below w.heap.size w wz) : fldAt wz a l := by
  intro hne
  obtain ⟨b, off, e, hbl, hc⟩ := h hne
  exact ⟨b, off, e, Nat.lt_of_lt_of_le hbl hb.size, fun i o ho => ⟨(hb.cell (p := ⟨b, off + i * 2, none⟩) hbl).trans (hc i o ho).1, (hb.cell (p := ⟨b, off + i * 2 + 1, none⟩) hbl).trans (hc i o ho).2⟩⟩

/-- The first argument of a name. -/
def isN (name : ByteArray) (o : fldRec) : Bool := o.x0.toList == name.toList
def findL (os : List fldRec) (name : ByteArray) : Option ByteArray := (os.find? (isN name)).map (·.x1)
def findV (o : Option ByteArray) : Value := match o with
  | some v => .tuple #[.string v, .bool true]
  | none => .tuple #[.string ⟨#[]⟩, .bool false]
theorem find_hit (os : List fldRec) (name : ByteArray) (j : Nat) (o : fldRec) (h : findL (os.take j) name = none) (ho : os[j]? = some o) (hq : isN name o = true) : findL os name = some o.x1 := by
  obtain ⟨hj, he⟩ := List.getElem?_eq_some_iff.1 ho
  unfold findL at h ⊢
  rw [← List.take_append_drop j os, List.find?_append]
  have h1 : (os.take j).find? (isN name) = none := by simpa using h
  rw [h1, Option.none_or, List.drop_eq_getElem_cons hj, he, List.find?_cons_of_pos hq]
  rfl
theorem find_miss (os : List fldRec) (name : ByteArray) (j : Nat) (o : fldRec) (h : findL (os.take j) name = none) (ho : os[j]? = some o) (hq : isN name o = false) : findL (os.take (j + 1)) name = none := by
  unfold findL at h ⊢
  have h1 : (os.take j).find? (isN name) = none := by simpa using h
  rw [List.take_add_one, ho, List.find?_append, h1]
  simp [hq]
set_option maxHeartbeats 1000000 in
theorem find_any (w : World) (a : Option Addr) (os : List fldRec) (n cap : Nat) (name : ByteArray) (hO : fldAt w a os) (hl : os.length = n) (hn : n ≤ 100) :
    Calls Try.prog 7 #[.slice a n cap, .string name] w fun e w' => e = .returned (findV (findL os name)) ∧ Below w.heap.size w w' := by
  have HO := hide (And.intro hO (And.intro hl hn))
  have HX0 := hide (show findL (os.take 0) name = none ∧ Below w.heap.size w w from ⟨by simp [findL], Below.refl _ _⟩)
  clear hO hl hn
  go_enter Try.func7, Try.ntmps7
  go_wp2_with fail
  go_loopw [10] (fun i wz => ∃ (j : Nat), j ≤ n ∧ i = .int .i64 j ∧ Hid (findL (os.take j) name = none ∧ Below w.heap.size w wz)) (fun i _ => n - (Lib.intOf i).toNat)
  case atStart => exact ⟨0, Nat.zero_le _, rfl, HX0⟩
  case round =>
    clear HX0
    obtain ⟨j, hj, rfl, HX⟩ := hrel
    have hj4 : (0 : Int) ≤ (j : Int) := by omega
    have hj5 : (j : Int) ≤ 100 := by have := HO.out; omega
    by_cases hlt : j < n
    · have d1 : decide (j < n) = true := by simp; omega
      obtain ⟨o, ho⟩ : ∃ o, os[j]? = some o := ⟨_, List.getElem?_eq_getElem (by have := HO.out; omega)⟩
      obtain ⟨b, off, he, q0, q1⟩ := HO.out.1.at HX.out.2 ho
      have HB4 := hide (HX.out.2.alloc HX.out.2.size (.cells #[.string o.x0, .string o.x1] 33))
      cases hq : isN name o with
      | true =>
        have hq2 : (o.x0.toList == name.toList) = true := hq
        have HF := hide (find_hit os name j o HX.out.1 ho hq)
        subst he
        clear HX ho hq
        go_wp2_with fail
        go_ret2
        exact ⟨by rw [HF.out]; rfl, HB4.out⟩
      | false =>
        have hq2 : (o.x0.toList == name.toList) = false := hq
        have HF := hide (And.intro (find_miss os name j o HX.out.1 ho hq) HB4.out)
        subst he
        clear HX ho hq HB4
        go_wp2_with fail
        exact ⟨⟨j + 1, by omega, by go_num, HF⟩, by simp [Lib.intOf]; omega⟩
    · have d1 : decide (j < n) = false := by simp; omega
      have hj9 : os.take j = os := List.take_of_length_le (by have := HO.out; omega)
      have HF := hide (show findL os name = none ∧ Below w.heap.size w wr from by
        have h := HX.out
        rw [hj9] at h
        exact h)
      clear HX hlt hj hj9
      go_wp2_with fail
      go_ret2
      exact ⟨by rw [HF.out.1]; rfl, HF.out.2⟩
set_option maxHeartbeats 1000000 in
theorem rfind_any (w : World) (a : Option Addr) (os : List fldRec) (n cap : Nat) (name : ByteArray) (hO : fldAt w a os) (hl : os.length = n) (hn : n ≤ 100) :
    Calls Try.prog 8 #[.slice a n cap, .string name] w fun e w' => e = .returned (findV (findL os name)) ∧ Below w.heap.size w w' := by
  have HO := hide (And.intro hO (And.intro hl hn))
  have HX0 := hide (show findL (os.take 0) name = none ∧ Below w.heap.size w w from ⟨by simp [findL], Below.refl _ _⟩)
  clear hO hl hn
  go_enter Try.func8, Try.ntmps8
  go_wp2_with fail
  go_loopw [6] (fun i wz => ∃ (j : Nat), j ≤ n ∧ i = .int .i64 j ∧ Hid (findL (os.take j) name = none ∧ Below w.heap.size w wz)) (fun i _ => n - (Lib.intOf i).toNat)
  case atStart => exact ⟨0, Nat.zero_le _, rfl, HX0⟩
  case round =>
    clear HX0
    obtain ⟨j, hj, rfl, HX⟩ := hrel
    have hj4 : (0 : Int) ≤ (j : Int) := by omega
    have hj5 : (j : Int) ≤ 100 := by have := HO.out; omega
    by_cases hlt : j < n
    · have d1 : decide (j < n) = true := by simp; omega
      obtain ⟨o, ho⟩ : ∃ o, os[j]? = some o := ⟨_, List.getElem?_eq_getElem (by have := HO.out; omega)⟩
      obtain ⟨b, off, he, q0, q1⟩ := HO.out.1.at HX.out.2 ho
      have HB4 := hide (HX.out.2)
      cases hq : isN name o with
      | true =>
        have hq2 : (o.x0.toList == name.toList) = true := hq
        have HF := hide (find_hit os name j o HX.out.1 ho hq)
        subst he
        clear HX ho hq
        go_wp2_with fail
        go_ret2
        exact ⟨by rw [HF.out]; rfl, HB4.out⟩
      | false =>
        have hq2 : (o.x0.toList == name.toList) = false := hq
        have HF := hide (And.intro (find_miss os name j o HX.out.1 ho hq) HB4.out)
        subst he
        clear HX ho hq HB4
        go_wp2_with fail
        exact ⟨⟨j + 1, by omega, by go_num, HF⟩, by simp [Lib.intOf]; omega⟩
    · have d1 : decide (j < n) = false := by simp; omega
      have hj9 : os.take j = os := List.take_of_length_le (by have := HO.out; omega)
      have HF := hide (show findL os name = none ∧ Below w.heap.size w wr from by
        have h := HX.out
        rw [hj9] at h
        exact h)
      clear HX hlt hj hj9
      go_wp2_with fail
      go_ret2
      exact ⟨by rw [HF.out.1]; rfl, HF.out.2⟩
end Go.Proofs.Ytdofdbajilkimaa
