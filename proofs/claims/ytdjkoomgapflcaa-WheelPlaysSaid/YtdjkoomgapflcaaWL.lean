/- Wheels: the laws' calls; the example. -/
import Derived.Test.YtdjkoomgapflcaaWdR
import Derived.Test.YtdjkoomgapflcaaWOp
namespace Go.Proofs.Ytdjkoomgapflcaa
open Go.RowKit Go.Deep Go.ChangeAt
set_option linter.unusedVariables false
set_option linter.unusedSimpArgs false
set_option maxRecDepth 100000
theorem choose_l {α : Type} {n : Nat} {P : Nat → α → Prop} (h : ∀ i, i < n → ∃ o, P i o) : ∃ l : List α, l.length = n ∧ ∀ i o, l[i]? = some o → P i o := by
  induction n with
  | zero => exact ⟨[], rfl, fun i o h => by simp at h⟩
  | succ n ih =>
    obtain ⟨l, hl, hp⟩ := ih (fun i hi => h i (by omega))
    obtain ⟨o, ho⟩ := h n (by omega)
    refine ⟨l ++ [o], by simp [hl], fun i x hx => ?_⟩
    rcases Nat.lt_trichotomy i n with hi | hi | hi
    · rw [List.getElem?_append_left (by omega)] at hx; exact hp i x hx
    · subst hi
      rw [List.getElem?_append_right (by omega), hl, Nat.sub_self] at hx
      simp at hx; subst hx; exact ho
    · rw [List.getElem?_eq_none (by simp; omega)] at hx; cases hx
/-- A call of a script: the end that it sets, its other numbers. -/
structure Op4 where
  e : EK
  kd : Int
  n : Int
def OAt (w : World) (a : Option Addr) (l : List Op4) : Prop := l ≠ [] → ∃ b off, a = some ⟨b, off, none⟩ ∧ b < w.heap.size ∧ ∀ i o, l[i]? = some o → w.cell? ⟨b, off + i * 4, none⟩ = some (.int .i64 o.kd) ∧ w.cell? ⟨b, off + i * 4 + 1, none⟩ = some (.int .i64 o.e.k) ∧ w.cell? ⟨b, off + i * 4 + 2, none⟩ = some (.int .i64 o.n) ∧ w.cell? ⟨b, off + i * 4 + 3, none⟩ = some (.int .u64 o.e.s)
theorem oat_of {w : World} {a : Option Addr} {l : List wopRec} (h : wopAt w a l) : ∃ ops : List Op4, ops.length = l.length ∧ OAt w a ops := by
  by_cases hne : l = []
  · subst hne; exact ⟨[], rfl, fun h => absurd rfl h⟩
  · obtain ⟨b, off, ha, hb, hc⟩ := h hne
    obtain ⟨ops, hl, hp⟩ := choose_l (α := Op4) (n := l.length) (P := fun i o => ∃ r, l[i]? = some r ∧ r.x0 = o.kd ∧ r.x1 = o.e.k ∧ r.x2 = o.n ∧ r.x3 = o.e.s) (fun i hi => by
      have h0 := hc i l[i] (List.getElem?_eq_getElem hi)
      exact ⟨⟨⟨l[i].x3, l[i].x1, bounds_u64 h0.2.2.2.2.2.2.2, bounds_i64 h0.2.2.2.2.2.1⟩, l[i].x0, l[i].x2⟩, l[i], List.getElem?_eq_getElem hi, rfl, rfl, rfl, rfl⟩)
    refine ⟨ops, hl, fun _ => ⟨b, off, ha, hb, fun i o ho => ?_⟩⟩
    obtain ⟨r, hr, e0, e1, e2, e3⟩ := hp i o ho
    have h0 := hc i r hr
    rw [← e0, ← e1, ← e2, ← e3]
    exact ⟨h0.1, h0.2.1, h0.2.2.1, h0.2.2.2.1⟩
theorem OAt.below {w w' : World} {a : Option Addr} {l : List Op4} {B : Nat} (h : OAt w a l) (hb : Below B w w') (hB : w.heap.size ≤ B) : OAt w' a l := by
  intro hne
  obtain ⟨b, off, e, hlt, hc⟩ := h hne
  refine ⟨b, off, e, Nat.lt_of_lt_of_le hlt hb.size, fun i o ho => ?_⟩
  obtain ⟨c0, c1, c2, c3⟩ := hc i o ho
  have hbb : b < B := Nat.lt_of_lt_of_le hlt hB
  exact ⟨(hb.cell (p := ⟨b, _, none⟩) hbb).trans c0, (hb.cell (p := ⟨b, _, none⟩) hbb).trans c1, (hb.cell (p := ⟨b, _, none⟩) hbb).trans c2, (hb.cell (p := ⟨b, _, none⟩) hbb).trans c3⟩
/-- What a script has set. -/
def setsE (E : EL) (l : List Op4) : EL := l.foldl (fun E o => sK o.e E) E
theorem setsE_snoc (E : EL) (l : List Op4) (o : Op4) : setsE E (l ++ [o]) = sK o.e (setsE E l) := by simp [setsE]
theorem setsE_take (E : EL) (l : List Op4) (k : Nat) (o : Op4) (h : l[k]? = some o) : setsE E (l.take (k + 1)) = sK o.e (setsE E (l.take k)) := by
  rw [List.take_add_one, h]
  exact setsE_snoc _ _ _
theorem setsE_len (l : List Op4) : ∀ E : EL, (setsE E l).length ≤ E.length + l.length := by
  induction l with
  | nil => intro E; exact Nat.le_refl _
  | cons o l ih =>
    intro E
    have h1 := ih (sK o.e E)
    have h2 := sK_len o.e E
    show (setsE (sK o.e E) l).length ≤ _
    rw [List.length_cons]
    omega
theorem setsE_take_len (E : EL) (l : List Op4) (k : Nat) : (setsE E (l.take k)).length ≤ E.length + l.length := by
  have h1 := setsE_len (l.take k) E
  have h2 : (l.take k).length ≤ l.length := List.length_take_le' _ _
  omega
theorem setsE_take0 (l : List Op4) (k : Nat) : (setsE [] (l.take k)).length ≤ l.length := by have h := setsE_take_len [] l k; rw [List.length_nil, Nat.zero_add] at h; exact h
/-- A wheel beside another one. -/
theorem WAt.other {w w' : World} {p ta tb q sa sb : Nat} {E F : EL} (h : WAt w p ta tb E) (k : WAt w q sa sb F) (ho : OnlyS (TB ta tb) w w') (h1 : sa ≠ ta) (h2 : sb ≠ tb) : WAt w' q sa sb F := by
  obtain ⟨L, hW, _⟩ := h
  obtain ⟨_, t1⟩ := hW.tabs.hd
  obtain ⟨_, t2⟩ := hW.ends.hd
  have k0 := k
  obtain ⟨M, kW, _⟩ := k0
  obtain ⟨_, u1⟩ := kW.tabs.hd
  obtain ⟨_, u2⟩ := kW.ends.hd
  have n1 := blk_ne kW.blk t1 (by decide)
  have n2 := blk_ne kW.blk t2 (by decide)
  have n3 := blk_ne u1 t2 (by decide)
  have n4 := blk_ne u2 t1 (by decide)
  refine k.only ho (by rintro (e | e); exact n1 e; exact n2 e) (by rintro (e | e); exact h1 e; exact n3 e) (by rintro (e | e); exact n4 e; exact h2 e) ?_
  rintro i (rfl | rfl) _
  · exact ⟨_, _, _, t1, by decide, by decide⟩
  · exact ⟨_, _, _, t2, by decide, by decide⟩
theorem only_below {w w' : World} {ta tb K : Nat} (h : OnlyS (TB ta tb) w w') (h1 : K ≤ ta) (h2 : K ≤ tb) (hK : K ≤ w.heap.size) : Below K w w' := h.below (by rintro k (rfl | rfl) <;> assumption) hK
theorem IRow.cells {base : Nat} {w : World} {a : Option Addr} {n c : Nat} {xs : List Int} (h : IRow base w (.slice a n c) xs) (hn : 0 < xs.length) : ∃ g, a = some ⟨g, 0, none⟩ ∧ n = xs.length ∧ ∀ i (hi : i < xs.length), w.cell? ⟨g, i, none⟩ = some (.int .i64 xs[i]) := by
  obtain ⟨a', c', e⟩ := h.form
  injection e with e1 e2 e3
  subst e1 e2 e3
  have h2 := h
  rcases h2.2 with ⟨h3, h4⟩ | ⟨g, cap, cur, h3, _⟩
  · omega
  · injection h3 with h3 _ _
    subst h3
    refine ⟨g, rfl, rfl, fun i hi => ?_⟩
    rw [World.ownsRow.cellAt h i (by omega)]
    simp [intsV]
def x7 : EK := ⟨5, 7, by decide, by decide⟩
def x3 : EK := ⟨5, 3, by decide, by decide⟩
def x9 : EK := ⟨4, 9, by decide, by decide⟩
theorem ex_told : ((sK x9 (sK x3 (sK x7 []))).take (dueN (sK x9 (sK x3 (sK x7 []))) 5 9)).map (·.1.k) = [9, 3, 7] := by decide +kernel
set_option maxHeartbeats 3000000 in
theorem speaks8_any (w : World) : Calls Try.prog 7 #[] w fun e w' => e = .returned (.bool true) ∧ Below w.heap.size w w' := by
  have HN := hide (new_any w)
  go_enter Try.func7, Try.ntmps7
  go_wp2_with fail
  refine HN.out.mono ?_
  rintro e w1 ⟨p, ta, tb, rfl, h1, b1, _, l2, l3⟩
  have HL := hide (And.intro l2 l3)
  have HB1 := hide b1
  have HS := hide (show Calls Try.prog 13 #[.pointer (some ⟨p, 0, none⟩), .int .i64 7, .int .u64 5] w1 (SetAns p ta tb (sK x7 []) w1) from set_any w1 p ta tb [] x7 h1 (by simp))
  clear HN h1 b1 l2 l3
  go_wp2_with fail
  refine HS.out.mono ?_
  rintro e w2 ⟨⟨v, rfl⟩, h2, o2⟩
  have HB2 := hide (HB1.out.trans (only_below o2 HL.out.1 HL.out.2 HB1.out.size))
  have HS2 := hide (show Calls Try.prog 13 #[.pointer (some ⟨p, 0, none⟩), .int .i64 3, .int .u64 5] w2 (SetAns p ta tb (sK x3 (sK x7 [])) w2) from set_any w2 p ta tb _ x3 h2 (by decide +kernel))
  clear HS h2 o2
  go_wp2_with fail
  refine HS2.out.mono ?_
  rintro e w3 ⟨⟨v3, rfl⟩, h3, o3⟩
  have HB3 := hide (HB2.out.trans (only_below o3 HL.out.1 HL.out.2 HB2.out.size))
  have HS3 := hide (show Calls Try.prog 13 #[.pointer (some ⟨p, 0, none⟩), .int .i64 9, .int .u64 4] w3 (SetAns p ta tb (sK x9 (sK x3 (sK x7 []))) w3) from set_any w3 p ta tb _ x9 h3 (by decide +kernel))
  clear HS2 h3 o3
  go_wp2_with fail
  refine HS3.out.mono ?_
  rintro e w4 ⟨⟨v4, rfl⟩, h4, o4⟩
  have HB4 := hide (HB3.out.trans (only_below o4 HL.out.1 HL.out.2 HB3.out.size))
  have HD := hide (due_any p ta tb _ 5 9 w4 h4 (by decide +kernel))
  clear HS3 h4 o4
  go_wp2_with fail
  refine HD.out.mono ?_
  rintro e w5 ⟨u, rfl, _, hr, h5, o5⟩
  have HB5 := hide (HB4.out.trans (only_below o5 HL.out.1 HL.out.2 HB4.out.size))
  rw [ex_told] at hr
  obtain ⟨a, c, rfl⟩ := hr.form
  obtain ⟨g, rfl, hn, hc⟩ := hr.cells (by simp)
  have c0 : w5.cell? ⟨g, 0, none⟩ = some (.int .i64 9) := hc 0 (by simp)
  have c1 : w5.cell? ⟨g, 1, none⟩ = some (.int .i64 3) := hc 1 (by simp)
  have c2 : w5.cell? ⟨g, 2, none⟩ = some (.int .i64 7) := hc 2 (by simp)
  clear hr hn hc h5 o5 HD
  rw [show ([9, 3, 7] : List Int).length = 3 from rfl]
  go_wp2
  go_ret
  exact ⟨rfl, HB5.out⟩
end Go.Proofs.Ytdjkoomgapflcaa
