/- http: the idle reader, the end, the document's example. -/
import Derived.Test.YtbiblaeocbcfhaaGreatDoorZFd
import Derived.Lib.SmallJoins
namespace Go.Proofs.YtbiblaeocbcfhaaGreatDoor
open Go.RowKit Go.Deep
set_option linter.unusedVariables false
set_option linter.unusedSimpArgs false
set_option maxRecDepth 100000
abbrev vA : Array Value := #[.int .u8 80, .int .u8 79, .int .u8 83, .int .u8 84, .int .u8 32, .int .u8 47, .int .u8 99, .int .u8 32, .int .u8 72, .int .u8 84, .int .u8 84, .int .u8 80, .int .u8 47, .int .u8 49, .int .u8 46, .int .u8 49, .int .u8 13, .int .u8 10, .int .u8 72, .int .u8 111, .int .u8 115, .int .u8 116, .int .u8 58, .int .u8 32, .int .u8 97, .int .u8 13, .int .u8 10, .int .u8 67, .int .u8 111, .int .u8 110, .int .u8 116, .int .u8 101, .int .u8 110, .int .u8 116, .int .u8 45, .int .u8 76, .int .u8 101, .int .u8 110, .int .u8 103, .int .u8 116, .int .u8 104, .int .u8 58, .int .u8 32, .int .u8 50, .int .u8 13, .int .u8 10, .int .u8 13, .int .u8 10, .int .u8 104, .int .u8 105]
abbrev vB : Array Value := #[.int .u8 80, .int .u8 79, .int .u8 83, .int .u8 84, .int .u8 32, .int .u8 47, .int .u8 99, .int .u8 32, .int .u8 72, .int .u8 84, .int .u8 84, .int .u8 80, .int .u8 47, .int .u8 49, .int .u8 46, .int .u8 49, .int .u8 13, .int .u8 10, .int .u8 72, .int .u8 111, .int .u8 115, .int .u8 116, .int .u8 58, .int .u8 32, .int .u8 97, .int .u8 13, .int .u8 10, .int .u8 13, .int .u8 10, .int .u8 104, .int .u8 105]
theorem eA : exA.map (fun c => Value.int .u8 (c.toNat : Int)) = vA.toList := by kernel_rfl
theorem eB : exB.map (fun c => Value.int .u8 (c.toNat : Int)) = vB.toList := by kernel_rfl
theorem lies_of {w' : World} {g : Nat} {l : List UInt8} {X : Nat → Prop} {vs : Array Value} {T : TypeId} {fr : Nat × Nat} (hv : l.map (fun c => Value.int .u8 (c.toNat : Int)) = vs.toList) (hb : w'.heap[g]? = some (.cells vs T fr)) (hx : ¬ X g) : Lies w' (some ⟨g, 0, none⟩) l X := fun _ => by
  refine ⟨g, 0, rfl, lt_of_block hb, hx, fun i c hc => ?_⟩
  rw [Nat.zero_add]
  have h : vs.toList[i]? = some (.int .u8 (c.toNat : Int)) := by rw [← hv, List.getElem?_map, hc]; rfl
  simp only [World.cell?, hb]
  simpa using h
theorem one_row {α : Type} {rows : List TRow} {l : List Told} {f : Told → α} {y : α} (h : l = rows.map (·.1)) (hf : l.map f = [y]) : ∃ x, rows = [x] ∧ f x.1 = y := by
  subst h
  match rows, hf with
  | [x], hf => exact ⟨x, rfl, by simpa using hf⟩
theorem row_cell {w : World} {a : Option Addr} {m c : Nat} {rows : List TRow} (h : OwnTd w (.slice a m c) rows) (hm : rows.length = m) (j : Nat) (x : TRow) (hx : rows[j]? = some x) : ∃ g, a = some ⟨g, 0, none⟩ ∧ g < w.heap.size ∧ ∀ i, i < 7 → w.cell? ⟨g, j * 7 + i, none⟩ = (tcl x)[i]? := by
  have hj := (List.getElem?_eq_some_iff.1 hx).1
  obtain ⟨g, cap, he, -, hlt⟩ := World.ownsRow.form h (by omega)
  have he1 : a = some ⟨g, 0, none⟩ := by injection he
  have he2 : c = cap := by injection he
  subst he1 he2
  refine ⟨g, rfl, hlt, fun i hi => ?_⟩
  unfold OwnTd at h
  rw [hm] at h
  rw [World.ownsRow.cellAt h (j * 7 + i) (by omega)]
  clear h he hlt
  induction rows generalizing j m with
  | nil => simp at hx
  | cons y r ih =>
    cases j with
    | zero =>
      have : y = x := by simpa using hx
      subst this
      rw [List.flatMap_cons, Nat.zero_mul, Nat.zero_add, List.getElem?_append_left (by show i < 7; exact hi)]
    | succ j =>
      rw [List.flatMap_cons, List.getElem?_append_right (by show 7 ≤ _; omega), show (j + 1) * 7 + i - (tcl y).length = j * 7 + i by show (j + 1) * 7 + i - 7 = _; omega]
      exact ih rfl j (by simpa using hx) (by simpa using hj)
set_option maxHeartbeats 2000000 in
theorem speaks_any (w : World) (hE : Env w) : Calls Tryz.prog 5 #[] w fun e w' => e = .returned (.bool true) ∧ Below w.heap.size w w' := by
  have N1 := hide (new_any w)
  have HE := hide hE
  clear hE
  go_enter Tryz.func5, Tryz.ntmps5
  go_wp2_with fail
  refine N1.out.mono ?_
  rintro e w1 ⟨rfl, hA1, b1⟩
  have HA1 := hide (And.intro hA1 b1)
  have N2 := hide (new_any w1)
  clear hA1 b1 N1
  go_wp2_with fail
  refine N2.out.mono ?_
  rintro e w2 ⟨rfl, hA2, b2⟩
  have hs1 := HA1.out.1.lt
  have hs2 := hA2.lt
  have h2 := HE.out.two
  have hb2 : Below w.heap.size w w2 := HA1.out.2.trans (b2.mono HA1.out.2.size)
  have hE2 : Env w2 := HE.out.below hb2 (Nat.le_refl _)
  have hA12 : At w2 w.heap.size pm0 (.slice none 0 0) (.slice none 0 0) (.slice none 0 0) := HA1.out.1.below b2
  obtain ⟨B1, hB1⟩ : ∃ n, w.heap.size = n := ⟨_, rfl⟩
  obtain ⟨B2, hB2⟩ : ∃ n, w1.heap.size = n := ⟨_, rfl⟩
  have hal := (Below.refl w2.heap.size w2).alloc (Nat.le_refl _) (.cells vA 5 (50, 51))
  have hF := feed_any w.heap.size pm0 (.slice none 0 0) (.slice none 0 0) (.slice none 0 0) exA (some ⟨w2.heap.size, 0, none⟩) 50 50 (w2.alloc (.cells vA 5 (50, 51))) (hA12.below hal) (hE2.below hal (Nat.le_refl _)) ⟨h2, fun _ h => (by cases h), fun _ h => (by cases h)⟩ (pm_bd 0 (.inl rfl)) (by kernel_rfl) (by omega) (lies_of eA (heap_alloc_new _ _) (fun h => by rcases h with h | h | h; omega; cases h; cases h))
  have kc := fun (W : World) (C : Array Value) (n c : Nat) => Lib.run_convert_bytes_const (P := Tryz.prog) W 22 5 C n c Tryz.underlying22 Tryz.underlying5
  have HF := hide hF
  have HW := hide (And.intro hb2 (And.intro hE2 (And.intro (hA2.below hal) (And.intro hal (And.intro hs1 (And.intro hs2 (And.intro hB1 hB2)))))))
  have hne : B1 ≠ B2 := by have := HA1.out.1.lt; omega
  rw [hB1] at HF ⊢
  rw [hB2]
  clear N2 hA2 b2 hs1 hs2 h2 hb2 hE2 hA12 hB1 hB2 hal hF HA1
  go_wp2_with fail
  refine HF.out.mono ?_
  rintro e w3 ⟨a, c, rows, tv', fv', bv', rfl, hf1, hS1⟩
  obtain ⟨x, hr, hx⟩ := one_row hf1 ex_a
  have hm : rows.length = 1 := by rw [hr]; rfl
  rw [hm] at hS1 ⊢
  subst hr
  obtain ⟨g, rfl, hg, hc⟩ := row_cell hS1.outs.row rfl 0 x rfl
  obtain ⟨hb2, hE2, hA2, hal, hs1, hs2, hB1, hB2⟩ := HW.out
  have hB1s : B1 < w2.heap.size := by have := hb2.size; omega
  have hB1w : 2 ≤ B1 := by have := hE2.two; have h0 := HE.out.two; omega
  have hB2w : B1 ≤ B2 := by omega
  have hOB : ∀ k, OB (.slice (some ⟨g, 0, none⟩) 1 c) [x] k → k ≠ B2 := fun k hk => by
    rcases hS1.src k hk with h | h | h
    · have := hal.size; omega
    · cases h
    · cases h
  have hA2b : At w3 B2 pm0 (.slice none 0 0) (.slice none 0 0) (.slice none 0 0) := (hB2 ▸ hA2).only hS1.only (fun h => by rcases h with h | h | h; exact hne h.symm; cases h; cases h) (fun _ h => (by cases h)) (fun _ h => (by cases h)) (fun _ h => (by cases h))
  have hE3 : Env w3 := (hE2.below hal (Nat.le_refl _)).only hS1.only (fun k h => by rcases h with h | h | h; omega; cases h; cases h)
  have hal2 := (Below.refl w3.heap.size w3).alloc (Nat.le_refl _) (.cells vB 5 (31, 32))
  have hs3 := hA2b.lt
  have hF2 := feed_any B2 pm0 (.slice none 0 0) (.slice none 0 0) (.slice none 0 0) exB (some ⟨w3.heap.size, 0, none⟩) 31 31 (w3.alloc (.cells vB 5 (31, 32))) (hA2b.below hal2) (hE3.below hal2 (Nat.le_refl _)) ⟨by omega, fun _ h => (by cases h), fun _ h => (by cases h)⟩ (pm_bd 0 (.inl rfl)) (by kernel_rfl) (by omega) (lies_of eB (heap_alloc_new _ _) (fun h => by rcases h with h | h | h; omega; cases h; cases h))
  have HF2 := hide hF2
  have hO3 := hS1.outs.only (OnlyS.of hal2 : OnlyS (fun _ => False) _ _) (fun _ _ h => h)
  have HK := hide (And.intro hO3 (And.intro hx hOB))
  have HBW := hide (show Below w.heap.size w (w3.alloc (.cells vB 5 (31, 32))) from (((hb2.trans (hal.mono hb2.size)).trans (hS1.only.below (fun k h => by rcases h with h | h | h; omega; cases h; cases h) (by have := hal.size; have := hb2.size; omega)))).trans (hal2.mono (by have := hS1.only.size; have := hal.size; have := hb2.size; omega)))
  have HN := hide (And.intro hB1 hB2w)
  clear HF hF2 hO3 hx hOB hA2b hE3 hal2 hs3 hb2 hE2 hA2 hal hs1 hs2 hB1 hB2 hB1s hB1w hB2w hc hg hS1 hf1 hm HW HE
  go_wp2_with fail
  refine HF2.out.mono ?_
  rintro e w4 ⟨a2, c2, rows2, tv2, fv2, bv2, rfl, hf2, hS2⟩
  obtain ⟨y, hr2, hy⟩ := one_row hf2 ex_b
  have hm2 : rows2.length = 1 := by rw [hr2]; rfl
  rw [hm2] at hS2 ⊢
  subst hr2
  obtain ⟨g2, rfl, hg2, hc2⟩ := row_cell hS2.outs.row rfl 0 y rfl
  have hO4 := HK.out.1.only hS2.only (fun k hk h => by rcases h with h | h | h; exact HK.out.2.2 k hk h; cases h; cases h)
  obtain ⟨g1, hg1, hlt1, hc1⟩ := row_cell hO4.row rfl 0 x rfl
  obtain rfl : g = g1 := by injection hg1 with h; injection h
  have hU := (hO4.each x (by simp)).2
  obtain ⟨hx0, hx1, hx2⟩ : x.1.status = 0 ∧ x.1.rq.body = [104, 105] ∧ x.1.rq.keep = true := by have := HK.out.2.1; simp only [Prod.mk.injEq] at this; exact this
  rw [hx1] at hU
  obtain ⟨ba, bc, hbf⟩ := hU.form
  have c5 : w4.cell? ⟨g, 5, none⟩ = some (.slice ba 2 bc) := (hc1 5 (by omega)).trans (by show some x.2.2 = _; rw [hbf]; rfl)
  have c6 : w4.cell? ⟨g, 6, none⟩ = some (.bool true) := (hc1 6 (by omega)).trans (by show some (Value.bool x.1.rq.keep) = _; rw [hx2])
  have d0 : w4.cell? ⟨g2, 0, none⟩ = some (.int .i64 411) := (hc2 0 (by omega)).trans (by show some (Value.int .i64 (y.1.status : Int)) = _; rw [hy]; rfl)
  have hcv : (convert 22 9 (.slice ba 2 bc)).run Tryz.prog w4 = .ok (.string ⟨#[104, 105]⟩) w4 := by have h := back_u8 hU; rw [hbf] at h; exact h
  have HD := dead_any B2 _ _ _ _ w4 hS2.at'
  rw [ex_b2] at HD
  have HD2 := hide HD
  have HFIN := hide (HBW.out.trans (hS2.only.below (K := w.heap.size) (fun k h => by rcases h with h | h | h; (have := HN.out; omega); cases h; cases h) HBW.out.size))
  clear HD hc1 hc2 hU hO4 hS2 HF2 HK hbf hx0 hx1 hx2 hy hf2 hm2 hg1 hlt1 hg2 HBW
  go_wp2_with fail
  refine HD2.out.mono ?_
  rintro e w5 ⟨rfl, rfl⟩
  clear HD2
  go_wp2_with fail
  go_ret
  exact ⟨rfl, HFIN.out⟩
end Go.Proofs.YtbiblaeocbcfhaaGreatDoor
