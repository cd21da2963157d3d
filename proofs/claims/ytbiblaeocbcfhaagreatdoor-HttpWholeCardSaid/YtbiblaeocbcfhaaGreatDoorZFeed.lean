/- http: bytes are fed. -/
import Derived.Test.YtbiblaeocbcfhaaGreatDoorZTell
namespace Go.Proofs.YtbiblaeocbcfhaaGreatDoor
open Go.RowKit Go.Deep
set_option linter.unusedVariables false
set_option linter.unusedSimpArgs false
set_option maxRecDepth 100000
abbrev TRow := Told × Value × Value
def tcl (x : TRow) : List Value := (tcells x.1 x.2.1 x.2.2).toList
def OwnTd (w : World) (v : Value) (rows : List TRow) : Prop := w.ownsRow 0 33 7 v rows.length (rows.flatMap tcl)
/-- The blocks of what was told. -/
def OB (v : Value) (rows : List TRow) (k : Nat) : Prop := v.ownBlock = some k ∨ ∃ x ∈ rows, x.2.1.ownBlock = some k ∨ x.2.2.ownBlock = some k
structure Outs (w : World) (v : Value) (rows : List TRow) : Prop where
  row : OwnTd w v rows
  each : ∀ x ∈ rows, FV w x.2.1 x.1.rq.fs ∧ U8 w x.2.2 x.1.rq.body
  apart : ∀ k, v.ownBlock = some k → ∀ x ∈ rows, x.2.1.ownBlock ≠ some k ∧ x.2.2.ownBlock ≠ some k
  lt : ∀ k, OB v rows k → k < w.heap.size
theorem Outs.nil (w : World) : Outs w (.slice none 0 0) [] := ⟨World.ownsRow_nil w 0 _ _, fun x h => (by simp at h), fun k h => (by cases h), fun k h => by rcases h with h | ⟨x, hx, _⟩; cases h; simp at hx⟩
theorem Outs.only {X : Nat → Prop} {w w' : World} {v : Value} {rows : List TRow} (h : Outs w v rows) (ho : OnlyS X w w') (hx : ∀ k, OB v rows k → ¬ X k) : Outs w' v rows :=
  ⟨ho.owns h.row (fun k hk => hx k (.inl hk)), fun x hm => ⟨(h.each x hm).1.only ho (fun k hk => hx k (.inr ⟨x, hm, .inl hk⟩)), (h.each x hm).2.only ho (fun k hk => hx k (.inr ⟨x, hm, .inr hk⟩))⟩, h.apart, fun k hk => Nat.lt_of_lt_of_le (h.lt k hk) ho.size⟩
theorem Tryz.infoPrs : (Tryz.prog.info? 33).map (fun i => (i.zero, i.size, i.bytes)) = some (some (.agg #[.int .i64 0, .string ⟨#[]⟩, .string ⟨#[]⟩, .int .i64 0, .slice none 0 0, .slice none 0 0, .bool false]), 7, 104) := by kernel_rfl
theorem tcl_len (rows : List TRow) : (rows.flatMap tcl).length = rows.length * 7 := by
  induction rows with
  | nil => rfl
  | cons x r ih => rw [List.flatMap_cons, List.length_append, ih, List.length_cons]; show 7 + _ = _; omega
/-- What is told is appended. -/
theorem pushT (V : World) (a : Option Addr) (n c : Nat) (rows : List TRow) (hV : OwnTd V (.slice a n c) rows) (hn : rows.length = n) (x : TRow) (h1 : x.2.1.oneCell' = true) (h2 : x.2.2.oneCell' = true) (hs : n ≤ 100000) :
    ∃ a' c' w', (Builtin.append_ #[26, 26] 26 #[.slice a n c, .slice (some ⟨V.heap.size, 0, none⟩) 1 1]).run Tryz.prog (V.alloc (.cells (tcells x.1 x.2.1 x.2.2) 33)) = .ok (.slice a' (n + 1) c') w' ∧ OwnTd w' (.slice a' (n + 1) c') (rows ++ [x]) ∧ OnlyS (fun k => (Value.slice a n c).ownBlock = some k) V w' ∧ (∀ k, (Value.slice a' (n + 1) c').ownBlock = some k → (Value.slice a n c).ownBlock = some k ∨ V.heap.size ≤ k) := by
  have hal : OnlyS (fun k => (Value.slice a n c).ownBlock = some k) V (V.alloc (.cells (tcells x.1 x.2.1 x.2.2) 33)) := OnlyS.of ((Below.refl _ _).alloc (Nat.le_refl _) _)
  have hr2 : (V.alloc (.cells (tcells x.1 x.2.1 x.2.2) 33)).ownsRow 0 33 7 (.slice a n c) n (rows.flatMap tcl) := by
    have h := World.ownsRow.alloc hV (.cells (tcells x.1 x.2.1 x.2.2) 33)
    rwa [hn] at h
  have hc : (V.alloc (.cells (tcells x.1 x.2.1 x.2.2) 33)).heap[V.heap.size]? = some (.cells (tcells x.1 x.2.1 x.2.2) 33 (0, 0)) := heap_alloc_new _ _
  obtain ⟨i0, hi, hz0, hz1, hz2⟩ := info_parts Tryz.infoPrs
  obtain ⟨v', w', g1, g2, g3, _, g5⟩ := run_append_own_at (P := Tryz.prog) (V.alloc (.cells (tcells x.1 x.2.1 x.2.2) 33)) 0 26 26 33 i0 _ 7 104 Tryz.underlying26 hi hz0 hz1 hz2 (by rfl) (by omega) (.slice a n c) n (rows.flatMap tcl) hr2 ⟨V.heap.size, 0, none⟩ 1 1 (tcl x) (by rfl) (by
    intro j u hj
    have hj2 : (tcells x.1 x.2.1 x.2.2)[j]? = some u := by unfold tcl at hj; simpa using hj
    rw [add0]
    exact cell_at hc j hj2) (by
    intro u hu
    unfold tcl tcells at hu
    simp only [List.mem_cons, List.not_mem_nil, or_false] at hu
    rcases hu with h | h | h | h | h | h | h <;> rw [h] <;> first | rfl | exact h1 | exact h2) (by unfold maxLen; omega) (by omega) (by omega)
  obtain ⟨a', c', rfl⟩ := slice_form g2
  refine ⟨a', c', w', g1, ?_, hal.grown g3 (fun k hk => .inl hk), fun k hk => ?_⟩
  · unfold OwnTd
    rw [List.length_append, List.length_singleton, hn, List.flatMap_append, show [x].flatMap tcl = tcl x by simp]
    exact g2
  · rcases g5 with h5 | h5
    · exact .inl (h5.symm.trans hk)
    · rw [h5] at hk
      have := hal.size
      exact .inr (by have := Option.some.inj hk; omega)
theorem feed_dead : ∀ (l : List UInt8) (p : PM), p.waits = 7 → feedM p l = (p, [])
  | [], _, _ => rfl
  | c :: r, p, h => by
    have hs : stepM p c = (p, []) := by unfold stepM; rw [if_pos h]
    rw [feedM, hs, feed_dead r p h]; rfl
theorem feed_snoc (l : List UInt8) (c : UInt8) (p : PM) : feedM p (l ++ [c]) = ((stepM (feedM p l).1 c).1, (feedM p l).2 ++ (stepM (feedM p l).1 c).2) := by
  rw [feed_app]; simp [feedM]
theorem feed_bd : ∀ (l : List UInt8) (p : PM), Bd p → Bd (feedM p l).1
  | [], _, h => h
  | c :: r, p, h => feed_bd r _ (step_bd p c h)
/-- How far the feeding has come. -/
structure St (w0 : World) (B : Nat) (tv fv bv : Value) (wz : World) (q : PM) (v : Value) (rows : List TRow) (tv' fv' bv' : Value) : Prop where
  outs : Outs wz v rows
  at' : At wz B q tv' fv' bv'
  only : OnlyS (Own B tv bv) w0 wz
  ft : Fresh w0 tv tv'
  ff : Fresh w0 fv fv'
  fb : Fresh w0 bv bv'
  dis : ∀ k, OB v rows k → k ≠ B ∧ tv'.ownBlock ≠ some k ∧ bv'.ownBlock ≠ some k ∧ fv'.ownBlock ≠ some k
  vs : ∀ k, v.ownBlock = some k → w0.heap.size ≤ k
  src : ∀ k, OB v rows k → w0.heap.size ≤ k ∨ fv.ownBlock = some k ∨ bv.ownBlock = some k
theorem St.left {w0 : World} {B : Nat} {tv fv bv : Value} {wz w1 : World} {q q1 : PM} {v : Value} {rows : List TRow} {tv' fv' bv' : Value} (h : St w0 B tv fv bv wz q v rows tv' fv' bv') (hl : Left B tv' fv' bv' wz q1 w1) : ∃ tv1 fv1 bv1, St w0 B tv fv bv w1 q1 v rows tv1 fv1 bv1 := by
  obtain ⟨tv1, fv1, bv1, hA, ho, ft, ff, fb⟩ := hl
  have hx : ∀ k, OB v rows k → ¬ Own B tv' bv' k := fun k hk hx => by
    have hd := h.dis k hk
    rcases hx with e | e | e
    · exact hd.1 e
    · exact hd.2.1 e
    · exact hd.2.2.1 e
  refine ⟨tv1, fv1, bv1, h.outs.only ho hx, hA, h.only.trans ho (fun i hi hy => ?_), h.ft.trans ft h.only.size, h.ff.trans ff h.only.size, h.fb.trans fb h.only.size, fun k hk => ?_, h.vs, h.src⟩
  · rcases hy with e | e | e
    · exact .inl e
    · rcases h.ft i e with h1 | h1
      · exact .inr (.inl h1)
      · omega
    · rcases h.fb i e with h1 | h1
      · exact .inr (.inr h1)
      · omega
  · have hd := h.dis k hk
    have hlt := h.outs.lt k hk
    refine ⟨hd.1, fun e => ?_, fun e => ?_, fun e => ?_⟩
    · rcases ft k e with h1 | h1
      · exact hd.2.1 h1
      · omega
    · rcases fb k e with h1 | h1
      · exact hd.2.2.1 h1
      · omega
    · rcases ff k e with h1 | h1
      · exact hd.2.2.2 h1
      · omega
theorem St.tell {w0 : World} {B : Nat} {tv fv bv : Value} {w1 w2 w4 : World} {q q2 : PM} {a a' : Option Addr} {n c c' : Nat} {rows : List TRow} {tv1 fv1 bv1 tf tb : Value} {x : TRow}
    (h : St w0 B tv fv bv w1 q (.slice a n c) rows tv1 fv1 bv1) (hA : At w2 B q2 (.slice none 0 0) (.slice none 0 0) (.slice none 0 0)) (ho : OnlyS (fun k => k = B) w1 w2)
    (hF : FV w2 x.2.1 x.1.rq.fs) (hU : U8 w2 x.2.2 x.1.rq.body) (hx : (x.2.1 = fv1 ∧ x.2.2 = bv1) ∨ (x.2.1 = .slice none 0 0 ∧ x.2.2 = .slice none 0 0))
    (hr : OwnTd w4 (.slice a' (n + 1) c') (rows ++ [x])) (ho2 : OnlyS (fun k => (Value.slice a n c).ownBlock = some k) w2 w4) (hf2 : ∀ k, (Value.slice a' (n + 1) c').ownBlock = some k → (Value.slice a n c).ownBlock = some k ∨ w2.heap.size ≤ k) :
    St w0 B tv fv bv w4 q2 (.slice a' (n + 1) c') (rows ++ [x]) (.slice none 0 0) (.slice none 0 0) (.slice none 0 0) := by
  have hxb : ∀ k, x.2.1.ownBlock = some k ∨ x.2.2.ownBlock = some k → (fv1.ownBlock = some k ∨ bv1.ownBlock = some k) := fun k hk => by
    rcases hx with ⟨e1, e2⟩ | ⟨e1, e2⟩
    · rw [e1, e2] at hk; exact hk
    · rw [e1, e2] at hk; rcases hk with e | e <;> cases e
  have hxl : ∀ k, x.2.1.ownBlock = some k ∨ x.2.2.ownBlock = some k → k < w1.heap.size := fun k hk => by
    rcases hxb k hk with e | e
    · exact h.at'.fk k e
    · exact h.at'.bd.lt k e
  have hxv : ∀ k, x.2.1.ownBlock = some k ∨ x.2.2.ownBlock = some k → (Value.slice a n c).ownBlock ≠ some k := fun k hk e => by
    have hd := h.dis k (.inl e)
    rcases hxb k hk with e1 | e1
    · exact hd.2.2.2 e1
    · exact hd.2.2.1 e1
  have hOB : ∀ k, OB (.slice a' (n + 1) c') (rows ++ [x]) k → OB (.slice a n c) rows k ∨ w2.heap.size ≤ k ∨ (x.2.1.ownBlock = some k ∨ x.2.2.ownBlock = some k) := fun k hk => by
    rcases hk with e | ⟨y, hy, e⟩
    · rcases hf2 k e with e1 | e1
      · exact .inl (.inl e1)
      · exact .inr (.inl e1)
    · rcases List.mem_append.1 hy with hy | hy
      · exact .inl (.inr ⟨y, hy, e⟩)
      · rw [List.mem_singleton.1 hy] at e; exact .inr (.inr e)
  have hlt4 : ∀ k, OB (.slice a' (n + 1) c') (rows ++ [x]) k → k < w4.heap.size := fun k hk => by
    rcases hk with e | ⟨y, hy, e⟩
    · exact (World.ownsRow.lt hr k e).2
    · have h1 := ho.size
      have h2 := ho2.size
      rcases List.mem_append.1 hy with hy | hy
      · have := h.outs.lt k (.inr ⟨y, hy, e⟩); omega
      · rw [List.mem_singleton.1 hy] at e; have := hxl k e; omega
  have hsz := ho.size
  refine ⟨⟨hr, fun y hy => ?_, fun k hk y hy => ?_, hlt4⟩, ?_, ?_, Fresh.nil _ _, Fresh.nil _ _, Fresh.nil _ _, fun k hk => ⟨?_, fun e => (by cases e), fun e => (by cases e), fun e => (by cases e)⟩, fun k hk => ?_, fun k hk => ?_⟩
  · rcases List.mem_append.1 hy with hy | hy
    · have he := h.outs.each y hy
      have hap := fun k (hk : (Value.slice a n c).ownBlock = some k) => h.outs.apart k hk y hy
      refine ⟨(he.1.only ho (fun k hk e => (h.dis k (.inr ⟨y, hy, .inl hk⟩)).1 e)).only ho2 (fun k hk e => (hap k e).1 hk), (he.2.only ho (fun k hk e => (h.dis k (.inr ⟨y, hy, .inr hk⟩)).1 e)).only ho2 (fun k hk e => (hap k e).2 hk)⟩
    · rw [List.mem_singleton.1 hy]
      exact ⟨hF.only ho2 (fun k hk e => hxv k (.inl hk) e), hU.only ho2 (fun k hk e => hxv k (.inr hk) e)⟩
  · rcases hf2 k hk with e1 | e1
    · rcases List.mem_append.1 hy with hy | hy
      · exact h.outs.apart k e1 y hy
      · rw [List.mem_singleton.1 hy]; exact ⟨fun e => hxv k (.inl e) e1, fun e => hxv k (.inr e) e1⟩
    · rcases List.mem_append.1 hy with hy | hy
      · exact ⟨fun e => by have := h.outs.lt k (.inr ⟨y, hy, .inl e⟩); omega, fun e => by have := h.outs.lt k (.inr ⟨y, hy, .inr e⟩); omega⟩
      · rw [List.mem_singleton.1 hy]; exact ⟨fun e => by have := hxl k (.inl e); omega, fun e => by have := hxl k (.inr e); omega⟩
  · exact hA.only ho2 (fun e => (h.dis B (.inl e)).1 rfl) (fun _ e => (by cases e)) (fun _ e => (by cases e)) (fun _ e => (by cases e))
  · refine (h.only.trans ho (fun i _ e => .inl e)).trans ho2 (fun i hi e => ?_)
    have := h.vs i e
    omega
  · intro e
    rcases hOB k hk with h1 | h1 | h1
    · exact (h.dis k h1).1 e
    · have := h.at'.lt; omega
    · rcases hxb k h1 with e1 | e1
      · exact h.at'.fB (e ▸ e1)
      · exact h.at'.bB (e ▸ e1)
  · rcases hf2 k hk with e1 | e1
    · exact h.vs k e1
    · have := h.only.size; omega
  · rcases hOB k hk with h1 | h1 | h1
    · exact h.src k h1
    · have := h.only.size; exact .inl (by omega)
    · rcases hxb k h1 with e1 | e1
      · rcases h.ff k e1 with e2 | e2
        · exact .inr (.inl e2)
        · exact .inl e2
      · rcases h.fb k e1 with e2 | e2
        · exact .inr (.inr e2)
        · exact .inl e2
end Go.Proofs.YtbiblaeocbcfhaaGreatDoor
