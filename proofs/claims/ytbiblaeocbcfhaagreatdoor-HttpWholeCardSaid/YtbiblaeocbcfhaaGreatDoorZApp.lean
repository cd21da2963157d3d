/- http: what was told is laid behind what was told before. -/
import Derived.Test.YtbiblaeocbcfhaaGreatDoorZEnds
namespace Go.Proofs.YtbiblaeocbcfhaaGreatDoor
open Go.RowKit Go.Deep
set_option linter.unusedVariables false
set_option linter.unusedSimpArgs false
set_option maxRecDepth 100000
theorem St.mv {w0 : World} {B : Nat} {tv fv bv : Value} {wz w1 : World} {q q1 : PM} {v : Value} {rows : List TRow} {tv' fv' bv' tv1 fv1 bv1 : Value} (h : St w0 B tv fv bv wz q v rows tv' fv' bv') (hA : At w1 B q1 tv1 fv1 bv1) (ho : OnlyS (Own B tv' bv') wz w1) (ft : Fresh wz tv' tv1) (ff : Fresh wz fv' fv1) (fb : Fresh wz bv' bv1) : St w0 B tv fv bv w1 q1 v rows tv1 fv1 bv1 := by
  have hx : ∀ k, OB v rows k → ¬ Own B tv' bv' k := fun k hk hx => by
    have hd := h.dis k hk
    rcases hx with e | e | e
    · exact hd.1 e
    · exact hd.2.1 e
    · exact hd.2.2.1 e
  refine ⟨h.outs.only ho hx, hA, h.only.trans ho (fun i hi hy => ?_), h.ft.trans ft h.only.size, h.ff.trans ff h.only.size, h.fb.trans fb h.only.size, fun k hk => ?_, h.vs, h.src⟩
  · rcases hy with e | e | e
    · exact .inl e
    · rcases h.ft i e with h1 | h1
      · exact .inr (.inl h1)
      · omega
    · rcases h.fb i e with h1 | h1
      · exact .inr (.inr h1)
      · omega
  · have hd := h.dis k hk
    have hlt := h.outs.lt k hk
    refine ⟨hd.1, fun e => ?_, fun e => ?_, fun e => ?_⟩
    · rcases ft k e with h1 | h1
      · exact hd.2.1 h1
      · omega
    · rcases fb k e with h1 | h1
      · exact hd.2.2.1 h1
      · omega
    · rcases ff k e with h1 | h1
      · exact hd.2.2.2 h1
      · omega
/-- A row of what was told is appended. -/
theorem pushTs (V : World) (a af : Option Addr) (n c k cf : Nat) (rows rowsF : List TRow) (hV : OwnTd V (.slice a n c) rows) (hn : rows.length = n) (hF : OwnTd V (.slice af k cf) rowsF) (hk : rowsF.length = k) (hone : ∀ x ∈ rowsF, x.2.1.oneCell' = true ∧ x.2.2.oneCell' = true) (hs : n + k ≤ 100000) :
    ∃ a' c' w', (Builtin.append_ #[26, 26] 26 #[.slice a n c, .slice af k cf]).run Tryz.prog V = .ok (.slice a' (n + k) c') w' ∧ OwnTd w' (.slice a' (n + k) c') (rows ++ rowsF) ∧ OnlyS (fun i => (Value.slice a n c).ownBlock = some i) V w' ∧ (∀ i, (Value.slice a' (n + k) c').ownBlock = some i → (Value.slice a n c).ownBlock = some i ∨ V.heap.size ≤ i) := by
  obtain ⟨i0, hi, hz0, hz1, hz2⟩ := info_parts Tryz.infoPrs
  unfold OwnTd at hV hF
  rw [hn] at hV
  rw [hk] at hF
  rcases hF.2 with ⟨h1, h2⟩ | ⟨g, cap, cur, h1, _, hg, _⟩
  · have e1 : af = none := by injection h1
    have e2 : cf = 0 := by injection h1
    subst e1 e2 h2
    have hr : rowsF = [] := List.length_eq_zero_iff.1 hk
    subst hr
    refine ⟨a, c, V, run_append_owned_none (P := Tryz.prog) V 0 26 26 33 i0 7 Tryz.underlying26 hi _ n _ hV, ?_, OnlyS.refl _ _, fun i h => .inl h⟩
    unfold OwnTd
    rw [List.append_nil, hn]
    exact hV
  · have e1 : af = some ⟨g, 0, none⟩ := by injection h1
    have e2 : cf = cap := by injection h1
    subst e1 e2
    obtain ⟨v', w', g1, g2, g3, _, g5⟩ := run_append_own_at (P := Tryz.prog) V 0 26 26 33 i0 _ 7 104 Tryz.underlying26 hi hz0 hz1 hz2 (by rfl) (by omega) (.slice a n c) n (rows.flatMap tcl) hV ⟨g, 0, none⟩ k cf (rowsF.flatMap tcl) (by rw [tcl_len, hk]) (by
      intro j u hj
      have hj2 := (List.getElem?_eq_some_iff.1 hj).1
      rw [tcl_len, hk] at hj2
      rw [add0]
      exact (World.ownsRow.cellAt hF j hj2).trans hj) (by
      intro u hu
      obtain ⟨x, hx, hu⟩ := List.mem_flatMap.1 hu
      have ho := hone x hx
      unfold tcl tcells at hu
      simp only [List.mem_cons, List.not_mem_nil, or_false] at hu
      rcases hu with h | h | h | h | h | h | h <;> rw [h] <;> first | rfl | exact ho.1 | exact ho.2) (by unfold maxLen; omega) (by omega) (by omega)
    obtain ⟨a', c', rfl⟩ := slice_form g2
    refine ⟨a', c', w', g1, ?_, (OnlyS.refl _ V).grown g3 (fun i hk => .inl hk), fun i hk => ?_⟩
    · unfold OwnTd
      rw [List.length_append, hk, hn, List.flatMap_append]
      exact g2
    · rcases g5 with h5 | h5
      · exact .inl (h5.symm.trans hk)
      · rw [h5] at hk
        exact .inr (by have := Option.some.inj hk; omega)
theorem St.app {w0 : World} {B : Nat} {tv fv bv : Value} {wz w1 w2 : World} {q q1 : PM} {v vf v2 : Value} {rows rowsF : List TRow} {tv' fv' bv' tv1 fv1 bv1 : Value}
    (h : St w0 B tv fv bv wz q v rows tv' fv' bv') (hS : St wz B tv' fv' bv' w1 q1 vf rowsF tv1 fv1 bv1) (hr : OwnTd w2 v2 (rows ++ rowsF)) (ho2 : OnlyS (fun i => v.ownBlock = some i) w1 w2) (hf2 : ∀ i, v2.ownBlock = some i → v.ownBlock = some i ∨ w1.heap.size ≤ i) :
    St w0 B tv fv bv w2 q1 v2 (rows ++ rowsF) tv1 fv1 bv1 := by
  have hM := h.mv hS.at' hS.only hS.ft hS.ff hS.fb
  have hsz := hS.only.size
  have hs0 := h.only.size
  have hF : ∀ y ∈ rowsF, ∀ k, y.2.1.ownBlock = some k ∨ y.2.2.ownBlock = some k → v.ownBlock ≠ some k ∧ k < w1.heap.size := fun y hy k hk => by
    have hob : OB vf rowsF k := .inr ⟨y, hy, hk⟩
    refine ⟨fun e => ?_, hS.outs.lt k hob⟩
    have hd := h.dis k (.inl e)
    have hl := h.outs.lt k (.inl e)
    rcases hS.src k hob with h1 | h1 | h1
    · omega
    · exact hd.2.2.2 h1
    · exact hd.2.2.1 h1
  refine ⟨⟨hr, fun y hy => ?_, fun k hk y hy => ?_, fun k hk => ?_⟩, ?_, ?_, hM.ft, hM.ff, hM.fb, fun k hk => ?_, fun k hk => ?_, fun k hk => ?_⟩
  · rcases List.mem_append.1 hy with hy | hy
    · have he := hM.outs.each y hy
      have hap := fun k (hk : v.ownBlock = some k) => hM.outs.apart k hk y hy
      exact ⟨he.1.only ho2 (fun k hk e => (hap k e).1 hk), he.2.only ho2 (fun k hk e => (hap k e).2 hk)⟩
    · have he := hS.outs.each y hy
      exact ⟨he.1.only ho2 (fun k hk e => (hF y hy k (.inl hk)).1 e), he.2.only ho2 (fun k hk e => (hF y hy k (.inr hk)).1 e)⟩
  · rcases hf2 k hk with e1 | e1
    · rcases List.mem_append.1 hy with hy | hy
      · exact hM.outs.apart k e1 y hy
      · exact ⟨fun e => (hF y hy k (.inl e)).1 e1, fun e => (hF y hy k (.inr e)).1 e1⟩
    · rcases List.mem_append.1 hy with hy | hy
      · exact ⟨fun e => by have := hM.outs.lt k (.inr ⟨y, hy, .inl e⟩); omega, fun e => by have := hM.outs.lt k (.inr ⟨y, hy, .inr e⟩); omega⟩
      · exact ⟨fun e => by have := (hF y hy k (.inl e)).2; omega, fun e => by have := (hF y hy k (.inr e)).2; omega⟩
  · have hz2 := ho2.size
    rcases hk with e | ⟨y, hy, e⟩
    · exact (World.ownsRow.lt hr k e).2
    · rcases List.mem_append.1 hy with hy | hy
      · have := hM.outs.lt k (.inr ⟨y, hy, e⟩); omega
      · have := (hF y hy k e).2; omega
  · exact hS.at'.only ho2 (fun e => (hM.dis B (.inl e)).1 rfl) (fun k hk e => (hM.dis k (.inl e)).2.1 hk) (fun k hk e => (hM.dis k (.inl e)).2.2.1 hk) (fun k hk e => (hM.dis k (.inl e)).2.2.2 hk)
  · exact hM.only.trans ho2 (fun i hi e => by have := hM.vs i e; omega)
  · rcases hk with e | ⟨y, hy, e⟩
    · rcases hf2 k e with e1 | e1
      · exact hM.dis k (.inl e1)
      · exact ⟨fun x => by have := hS.at'.lt; omega, fun x => by have := hS.at'.tx.lt k x; omega, fun x => by have := hS.at'.bd.lt k x; omega, fun x => by have := hS.at'.fk k x; omega⟩
    · rcases List.mem_append.1 hy with hy | hy
      · exact hM.dis k (.inr ⟨y, hy, e⟩)
      · exact hS.dis k (.inr ⟨y, hy, e⟩)
  · rcases hf2 k hk with e1 | e1
    · exact hM.vs k e1
    · omega
  · rcases hk with e | ⟨y, hy, e⟩
    · rcases hf2 k e with e1 | e1
      · exact hM.src k (.inl e1)
      · exact .inl (by omega)
    · rcases List.mem_append.1 hy with hy | hy
      · exact hM.src k (.inr ⟨y, hy, e⟩)
      · rcases hS.src k (.inr ⟨y, hy, e⟩) with h1 | h1 | h1
        · exact .inl (by omega)
        · rcases h.ff k h1 with h2 | h2
          · exact .inr (.inl h2)
          · exact .inl h2
        · rcases h.fb k h1 with h2 | h2
          · exact .inr (.inr h2)
          · exact .inl h2
end Go.Proofs.YtbiblaeocbcfhaaGreatDoor
