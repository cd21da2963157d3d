/- The law that keys rise: what is told of a table. -/
import Derived.Test.YtcgkblmhfgjoaaaKW
import Derived.Test.YtcgkblmhfgjoaaaKN
namespace Go.Proofs.Ytcgkblmhfgjoaaa
open Go.RowKit Go.Deep
set_option linter.unusedVariables false
set_option linter.unusedSimpArgs false
set_option maxRecDepth 100000
theorem one_cell {w : World} {R : Nat} {t : TypeId} {v0 : Value} (h : w.heap[R]? = some (.cells #[v0] t (0, 0))) : w.cell? ⟨R, 0, none⟩ = some v0 ∧ ∀ i, w.frozen? ⟨R, i, none⟩ = false := by
  refine ⟨?_, fun i => ?_⟩ <;> simp [World.cell?, World.frozen?, h]
theorem gb_block {w w' : World} {E R : Nat} {o : Obj} (h : w.grownBy w' (some E)) (ho : w.heap[R]? = some o) (hne : R ≠ E) : w'.heap[R]? = some o := (h.block R (lt_of_block ho) (by intro e; cases e; exact hne rfl)).trans ho
set_option maxHeartbeats 400000 in
theorem all_any (t : Nat) (w : World) :
    Calls Try.prog 20 #[.pointer (some ⟨t, 0, none⟩)] w fun e w' => e = .returned (.func (.func 32) #[] #[.pointer (some ⟨w.heap.size, 0, none⟩)]) ∧ w' = w.alloc (.cells #[.pointer (some ⟨t, 0, none⟩)] 24) := by
  go_enter Try.func20, Try.ntmps20
  go_wp2
  go_ret
  exact ⟨rfl, rfl⟩
def tl : List KV → KV → Bool × List KV := fun σ _ => (true, σ.tail)
def hd1 : List KV → KV → Prop := fun σ x => σ.head? = some x
theorem good_tl : ∀ L : List KV, GoodW tl hd1 L L
  | [] => trivial
  | x :: L => ⟨rfl, fun _ => good_tl L⟩
theorem fold_tl : ∀ L : List KV, foldW tl L L = (true, [])
  | [] => rfl
  | x :: L => by rw [foldW]; exact fold_tl L
def lastk (d : List KV) : Int := (d.getLast?.map (·.1)).getD 0
/-- What the function's variables hold when some of a table's keys have been told. -/
structure RI (w : World) (t bt bl bc bo : Nat) (m : Int) (L : List KV) (σ : List KV) (V : World) : Prop where
  tab : Tab V t m (.func (.func 10) #[] #[]) id L
  bt : V.heap[bt]? = some (.cells #[.pointer (some ⟨t, 0, none⟩)] 24 (0, 0))
  told : ∃ d, L = d ++ σ ∧ V.heap[bo]? = some (.cells #[.bool true] 4 (0, 0)) ∧ V.heap[bc]? = some (.cells #[.int .i64 (d.length : Int)] 3 (0, 0)) ∧ V.heap[bl]? = some (.cells #[.int .i64 (lastk d)] 3 (0, 0))
  below : Below w.heap.size w V
theorem RI.drew {w V : World} {t bt bl bc bo : Nat} {m : Int} {L σ : List KV} (h : RI w t bt bl bc bo m L σ V) : RI w t bt bl bc bo m L σ V.drew :=
  ⟨h.tab.below (Below.refl V.heap.size V).drew (Nat.le_refl _), h.bt, h.told, h.below.drew⟩
theorem lastk_lt {d r : List KV} {x : KV} (ha : Asc id (d ++ x :: r)) (hd : d ≠ []) : lastk d < x.1 := by
  have hm := asc_mid.1 ha
  obtain ⟨y, hy⟩ : ∃ y, d.getLast? = some y := by
    cases h : d.getLast? with
    | none => exact absurd (List.getLast?_eq_none_iff.1 h) hd
    | some y => exact ⟨y, rfl⟩
  have hmem : y ∈ d := List.mem_of_getLast? hy
  unfold lastk
  rw [hy]
  exact hm.2.2.1 y hmem

set_option maxHeartbeats 1600000 in
theorem rises1_any (w : World) (t bt bl bc bo : Nat) (m : Int) (L : List KV) (hwt : w.heap.size ≤ t) (h1 : t < bt) (h2 : bt < bl) (h3 : bl < bc) (h4 : bc < bo) (hn : L.length ≤ 1000) (σ : List KV) (x : KV) (V : World) (hx : hd1 σ x) (h : RI w t bt bl bc bo m L σ V) :
    Calls Try.prog 25 #[.int .i64 x.1, .int .i64 x.2, .pointer (some ⟨bt, 0, none⟩), .pointer (some ⟨bo, 0, none⟩), .pointer (some ⟨bc, 0, none⟩), .pointer (some ⟨bl, 0, none⟩)] V fun e V' => e = .returned (.bool (tl σ x).1) ∧ RI w t bt bl bc bo m L (tl σ x).2 V' ∧ NK V V' := by
  cases σ with
  | nil => cases hx
  | cons y r =>
    have hyx : y = x := by simpa [hd1] using hx
    subst hyx
    obtain ⟨d, hL, ko, kc, kl⟩ := h.told
    have ha := h.tab.asc
    have hm := asc_mid.1 (hL ▸ ha)
    have hg := GetL h.tab o_ord y.1
    have hhas : hasL id y.1 L = true := by rw [hL]; exact has_here rfl
    have hget : getL id y.1 L = y.2 := by rw [hL]; exact get_here rfl hm.2.2.1
    rw [hhas, hget] at hg
    clear hm ha hhas hget
    obtain ⟨x, hxy⟩ : ∃ x, x = y := ⟨_, rfl⟩
    subst hxy
    by_cases hd0 : d = []
    · have hq : ((d.length : Int) == 0) = true := by subst hd0; rfl
      skip
      have HD := hide hL
      have HH := hide h
      have hcn : (d.length : Int) ≤ 1000000 := by have := congrArg List.length hL; rw [List.length_append] at this; omega
      obtain ⟨p0, pf⟩ := one_cell h.bt
      have HG := hide hg
      clear hL h hg
      obtain ⟨dl, hdl⟩ : ∃ n : Nat, d.length = n := ⟨_, rfl⟩
      rw [hdl] at kc hq hcn
      obtain ⟨lk, hlk⟩ : ∃ z, lastk d = z := ⟨_, rfl⟩
      rw [hlk] at kl
      have HDL := hide hdl
      have HBO := hide ko
      have HBC := hide kc
      have HBL := hide kl
      clear hdl hlk ko kc kl hd0
      go_enter Try.func25, Try.ntmps25
      go_wp2_with fail
      refine HG.out.mono ?_
      rintro e V1 ⟨rfl, g1, g2⟩
      have H1 := hide g1
      have H2 := hide g2
      have HO1 := hide (gb_block g2 HBO.out (by omega))
      have HC1 := hide (gb_block g2 HBC.out (by omega))
      have HL1 := hide (gb_block g2 HBL.out (by omega))
      have HT1 := hide (gb_block g2 HH.out.bt (by omega))
      obtain ⟨o0, of⟩ := one_cell HO1.out
      obtain ⟨q0, qf⟩ := one_cell HC1.out
      obtain ⟨l0, lf⟩ := one_cell HL1.out
      have e1 : bo ≠ bc := by omega
      have e2 : bo ≠ bl := by omega
      have e3 : bl ≠ bc := by omega
      have e4 : bc ≠ bo := by omega
      have e5 : bl ≠ bo := by omega
      have e6 : bc ≠ bl := by omega
      clear g1 g2 HG p0 pf
      go_wp2
      go_ret
      obtain ⟨V2, hV2, K0, KC, KL, KT, KB, KTB, KN⟩ : ∃ V2, ((V1.setCell ⟨bo, 0, none⟩ (.bool true)).setCell ⟨bl, 0, none⟩ (.int .i64 x.1)).setCell ⟨bc, 0, none⟩ (.int .i64 ((dl : Int) + 1)) = V2 ∧ V2.heap[bo]? = some (.cells #[.bool true] 4 (0, 0)) ∧ V2.heap[bc]? = some (.cells #[.int .i64 ((dl : Int) + 1)] 3 (0, 0)) ∧ V2.heap[bl]? = some (.cells #[.int .i64 x.1] 3 (0, 0)) ∧ V2.heap[bt]? = some (.cells #[.pointer (some ⟨t, 0, none⟩)] 24 (0, 0)) ∧ Below w.heap.size w V2 ∧ Tab V2 t m (.func (.func 10) #[] #[]) id L ∧ NK V V2 := by
        have k1 : (V1.setCell ⟨bo, 0, none⟩ (.bool true)).heap[bo]? = some (.cells #[.bool true] 4 (0, 0)) := heap_setCell_same _ _ 0 _ _ _ HO1.out
        have k2 : (V1.setCell ⟨bo, 0, none⟩ (.bool true)).heap[bl]? = _ := (heap_setCell_other _ _ _ _ e5).trans HL1.out
        have k3 : ((V1.setCell ⟨bo, 0, none⟩ (.bool true)).setCell ⟨bl, 0, none⟩ (.int .i64 x.1)).heap[bl]? = some (.cells #[.int .i64 x.1] 3 (0, 0)) := heap_setCell_same _ _ 0 _ _ _ k2
        have k4 : ((V1.setCell ⟨bo, 0, none⟩ (.bool true)).setCell ⟨bl, 0, none⟩ (.int .i64 x.1)).heap[bc]? = _ := (heap_setCell_other _ _ _ _ e6).trans ((heap_setCell_other _ _ _ _ e4).trans HC1.out)
        have n1 := NK.set HO1.out (by decide) 0 (.bool true)
        have n2 := NK.set k2 (by decide) 0 (.int .i64 x.1)
        have n3 := NK.set k4 (by decide) 0 (.int .i64 ((dl : Int) + 1))
        have nA := n1.trans (n2.trans n3)
        have n0 : NK V V1 := fun b cs hb => by
          refine (H2.out.block b (lt_of_block hb) ?_).trans hb
          intro e; cases e
          obtain ⟨_, hT, _⟩ := HH.out.tab
          rw [hT] at hb; cases hb
        refine ⟨_, rfl, ?_, ?_, ?_, ?_, ?_, ?_, n0.trans nA⟩
        · exact (heap_setCell_other _ _ _ _ e1).trans ((heap_setCell_other _ _ _ _ e2).trans k1)
        · exact heap_setCell_same _ _ 0 _ _ _ k4
        · exact (heap_setCell_other _ _ _ _ e3).trans k3
        · exact (heap_setCell_other _ _ _ _ (by show bt ≠ bc; omega)).trans ((heap_setCell_other _ _ _ _ (by show bt ≠ bl; omega)).trans ((heap_setCell_other _ _ _ _ (by show bt ≠ bo; omega)).trans HT1.out))
        · exact (((HH.out.below.grown H2.out HH.out.below.size (fun j e => by cases e; exact hwt)).setCell (by show w.heap.size ≤ bo; omega) _).setCell (by show w.heap.size ≤ bl; omega) _).setCell (by show w.heap.size ≤ bc; omega) _
        · refine H1.out.keep nA (fun o ho => (heap_setCell_other _ _ _ _ (by show t ≠ bc; omega)).trans ((heap_setCell_other _ _ _ _ (by show t ≠ bl; omega)).trans ((heap_setCell_other _ _ _ _ (by show t ≠ bo; omega)).trans ho)))
      try rw [hV2]
      refine ⟨rfl, ⟨KTB, KT, ⟨d ++ [x], ?_, K0, ?_, ?_⟩, KB⟩, KN⟩
      · rw [HD.out]; simp [tl]
      · rw [List.length_append, HDL.out]; exact KC
      · rw [show lastk (d ++ [x]) = x.1 by simp [lastk]]; exact KL
    · have hq : ((d.length : Int) == 0) = false := by simp; exact hd0
      have hgt : decide (lastk d < x.1) = true := by simpa using lastk_lt (by rw [← hL]; exact h.tab.asc) hd0
      have HD := hide hL
      have HH := hide h
      have hcn : (d.length : Int) ≤ 1000000 := by have := congrArg List.length hL; rw [List.length_append] at this; omega
      obtain ⟨p0, pf⟩ := one_cell h.bt
      have HG := hide hg
      clear hL h hg
      obtain ⟨dl, hdl⟩ : ∃ n : Nat, d.length = n := ⟨_, rfl⟩
      rw [hdl] at kc hq hcn
      obtain ⟨lk, hlk⟩ : ∃ z, lastk d = z := ⟨_, rfl⟩
      rw [hlk] at kl hgt
      have HDL := hide hdl
      have HBO := hide ko
      have HBC := hide kc
      have HBL := hide kl
      clear hdl hlk ko kc kl hd0
      go_enter Try.func25, Try.ntmps25
      go_wp2_with fail
      refine HG.out.mono ?_
      rintro e V1 ⟨rfl, g1, g2⟩
      have H1 := hide g1
      have H2 := hide g2
      have HO1 := hide (gb_block g2 HBO.out (by omega))
      have HC1 := hide (gb_block g2 HBC.out (by omega))
      have HL1 := hide (gb_block g2 HBL.out (by omega))
      have HT1 := hide (gb_block g2 HH.out.bt (by omega))
      obtain ⟨o0, of⟩ := one_cell HO1.out
      obtain ⟨q0, qf⟩ := one_cell HC1.out
      obtain ⟨l0, lf⟩ := one_cell HL1.out
      have e1 : bo ≠ bc := by omega
      have e2 : bo ≠ bl := by omega
      have e3 : bl ≠ bc := by omega
      have e4 : bc ≠ bo := by omega
      have e5 : bl ≠ bo := by omega
      have e6 : bc ≠ bl := by omega
      clear g1 g2 HG p0 pf
      go_wp2
      go_ret
      obtain ⟨V2, hV2, K0, KC, KL, KT, KB, KTB, KN⟩ : ∃ V2, ((V1.setCell ⟨bo, 0, none⟩ (.bool true)).setCell ⟨bl, 0, none⟩ (.int .i64 x.1)).setCell ⟨bc, 0, none⟩ (.int .i64 ((dl : Int) + 1)) = V2 ∧ V2.heap[bo]? = some (.cells #[.bool true] 4 (0, 0)) ∧ V2.heap[bc]? = some (.cells #[.int .i64 ((dl : Int) + 1)] 3 (0, 0)) ∧ V2.heap[bl]? = some (.cells #[.int .i64 x.1] 3 (0, 0)) ∧ V2.heap[bt]? = some (.cells #[.pointer (some ⟨t, 0, none⟩)] 24 (0, 0)) ∧ Below w.heap.size w V2 ∧ Tab V2 t m (.func (.func 10) #[] #[]) id L ∧ NK V V2 := by
        have k1 : (V1.setCell ⟨bo, 0, none⟩ (.bool true)).heap[bo]? = some (.cells #[.bool true] 4 (0, 0)) := heap_setCell_same _ _ 0 _ _ _ HO1.out
        have k2 : (V1.setCell ⟨bo, 0, none⟩ (.bool true)).heap[bl]? = _ := (heap_setCell_other _ _ _ _ e5).trans HL1.out
        have k3 : ((V1.setCell ⟨bo, 0, none⟩ (.bool true)).setCell ⟨bl, 0, none⟩ (.int .i64 x.1)).heap[bl]? = some (.cells #[.int .i64 x.1] 3 (0, 0)) := heap_setCell_same _ _ 0 _ _ _ k2
        have k4 : ((V1.setCell ⟨bo, 0, none⟩ (.bool true)).setCell ⟨bl, 0, none⟩ (.int .i64 x.1)).heap[bc]? = _ := (heap_setCell_other _ _ _ _ e6).trans ((heap_setCell_other _ _ _ _ e4).trans HC1.out)
        have n1 := NK.set HO1.out (by decide) 0 (.bool true)
        have n2 := NK.set k2 (by decide) 0 (.int .i64 x.1)
        have n3 := NK.set k4 (by decide) 0 (.int .i64 ((dl : Int) + 1))
        have nA := n1.trans (n2.trans n3)
        have n0 : NK V V1 := fun b cs hb => by
          refine (H2.out.block b (lt_of_block hb) ?_).trans hb
          intro e; cases e
          obtain ⟨_, hT, _⟩ := HH.out.tab
          rw [hT] at hb; cases hb
        refine ⟨_, rfl, ?_, ?_, ?_, ?_, ?_, ?_, n0.trans nA⟩
        · exact (heap_setCell_other _ _ _ _ e1).trans ((heap_setCell_other _ _ _ _ e2).trans k1)
        · exact heap_setCell_same _ _ 0 _ _ _ k4
        · exact (heap_setCell_other _ _ _ _ e3).trans k3
        · exact (heap_setCell_other _ _ _ _ (by show bt ≠ bc; omega)).trans ((heap_setCell_other _ _ _ _ (by show bt ≠ bl; omega)).trans ((heap_setCell_other _ _ _ _ (by show bt ≠ bo; omega)).trans HT1.out))
        · exact (((HH.out.below.grown H2.out HH.out.below.size (fun j e => by cases e; exact hwt)).setCell (by show w.heap.size ≤ bo; omega) _).setCell (by show w.heap.size ≤ bl; omega) _).setCell (by show w.heap.size ≤ bc; omega) _
        · refine H1.out.keep nA (fun o ho => (heap_setCell_other _ _ _ _ (by show t ≠ bc; omega)).trans ((heap_setCell_other _ _ _ _ (by show t ≠ bl; omega)).trans ((heap_setCell_other _ _ _ _ (by show t ≠ bo; omega)).trans ho)))
      try rw [hV2]
      refine ⟨rfl, ⟨KTB, KT, ⟨d ++ [x], ?_, K0, ?_, ?_⟩, KB⟩, KN⟩
      · rw [HD.out]; simp [tl]
      · rw [List.length_append, HDL.out]; exact KC
      · rw [show lastk (d ++ [x]) = x.1 by simp [lastk]]; exact KL

set_option maxHeartbeats 1600000 in
theorem iter_rises (w : World) (t bt bl bc bo bx : Nat) (m : Int) (L : List KV) (hwt : w.heap.size ≤ t) (h1 : t < bt) (h2 : bt < bl) (h3 : bl < bc) (h4 : bc < bo) (hn : L.length ≤ 1000) (V : World) (h : RI w t bt bl bc bo m L L V) (hbx : V.heap[bx]? = some (.cells #[.pointer (some ⟨t, 0, none⟩)] 24 (0, 0))) :
    Calls Try.prog 32 #[(.func (.func 25) #[] #[.pointer (some ⟨bt, 0, none⟩), .pointer (some ⟨bo, 0, none⟩), .pointer (some ⟨bc, 0, none⟩), .pointer (some ⟨bl, 0, none⟩)]), .pointer (some ⟨bx, 0, none⟩)] V fun e V' => (∃ v, e = .returned v) ∧ RI w t bt bl bc bo m L [] V' := by
  obtain ⟨T, hT, hIn, hTL, hA⟩ := h.tab
  obtain ⟨p0, pf⟩ := one_cell hbx
  obtain ⟨t0, t1, t2, tf⟩ := three_cells hT
  have hw := walk_rises tl (RI w t bt bl bc bo m L) (fun σ V h => h.drew) bt bo bc bl hd1 (hide (fun σ x V hx hi => rises1_any w t bt bl bc bo m L hwt h1 h2 h3 h4 hn σ x V hx hi)) T V L hIn (by rw [hTL]; exact good_tl L) h
  rw [hTL, fold_tl] at hw
  have HW := hide hw
  clear hT hIn hTL hA h hbx pf t0 t1 tf hw
  go_enter Try.func32, Try.ntmps32
  go_wp2_with fail
  refine HW.out.mono ?_
  rintro e V' ⟨rfl, i1, _⟩
  have HI := hide i1
  clear i1 HW
  go_wp2
  first
    | (go_end0; exact ⟨⟨_, rfl⟩, HI.out⟩)
    | (go_ret; exact ⟨⟨_, rfl⟩, HI.out⟩)
end Go.Proofs.Ytcgkblmhfgjoaaa
