/- Does a mapping's port lead elsewhere by another one? -/
import Derived.Test.YtijjgnkfddklgaaMBtn
import Derived.Test.YtijjgnkfddklgaaMPut
namespace Go.Proofs.Ytijjgnkfddklgaa
open Go.RowKit Go.Deep Go.Shelf
set_option linter.unusedVariables false
set_option linter.unusedSimpArgs false
set_option maxRecDepth 100000
attribute [local go_sem] Oper.semAt_some
set_option maxHeartbeats 800000 in
theorem between_any (w : World) (sp : Nat) (k : MK) (y : Int) :
    Calls Try.prog 66 #[.pointer (some ⟨sp, 0, none⟩), .int .u8 k.p, .int .u16 k.x, .int .u16 y] w fun e w' => ∃ sb pb fb tb, e = .returned (.func (.func 87) #[] #[.pointer (some ⟨sb, 0, none⟩), .pointer (some ⟨pb, 0, none⟩), .pointer (some ⟨fb, 0, none⟩), .pointer (some ⟨tb, 0, none⟩)]) ∧ BtwAt w' sp sb pb fb tb k y ∧ Below w.heap.size w w' := by
  obtain ⟨V1, hV1, a1, a2, ab⟩ := two_alloc w (.cells #[.pointer (some ⟨sp, 0, none⟩)] 33) (.cells #[.int .u8 k.p] 5)
  obtain ⟨V2, hV2, b1, b2, bb⟩ := two_alloc V1 (.cells #[.int .u16 k.x] 36) (.cells #[.int .u16 y] 36)
  have HE := hide (And.intro hV1 hV2)
  have HX := hide (show BtwAt V2 sp w.heap.size (w.heap.size + 1) V1.heap.size (V1.heap.size + 1) k y from ⟨below_block bb a1 (Nat.le_refl _), below_block bb a2 (Nat.le_refl _), b1, b2⟩)
  have HB := hide (ab.trans (bb.mono ab.size))
  have hz : V1.heap.size = w.heap.size + 2 := by rw [← hV1]; simp
  rw [hz] at HX
  clear hV1 hV2 a1 a2 ab b1 b2 bb hz
  go_enter Try.func66, Try.ntmps66
  go_upto_region 1 with (fail)
  rw [HE.out.1, HE.out.2]
  clear HE
  go_wp2_with fail
  go_ret
  exact ⟨w.heap.size, w.heap.size + 1, w.heap.size + 2, w.heap.size + 2 + 1, rfl, HX.out, HB.out⟩
/-- Does an entry lead elsewhere? -/
def hitE (mt mh : Int) (x : MK × ME) : Bool := x.2.h != mh || x.2.t != mt
def conflB (k : MK) (mt mh : Int) (L : ML) : Bool := (btwL k k.x L).any (hitE mt mh)
def IcR (k : MK) (mt mh : Int) (w : World) (rb : Nat) (c : Code) (xs : ML) (W : World) : Prop := c = .ret ∧ (∃ x ∈ xs, hitE mt mh x = true) ∧ W.heap[rb]? = some (.cells #[.bool true] 4 (0, 0)) ∧ Below w.heap.size w W
def IcN (mt mh : Int) (V : World) (xs : ML) (W : World) : Prop := (∀ x ∈ xs, hitE mt mh x = false) ∧ Below V.heap.size V W
def AxC (b0 : Nat) (x : MK × ME) (f : Nat → Act) (a' : Act) (W : World) : Prop := ∃ Bx, b0 ≤ Bx ∧ W.heap[Bx]? = some (.cells #[.int .u8 x.2.p, .int .u16 x.2.x, .int .u16 x.2.t, .int .u32 x.2.r, .int .u32 x.2.h, .bool x.2.en, .string x.2.ws, .int .u64 x.2.e] 40 (0, 0)) ∧ a' = f Bx
theorem own_row {B : Nat} {W W' : World} {row : Option Nat} (hg : W.grownBy W' row) (hr : ∀ r, row = some r → B ≤ r ∧ ∃ o : Obj, W.heap[r]? = some o ∧ o.isCells = false) {w : World} {A : Nat} (hA : A ≤ B) (hw : A ≤ w.heap.size) (h : Below A w W) : Below A w W' :=
  h.grown hg (Nat.le_trans hw h.size) (fun k e => Nat.le_trans hA (hr k e).1)
theorem own_cells {B : Nat} {W W' : World} {row : Option Nat} (hg : W.grownBy W' row) (hr : ∀ r, row = some r → B ≤ r ∧ ∃ o : Obj, W.heap[r]? = some o ∧ o.isCells = false) {b : Nat} {cs : Array Value} {T : TypeId} {f : Nat × Nat} (h : W.heap[b]? = some (.cells cs T f)) : W'.heap[b]? = some (.cells cs T f) :=
  (grownBy_keeps_cells hg (fun r e => (hr r e).2) h rfl).trans h
theorem IcN_own (mt mh : Int) (V : World) : OwnFrom V.heap.size (IcN mt mh V) := fun s W W' row hs hg hr => ⟨hs.1, own_row hg hr (Nat.le_refl _) (Nat.le_refl _) hs.2⟩
theorem IcR_own (k : MK) (mt mh : Int) (w : World) (rb B : Nat) (hB : w.heap.size ≤ B) (c : Code) : OwnFrom B (IcR k mt mh w rb c) := fun s W W' row hs hg hr => ⟨hs.1, hs.2.1, own_cells hg hr hs.2.2.1, own_row hg hr hB (Nat.le_refl _) hs.2.2.2⟩
theorem AxC_own (b0 : Nat) (f : Nat → Act) (B : Nat) (x : MK × ME) (a' : Act) : OwnFrom B (fun (_ : Unit) W => AxC b0 x f a' W) := fun s W W' row hs hg hr => by
  obtain ⟨Bx, hB, hx, ha⟩ := hs
  exact ⟨Bx, hB, own_cells hg hr hx, ha⟩
theorem keepB_b {B : Nat} {w : World} (hB : B ≤ w.heap.size) (W : World) (l : Nat) (o o' : Obj) (hl : w.heap.size ≤ l) (h : W.heap[l]? = some o) (ho : o.isCells = false) (_ : o.isWalk = false) : Below B W (W.putObj l o') :=
  ⟨rfl, rfl, rfl, by simp, fun b hb => World.putObj_heap_other (by omega)⟩
set_option maxHeartbeats 4000000 in
theorem conflicts_any (w : World) (sp tt : Nat) (cs : Array Value) (up : Int) (L : ML) (k : MK) (hk0 : k.r = 0) (mt mr mh : Int) (h : SAt w sp tt cs up L) (hL : L.length ≤ 500000) :
    Calls Try.prog 76 #[.pointer (some ⟨sp, 0, none⟩), .agg #[.int .u8 k.p, .int .u16 k.x, .int .u16 mt, .int .u32 mr, .int .u32 mh]] w fun e w' => e = .returned (.bool (conflB k mt mh L)) ∧ Below w.heap.size w w' := by
  obtain ⟨V, hV, hx, hr, hb⟩ := two_alloc w (.cells #[.int .u8 k.p, .int .u16 k.x, .int .u16 mt, .int .u32 mr, .int .u32 mh] 38) (.cells #[.bool false] 4)
  obtain ⟨B, hB⟩ : ∃ B, w.heap.size = B := ⟨_, rfl⟩
  obtain ⟨R, hR⟩ : ∃ R, w.heap.size + 1 = R := ⟨_, rfl⟩
  rw [hB] at hx
  rw [hR] at hr
  have HV := hide (And.intro hV (And.intro hR hB))
  have HB := hide hb
  have HBR := hide (show w.heap.size ≤ B ∧ w.heap.size ≤ R by omega)
  have HH := hide (h.below hb)
  have HLN := hide hL
  have HX := hide hx
  have HR := hide hr
  have HBT := hide (between_any V sp k k.x)
  obtain ⟨x0, x1, x2, x3, x4, xf⟩ : V.cell? ⟨B, 0, none⟩ = some (.int .u8 k.p) ∧ V.cell? ⟨B, 1, none⟩ = some (.int .u16 k.x) ∧ V.cell? ⟨B, 2, none⟩ = some (.int .u16 mt) ∧ V.cell? ⟨B, 3, none⟩ = some (.int .u32 mr) ∧ V.cell? ⟨B, 4, none⟩ = some (.int .u32 mh) ∧ ∀ i, V.frozen? ⟨B, i, none⟩ = false := by
    refine ⟨?_, ?_, ?_, ?_, ?_, fun i => ?_⟩ <;> simp [World.cell?, World.frozen?, hx]
  clear hV hx hr hb h hL hB hR
  refine (callsIn_wide (n := 8)).1 ?_
  have hro : Fence.wide.round = none := rfl
  refine callsIn_of_wp_marks Try.func76 rfl trivial ?_ hro
  simp only [Try.ntmps76, List.size_toArray, List.length_cons, List.length_nil, Nat.reduceAdd, Nat.reduceSub, Array.replicate_succ, Array.replicate_zero, List.push_toArray, List.append_toArray, List.nil_append, List.cons_append]
  gi_upto_region 1 with (fail)
  rw [HV.out.1, HV.out.2.1, HV.out.2.2]
  gi_wp2_with fail
  refine ⟨trivial, ?_⟩
  refine (callsIn_wide.2 HBT.out).mono ?_
  rintro e w2 ⟨sb, pb, fb, tb, rfl, hbt, b2⟩
  have HH2 := hide (HH.out.below b2)
  have HX2 := hide (below_block b2 HX.out (Nat.le_refl _))
  have HR2 := hide (below_block b2 HR.out (Nat.le_refl _))
  have HB2 := hide (HB.out.trans (b2.mono HB.out.size))
  have HT2 := hide hbt
  clear hbt b2 HBT x0 x1 x2 x3 x4 xf HH HX HR HB
  gi_wp2_with fail
  have HS := hide (btn_stops 7 (by omega) sp tt sb pb fb tb cs up L k k.x hk0 HLN.out w2 HH2.out HT2.out)
  have HW2 := hide HB2.out.size
  refine wpIn_rangeFunc_ownH hro (by omega) (gf := 87) (lb := #[.pointer (some ⟨sb, 0, none⟩), .pointer (some ⟨pb, 0, none⟩), .pointer (some ⟨fb, 0, none⟩), .pointer (some ⟨tb, 0, none⟩)]) rfl trivial (enters_of Try.func87 (by kernel_rfl) rfl)
    HS.out (fun h k => h.trans k) (keepB_b (Nat.le_refl _)) (Below.refl _ _) (fun _ => rfl)
    (IcN mt mh w2) (IcR k mt mh w R) (IcN_own mt mh w2) (IcR_own k mt mh w R _ HW2.out) ⟨fun x hx => by simp at hx, Below.refl _ _⟩
    (fun x => AxC w2.heap.size x (fun Bx => { tmps := #[.pointer (some ⟨sp, 0, none⟩), .agg #[.int .u8 k.p, .int .u16 k.x, .int .u16 mt, .int .u32 mr, .int .u32 mh], undef, .pointer (some ⟨B, 0, none⟩), .pointer (some ⟨R, 0, none⟩), .pointer (some ⟨Bx, 0, none⟩), .pointer (some ⟨sp, 0, none⟩), .pointer (some ⟨B, 0, none⟩), .int .u8 k.p, .pointer (some ⟨B, 1, none⟩), .int .u16 k.x, .pointer (some ⟨B, 1, none⟩), .int .u16 k.x, .func (.func 87) #[] #[.pointer (some ⟨sb, 0, none⟩), .pointer (some ⟨pb, 0, none⟩), .pointer (some ⟨fb, 0, none⟩), .pointer (some ⟨tb, 0, none⟩)], .agg #[.int .u8 x.2.p, .int .u16 x.2.x, .int .u16 x.2.t, .int .u32 x.2.r, .int .u32 x.2.h, .bool x.2.en, .string x.2.ws, .int .u64 x.2.e], undef, undef, undef, undef, undef, undef, undef, undef, undef, undef, undef, undef, undef, undef], defers := [] })) (fun x a' => AxC_own _ _ _ x a') ?assign ?body ?done ?stop
  case assign =>
    intro l pre x W K hi hK
    have hbl := (Below.refl W.heap.size W).alloc (Nat.le_refl _) (.cells #[.int .u8 x.2.p, .int .u16 x.2.x, .int .u16 x.2.t, .int .u32 x.2.r, .int .u32 x.2.h, .bool x.2.en, .string x.2.ws, .int .u64 x.2.e] 40)
    have HI := hide (show IcN mt mh w2 pre _ from ⟨hi.1, hi.2.trans (hbl.mono hi.2.size)⟩)
    have HBB := hide (hbl.mono hi.2.size)
    have HZ := hide hi.2.size
    have HK := hide hK
    clear hi hK hbl
    gi_wp2
    exact HK.out _ _ ((KeepsOthers.alloc _ _).from _) HBB.out HI.out ⟨W.heap.size, HZ.out, heap_alloc_new _ _, rfl⟩
  case body =>
    rintro l pre x a' W hl ⟨r, hr⟩ ⟨hpre, hW⟩ ⟨Bx, hBx, hbx, rfl⟩ hlt
    obtain ⟨e0, e1, e2, e3, e4, e5, e6, e7, ef⟩ := C.val_cells hbx
    have hm := below_block hW HX2.out (Nat.le_refl _)
    obtain ⟨x2, x4⟩ : W.cell? ⟨B, 2, none⟩ = some (.int .u16 mt) ∧ W.cell? ⟨B, 4, none⟩ = some (.int .u32 mh) := by constructor <;> simp [World.cell?, hm]
    have hrr := below_block hW HR2.out (Nat.le_refl _)
    obtain ⟨r0, rf⟩ := one_cell hrr
    have HP := hide hpre
    have HWW := hide hW
    have HRR := hide hrr
    clear hbx hm hpre hW hl hr hlt hrr ef
    have hfin : ∀ e : Code, e = .ret → hitE mt mh x = true → Hid (IcR k mt mh w R .ret (pre ++ [x]) (W.setCell ⟨R, 0, none⟩ (.bool true))) := fun e _ hh => hide ⟨rfl, ⟨x, by simp, hh⟩, heap_setCell_same _ _ 0 _ _ _ HRR.out, (HB2.out.trans (HWW.out.mono HB2.out.size)).setCell (p := ⟨R, 0, none⟩) HBR.out.2 _⟩
    have hfin := hfin _ rfl
    cases t1 : (x.2.h != mh) with
    | true =>
      have HF := hfin (by unfold hitE; rw [t1]; rfl)
      clear hfin
      gi_wp2
      exact ⟨(KeepsOthers.setCell _ _ _).from _, HF.out⟩
    | false =>
      cases t2 : (x.2.t != mt) with
      | true =>
        have HF := hfin (by unfold hitE; rw [t1, t2]; rfl)
        clear hfin
        gi_wp2
        exact ⟨(KeepsOthers.setCell _ _ _).from _, HF.out⟩
      | false =>
        have HF := hide (show hitE mt mh x = false by unfold hitE; rw [t1, t2]; rfl)
        clear hfin
        gi_wp2
        refine ⟨KeepsFrom.refl _ _, Below.refl _ _, fun y hy => ?_, HWW.out⟩
        rcases List.mem_append.1 hy with hy | hy
        · exact HP.out y hy
        · rw [List.mem_singleton.1 hy]; exact HF.out
  case done =>
    rintro D ys W hD rfl ⟨hpre, hW⟩ hKD
    have hrr := below_block hW HR2.out (Nat.le_refl _)
    obtain ⟨r0, rf⟩ := one_cell hrr
    have hres : conflB k mt mh L = false := by
      unfold conflB
      rw [List.any_eq_false]
      intro y hy
      rw [hpre y hy]; simp
    have HRES := hide hres
    have HW := hide hW
    have HRR := hide hrr
    have HKD := hide hKD
    clear hpre hW hrr hres
    gi_wp2
    have hcl := heap_setCell_same W R 0 _ _ (.bool false) HRR.out
    have hDR : D ≠ R := by intro e; subst e; rw [HRR.out] at hKD; cases hKD
    have hk2 : (W.setCell ⟨R, 0, none⟩ (.bool false)).heap[D]? = some (.deferred (some [])) := (heap_setCell_other _ _ _ _ hDR).trans hKD
    have hbb := (HB2.out.trans (HW.out.mono HB2.out.size)).setCell (p := ⟨R, 0, none⟩) HBR.out.2 (.bool false)
    obtain ⟨X, hX⟩ : ∃ X, W.setCell ⟨R, 0, none⟩ (.bool false) = X := ⟨_, rfl⟩
    rw [hX] at hcl hk2 hbb ⊢
    refine ⟨by simp, .inl ⟨_, _, rfl, run_takeDeferred hk2, ?_⟩⟩
    have hc2 : (X.putObj D (.deferred none)).heap[R]? = some (.cells #[.bool false] 4 (0, 0)) := (World.putObj_heap_other hDR.symm).trans hcl
    have hb2 : Below w.heap.size w (X.putObj D (.deferred none)) := own_row (grownBy_putObj' X D (.deferred none)) (fun r e => by cases e; exact ⟨Nat.le_trans HW2.out hD, _, hk2, rfl⟩) (Nat.le_refl _) (Nat.le_refl _) hbb
    obtain ⟨c0, cf⟩ := one_cell hc2
    exact ⟨.bool false, by simp [results, Try.results76, go_sem, c0], by rw [HRES.out], hb2⟩
  case stop =>
    rintro D c pre W hD ⟨r, hr⟩ ⟨rfl, ⟨x, hx, hh⟩, hrr, hW⟩ hKD
    have hres : conflB k mt mh L = true := by
      unfold conflB
      rw [List.any_eq_true, ← hr]
      exact ⟨x, List.mem_append_left _ hx, hh⟩
    have HRES := hide hres
    have HW := hide hW
    have hDR : D ≠ R := by intro e; subst e; rw [hrr] at hKD; cases hKD
    clear hr hx hh hres
    gi_wp2
    refine ⟨by simp, .inl ⟨_, _, rfl, run_takeDeferred hKD, ?_⟩⟩
    have hc2 : (W.putObj D (.deferred none)).heap[R]? = some (.cells #[.bool true] 4 (0, 0)) := (World.putObj_heap_other hDR.symm).trans hrr
    have hb2 : Below w.heap.size w (W.putObj D (.deferred none)) := own_row (grownBy_putObj' W D (.deferred none)) (fun r e => by cases e; exact ⟨Nat.le_trans HW2.out hD, _, hKD, rfl⟩) (Nat.le_refl _) (Nat.le_refl _) HW.out
    obtain ⟨c0, cf⟩ := one_cell hc2
    exact ⟨.bool true, by simp [results, Try.results76, go_sem, c0], by rw [HRES.out], hb2⟩
end Go.Proofs.Ytijjgnkfddklgaa
