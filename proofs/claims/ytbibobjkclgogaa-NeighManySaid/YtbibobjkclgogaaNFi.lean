/- neigh: who is forgotten first. -/
import Derived.Test.YtbibobjkclgogaaNPo
import Derived.Test.YtbibobjkclgogaaDW
import Derived.Test.YtbibobjkclgogaaNSm
namespace Go.Proofs.Ytbibobjkclgogaa
open Go.RowKit Go.Deep Go.Shelf
set_option linter.unusedVariables false
set_option linter.unusedSimpArgs false
set_option maxRecDepth 100000
attribute [local go_sem] Oper.semAt_some
theorem nkD_b {w : World} (W : World) (l : Nat) (o o' : Obj) (_ : w.heap.size ≤ l) (h : W.heap[l]? = some o) (ho : o.isCells = false) (_ : o.isWalk = false) : D.NK W (W.putObj l o') := fun b cs hb => by
  have hne : b ≠ l := by
    intro e; subst e
    rw [h] at hb; cases hb; cases ho
  exact (World.putObj_heap_other hne).trans hb
theorem NK_refl (W : World) : D.NK W W := fun _ _ h => h
theorem own_row {B : Nat} {W W' : World} {row : Option Nat} (hg : W.grownBy W' row) (hr : ∀ r, row = some r → B ≤ r ∧ ∃ o : Obj, W.heap[r]? = some o ∧ o.isCells = false) {w : World} {A : Nat} (hA : A ≤ B) (hw : A ≤ w.heap.size) (h : Below A w W) : Below A w W' :=
  h.grown hg (Nat.le_trans hw h.size) (fun k e => Nat.le_trans hA (hr k e).1)
theorem own_cells {B : Nat} {W W' : World} {row : Option Nat} (hg : W.grownBy W' row) (hr : ∀ r, row = some r → B ≤ r ∧ ∃ o : Obj, W.heap[r]? = some o ∧ o.isCells = false) {b : Nat} {cs : Array Value} {T : TypeId} {f : Nat × Nat} (h : W.heap[b]? = some (.cells cs T f)) : W'.heap[b]? = some (.cells cs T f) :=
  (grownBy_keeps_cells hg (fun r e => (hr r e).2) h rfl).trans h
/-- The one that is forgotten ahead of the others: of several the first. -/
def bst (b : D.KV) : List D.KV → D.KV
  | [] => b
  | x :: xs => bst (if x.2.e < b.2.e then x else b) xs
theorem bst_snoc (b : D.KV) (x : D.KV) : ∀ (L : List D.KV), bst b (L ++ [x]) = (if x.2.e < (bst b L).2.e then x else bst b L) := by
  intro L
  induction L generalizing b with
  | nil => rfl
  | cons y r ih => exact ih _
theorem bst_mem (b : D.KV) : ∀ (L : List D.KV), bst b L = b ∨ bst b L ∈ L := by
  intro L
  induction L generalizing b with
  | nil => exact .inl rfl
  | cons y r ih =>
    show bst (if y.2.e < b.2.e then y else b) r = b ∨ bst (if y.2.e < b.2.e then y else b) r ∈ y :: r
    rcases ih (if y.2.e < b.2.e then y else b) with h | h
    · by_cases hc : y.2.e < b.2.e
      · rw [if_pos hc] at h ⊢; rw [h]; exact .inr (by simp)
      · rw [if_neg hc] at h ⊢; exact .inl h
    · exact .inr (List.mem_cons_of_mem _ h)
theorem two_alloc (w : World) (o1 o2 : Obj) : ∃ V, (w.alloc o1).alloc o2 = V ∧ V.heap[w.heap.size]? = some o1 ∧ V.heap[w.heap.size + 1]? = some o2 ∧ Below w.heap.size w V := by
  refine ⟨_, rfl, below_block ((Below.refl _ _).alloc (Nat.le_refl _) _) (heap_alloc_new w o1) (Nat.le_refl _), ?_, ((Below.refl _ _).alloc (Nat.le_refl _) _).alloc (by simp) _⟩
  have h := heap_alloc_new (w.alloc o1) o2
  rw [show (w.alloc o1).heap.size = w.heap.size + 1 by simp] at h
  exact h
/-- What the loop bears. -/
def IF (w : World) (R1 R2 : Nat) (x0 : D.KV) (b0 : Nat) (pre : List D.KV) (W : World) : Prop := b0 ≤ W.heap.size ∧ W.heap[R1]? = some (.cells #[.int .u32 (bst x0 pre).1] 25 (0, 0)) ∧ W.heap[R2]? = some (.cells #[.int .u8 (bst x0 pre).2.m0, .int .u8 (bst x0 pre).2.m1, .int .u8 (bst x0 pre).2.m2, .int .u8 (bst x0 pre).2.m3, .int .u8 (bst x0 pre).2.m4, .int .u8 (bst x0 pre).2.m5, .int .u64 (bst x0 pre).2.e] 68 (0, 0)) ∧ Below w.heap.size w W
theorem IF_own (w : World) (R1 R2 : Nat) (x0 : D.KV) (b0 B : Nat) (hB : w.heap.size ≤ B) : OwnFrom B (IF w R1 R2 x0 b0) := fun s W W' row hs hg hr => ⟨Nat.le_trans hs.1 hg.size, own_cells hg hr hs.2.1, own_cells hg hr hs.2.2.1, own_row hg hr hB (Nat.le_refl _) hs.2.2.2⟩
theorem semAt_in {F : Fence} {l : Nat} {o : Oper} (hro : F.round = none) (h : ∀ c, o.op ≠ .defer c) (ρ : Operand → Value) : o.semAt (F.inRound l).round ρ = o.semAt F.round ρ := by
  rw [Fence.inRound_round, Oper.semAt_some l _ _ h, hro, Oper.semAt_none]
/-- An operation in a round, as out of it. -/
theorem opIn_round {F : Fence} {n l : Nat} {P : Program} {o : Oper} {a : Act} {w : World} {K : Act → World → Prop} {Q : Exit → Act → World → Prop} (hro : F.round = none) (h : ∀ c, o.op ≠ .defer c) (hh : o.wpIn F n P a w K Q) : o.wpIn (F.inRound l) n P a w K Q := by
  refine ⟨hh.1, ?_⟩
  rw [semAt_in hro h]
  exact hh.2
def noDefer (ops : Array Oper) : Bool := ops.all fun o => match o.op with | .defer _ => false | _ => true
theorem noDefer_at {ops : Array Oper} (h : noDefer ops = true) {i : Nat} {o : Oper} (ho : ops[i]? = some o) : ∀ c, o.op ≠ .defer c := by
  intro c hc
  unfold noDefer at h
  rw [Array.all_eq_true] at h
  obtain ⟨hi, e⟩ := Array.getElem?_eq_some_iff.1 ho
  have := h i hi
  rw [e, hc] at this
  cases this
/-- A drawn region in a round, as out of it. -/
theorem anyIn_round {F : Fence} {n l : Nat} {P : Program} {md : Region.Mode} {ops : Array Oper} {Q : Exit → Act → World → Prop} (hro : F.round = none) (hd : noDefer ops = true) :
    ∀ (fuel : Nat) (listed : Array Bool) (a : Act) (w : World), wpAnyIn F n P md ops Q fuel listed a w → wpAnyIn (F.inRound l) n P md ops Q fuel listed a w
  | 0, _, _, _, h => h
  | fuel + 1, listed, a, w, h => by
    refine ⟨h.1, fun i hi => ?_⟩
    have h2 := h.2 i hi
    unfold wpOpIn at h2 ⊢
    cases ho : ops[i]? with
    | none => rw [ho] at h2; exact anyIn_round hro hd fuel _ _ _ h2
    | some o =>
      rw [ho] at h2
      dsimp only at h2 ⊢
      split
      · rename_i hw
        rw [if_pos hw] at h2
        exact opIn_round hro (noDefer_at hd ho) (Oper.wpIn_mono (fun a w hk => anyIn_round hro hd fuel _ a w hk) h2)
      · rename_i hw
        rw [if_neg hw] at h2
        exact ⟨h2.1, anyIn_round hro hd fuel _ _ _ h2.2⟩
theorem regionIn_round {n l id : Nat} {P : Program} {ops : Array Oper} {Q : Exit → Act → World → Prop} {a : Act} {w : World} (hm : P.follows .mixedOrders = true) (hd : noDefer ops = true)
    (h : wpAnyIn Fence.wide n P .any ops Q ops.size (Array.replicate ops.size false) a w.drew) : (Code.region id ops true).wpIn (Fence.wide.inRound l) n P Q a w :=
  wpIn_region_any hm (anyIn_round rfl hd _ _ _ _ h)
def AxF (c tb R1 R2 bx b0 : Nat) (x0 x : D.KV) (a' : Act) (W : World) : Prop := ∃ Bx, b0 ≤ Bx ∧ W.heap[Bx]? = some (.cells #[.int .u8 x.2.m0, .int .u8 x.2.m1, .int .u8 x.2.m2, .int .u8 x.2.m3, .int .u8 x.2.m4, .int .u8 x.2.m5, .int .u64 x.2.e] 68 (0, 0)) ∧ a' = { tmps := #[.pointer (some ⟨c, 0, none⟩), undef, .int .u32 0, .pointer (some ⟨R1, 0, none⟩), .pointer (some ⟨R2, 0, none⟩), .bool true, .int .u32 x.1, .pointer (some ⟨Bx, 0, none⟩), .tuple #[.int .u32 x0.1, .agg #[.int .u8 x0.2.m0, .int .u8 x0.2.m1, .int .u8 x0.2.m2, .int .u8 x0.2.m3, .int .u8 x0.2.m4, .int .u8 x0.2.m5, .int .u64 x0.2.e], .bool true], .pointer (some ⟨c, 0, none⟩), .pointer (some ⟨c, 0, none⟩), .pointer (some ⟨c, 0, none⟩), .pointer (some ⟨tb, 0, none⟩), .tuple #[.int .u32 x0.1, .agg #[.int .u8 x0.2.m0, .int .u8 x0.2.m1, .int .u8 x0.2.m2, .int .u8 x0.2.m3, .int .u8 x0.2.m4, .int .u8 x0.2.m5, .int .u64 x0.2.e], .bool true], .int .u32 x0.1, .agg #[.int .u8 x0.2.m0, .int .u8 x0.2.m1, .int .u8 x0.2.m2, .int .u8 x0.2.m3, .int .u8 x0.2.m4, .int .u8 x0.2.m5, .int .u64 x0.2.e], .bool true, .pointer (some ⟨c, 0, none⟩), .pointer (some ⟨c, 0, none⟩), .pointer (some ⟨c, 0, none⟩), .pointer (some ⟨tb, 0, none⟩), .func (.func 58) #[] #[.pointer (some ⟨bx, 0, none⟩)], .int .u32 x.1, .agg #[.int .u8 x.2.m0, .int .u8 x.2.m1, .int .u8 x.2.m2, .int .u8 x.2.m3, .int .u8 x.2.m4, .int .u8 x.2.m5, .int .u64 x.2.e], undef, undef, undef, undef, undef, undef, undef, undef], defers := [] }
theorem AxF_own (c tb R1 R2 bx b0 : Nat) (x0 x : D.KV) (B : Nat) (a' : Act) : OwnFrom B (fun (_ : Unit) W => AxF c tb R1 R2 bx b0 x0 x a' W) := fun s W W' row hs hg hr => by
  obtain ⟨Bx, hB, hx, ha⟩ := hs
  exact ⟨Bx, hB, own_cells hg hr hx, ha⟩
set_option maxHeartbeats 4000000 in
theorem first_any (K c : Nat) (x0 : D.KV) (L : List D.KV) (H : List HV) (w : World) (h : CAt w K c (x0 :: L) H) (hl : (x0 :: L).length ≤ 500000) :
    Calls Try.prog 37 #[.pointer (some ⟨c, 0, none⟩)] w fun e w' => e = .returned (.int .u32 (bst x0 (x0 :: L)).1) ∧ Below w.heap.size w w' := by
  obtain ⟨tb, a, n, cap, hx⟩ := h
  have HX := hide hx
  have HLN := hide hl
  have HAT := hide (D.AtL hx.tab 0 (by omega) (by decide) (by decide))
  obtain ⟨c0, c1, cf⟩ := two_cells hx.blk
  clear hx c1 hl
  refine (callsIn_wide (n := 8)).1 ?_
  have hro : Fence.wide.round = none := rfl
  refine callsIn_of_wp_marks Try.func37 rfl trivial ?_ hro
  simp only [Try.ntmps37, List.size_toArray, List.length_cons, List.length_nil, Nat.reduceAdd, Nat.reduceSub, Array.replicate_succ, Array.replicate_zero, List.push_toArray, List.append_toArray, List.nil_append, List.cons_append]
  gi_wp2_with fail
  refine ⟨trivial, ?_⟩
  refine (callsIn_wide.2 HAT.out).mono ?_
  rintro e w1 ⟨h1, b1⟩
  have h2 : e = .returned (.tuple #[.int .u32 x0.1, .agg #[.int .u8 x0.2.m0, .int .u8 x0.2.m1, .int .u8 x0.2.m2, .int .u8 x0.2.m3, .int .u8 x0.2.m4, .int .u8 x0.2.m5, .int .u64 x0.2.e], .bool true]) := by
    rcases h1 with ⟨x, hx, _, he⟩ | ⟨h3, _⟩
    · cases hx; exact he
    · rcases h3 with h3 | h3
      · omega
      · simp at h3; omega
  subst h2
  have HX1 := hide (HX.out.below b1)
  have HB1 := hide b1
  clear h1 b1 HAT c0 cf
  obtain ⟨c0, _, cf⟩ := two_cells HX1.out.blk
  have lc := lt_of_block HX1.out.blk
  gi_wp2_with fail
  refine ⟨trivial, ?_⟩
  obtain ⟨V, hV, v1, v2, vb⟩ := two_alloc w1 (.cells #[.int .u32 x0.1] 25) (.cells #[.int .u8 x0.2.m0, .int .u8 x0.2.m1, .int .u8 x0.2.m2, .int .u8 x0.2.m3, .int .u8 x0.2.m4, .int .u8 x0.2.m5, .int .u64 x0.2.e] 68)
  rw [hV]
  obtain ⟨R1, hR1⟩ : ∃ R, w1.heap.size = R := ⟨_, rfl⟩
  obtain ⟨R2, hR2⟩ : ∃ R, w1.heap.size + 1 = R := ⟨_, rfl⟩
  rw [hR1] at v1
  rw [hR2] at v2
  try rw [hR2]
  try rw [hR1]
  refine (callsIn_wide.2 (D.all_any tb V)).mono ?_
  rintro e w2 ⟨rfl, hw2⟩
  have hbl : Below V.heap.size V w2 := by rw [hw2]; exact (Below.refl V.heap.size V).alloc (Nat.le_refl _) _
  have hbx : w2.heap[V.heap.size]? = some (.cells #[.pointer (some ⟨tb, 0, none⟩)] 65 (0, 0)) := by rw [hw2]; exact heap_alloc_new _ _
  obtain ⟨bx, hbxe⟩ : ∃ b, V.heap.size = b := ⟨_, rfl⟩
  rw [hbxe] at hbx
  try rw [hbxe]
  have HBX := hide hbx
  have HX2 := hide ((HX1.out.below vb).below hbl)
  have HB2 := hide ((HB1.out.trans (vb.mono HB1.out.size)).trans (hbl.mono (HB1.out.trans (vb.mono HB1.out.size)).size))
  have HR1 := hide (below_block hbl v1 (Nat.le_refl _))
  have HR2 := hide (below_block hbl v2 (Nat.le_refl _))
  have HRS := hide (show w.heap.size ≤ R1 ∧ w.heap.size ≤ R2 ∧ R1 < R2 by have := HB1.out.size; omega)
  clear hw2 hbl hbx hbxe hV v1 v2 vb hR1 hR2 c0 cf lc HX HX1 HB1
  gi_wp2_with fail
  obtain ⟨T, hT1, hT2, hT3, hT4⟩ := HX2.out.tab
  have HTE := hide hT3
  have HBS := hide HB2.out.size
  have hr1 := lt_of_block HR1.out
  have hr2 := lt_of_block HR2.out
  refine wpIn_rangeFunc_ownH hro (by omega) (gf := 58) (lb := #[.pointer (some ⟨bx, 0, none⟩)]) rfl trivial (enters_of Try.func58 (by kernel_rfl) rfl)
    (D.all_stops Fence.wide rfl 7 trivial trivial hro bx tb 256 D.oF T w2 HBX.out hT1 hT2) D.NK.trans nkD_b (Below.refl _ _) (fun _ => rfl)
    (IF w R1 R2 x0 w2.heap.size) (fun _ _ _ => False) (IF_own w R1 R2 x0 _ _ HBS.out) (fun c s W W' row hs hg hr => hs) ⟨Nat.le_refl _, HR1.out, HR2.out, HB2.out⟩
    (AxF c tb R1 R2 bx w2.heap.size x0) (fun x a' => AxF_own c tb R1 R2 bx w2.heap.size x0 x _ a') ?assign ?body ?done ?stop
  case assign =>
    intro l pre x W K hi hK
    have hbl := (Below.refl W.heap.size W).alloc (Nat.le_refl _) (.cells #[.int .u8 x.2.m0, .int .u8 x.2.m1, .int .u8 x.2.m2, .int .u8 x.2.m3, .int .u8 x.2.m4, .int .u8 x.2.m5, .int .u64 x.2.e] 68)
    have HI := hide (show IF w R1 R2 x0 w2.heap.size pre (W.alloc (.cells #[.int .u8 x.2.m0, .int .u8 x.2.m1, .int .u8 x.2.m2, .int .u8 x.2.m3, .int .u8 x.2.m4, .int .u8 x.2.m5, .int .u64 x.2.e] 68)) from ⟨Nat.le_trans hi.1 hbl.size, below_block hbl hi.2.1 (Nat.le_refl _), below_block hbl hi.2.2.1 (Nat.le_refl _), hi.2.2.2.trans (hbl.mono hi.2.2.2.size)⟩)
    have HNK := hide (D.NK.of_below hbl (Nat.le_refl _))
    have HK := hide hK
    have hsz : w2.heap.size ≤ W.heap.size := hi.1
    have HSZ := hide hsz
    clear hi hK hbl hT1 hT2 hT3 hT4 hr1 hr2 hsz
    gi_wp2
    exact HK.out _ _ ((KeepsOthers.alloc _ _).from _) HNK.out HI.out ⟨W.heap.size, HSZ.out, heap_alloc_new _ _, rfl⟩
  case body =>
    rintro l pre x a' W hl ⟨r, hr⟩ ⟨i0, i1, i2, i3⟩ ⟨Bx, hBx, hbx, rfl⟩ hlt
    have HBN := hide (bst_snoc x0 x pre)
    generalize bst x0 pre = b at i1 i2 HBN
    obtain ⟨e0, e1, e2, e3, e4, e5, e6, ef⟩ := cells7 hbx
    obtain ⟨r0, rf⟩ := one_cell i1
    obtain ⟨g0, g1, g2, g3, g4, g5, g6, gf⟩ := cells7 i2
    have hn1 : Bx ≠ R1 := by omega
    have hn2 : Bx ≠ R2 := by omega
    have hn3 : R1 ≠ R2 := by have := HRS.out.2.2; omega
    have lr1 := lt_of_block i1
    have lr2 := lt_of_block i2
    have lbx := lt_of_block hbx
    have HI1 := hide i1
    have HI2 := hide i2
    have HI3 := hide i3
    have HI0 := hide i0
    have HN := hide (And.intro hn1 (And.intro hn2 hn3))
    clear i0 i1 i2 i3 hbx hBx hlt hr hl hT1 hT2 hT3 hT4 hr1 hr2
    by_cases ht : x.2.e < b.2.e
    · have d1 : decide (x.2.e < b.2.e) = true := decide_eq_true ht
      rw [if_pos ht] at HBN
      clear ht
      gi_wp2_with fail
      refine regionIn_round (by kernel_rfl) (by kernel_rfl) ?_
      refine wpAnyIn_take (i := 0) (oi := { dst := some 29, op := Op.move (Operand.tmp 6), type := 25, pos := "host.go:45", after := #[], guard := none }) (v := ?_) hro rfl (by kernel_rfl) (by kernel_rfl) (by kernel_rfl) (fun _ _ _ h => h) ⟨Or.inl ⟨by rfl, ?_⟩, fun _ => rfl⟩ ?_
      rotate_left
      · intro w
        go_simp
        try with_reducible rfl
      try simp only [Act.put, List.setIfInBounds_toArray, List.set_cons_zero, List.set_cons_succ]
      refine wpAnyIn_ready (rs := [1, 2]) (by kernel_rfl) (by simp) ?_
      refine AllReadyIn.cons (o := { dst := some 30, op := Op.load 68 (Operand.tmp 7), type := 68, pos := "host.go:45", after := #[{ on := 2, ground := Ground.gcOnly Departure.lateStores }], guard := none }) rfl (fun K hK => ?_) ?_
      ·
        go_simp
        refine hK _ _ ?_
        clear hK K
        try simp only [Act.put, List.setIfInBounds_toArray, List.set_cons_zero, List.set_cons_succ]
        refine wpAnyIn_ready (rs := [2]) (by kernel_rfl) (by simp) ?_
        refine AllReadyIn.cons (o := { dst := none, op := Op.store 25 (Operand.tmp 3) (Operand.tmp 29), type := 0, pos := "host.go:45", after := #[{ on := 0, ground := Ground.data }, { on := 0, ground := Ground.phase }, { on := 1, ground := Ground.textOnly Departure.lateStores }], guard := none }) rfl (fun K hK => ?_) ?_
        ·
          go_simp
          refine hK _ _ ?_
          clear hK K
          try simp only [Act.put, List.setIfInBounds_toArray, List.set_cons_zero, List.set_cons_succ]
          refine wpAnyIn_ready (rs := [3]) (by kernel_rfl) (by simp) ?_
          refine AllReadyIn.cons (o := { dst := none, op := Op.store 68 (Operand.tmp 4) (Operand.tmp 30), type := 0, pos := "host.go:45", after := #[{ on := 1, ground := Ground.data }, { on := 2, ground := Ground.chain }, { on := 0, ground := Ground.phase }, { on := 1, ground := Ground.phase }, { on := 2, ground := Ground.phase }], guard := none }) rfl (fun K hK => ?_) ?_
          ·
            go_simp
            refine hK _ _ ?_
            clear hK K
            try simp only [Act.put, List.setIfInBounds_toArray, List.set_cons_zero, List.set_cons_succ]
            refine wpAnyIn_done (by kernel_rfl) ?_ _
            gi_wp2
            obtain ⟨V1, hV1⟩ : ∃ V, W.setCell ⟨R1, 0, none⟩ (.int .u32 x.1) = V := ⟨_, rfl⟩
            rw [hV1]
            have h1 : V1.heap[R1]? = some (.cells #[.int .u32 x.1] 25 (0, 0)) := by rw [← hV1]; exact heap_setCell_same W R1 0 _ _ _ HI1.out
            have o1 : OnlyS (fun k => k = R1) W V1 := by rw [← hV1]; exact (OnlyS.refl _ W).setCell R1 0 _ (.inl rfl)
            have h2 := o1.heap HI2.out HN.out.2.2.symm
            generalize hV : World.setCell _ _ _ = V
            obtain ⟨q2, o2⟩ := put7o h2 hV
            have q1 := o2.heap h1 HN.out.2.2
            have o3 : OnlyS (fun k => k = R1 ∨ k = R2) W V.drew := ((o1.mono (Y := fun k => k = R1 ∨ k = R2) (fun i _ e => .inl e)).tr (o2.mono (fun i _ e => .inr e))).drew
            refine ⟨⟨o3.size, fun k o _ hk hc => o3.heap hk (fun e => ?_)⟩, fun k cs hk => o3.heap hk (fun e => ?_), Nat.le_trans HI0.out o3.size, by rw [HBN.out]; exact q1, by rw [HBN.out]; exact q2, HI3.out.trans (o3.below (K := w.heap.size) (fun k e => ?_) HI3.out.size)⟩
            · rcases e with rfl | rfl
              · rw [HI1.out] at hk; cases hk; cases hc
              · rw [HI2.out] at hk; cases hk; cases hc
            · rcases e with rfl | rfl
              · exact TyB.ne ⟨_, _, hk⟩ ⟨_, _, HI1.out⟩ (by decide) rfl
              · exact TyB.ne ⟨_, _, hk⟩ ⟨_, _, HI2.out⟩ (by decide) rfl
            · rcases e with rfl | rfl
              · exact HRS.out.1
              · exact HRS.out.2.1
          exact AllReadyIn.nil
        exact AllReadyIn.nil
      refine AllReadyIn.cons (o := { dst := none, op := Op.store 25 (Operand.tmp 3) (Operand.tmp 29), type := 0, pos := "host.go:45", after := #[{ on := 0, ground := Ground.data }, { on := 0, ground := Ground.phase }, { on := 1, ground := Ground.textOnly Departure.lateStores }], guard := none }) rfl (fun K hK => ?_) ?_
      ·
        go_simp
        refine hK _ _ ?_
        clear hK K
        try simp only [Act.put, List.setIfInBounds_toArray, List.set_cons_zero, List.set_cons_succ]
        refine wpAnyIn_ready (rs := [1]) (by kernel_rfl) (by simp) ?_
        refine AllReadyIn.cons (o := { dst := some 30, op := Op.load 68 (Operand.tmp 7), type := 68, pos := "host.go:45", after := #[{ on := 2, ground := Ground.gcOnly Departure.lateStores }], guard := none }) rfl (fun K hK => ?_) ?_
        ·
          go_simp
          refine hK _ _ ?_
          clear hK K
          try simp only [Act.put, List.setIfInBounds_toArray, List.set_cons_zero, List.set_cons_succ]
          refine wpAnyIn_ready (rs := [3]) (by kernel_rfl) (by simp) ?_
          refine AllReadyIn.cons (o := { dst := none, op := Op.store 68 (Operand.tmp 4) (Operand.tmp 30), type := 0, pos := "host.go:45", after := #[{ on := 1, ground := Ground.data }, { on := 2, ground := Ground.chain }, { on := 0, ground := Ground.phase }, { on := 1, ground := Ground.phase }, { on := 2, ground := Ground.phase }], guard := none }) rfl (fun K hK => ?_) ?_
          ·
            go_simp
            refine hK _ _ ?_
            clear hK K
            try simp only [Act.put, List.setIfInBounds_toArray, List.set_cons_zero, List.set_cons_succ]
            refine wpAnyIn_done (by kernel_rfl) ?_ _
            gi_wp2
            obtain ⟨V1, hV1⟩ : ∃ V, W.setCell ⟨R1, 0, none⟩ (.int .u32 x.1) = V := ⟨_, rfl⟩
            rw [hV1]
            have h1 : V1.heap[R1]? = some (.cells #[.int .u32 x.1] 25 (0, 0)) := by rw [← hV1]; exact heap_setCell_same W R1 0 _ _ _ HI1.out
            have o1 : OnlyS (fun k => k = R1) W V1 := by rw [← hV1]; exact (OnlyS.refl _ W).setCell R1 0 _ (.inl rfl)
            have h2 := o1.heap HI2.out HN.out.2.2.symm
            generalize hV : World.setCell _ _ _ = V
            obtain ⟨q2, o2⟩ := put7o h2 hV
            have q1 := o2.heap h1 HN.out.2.2
            have o3 : OnlyS (fun k => k = R1 ∨ k = R2) W V.drew := ((o1.mono (Y := fun k => k = R1 ∨ k = R2) (fun i _ e => .inl e)).tr (o2.mono (fun i _ e => .inr e))).drew
            refine ⟨⟨o3.size, fun k o _ hk hc => o3.heap hk (fun e => ?_)⟩, fun k cs hk => o3.heap hk (fun e => ?_), Nat.le_trans HI0.out o3.size, by rw [HBN.out]; exact q1, by rw [HBN.out]; exact q2, HI3.out.trans (o3.below (K := w.heap.size) (fun k e => ?_) HI3.out.size)⟩
            · rcases e with rfl | rfl
              · rw [HI1.out] at hk; cases hk; cases hc
              · rw [HI2.out] at hk; cases hk; cases hc
            · rcases e with rfl | rfl
              · exact TyB.ne ⟨_, _, hk⟩ ⟨_, _, HI1.out⟩ (by decide) rfl
              · exact TyB.ne ⟨_, _, hk⟩ ⟨_, _, HI2.out⟩ (by decide) rfl
            · rcases e with rfl | rfl
              · exact HRS.out.1
              · exact HRS.out.2.1
          exact AllReadyIn.nil
        exact AllReadyIn.nil
      exact AllReadyIn.nil

    · have d1 : decide (x.2.e < b.2.e) = false := decide_eq_false ht
      rw [if_neg ht] at HBN
      clear ht
      gi_wp2
      exact ⟨KeepsFrom.refl _ _, NK_refl _, HI0.out, by rw [HBN.out]; exact HI1.out, by rw [HBN.out]; exact HI2.out, HI3.out⟩
  case done =>
    rintro Dd ys W hD hys ⟨j0, j1, j2, j3⟩ hKD
    have hr : bst x0 (x0 :: L) = bst x0 ys := by rw [hys]; exact congrArg (bst x0) HTE.out.symm
    obtain ⟨r0, rf⟩ := one_cell j1
    have HJ3 := hide j3
    have HKD := hide hKD
    have HRR := hide hr
    have HDD := hide (And.intro hD HBS.out)
    clear j0 j1 j2 j3 hKD hr hys hT1 hT2 hT3 hT4 hr1 hr2 hD
    gi_wp2
    refine ⟨by simp, .inl ⟨_, _, rfl, run_takeDeferred HKD.out, ?_⟩⟩
    have hb2 : Below w.heap.size w (W.putObj Dd (.deferred none)) := own_row (grownBy_putObj' W Dd (.deferred none)) (fun r e => by cases e; exact ⟨Nat.le_trans HDD.out.2 HDD.out.1, _, HKD.out, rfl⟩) (Nat.le_refl _) (Nat.le_refl _) HJ3.out
    have HB9 := hide hb2
    clear hb2 r0 rf
    exact ⟨.int .u32 (bst x0 ys).1, by simp [results, Try.results37, go_sem], by rw [HRR.out], HB9.out⟩
  case stop =>
    rintro Dd cc pre W hD _ hf
    exact hf.elim
end Go.Proofs.Ytbibobjkclgogaa
