/- Ssdp: answers, told one behind the other. -/
import Derived.Test.YtonoaopioifedaaGreatDoorSFn
import Derived.Maps.AppendAt
import Derived.Lib.AppendZeros
import Derived.Deep.OwnRows
import Derived.Laws.AppendOwn
namespace Go.Proofs.YtonoaopioifedaaGreatDoor
open Go.RowKit Go.Shelf Go.Deep
set_option linter.unusedVariables false
set_option linter.unusedSimpArgs false
set_option maxRecDepth 100000
theorem semAt_in {F : Fence} {l : Nat} {o : Oper} (hro : F.round = none) (h : ∀ c, o.op ≠ .defer c) (ρ : Operand → Value) : o.semAt (F.inRound l).round ρ = o.semAt F.round ρ := by
  rw [Fence.inRound_round, Oper.semAt_some l _ _ h, hro, Oper.semAt_none]
/-- An operation in a round, as out of it. -/
theorem opIn_round {F : Fence} {n l : Nat} {P : Program} {o : Oper} {a : Act} {w : World} {K : Act → World → Prop} {Q : Exit → Act → World → Prop} (hro : F.round = none) (h : ∀ c, o.op ≠ .defer c) (hh : o.wpIn F n P a w K Q) : o.wpIn (F.inRound l) n P a w K Q := by
  refine ⟨hh.1, ?_⟩
  rw [semAt_in hro h]
  exact hh.2
def noDefer (ops : Array Oper) : Bool := ops.all fun o => match o.op with | .defer _ => false | _ => true
theorem noDefer_at {ops : Array Oper} (h : noDefer ops = true) {i : Nat} {o : Oper} (ho : ops[i]? = some o) : ∀ c, o.op ≠ .defer c := by
  intro c hc
  unfold noDefer at h
  rw [Array.all_eq_true] at h
  obtain ⟨hi, e⟩ := Array.getElem?_eq_some_iff.1 ho
  have := h i hi
  rw [e, hc] at this
  cases this
/-- A drawn region in a round, as out of it. -/
theorem anyIn_round {F : Fence} {n l : Nat} {P : Program} {md : Region.Mode} {ops : Array Oper} {Q : Exit → Act → World → Prop} (hro : F.round = none) (hd : noDefer ops = true) :
    ∀ (fuel : Nat) (listed : Array Bool) (a : Act) (w : World), wpAnyIn F n P md ops Q fuel listed a w → wpAnyIn (F.inRound l) n P md ops Q fuel listed a w
  | 0, _, _, _, h => h
  | fuel + 1, listed, a, w, h => by
    refine ⟨h.1, fun i hi => ?_⟩
    have h2 := h.2 i hi
    unfold wpOpIn at h2 ⊢
    cases ho : ops[i]? with
    | none => rw [ho] at h2; exact anyIn_round hro hd fuel _ _ _ h2
    | some o =>
      rw [ho] at h2
      dsimp only at h2 ⊢
      split
      · rename_i hw
        rw [if_pos hw] at h2
        exact opIn_round hro (noDefer_at hd ho) (Oper.wpIn_mono (fun a w hk => anyIn_round hro hd fuel _ a w hk) h2)
      · rename_i hw
        rw [if_neg hw] at h2
        exact ⟨h2.1, anyIn_round hro hd fuel _ _ _ h2.2⟩
theorem regionIn_round {n l id : Nat} {P : Program} {ops : Array Oper} {Q : Exit → Act → World → Prop} {a : Act} {w : World} (hm : P.follows .mixedOrders = true) (hd : noDefer ops = true)
    (h : wpAnyIn Fence.wide n P .any ops Q ops.size (Array.replicate ops.size false) a w.drew) : (Code.region id ops true).wpIn (Fence.wide.inRound l) n P Q a w :=
  wpIn_region_any hm (anyIn_round rfl hd _ _ _ _ h)
/-- A configuration's load, whole. -/
theorem ldIn_cfg {F : Fence} {n : Nat} {o : Oper} {a : Act} {w : World} {K : Act → World → Prop} {Q : Exit → Act → World → Prop} (x : Operand) (ho : o.op = .load 28 x) (b : Nat) (hx : a.eval x = .pointer (some ⟨b, 0, none⟩)) (cs : Array Value)
    (hc : w.heap[b]? = some (.cells cs 28 (0, 0))) (hs : cs.size = 28) (h : K (a.put o.dst (.agg cs)) w) : o.wpIn F n Tryz.prog a w K Q := by
  have hr : w.rangeAt b 0 cs.toList := fun j v hv => by
    have h3 : cs[j]? = some v := by simpa using hv
    rw [cell_of_row _ _ _ _ _ (0, 0) hc, Nat.zero_add]
    exact h3
  refine ⟨?_, ?_⟩
  · simp [Oper.about, ho]
  · rw [Oper.semAt_plain F _ _ (by rw [ho]; intro c hc'; cases hc')]
    unfold execOp
    simp only [ho, hx, Instr.loadAt, Instr.sureAddr, Sem.run_bind, Sem.run_pure, Result.andThen_ok, run_loadVar_mid w b 0 28 cs.toList _ hr Tryz.underlying28 rfl (by rw [Array.length_toList, hs]; exact info_cfg)]
    exact h
/-- An append whose run is known. -/
theorem apIn_run {F : Fence} {n : Nat} {P : Program} {w : World} {o : Oper} {a : Act} {K : Act → World → Prop} {Q : Exit → Act → World → Prop} (s x : Operand) (t tn : TypeId)
    (hop : o.op = .call { callee := .builtin .append, args := #[s, x], argTypes := #[t, tn] }) (vs vx : Value) (hs : a.eval s = vs) (hx : a.eval x = vx)
    (v' : Value) (w' : World) (hr : (Builtin.append_ #[t, tn] o.type #[vs, vx]).run P w = .ok v' w') (h : K (a.put o.dst v') w') : o.wpIn F n P a w K Q := by
  refine ⟨?_, ?_⟩
  · simp [Oper.about, hop, resolve, Target.leads, Sem.run_pure]
  · rw [Oper.semAt_plain F _ _ (by rw [hop]; intro c hc'; cases hc')]
    simp [execOp, hop, resolve, invoke, builtin, hs, hx, hr, Result.andThen]
    exact h
theorem TxB.kt {w w' : World} {g : Nat} {l : List UInt8} (h : TxB w g l) (k : KT 5 w w') : TxB w' g l := by
  obtain ⟨cs, f, h1, h2⟩ := h
  exact ⟨cs, f, k _ _ _ h1, h2⟩
theorem Tryz.infoBys : (Tryz.prog.info? 29).map (fun i => (i.zero, i.size, i.bytes)) = some (some (.slice none 0 0), 1, 24) := by kernel_rfl
/-- A row of rows of bytes. -/
def AnsAt (W : World) (K : Nat) (a : Option Addr) (n c : Nat) (ls : List (List UInt8)) : Prop :=
  ∃ vs : List Value, W.ownsRow K 29 1 (.slice a n c) n vs ∧ ls.length = n ∧ ∀ (i : Nat) (v : Value) (l : List UInt8), vs[i]? = some v → ls[i]? = some l → ∃ g cap, v = .slice (some ⟨g, 0, none⟩) l.length cap ∧ TxB W g l ∧ K ≤ g
theorem AnsAt.kt {W W' : World} {K : Nat} {a : Option Addr} {n c : Nat} {ls : List (List UInt8)} (h : AnsAt W K a n c ls) (k1 : KT 29 W W') (k2 : KT 5 W W') : AnsAt W' K a n c ls := by
  obtain ⟨vs, h1, h2, h3⟩ := h
  refine ⟨vs, ⟨h1.1, ?_⟩, h2, fun i v l hv hl => ?_⟩
  · rcases h1.2 with h | ⟨g, cap, cur, hv, hg, hh, r⟩
    · exact .inl h
    · exact .inr ⟨g, cap, cur, hv, hg, k1 _ _ _ hh, r⟩
  · obtain ⟨g, cap, e, ht⟩ := h3 i v l hv hl
    exact ⟨g, cap, e, ht.1.kt k2, ht.2⟩
theorem AnsAt.below {W W' : World} {K : Nat} {a : Option Addr} {n c : Nat} {ls : List (List UInt8)} (h : AnsAt W K a n c ls) (hb : Below W.heap.size W W') : AnsAt W' K a n c ls := h.kt (KT.below hb) (KT.below hb)
theorem kt_set {T U : TypeId} {w : World} {b : Nat} {cs : Array Value} {f : Nat × Nat} (h : w.heap[b]? = some (.cells cs U f)) (hne : T ≠ U) (i : Nat) (v : Value) : KT T w (w.setCell ⟨b, i, none⟩ v) := fun B cs' f' hB => by
  have hn : B ≠ b := by
    intro e; subst e
    rw [h] at hB
    injection hB with hB
    injection hB with _ hB _
    exact hne hB.symm
  exact (heap_setCell_other w ⟨b, i, none⟩ B v hn).trans hB
theorem kt_grown {T U : TypeId} {w w' : World} {K n c sz : Nat} {a : Option Addr} {xs : List Value} (hg : w.grownBy w' (Value.slice a n c).ownBlock) (ho : w.ownsRow K U sz (.slice a n c) n xs) (hne : T ≠ U) : KT T w w' := fun B cs f hB => by
  refine (hg.block B (lt_of_block hB) ?_).trans hB
  rcases ho.2 with ⟨h, _⟩ | ⟨g, cap, cur, h, _, hh, _⟩
  · rw [h]; simp [Value.ownBlock]
  · rw [h]
    simp only [Value.ownBlock, ne_eq, Option.some.injEq]
    intro e
    subst e
    rw [hh] at hB
    injection hB with hB
    injection hB with _ hB _
    exact hne hB.symm
theorem ko_grown {U : TypeId} {w w' : World} {K n c sz : Nat} {a : Option Addr} {xs : List Value} (hg : w.grownBy w' (Value.slice a n c).ownBlock) (ho : w.ownsRow K U sz (.slice a n c) n xs) : KeepsOthers w w' := ⟨hg.size, fun k o hk hc => by
  refine (hg.block k (lt_of_block hk) ?_).trans hk
  rcases ho.2 with ⟨h, _⟩ | ⟨g, cap, cur, h, _, hh, _⟩
  · rw [h]; simp [Value.ownBlock]
  · rw [h]
    simp only [Value.ownBlock, ne_eq, Option.some.injEq]
    intro e
    subst e
    rw [hh] at hk
    injection hk with hk
    subst hk
    cases hc⟩
theorem ko_below {w w' : World} (h : Below w.heap.size w w') : KeepsOthers w w' := ⟨h.size, fun k o hk _ => (h.block k (lt_of_block hk)).trans hk⟩
/-- What stays, whatever is told. -/
def KX (W W' : World) : Prop := KT 9 W W' ∧ KT 28 W W' ∧ KT 5 W W'
theorem KX.trans {a b c : World} (h : KX a b) (k : KX b c) : KX a c := ⟨h.1.trans k.1, h.2.1.trans k.2.1, h.2.2.trans k.2.2⟩
theorem kx_b {w : World} (W : World) (l : Nat) (o o' : Obj) (_ : w.heap.size ≤ l) (h : W.heap[l]? = some o) (ho : o.isCells = false) (_ : o.isWalk = false) : KX W (W.putObj l o') := ⟨kt_b W l o o' h ho, kt_b W l o o' h ho, kt_b W l o o' h ho⟩
/-- The answers so far, in the variable at O; the configuration at C. -/
structure Acc (w0 : World) (K O C : Nat) (cs : Array Value) (ls : List (List UInt8)) (W : World) : Prop where
  below : Below K w0 W
  size : K ≤ w0.heap.size
  hO : K ≤ O
  box : ∃ a n c, W.heap[O]? = some (.cells #[.slice a n c] 32 (0, 0)) ∧ AnsAt W K a n c ls
  cfg : W.heap[C]? = some (.cells cs 28 (0, 0))
theorem Acc.next {w0 : World} {K O C : Nat} {cs : Array Value} {ls : List (List UInt8)} {W W' : World} (h : Acc w0 K O C cs ls W) (hb : Below W.heap.size W W') : Acc w0 K O C cs ls W' := by
  obtain ⟨a, n, c, h1, h2⟩ := h.box
  exact ⟨h.below.trans (hb.mono (Nat.le_trans h.size h.below.size)), h.size, h.hO, ⟨a, n, c, below_blk hb h1 (Nat.le_refl _), h2.below hb⟩, below_blk hb h.cfg (Nat.le_refl _)⟩
theorem own_row {B : Nat} {W W' : World} {row : Option Nat} (hg : W.grownBy W' row) (hr : ∀ r, row = some r → B ≤ r ∧ ∃ o : Obj, W.heap[r]? = some o ∧ o.isCells = false) {w : World} {A : Nat} (hA : A ≤ B) (hw : A ≤ w.heap.size) (h : Below A w W) : Below A w W' :=
  h.grown hg (Nat.le_trans hw h.size) (fun k e => Nat.le_trans hA (hr k e).1)
theorem own_kt {T : TypeId} {B : Nat} {W W' : World} {row : Option Nat} (hg : W.grownBy W' row) (hr : ∀ r, row = some r → B ≤ r ∧ ∃ o : Obj, W.heap[r]? = some o ∧ o.isCells = false) : KT T W W' := fun b cs f h =>
  (grownBy_keeps_cells hg (fun r e => (hr r e).2) h rfl).trans h
theorem Acc.own {w0 : World} {K O C B : Nat} {cs : Array Value} (f : List NX → List (List UInt8)) (hB : K ≤ B) : OwnFrom B (fun pre W => Acc w0 K O C cs (f pre) W) := fun s W W' row hs hg hr => by
  obtain ⟨a, n, c, h1, h2⟩ := hs.box
  exact ⟨own_row hg hr hB hs.size hs.below, hs.size, hs.hO, ⟨a, n, c, own_kt hg hr _ _ _ h1, h2.kt (own_kt hg hr) (own_kt hg hr)⟩, own_kt hg hr _ _ _ hs.cfg⟩
/-- One answer more. -/
theorem acc_push {w0 : World} {K O C : Nat} {cs : Array Value} {ls : List (List UInt8)} {W z : World} (h : Acc w0 K O C cs ls W) (a : Option Addr) (n c : Nat) (hbox : W.heap[O]? = some (.cells #[.slice a n c] 32 (0, 0)))
    (hz : Below W.heap.size W z) (g m cap : Nat) (l : List UInt8) (hm : m = l.length) (hg : TxB z g l ∧ W.heap.size ≤ g) (hN : n ≤ 1000) :
    ∃ a' c' w5, (Builtin.append_ #[32, 32] 32 #[.slice a n c, .slice (some ⟨z.heap.size, 0, none⟩) 1 1]).run Tryz.prog (z.alloc (.cells #[.slice (some ⟨g, 0, none⟩) m cap] 29)) = .ok (.slice a' (n + 1) c') w5 ∧
      w5.heap[O]? = some (.cells #[.slice a n c] 32 (0, 0)) ∧ Acc w0 K O C cs (ls ++ [l]) (w5.setCell ⟨O, 0, none⟩ (.slice a' (n + 1) c')) ∧ KX W (w5.setCell ⟨O, 0, none⟩ (.slice a' (n + 1) c')) ∧ KeepsOthers W (w5.setCell ⟨O, 0, none⟩ (.slice a' (n + 1) c')) := by
  obtain ⟨a2, n2, c2, hb2, vs, hv1, hv2, hv3⟩ := (h.next hz).box
  have hbz := below_blk hz hbox (Nat.le_refl _)
  rw [hbz] at hb2
  injection hb2 with hb2
  injection hb2 with hb2 _ _
  have hb2 : #[Value.slice a n c] = #[Value.slice a2 n2 c2] := hb2
  injection hb2 with hb2
  injection hb2 with hb2 _
  injection hb2 with e1 e2 e3
  subst e1 e2 e3
  obtain ⟨i0, hi, hz0, hz1, hz2⟩ := info_parts Tryz.infoBys
  obtain ⟨V, hV⟩ : ∃ V, z.alloc (.cells #[.slice (some ⟨g, 0, none⟩) m cap] 29) = V := ⟨_, rfl⟩
  have hal : Below z.heap.size z V := by rw [← hV]; exact (Below.refl _ _).alloc (Nat.le_refl _) _
  have hn : V.heap[z.heap.size]? = some (.cells #[.slice (some ⟨g, 0, none⟩) m cap] 29 (0, 0)) := by rw [← hV]; exact heap_alloc_new _ _
  have hr2 : V.ownsRow K 29 1 (.slice a n c) n vs := by rw [← hV]; exact hv1.alloc _
  have hKz : K ≤ z.heap.size := Nat.le_trans h.size (h.next hz).below.size
  obtain ⟨v', w5, h1, h2, h3, _, h5⟩ := run_append_own_at (P := Tryz.prog) V K 32 32 29 i0 (.slice none 0 0) 1 24 Tryz.underlying32 hi hz0 hz1 hz2 rfl (by decide) (.slice a n c) n vs hr2 ⟨z.heap.size, 0, none⟩ 1 1 [.slice (some ⟨g, 0, none⟩) m cap] rfl (fun j u hj => by
    cases j with
    | zero => cases hj; show V.cell? ⟨z.heap.size, 0, none⟩ = _; simp [World.cell?, hn]
    | succ j => simp at hj) (by intro u hu; rw [List.mem_singleton.1 hu]; rfl) (by unfold maxLen; omega) (by omega) (by have := hal.size; omega)
  obtain ⟨a', c', rfl⟩ := slice_form h2
  have k5 : ∀ T : TypeId, T ≠ 29 → KT T V w5 := fun T hT => kt_grown h3 hr2 hT
  have kz : ∀ T : TypeId, T ≠ 29 → KT T W w5 := fun T hT => ((KT.below hz).trans (KT.below hal)).trans (k5 T hT)
  have hO5 := kz 32 (by decide) _ _ _ hbox
  have ks : ∀ T : TypeId, T ≠ 32 → KT T w5 (w5.setCell ⟨O, 0, none⟩ (.slice a' (n + 1) c')) := fun T hT => kt_set hO5 hT 0 _
  have hb5 : Below K w0 w5 := ((h.next hz).below.trans (hal.mono hKz)).grown h3 (by have := hal.size; omega) (fun k e => (hr2.lt k e).1)
  refine ⟨a', c', w5, by rw [hV]; exact h1, hO5, ⟨hb5.setCell (p := ⟨O, 0, none⟩) h.hO _, h.size, h.hO, ⟨a', n + 1, c', heap_setCell_same w5 O 0 _ _ _ hO5, ?_⟩, ?_⟩, ⟨?_, ?_, ?_⟩, ?_⟩
  · refine AnsAt.kt ⟨vs ++ [.slice (some ⟨g, 0, none⟩) m cap], h2, by rw [List.length_append, hv2]; rfl, fun i v l2 hv hl => ?_⟩ (ks _ (by decide)) (ks _ (by decide))
    have hvl : vs.length = n := by have := hv1.1; simpa using this
    rcases Nat.lt_trichotomy i n with hi | hi | hi
    · rw [List.getElem?_append_left (by omega)] at hv hl
      obtain ⟨g2, cap2, e, ht⟩ := hv3 i v l2 hv hl
      exact ⟨g2, cap2, e, (ht.1.kt (KT.below hal)).kt (k5 _ (by decide)), ht.2⟩
    · subst hi
      rw [List.getElem?_append_right (by omega), hvl, Nat.sub_self] at hv
      rw [List.getElem?_append_right (by omega), hv2, Nat.sub_self] at hl
      simp at hv hl
      subst hv hl
      exact ⟨g, cap, by rw [hm], (hg.1.kt (KT.below hal)).kt (k5 _ (by decide)), Nat.le_trans (Nat.le_trans h.size h.below.size) hg.2⟩
    · rw [List.getElem?_eq_none (by simp; omega)] at hv; cases hv
  · exact ks _ (by decide) _ _ _ (kz _ (by decide) _ _ _ h.cfg)
  · exact (kz _ (by decide)).trans (ks _ (by decide))
  · exact (kz _ (by decide)).trans (ks _ (by decide))
  · exact (kz _ (by decide)).trans (ks _ (by decide))
  · exact (((ko_below hz).trans (ko_below hal)).trans (ko_grown h3 hr2)).trans (KeepsOthers.setCell _ _ _)
end Go.Proofs.YtonoaopioifedaaGreatDoor
