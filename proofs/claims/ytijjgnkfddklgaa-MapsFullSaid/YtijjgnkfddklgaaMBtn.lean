/- Mappings of some ports, in order (plain). -/
import Derived.Test.YtijjgnkfddklgaaMPlace
import Derived.RangeFuncBox
import Derived.RangeFuncWrites
import Derived.RangeFuncLeaves
import Derived.RangeFuncNested
import Derived.Shelf.Abstract
import Derived.OwnWalkIn
import Derived.TacticsInMore
import Derived.LoopNIn
import Derived.LoopIn
import Derived.Sort.CutIn
namespace Go.Proofs.Ytijjgnkfddklgaa
open Go.RowKit Go.Deep
set_option linter.unusedVariables false
set_option linter.unusedSimpArgs false
/-- Does a key stand among those of some ports? -/
def inB (p y : Int) (a : MK × ME) : Bool := decide (a.1.p = p) && decide (a.1.x ≤ y)
/-- Those of some ports. -/
def btwL (k : MK) (y : Int) (L : ML) : ML := (L.drop (ahL k L)).takeWhile (inB k.p y)
theorem takeW_ex {α : Type} (p : α → Bool) : ∀ l : List α, l = l.takeWhile p ∨ ∃ x r, l = l.takeWhile p ++ x :: r ∧ p x = false
  | [] => .inl rfl
  | x :: l => by
    cases h : p x with
    | false => exact .inr ⟨x, l, by rw [List.takeWhile_cons, h]; rfl, h⟩
    | true =>
      rw [List.takeWhile_cons, h]
      rcases takeW_ex p l with e | ⟨z, r, e, hz⟩
      · exact .inl (by rw [if_pos rfl, ← e])
      · exact .inr ⟨z, r, by rw [if_pos rfl, List.cons_append, ← e], hz⟩
theorem takeW_len {α : Type} (p : α → Bool) : ∀ l : List α, (l.takeWhile p).length ≤ l.length
  | [] => Nat.le_refl _
  | x :: l => by
    rw [List.takeWhile_cons]
    split
    · have := takeW_len p l; simp only [List.length_cons]; omega
    · simp
theorem takeW_get {α : Type} (p : α → Bool) : ∀ (l : List α) (j : Nat) (h : j < (l.takeWhile p).length), ∃ h2 : j < l.length, (l.takeWhile p)[j] = l[j] ∧ p l[j] = true
  | [], j, h => by simp at h
  | x :: l, j, h => by
    cases hx : p x with
    | false => simp [List.takeWhile_cons, hx] at h
    | true =>
      match j with
      | 0 => exact ⟨by simp, by simp [List.takeWhile_cons, hx], by simpa using hx⟩
      | j + 1 =>
        have h' : j < (l.takeWhile p).length := by simpa [List.takeWhile_cons, hx] using h
        obtain ⟨g1, g2, g3⟩ := takeW_get p l j h'
        exact ⟨by simpa using g1, by simpa [List.takeWhile_cons, hx] using g2, by simpa using g3⟩
theorem takeW_end {α : Type} (p : α → Bool) : ∀ (l : List α) (h : (l.takeWhile p).length < l.length), p l[(l.takeWhile p).length] = false
  | [], h => by simp at h
  | x :: l, h => by
    cases hx : p x with
    | false => simp [List.takeWhile_cons, hx]
    | true =>
      have h' : (l.takeWhile p).length < l.length := by simpa [List.takeWhile_cons, hx] using h
      simpa [List.takeWhile_cons, hx] using takeW_end p l h'
theorem btw_len (k : MK) (y : Int) (L : ML) : ahL k L + (btwL k y L).length ≤ L.length := by
  have h1 := takeW_len (inB k.p y) (L.drop (ahL k L))
  have h2 := ah_le k L
  unfold btwL
  rw [List.length_drop] at h1
  omega
/-- The j-th of them stands at its place. -/
theorem btw_get {k : MK} {y : Int} {L : ML} {j : Nat} (h : j < (btwL k y L).length) : L[ahL k L + j]? = some (btwL k y L)[j] ∧ inB k.p y (btwL k y L)[j] = true := by
  obtain ⟨h1, h2, h3⟩ := takeW_get _ _ j h
  refine ⟨?_, by unfold btwL; rw [h2]; exact h3⟩
  rw [List.length_drop] at h1
  rw [List.getElem?_eq_getElem (by omega)]
  have : (btwL k y L)[j] = L[ahL k L + j]'(by omega) := by
    show ((L.drop (ahL k L)).takeWhile (inB k.p y))[j] = _
    rw [h2, List.getElem_drop]
  rw [this]
/-- What stands behind the last of them isn't one. -/
theorem btw_end {k : MK} {y : Int} {L : ML} {x : MK × ME} (h : L[ahL k L + (btwL k y L).length]? = some x) : inB k.p y x = false := by
  obtain ⟨h1, h2⟩ := List.getElem?_eq_some_iff.1 h
  have h3 : ((L.drop (ahL k L)).takeWhile (inB k.p y)).length < (L.drop (ahL k L)).length := by
    rw [List.length_drop]; unfold btwL at h1; omega
  have h4 := takeW_end _ _ h3
  rw [List.getElem_drop] at h4
  rw [← h2]
  exact h4
theorem dropA_mem {k : MK} : ∀ {L : ML}, Asc tM L → ∀ {x : MK × ME}, x ∈ L.drop (ahL k L) ↔ x ∈ L ∧ tM k ≤ tM x.1
  | [], _, x => by simp
  | a :: L, h, x => by
    have h' := List.pairwise_cons.1 h
    by_cases hk : tM a.1 < tM k
    · have e : ahL k (a :: L) = ahL k L + 1 := by unfold ahL; rw [List.takeWhile_cons_of_pos (by simpa using hk)]; rfl
      rw [e, List.drop_succ_cons, dropA_mem h'.2]
      constructor
      · rintro ⟨h1, h2⟩; exact ⟨List.mem_cons_of_mem _ h1, h2⟩
      · rintro ⟨h1, h2⟩
        rcases List.mem_cons.1 h1 with rfl | h1
        · omega
        · exact ⟨h1, h2⟩
    · have e : ahL k (a :: L) = 0 := by unfold ahL; rw [List.takeWhile_cons_of_neg (by simpa using hk)]; rfl
      rw [e, List.drop_zero]
      refine ⟨fun h1 => ⟨h1, ?_⟩, fun h1 => h1.1⟩
      rcases List.mem_cons.1 h1 with rfl | h1
      · omega
      · have := h'.1 x h1; omega
theorem takeW_mem {α : Type} {p : α → Bool} : ∀ {l : List α}, (l.Pairwise fun a b => p b = true → p a = true) → ∀ {x : α}, x ∈ l.takeWhile p ↔ x ∈ l ∧ p x = true
  | [], _, x => by simp
  | a :: l, h, x => by
    have h' := List.pairwise_cons.1 h
    cases ha : p a with
    | true =>
      rw [List.takeWhile_cons, ha, if_pos rfl, List.mem_cons, takeW_mem h'.2, List.mem_cons]
      constructor
      · rintro (rfl | h1)
        · exact ⟨.inl rfl, ha⟩
        · exact ⟨.inr h1.1, h1.2⟩
      · rintro ⟨rfl | h1, h2⟩
        · exact .inl rfl
        · exact .inr ⟨h1, h2⟩
    | false =>
      rw [List.takeWhile_cons, ha]
      constructor
      · intro h1; simp at h1
      · rintro ⟨h1, h2⟩
        rcases List.mem_cons.1 h1 with rfl | h1
        · rw [ha] at h2; cases h2
        · rw [h'.1 x h1 h2] at ha; cases ha
theorem tM_le {a b : MK} (h : tM a ≤ tM b) : a.p < b.p ∨ a.p = b.p ∧ (a.x < b.x ∨ a.x = b.x ∧ a.r ≤ b.r) := by
  have h1 := a.hp; have h2 := a.hx; have h3 := a.hr; have h4 := b.hp; have h5 := b.hx; have h6 := b.hr
  unfold tM at h
  omega
theorem tM_le' {a b : MK} (h : a.p < b.p ∨ a.p = b.p ∧ (a.x < b.x ∨ a.x = b.x ∧ a.r ≤ b.r)) : tM a ≤ tM b := by
  have h1 := a.hp; have h2 := a.hx; have h3 := a.hr; have h4 := b.hp; have h5 := b.hx; have h6 := b.hr
  unfold tM
  omega
theorem dropA_sub (k : MK) (L : ML) : (L.drop (ahL k L)).Sublist L := List.drop_sublist _ _
/-- They are those of the list with such a port. -/
theorem btw_mem {k : MK} {y : Int} {L : ML} (ha : Asc tM L) (hr : k.r = 0) {x : MK × ME} : x ∈ btwL k y L ↔ x ∈ L ∧ x.1.p = k.p ∧ k.x ≤ x.1.x ∧ x.1.x ≤ y := by
  unfold btwL
  rw [takeW_mem, dropA_mem ha]
  · unfold inB
    constructor
    · rintro ⟨⟨h1, h2⟩, h3⟩
      have h4 : x.1.p = k.p ∧ x.1.x ≤ y := by simpa using h3
      have h5 := tM_le h2
      refine ⟨h1, h4.1, ?_, h4.2⟩
      omega
    · rintro ⟨h1, h2, h3, h4⟩
      have h6 := x.1.hr
      refine ⟨⟨h1, tM_le' (by omega)⟩, by simp; omega⟩
  · have h1 : Asc tM (L.drop (ahL k L)) := List.Pairwise.sublist (dropA_sub k L) ha
    refine List.Pairwise.imp_of_mem ?_ h1
    intro a b h2 h3 h4 h5
    have h6 := (dropA_mem ha).1 h2
    have h7 := tM_le h6.2
    have h8 := tM_le (Int.le_of_lt h4)
    unfold inB at h5 ⊢
    have h9 : b.1.p = k.p ∧ b.1.x ≤ y := by simpa using h5
    simp; omega
theorem btw_sub (k : MK) (y : Int) (L : ML) : (btwL k y L).Sublist L := (List.takeWhile_sublist _).trans (dropA_sub k L)
end Go.Proofs.Ytijjgnkfddklgaa

/- What goes through the mappings of some ports. -/
namespace Go.Proofs.Ytijjgnkfddklgaa
open Go.RowKit Go.Deep Go.Shelf
set_option linter.unusedVariables false
set_option linter.unusedSimpArgs false
set_option maxRecDepth 100000
attribute [local go_sem] Oper.semAt_some
abbrev keyV (k : MK) : Value := .agg #[.int .u8 k.p, .int .u16 k.x, .int .u32 k.r]
theorem take_snoc2 {α : Type} (l : List α) (j : Nat) (h : j < l.length) : l.take (j + 1) = l.take j ++ [l[j]] := by
  rw [List.take_succ_eq_append_getElem h]
/-- The boxes of a range of ports. -/
structure BtwAt (w : World) (sp sb pb fb tb : Nat) (k : MK) (y : Int) : Prop where
  s : w.heap[sb]? = some (.cells #[.pointer (some ⟨sp, 0, none⟩)] 33 (0, 0))
  p : w.heap[pb]? = some (.cells #[.int .u8 k.p] 5 (0, 0))
  f : w.heap[fb]? = some (.cells #[.int .u16 k.x] 36 (0, 0))
  t : w.heap[tb]? = some (.cells #[.int .u16 y] 36 (0, 0))
theorem BtwAt.below {w w' : World} {sp sb pb fb tb : Nat} {k : MK} {y : Int} (h : BtwAt w sp sb pb fb tb k y) (hb : Below w.heap.size w w') : BtwAt w' sp sb pb fb tb k y :=
  ⟨below_block hb h.s (Nat.le_refl _), below_block hb h.p (Nat.le_refl _), below_block hb h.f (Nat.le_refl _), below_block hb h.t (Nat.le_refl _)⟩
theorem abides_below {β : Type} {B : Nat} {J : β → World → Prop} (h : AbidesFrom B J) {x : β} {W W' : World} (hb : Below W.heap.size W W') (hj : J x W) : J x W' := h x W W' none hj (gb_of_below hb (Nat.le_refl _)) (fun r e => by cases e)
theorem two_alloc (w : World) (o1 o2 : Obj) : ∃ V, (w.alloc o1).alloc o2 = V ∧ V.heap[w.heap.size]? = some o1 ∧ V.heap[w.heap.size + 1]? = some o2 ∧ Below w.heap.size w V := by
  refine ⟨_, rfl, below_block ((Below.refl _ _).alloc (Nat.le_refl _) _) (heap_alloc_new w o1) (Nat.le_refl _), ?_, ((Below.refl _ _).alloc (Nat.le_refl _) _).alloc (by simp) _⟩
  have h := heap_alloc_new (w.alloc o1) o2
  rw [show (w.alloc o1).heap.size = w.heap.size + 1 by simp] at h
  exact h
set_option maxHeartbeats 2000000 in
theorem btn1_in (n : Nat) (hn : 1 ≤ n) (l sp tt sb pb fb tb : Nat) (cs : Array Value) (up : Int) (L : ML) (k : MK) (y : Int) (hk0 : k.r = 0) (hL : L.length ≤ 500000) (w0 W : World) (h : SAt w0 sp tt cs up L) (hb : BtwAt w0 sp sb pb fb tb k y) (hW : Below w0.heap.size w0 W) (J Jx : ML → World → Prop) (hJ : AbidesFrom W.heap.size J)
    (hY : ∀ pre (x : MK × ME) W, J pre W → pre.length < (btwL k y L).length → YieldAt Fence.wide (n - 1) Try.prog l #[.agg #[.int .u8 x.2.p, .int .u16 x.2.x, .int .u16 x.2.t, .int .u32 x.2.r, .int .u32 x.2.h, .bool x.2.en, .string x.2.ws, .int .u64 x.2.e]] W fun e W' => (e = .returned (.bool true) ∧ J (pre ++ [x]) W' ∧ Below w0.heap.size W W') ∨ (e = .returned (.bool false) ∧ Jx (pre ++ [x]) W')) (h0 : J [] W) :
    CallsIn Fence.wide n Try.prog 87 #[.func (.yield l) #[] #[], .pointer (some ⟨sb, 0, none⟩), .pointer (some ⟨pb, 0, none⟩), .pointer (some ⟨fb, 0, none⟩), .pointer (some ⟨tb, 0, none⟩)] W fun e W' => (∃ v, e = .returned v) ∧ ((∃ ys, ys = btwL k y L ∧ J ys W') ∨ (∃ pre, pre <+: btwL k y L ∧ Jx pre W')) := by
  have hro : Fence.wide.round = none := rfl
  have HH := hide h
  have HBT := hide hb
  have HJ := hide hJ
  have HY := hide hY
  have HLN := hide hL
  have HPL := hide (place_any W sp tt cs up L k (h.below hW) (by omega))
  obtain ⟨s0, sf⟩ := one_cell (hb.below hW).s
  obtain ⟨p0, pf⟩ := one_cell (hb.below hW).p
  obtain ⟨f0, ff⟩ := one_cell (hb.below hW).f
  obtain ⟨A, hA⟩ : ∃ a, ahL k L = a := ⟨_, rfl⟩
  obtain ⟨Bt, hBt⟩ : ∃ b, btwL k y L = b := ⟨_, rfl⟩
  have hAB : A + Bt.length ≤ L.length := by rw [← hA, ← hBt]; exact btw_len k y L
  have HAB := hide hAB
  have HGET := hide (show ∀ j (h : j < Bt.length), L[A + j]? = some Bt[j] ∧ inB k.p y Bt[j] = true from by rw [← hA, ← hBt]; exact fun j h => btw_get h)
  have HEND := hide (show ∀ x, L[A + Bt.length]? = some x → inB k.p y x = false from by rw [← hA, ← hBt]; exact fun x h => btw_end h)
  rw [hk0] at HPL
  rw [hA] at HPL
  rw [hBt] at HY ⊢
  have HW := hide hW
  have H0 := hide h0
  clear h hb hJ hY hL hA hBt hAB hW h0
  refine callsIn_of_wp Try.func87 rfl trivial ?_ hro
  simp only [Try.ntmps87, List.size_toArray, List.length_cons, List.length_nil, Nat.reduceAdd, Nat.reduceSub, Array.replicate_succ, Array.replicate_zero, List.push_toArray, List.append_toArray, List.nil_append, List.cons_append]
  gi_wp2_with fail
  refine ⟨trivial, ?_⟩
  refine (callsIn_wide.2 HPL.out).mono ?_
  rintro e w1 ⟨rfl, b1⟩
  have HJ1 := hide (abides_below HJ.out b1 H0.out)
  have HW1 := hide (HW.out.trans (b1.mono HW.out.size))
  clear b1 HPL s0 sf p0 pf f0 ff H0
  gi_wp2_with fail
  gi_loopw [6] (fun i wr => ∃ j : Nat, j ≤ Bt.length ∧ i = .int .i64 ((A + j : Nat) : Int) ∧ Hid (J (Bt.take j) wr) ∧ Hid (Below w0.heap.size w0 wr)) (fun i _ => A + Bt.length + 1 - (intOf i).toNat)
  case atStart => exact ⟨0, Nat.zero_le _, rfl, hide (by rw [List.take_zero]; exact HJ1.out), HW1⟩
  case round =>
    clear HJ1 HW1
    obtain ⟨j, hj, rfl, HJJ, HB⟩ := hrel
    have hst := HH.out.below HB.out
    have hbx := HBT.out.below HB.out
    have hA2 := HAB.out
    have hL2 := HLN.out
    have HA := hide (C.AtL hst.tab ((A + j : Nat) : Int) (by omega) (by omega) (by omega))
    have c28 := hst.c28
    obtain ⟨s0, sf⟩ := one_cell hbx.s
    have HX := hide hbx
    clear hst hbx
    clear hA2 hL2
    gi_wp2_with fail
    refine ⟨trivial, ?_⟩
    refine (callsIn_wide.2 HA.out).mono ?_
    rintro e w2 ⟨ha, b2⟩
    have HX2 := hide (HX.out.below b2)
    have HJ2 := hide (abides_below HJ.out b2 HJJ.out)
    have HB2 := hide (HB.out.trans (b2.mono HB.out.size))
    clear HA HX b2 HJJ c28 s0 sf
    by_cases hlt : j < Bt.length
    · rcases ha with ⟨x, hx, _, rfl⟩ | ⟨hbad, _⟩
      · have hg := HGET.out j hlt
        rw [show ((A + j : Nat) : Int).toNat = A + j by omega, hg.1] at hx
        obtain rfl := Option.some.inj hx
        obtain ⟨x, hxe⟩ : ∃ x, Bt[j] = x := ⟨_, rfl⟩
        have hg2 := hg.2
        rw [hxe] at hg2 ⊢
        have hg3 : x.1.p = k.p ∧ x.1.x ≤ y := by unfold inB at hg2; simpa using hg2
        have t1 : (x.1.p != k.p) = false := by simpa using hg3.1
        have t2 : decide (y < x.1.x) = false := by simp; omega
        have HXE := hide (show Bt[j]? = some x by rw [List.getElem?_eq_getElem hlt, hxe])
        have HT := hide hlt
        clear hx hg hg2 hg3 hxe hlt
        gi_upto_region 3 with (fail)
        obtain ⟨V, hV, hv1, hv2, hvb⟩ := two_alloc w2 (.cells #[.int .u8 x.1.p, .int .u16 x.1.x, .int .u32 x.1.r] 76) (.cells #[.int .u8 x.2.p, .int .u16 x.2.x, .int .u16 x.2.t, .int .u32 x.2.r, .int .u32 x.2.h, .bool x.2.en, .string x.2.ws, .int .u64 x.2.e] 40)
        rw [hV]
        obtain ⟨k0, k1, k2, kf⟩ := C.key_cells hv1
        obtain ⟨e0, e1, e2, e3, e4, e5, e6, e7, ef⟩ := C.val_cells hv2
        have hbx := HX2.out.below hvb
        obtain ⟨p0, pf⟩ := one_cell hbx.p
        obtain ⟨q0, qf⟩ := one_cell hbx.t
        have HB3 := hide (HB2.out.trans (hvb.mono HB2.out.size))
        obtain ⟨fn, tmps, assign, body, hy, hR⟩ := HY.out (Bt.take j) x V (abides_below HJ.out hvb HJ2.out) (by rw [List.length_take]; have := HT.out; omega)
        clear hV hv1 hv2 hvb hbx kf ef pf qf
        gi_wp2_with fail
        refine hR.mono ?_
        clear hy hR k0 k1 k2 e0 e1 e2 e3 e4 e5 e6 e7 p0 q0
        rintro e W3 (⟨rfl, hJ3, hk3⟩ | ⟨rfl, hJx3⟩)
        · have HJ3 := hide hJ3
          have HB4 := hide (HB3.out.trans hk3)
          have hA2 := HAB.out
          have hL2 := HLN.out
          clear hJ3 hk3
          gi_wp2
          go_roundw
          case rel => exact ⟨j + 1, HT.out, by go_num, hide (by rw [take_snoc2 _ _ HT.out, (List.getElem?_eq_some_iff.1 HXE.out).2]; exact HJ3.out), HB4⟩
          case measure => simp [intOf]; have := HT.out; omega
        · have HJ3 := hide hJx3
          clear hJx3
          gi_wp2
          refine bodyPost_ret (results_none rfl _ _ _) rfl ?_
          refine ⟨⟨_, rfl⟩, .inr ⟨_, ?_, HJ3.out⟩⟩
          rw [← (List.getElem?_eq_some_iff.1 HXE.out).2, ← take_snoc2 _ _ HT.out]
          exact List.take_prefix _ _
      · exfalso
        have := HAB.out
        rcases hbad with g | g <;> omega
    · obtain rfl : j = Bt.length := by omega
      clear hlt
      rw [List.take_length] at HJ2
      rcases ha with ⟨x, hx, _, rfl⟩ | ⟨hbad, rfl⟩
      · rw [show ((A + Bt.length : Nat) : Int).toNat = A + Bt.length by omega] at hx
        have hg := HEND.out x hx
        obtain ⟨V, hV, hv1, hv2, hvb⟩ := two_alloc w2 (.cells #[.int .u8 x.1.p, .int .u16 x.1.x, .int .u32 x.1.r] 76) (.cells #[.int .u8 x.2.p, .int .u16 x.2.x, .int .u16 x.2.t, .int .u32 x.2.r, .int .u32 x.2.h, .bool x.2.en, .string x.2.ws, .int .u64 x.2.e] 40)
        obtain ⟨k0, k1, k2, kf⟩ := C.key_cells hv1
        have hbx := HX2.out.below hvb
        obtain ⟨p0, pf⟩ := one_cell hbx.p
        obtain ⟨q0, qf⟩ := one_cell hbx.t
        have HJ3 := hide (abides_below HJ.out hvb HJ2.out)
        have HV := hide hV
        clear hV hv1 hv2 hvb hbx kf pf qf hx
        cases t1 : (x.1.p != k.p) with
        | true =>
          clear hg
          gi_upto_region 3 with (fail)
          rw [HV.out]
          gi_wp2_with fail; refine ⟨fun _ h => (by cases h), ?_⟩; gi_wp2_with fail
          refine bodyPost_ret (results_none rfl _ _ _) rfl ?_
          exact ⟨⟨_, rfl⟩, .inl ⟨_, rfl, HJ3.out⟩⟩
        | false =>
          have t2 : decide (y < x.1.x) = true := by
            unfold inB at hg
            have h3 : x.1.p = k.p := by simpa using t1
            simp [h3] at hg
            simpa using hg
          clear hg
          gi_upto_region 3 with (fail)
          rw [HV.out]
          gi_wp2_with fail; refine ⟨fun _ h => (by cases h), ?_⟩; gi_wp2_with fail
          refine bodyPost_ret (results_none rfl _ _ _) rfl ?_
          exact ⟨⟨_, rfl⟩, .inl ⟨_, rfl, HJ3.out⟩⟩
      · obtain ⟨V, hV, hv1, hv2, hvb⟩ := two_alloc w2 (.cells #[.int .u8 0, .int .u16 0, .int .u32 0] 76) (.cells #[.int .u8 0, .int .u16 0, .int .u16 0, .int .u32 0, .int .u32 0, .bool false, .string ⟨#[]⟩, .int .u64 0] 40)
        have HJ3 := hide (abides_below HJ.out hvb HJ2.out)
        have HV := hide hV
        clear hV hv1 hv2 hvb hbad
        gi_upto_region 3 with (fail)
        rw [HV.out]
        gi_wp2_with fail; refine ⟨fun _ h => (by cases h), ?_⟩; gi_wp2_with fail
        refine bodyPost_ret (results_none rfl _ _ _) rfl ?_
        exact ⟨⟨_, rfl⟩, .inl ⟨_, rfl, HJ3.out⟩⟩
/-- What goes through them tells them in order; it ends when it is told so. -/
theorem btn_stops (n : Nat) (hn : 1 ≤ n) (sp tt sb pb fb tb : Nat) (cs : Array Value) (up : Int) (L : ML) (k : MK) (y : Int) (hk0 : k.r = 0) (hL : L.length ≤ 500000) (w : World) (h : SAt w sp tt cs up L) (hb : BtwAt w sp sb pb fb tb k y) :
    SeqStopsK Fence.wide n Try.prog 87 #[.pointer (some ⟨sb, 0, none⟩), .pointer (some ⟨pb, 0, none⟩), .pointer (some ⟨fb, 0, none⟩), .pointer (some ⟨tb, 0, none⟩)] (fun x : MK × ME => #[.agg #[.int .u8 x.2.p, .int .u16 x.2.x, .int .u16 x.2.t, .int .u32 x.2.r, .int .u32 x.2.h, .bool x.2.en, .string x.2.ws, .int .u64 x.2.e]]) (Below w.heap.size) (fun ys => ys = btwL k y L) (fun pre => pre <+: btwL k y L) (btwL k y L).length w := fun l J Jx W hW hJ _ hY h0 =>
  btn1_in n hn l sp tt sb pb fb tb cs up L k y hk0 hL w W h hb hW J Jx hJ hY h0
end Go.Proofs.Ytijjgnkfddklgaa
