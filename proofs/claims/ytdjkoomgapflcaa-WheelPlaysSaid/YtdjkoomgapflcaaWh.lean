/- Wheels in memory: Cancel, Set, At, Next, Len, New. -/
import Derived.Test.YtdjkoomgapflcaaWhP
import Derived.Test.YtdjkoomgapflcaaOnly
import Derived.Test.YtdjkoomgapflcaaAL
import Derived.Test.YtdjkoomgapflcaaBM
namespace Go.Proofs.Ytdjkoomgapflcaa
open Go.RowKit Go.Deep
set_option linter.unusedVariables false
set_option linter.unusedSimpArgs false
set_option maxRecDepth 100000
def MX : Int := 9223372036854775807
theorem mx_lt {n : Nat} (h : n ≤ 600000) : (n : Int) < MX := by unfold MX; omega
theorem nkA {V V' : World} {r : Nat} {cs : Array Value} {T : TypeId} {fr : Nat × Nat} (hT : V.heap[r]? = some (.cells cs T fr)) (hne : T ≠ 76) (hg : V.grownBy V' (some r)) : A.NK V V' := fun b ds hb => by
  refine (hg.block b (lt_of_block hb) ?_).trans hb
  intro e; cases e
  rw [hT] at hb; injection hb with hb; injection hb with _ h2 _; exact hne h2
theorem nkB {V V' : World} {r : Nat} {cs : Array Value} {T : TypeId} {fr : Nat × Nat} (hT : V.heap[r]? = some (.cells cs T fr)) (hne : T ≠ 87) (hg : V.grownBy V' (some r)) : B.NK V V' := fun b ds hb => by
  refine (hg.block b (lt_of_block hb) ?_).trans hb
  intro e; cases e
  rw [hT] at hb; injection hb with hb; injection hb with _ h2 _; exact hne h2
/-- A wheel's two tables in memory. -/
structure WB (w : World) (p ta tb : Nat) (L : List A.KV) (E : EL) : Prop where
  blk : w.heap[p]? = some (.cells #[.pointer (some ⟨ta, 0, none⟩), .pointer (some ⟨tb, 0, none⟩)] 56 (0, 0))
  tabs : A.Tab w ta MX A.oF id L
  ends : B.Tab w tb MX B.oF tE E
/-- A wheel in memory. -/
def WAt (w : World) (p ta tb : Nat) (E : EL) : Prop := ∃ L, WB w p ta tb L E ∧ Rel L E
/-- The blocks that a wheel's calls turn. -/
def TB (ta tb : Nat) : Nat → Prop := fun k => k = ta ∨ k = tb
theorem A.Tab.hd {w : World} {t : Nat} {m : Int} {fv : Value} {τ : Int → Int} {L : List A.KV} (h : A.Tab w t m fv τ L) : ∃ cs, w.heap[t]? = some (.cells cs 67 (0, 0)) := by obtain ⟨_, h, _⟩ := h; exact ⟨_, h⟩
theorem B.Tab.hd {w : World} {t : Nat} {m : Int} {fv : Value} {τ : EK → Int} {L : List B.KV} (h : B.Tab w t m fv τ L) : ∃ cs, w.heap[t]? = some (.cells cs 70 (0, 0)) := by obtain ⟨_, h, _⟩ := h; exact ⟨_, h⟩
theorem blk_ne {w : World} {a b : Nat} {cs ds : Array Value} {T U : TypeId} {f g : Nat × Nat} (h : w.heap[a]? = some (.cells cs T f)) (k : w.heap[b]? = some (.cells ds U g)) (hne : T ≠ U) : a ≠ b := by
  rintro rfl; rw [h] at k; injection k with k; injection k with _ h2 _; exact hne h2
theorem WB.ne {w : World} {p ta tb : Nat} {L : List A.KV} {E : EL} (h : WB w p ta tb L E) : p ≠ ta ∧ p ≠ tb ∧ ta ≠ tb := by
  obtain ⟨_, h1⟩ := h.tabs.hd
  obtain ⟨_, h2⟩ := h.ends.hd
  exact ⟨blk_ne h.blk h1 (by decide), blk_ne h.blk h2 (by decide), blk_ne h1 h2 (by decide)⟩
theorem WAt.asc {w : World} {p ta tb : Nat} {E : EL} (h : WAt w p ta tb E) : Asc tE E := by obtain ⟨_, h, _⟩ := h; exact h.ends.asc
theorem WB.a {w w' : World} {p ta tb : Nat} {L L' : List A.KV} {E : EL} (h : WB w p ta tb L E) (hg : w.grownBy w' (some ta)) (hT : A.Tab w' ta MX A.oF id L') : WB w' p ta tb L' E := by
  obtain ⟨n1, n2, n3⟩ := h.ne
  obtain ⟨_, h1⟩ := h.tabs.hd
  exact ⟨gb_block hg h.blk n1, hT, h.ends.keep (nkB h1 (by decide) hg) (fun o ho => gb_block hg ho n3.symm)⟩
theorem WB.b {w w' : World} {p ta tb : Nat} {L : List A.KV} {E E' : EL} (h : WB w p ta tb L E) (hg : w.grownBy w' (some tb)) (hT : B.Tab w' tb MX B.oF tE E') : WB w' p ta tb L E' := by
  obtain ⟨n1, n2, n3⟩ := h.ne
  obtain ⟨_, h1⟩ := h.ends.hd
  exact ⟨gb_block hg h.blk n2, h.tabs.keep (nkA h1 (by decide) hg) (fun o ho => gb_block hg ho n3), hT⟩
/-- What lies elsewhere plays no part. -/
theorem WAt.only {X : Nat → Prop} {w w' : World} {p ta tb : Nat} {E : EL} (h : WAt w p ta tb E) (ho : OnlyS X w w') (hp : ¬ X p) (ha : ¬ X ta) (hb : ¬ X tb) (hn : ∀ k, X k → k < w.heap.size → ∃ cs T f, w.heap[k]? = some (.cells cs T f) ∧ T ≠ 76 ∧ T ≠ 87) : WAt w' p ta tb E := by
  have kA : A.NK w w' := fun b ds hb' => ho.heap hb' fun hx => by
    obtain ⟨cs, T, f, h1, h2, _⟩ := hn b hx (lt_of_block hb')
    rw [h1] at hb'; injection hb' with hb'; injection hb' with _ h3 _; exact h2 h3
  have kB : B.NK w w' := fun b ds hb' => ho.heap hb' fun hx => by
    obtain ⟨cs, T, f, h1, _, h2⟩ := hn b hx (lt_of_block hb')
    rw [h1] at hb'; injection hb' with hb'; injection hb' with _ h3 _; exact h2 h3
  obtain ⟨L, h1, h2⟩ := h
  exact ⟨L, ⟨ho.heap h1.blk hp, h1.tabs.keep kA (fun o hO => ho.heap hO ha), h1.ends.keep kB (fun o hO => ho.heap hO hb)⟩, h2⟩
theorem WAt.below {w w' : World} {p ta tb : Nat} {E : EL} (h : WAt w p ta tb E) (hb : Below w.heap.size w w') : WAt w' p ta tb E :=
  h.only (X := fun _ => False) (OnlyS.of hb) id id id (fun _ hx => hx.elim)
/-- The nodes stay. -/
theorem WAt.nkB {w w' : World} {p ta tb : Nat} {E : EL} (h : WAt w p ta tb E) (ho : OnlyS (TB ta tb) w w') : B.NK w w' := fun b ds hb' => ho.heap hb' fun hx => by
  obtain ⟨L, h0, _⟩ := h
  obtain ⟨_, h1⟩ := h0.tabs.hd
  obtain ⟨_, h2⟩ := h0.ends.hd
  rcases hx with rfl | rfl
  · rw [h1] at hb'; injection hb' with hb'; injection hb' with _ h3 _; exact absurd h3 (by decide)
  · rw [h2] at hb'; injection hb' with hb'; injection hb' with _ h3 _; exact absurd h3 (by decide)
theorem WAt.lt {w : World} {p ta tb : Nat} {E : EL} (h : WAt w p ta tb E) : p < w.heap.size ∧ ta < w.heap.size ∧ tb < w.heap.size := by
  obtain ⟨L, h0, _⟩ := h
  exact ⟨lt_of_block h0.blk, h0.tabs.lt, h0.ends.lt⟩
theorem only_a {w w' : World} {ta tb : Nat} (h : w.grownBy w' (some ta)) : OnlyS (TB ta tb) w w' := (OnlyS.gb h).mono (fun _ _ e => .inl e)
theorem only_b {w w' : World} {ta tb : Nat} (h : w.grownBy w' (some tb)) : OnlyS (TB ta tb) w w' := (OnlyS.gb h).mono (fun _ _ e => .inr e)

def CancelAns (p ta tb : Nat) (k : Int) (E : EL) (w : World) (e : Ending) (w' : World) : Prop := e = .returned (.bool (hK k E)) ∧ WAt w' p ta tb (cK k E) ∧ OnlyS (TB ta tb) w w'
set_option maxHeartbeats 1600000 in
theorem cancel_any (w : World) (p ta tb : Nat) (E : EL) (k : Int) (h : WAt w p ta tb E) (hn : E.length ≤ 600000) :
    Calls Try.prog 9 #[.pointer (some ⟨p, 0, none⟩), .int .i64 k] w (CancelAns p ta tb k E w) := by
  obtain ⟨L, hW, hR⟩ := h
  have hLn := rel_len hR
  have HG := A.GetL hW.tabs A.oF_ord k
  rw [rel_has hR, rel_get hR hW.tabs.asc] at HG
  obtain ⟨b0, b1, bf⟩ := two_cells hW.blk
  obtain ⟨n1, n2, n3⟩ := hW.ne
  have H := hide hW
  have HR := hide hR
  cases hh : hK k E with
  | false =>
    rw [hh, gK_none hh, Option.getD_none] at HG
    have HG := hide HG
    have HH := hide hh
    clear hW hR hLn hh b1
    go_enter Try.func9, Try.ntmps9
    go_wp2_with fail
    refine HG.out.mono ?_
    rintro e w1 ⟨rfl, g1, g2⟩
    have HO := hide g2
    have HT := hide g1
    clear g1 g2 HG b0 bf
    go_wp2
    go_ret
    refine ⟨by rw [HH.out]; rfl, ?_, only_a HO.out⟩
    rw [cK_self HH.out]
    exact ⟨L, H.out.a HO.out HT.out, HR.out⟩
  | true =>
    obtain ⟨x, hx, rfl, hg⟩ := gK_some hh
    rw [hh, hg, Option.getD_some] at HG
    have HG := hide HG
    have HH := hide hh
    have HX := hide hx
    clear hW hR hh hx hg b1
    go_enter Try.func9, Try.ntmps9
    go_wp2_with fail
    refine HG.out.mono ?_
    rintro e w1 ⟨rfl, g1, g2⟩
    have HO := hide g2
    have HW := hide (H.out.a g2 g1)
    clear g1 g2 HG b0 bf
    obtain ⟨b0, b1, bf⟩ := two_cells HW.out.blk
    have HD := hide (A.DropL HW.out.tabs A.oF_ord x.1.k (by omega))
    clear b1
    go_wp2_with fail
    refine HD.out.mono ?_
    rintro e w2 ⟨rfl, g1, g2⟩
    have HO2 := hide (HO.out |> fun h => (only_a (tb := tb) h).tr (only_a g2))
    have HW2 := hide (HW.out.a g2 g1)
    clear g1 g2 HD b0 bf
    obtain ⟨b0, b1, bf⟩ := two_cells HW2.out.blk
    have HD := hide (B.DropL HW2.out.ends B.oF_ord x.1 hn)
    clear b0
    go_wp2_with fail
    refine HD.out.mono ?_
    rintro e w3 ⟨rfl, g1, g2⟩
    have HO3 := hide (HO2.out.tr (only_b g2))
    have HW3 := hide (HW2.out.b g2 g1)
    clear g1 g2 HD b1 bf
    go_wp2
    go_ret
    refine ⟨by rw [HH.out]; rfl, ⟨_, ?_, rel_del HR.out x.1.k⟩, HO3.out⟩
    rw [← cK_del HR.out H.out.tabs.asc HX.out]
    exact HW3.out

def SetAns (p ta tb : Nat) (E : EL) (w : World) (e : Ending) (w' : World) : Prop := (∃ v, e = .returned v) ∧ WAt w' p ta tb E ∧ OnlyS (TB ta tb) w w'
set_option maxHeartbeats 1600000 in
theorem set_any (w : World) (p ta tb : Nat) (E : EL) (x : EK) (h : WAt w p ta tb E) (hn : E.length ≤ 500000) :
    Calls Try.prog 13 #[.pointer (some ⟨p, 0, none⟩), .int .i64 x.k, .int .u64 x.s] w (SetAns p ta tb (sK x E) w) := by
  have HC := hide (cancel_any w p ta tb E x.k h (by omega))
  have hcl := cK_len x.k E
  clear h
  go_enter Try.func13, Try.ntmps13
  go_wp2_with fail
  refine HC.out.mono ?_
  rintro e w1 ⟨rfl, ⟨L, hW, hR⟩, ho⟩
  have hLn := rel_len hR
  have HO := hide ho
  have HR := hide hR
  have HW := hide hW
  obtain ⟨b0, b1, bf⟩ := two_cells hW.blk
  have HP := hide (A.PutL hW.tabs A.oF_ord x.k x.s (by omega) (.inr (mx_lt (by omega))))
  clear ho hR hW HC b1
  go_wp2_with fail
  refine HP.out.mono ?_
  rintro e w2 ⟨rfl, g1, g2⟩
  have HO2 := hide (HO.out.tr (only_a g2))
  have HW2 := hide (HW.out.a g2 g1)
  clear g1 g2 HP b0 bf
  obtain ⟨b0, b1, bf⟩ := two_cells HW2.out.blk
  have HP := hide (B.PutL HW2.out.ends B.oF_ord x () (by omega) (.inr (mx_lt (by omega))))
  clear b0
  go_wp2_with fail
  refine HP.out.mono ?_
  rintro e w3 ⟨rfl, g1, g2⟩
  have HO3 := hide (HO2.out.tr (only_b g2))
  have HW3 := hide (HW2.out.b g2 g1)
  clear g1 g2 HP b1 bf
  go_wp2
  first
    | (go_end0; exact ⟨⟨_, rfl⟩, ⟨_, HW3.out, rel_ins HR.out x (cK_not _ _)⟩, HO3.out⟩)
    | (go_ret; exact ⟨⟨_, rfl⟩, ⟨_, HW3.out, rel_ins HR.out x (cK_not _ _)⟩, HO3.out⟩)

def ReadAns (v : Value) (p ta tb : Nat) (E : EL) (w : World) (e : Ending) (w' : World) : Prop := e = .returned v ∧ WAt w' p ta tb E ∧ OnlyS (TB ta tb) w w'
set_option maxHeartbeats 1600000 in
theorem at_any (w : World) (p ta tb : Nat) (E : EL) (k : Int) (h : WAt w p ta tb E) :
    Calls Try.prog 15 #[.pointer (some ⟨p, 0, none⟩), .int .i64 k] w (ReadAns (.tuple #[.int .u64 ((gK k E).getD 0), .bool (hK k E)]) p ta tb E w) := by
  obtain ⟨L, hW, hR⟩ := h
  have HG := A.GetL hW.tabs A.oF_ord k
  rw [rel_has hR, rel_get hR hW.tabs.asc] at HG
  obtain ⟨b0, b1, bf⟩ := two_cells hW.blk
  have H := hide hW
  have HR := hide hR
  obtain ⟨g, hg⟩ : ∃ g, (gK k E).getD 0 = g := ⟨_, rfl⟩
  obtain ⟨hb, hhb⟩ : ∃ b, hK k E = b := ⟨_, rfl⟩
  rw [hg, hhb] at HG ⊢
  have HG := hide HG
  clear hW hR b1 hg hhb
  go_enter Try.func15, Try.ntmps15
  go_wp2_with fail
  refine HG.out.mono ?_
  rintro e w1 ⟨rfl, g1, g2⟩
  have HO := hide g2
  have HT := hide g1
  clear g1 g2 HG b0 bf
  go_wp2
  go_ret2
  exact ⟨rfl, ⟨L, H.out.a HO.out HT.out, HR.out⟩, only_a HO.out⟩
set_option maxHeartbeats 1600000 in
theorem len_any (w : World) (p ta tb : Nat) (E : EL) (h : WAt w p ta tb E) :
    Calls Try.prog 18 #[.pointer (some ⟨p, 0, none⟩)] w fun e w' => e = .returned (.int .i64 (E.length : Int)) ∧ w = w' := by
  obtain ⟨L, hW, hR⟩ := h
  have HG := A.LenL hW.tabs
  rw [rel_len hR] at HG
  obtain ⟨b0, b1, bf⟩ := two_cells hW.blk
  have HG := hide HG
  clear hW hR b1
  go_enter Try.func18, Try.ntmps18
  go_wp2_with fail
  refine HG.out.mono ?_
  rintro e w1 ⟨rfl, rfl⟩
  clear HG b0 bf
  go_wp2
  go_ret
  exact ⟨rfl, rfl⟩
def nextV (E : EL) : Value := match E with | [] => .tuple #[.int .u64 0, .bool false] | x :: _ => .tuple #[.int .u64 x.1.s, .bool true]
set_option maxHeartbeats 1600000 in
theorem next_any (w : World) (p ta tb : Nat) (E : EL) (h : WAt w p ta tb E) (hn : E.length ≤ 600000) :
    Calls Try.prog 17 #[.pointer (some ⟨p, 0, none⟩)] w fun e w' => e = .returned (nextV E) ∧ Below w.heap.size w w' := by
  obtain ⟨L, hW, hR⟩ := h
  have HG := hide (B.AtL hW.ends 0 hn (by omega) (by omega))
  obtain ⟨b0, b1, bf⟩ := two_cells hW.blk
  have hl := lt_of_block hW.blk
  clear hW hR b0
  go_enter Try.func17, Try.ntmps17
  go_wp2_with fail
  refine HG.out.mono ?_
  rintro e w1 ⟨ha, hb⟩
  clear HG b1 bf
  have HB := hide hb
  clear hb
  rcases ha with ⟨x, hx, _, rfl⟩ | ⟨hx, rfl⟩
  · cases E with
    | nil => simp at hx
    | cons y E =>
      have hyx : y = x := by simpa using hx
      subst hyx
      clear hx
      go_wp2
      go_ret2
      refine ⟨rfl, ?_⟩
      repeat (first | exact HB.out | exact HB.out.drew | refine Below.setCell ?_ (by first | (have := HB.out.size; omega) | (simp; have := HB.out.size; omega)) _ | refine Below.alloc ?_ (by first | (have := HB.out.size; omega) | (simp; have := HB.out.size; omega)) _)
  · cases E with
    | cons y E => simp at hx; omega
    | nil =>
      clear hx
      go_wp2
      go_ret2
      refine ⟨rfl, ?_⟩
      repeat (first | exact HB.out | exact HB.out.drew | refine Below.setCell ?_ (by first | (have := HB.out.size; omega) | (simp; have := HB.out.size; omega)) _ | refine Below.alloc ?_ (by first | (have := HB.out.size; omega) | (simp; have := HB.out.size; omega)) _)
set_option maxHeartbeats 800000 in
theorem new_any (w : World) : Calls Try.prog 8 #[] w fun e w' => ∃ p ta tb, e = .returned (.pointer (some ⟨p, 0, none⟩)) ∧ WAt w' p ta tb [] ∧ Below w.heap.size w w' ∧ w.heap.size ≤ p ∧ w.heap.size ≤ ta ∧ w.heap.size ≤ tb := by
  have HA := hide (fun V => A.newL 9223372036854775807 (by decide) V)
  have HB := hide (fun V => B.newL 9223372036854775807 (by decide) V)
  unfold A.oF at HA
  unfold B.oF at HB
  go_enter Try.func8, Try.ntmps8
  go_wp2_with fail
  refine (HA.out _).mono ?_
  rintro e w1 ⟨rfl, h1, k1⟩
  have H1 := hide h1
  have K1 := hide k1
  clear h1 k1 HA
  go_wp2_with fail
  refine (HB.out _).mono ?_
  rintro e w2 ⟨rfl, h2, k2⟩
  have H2 := hide h2
  have K2 := hide k2
  clear h2 k2 HB
  go_wp2
  go_ret
  have hs1 := H1.out.lt
  have hs2 := H2.out.lt
  have hz1 := K1.out.size
  have hz2 := K2.out.size
  have kb := (Below.refl w2.heap.size w2).alloc (Nat.le_refl _) (.cells #[.pointer (some ⟨w.heap.size, 0, none⟩), .pointer (some ⟨w1.heap.size, 0, none⟩)] 56)
  exact ⟨w2.heap.size, w.heap.size, w1.heap.size, rfl, ⟨[], ⟨heap_alloc_new _ _, (H1.out.below K2.out (Nat.le_refl _)).below kb (Nat.le_refl _), H2.out.below kb (Nat.le_refl _)⟩, rel_nil⟩, (K1.out.trans (K2.out.mono hz1)).trans (kb.mono (by omega)), by omega, Nat.le_refl _, by omega⟩
end Go.Proofs.Ytdjkoomgapflcaa
