/- Tables by the opposite order. -/
import Derived.Test.YtfnlgfbojgkajaaKM
import Derived.Test.YtfnlgfbojgkajaaKO
namespace Go.Proofs.Ytfnlgfbojgkajaa
open Go.RowKit Go.Deep
set_option linter.unusedVariables false
set_option linter.unusedSimpArgs false
set_option maxRecDepth 100000
theorem rev_ins {k v : Int} : ∀ {L : List KV}, Asc id L → insL Neg.neg k v L.reverse = (insL id k v L).reverse
  | [], _ => rfl
  | x :: xs, ha => by
    have h' := List.pairwise_cons.1 ha
    have hm : ∀ y ∈ xs.reverse, -y.1 < -x.1 := fun y hy => by
      have := h'.1 y (List.mem_reverse.1 hy)
      have : x.1 < y.1 := this
      omega
    rw [List.reverse_cons, insL]
    show insL Neg.neg k v (xs.reverse ++ x :: []) = _
    by_cases h1 : k < x.1
    · rw [if_pos (show id k < id x.1 from h1), ins_right (τ := Neg.neg) (show -x.1 < -k by omega) xs.reverse hm]
      simp [insL]
    · by_cases h2 : k = x.1
      · rw [if_neg (show ¬ id k < id x.1 from h1), if_pos (show id k = id x.1 from h2), ins_here (τ := Neg.neg) (show -k = -x.1 by omega) xs.reverse hm]
        simp
      · rw [if_neg (show ¬ id k < id x.1 from h1), if_neg (show ¬ id k = id x.1 from h2), ins_left (τ := Neg.neg) (show -k < -x.1 by omega) xs.reverse, rev_ins h'.2]
        simp
theorem rev_has {k : Int} (L : List KV) : hasL Neg.neg k L.reverse = hasL id k L := by
  rw [Bool.eq_iff_iff, hasL_iff, hasL_iff]
  constructor
  · rintro ⟨x, hx, e⟩
    exact ⟨x, List.mem_reverse.1 hx, by show k = x.1; have : -k = -x.1 := e; omega⟩
  · rintro ⟨x, hx, e⟩
    exact ⟨x, List.mem_reverse.2 hx, by show -k = -x.1; have : k = x.1 := e; omega⟩
/-- What Put answers, and leaves. -/
def putC (τ : Int → Int) (m : Nat) (k v : Int) (L : List KV) : Int × List KV := if hasL τ k L = true ∨ L.length < m then (0, insL τ k v L) else (20, L)
theorem putC_len {τ : Int → Int} {m : Nat} {k v : Int} {L : List KV} (ha : Asc τ L) (h : L.length ≤ m) : (putC τ m k v L).2.length ≤ m := by
  unfold putC
  split
  · rename_i hr
    rw [show ((0, insL τ k v L) : Int × List KV).2 = insL τ k v L from rfl, ins_len ha]
    split
    · exact h
    · rename_i hh
      rcases hr with e | e
      · exact absurd e hh
      · omega
  · exact h
theorem putC_rev {m : Nat} {k v : Int} {L : List KV} (ha : Asc id L) : putC Neg.neg m k v L.reverse = ((putC id m k v L).1, (putC id m k v L).2.reverse) := by
  unfold putC
  rw [rev_has, List.length_reverse]
  split
  · rw [rev_ins ha]
  · rfl
theorem PutC {w : World} {t : Nat} {m : Nat} {fv : Value} {τ : Int → Int} {L : List KV} (h : Tab w t m fv τ L) (hF : OrdF fv τ) (k v : Int) (hn : L.length ≤ 600000) :
    Calls Try.prog 14 #[.pointer (some ⟨t, 0, none⟩), .int .i64 k, .int .i64 v] w fun e w' => e = .returned (.int .i64 (putC τ m k v L).1) ∧ Tab w' t m fv τ (putC τ m k v L).2 ∧ w.grownBy w' (some t) := by
  unfold putC
  split
  · rename_i hr
    exact PutL h hF k v hn (by rcases hr with e | e; exact .inl e; exact .inr (by omega))
  · rename_i hr
    refine PutF h hF k v hn ?_ (by omega)
    cases hh : hasL τ k L with
    | true => exact absurd (.inl hh) hr
    | false => rfl
theorem Tab.other {w w' : World} {t s : Nat} {m n : Int} {fv gv : Value} {τ σ : Int → Int} {L M : List KV} (h : Tab w t m fv τ L) (hs : Tab w s n gv σ M) (hne : t ≠ s) (hg : w.grownBy w' (some s)) : Tab w' t m fv τ L := by
  obtain ⟨S, hS, _⟩ := hs
  refine h.keep (fun b cs hb => (hg.block b (lt_of_block hb) (by intro e; cases e; rw [hS] at hb; cases hb)).trans hb) (fun o ho => (hg.block t (lt_of_block ho) (by intro e; cases e; exact hne rfl)).trans ho)
theorem gb_cell {w w' : World} {s b i : Nat} {v : Value} (hg : w.grownBy w' (some s)) (h : w.cell? ⟨b, i, none⟩ = some v) (hb : b < w.heap.size) (hne : b ≠ s) : w'.cell? ⟨b, i, none⟩ = some v :=
  (World.cell?_of_block (hg.block b hb (by intro e; cases e; exact hne rfl))).trans h

set_option maxHeartbeats 800000 in
theorem kturn_long (w : World) (a : Option Addr) (ops : List Op3) (n cap : Nat) (hO : OpsAt w a ops) (hl : ops.length = n) (hn : n ≤ 9223372036854775807) (h : 200 < n) :
    Calls Try.prog 5 #[.slice a n cap] w fun e w' => e = .returned (.bool true) ∧ Below w.heap.size w w' := by
  clear hO hl
  go_enter Try.func5, Try.ntmps5
  go_wp2_with fail
  refine (speaks6_any _).mono ?_
  rintro e w1 ⟨rfl, b1⟩
  go_wp2
  go_ret
  exact ⟨rfl, b1⟩
set_option maxHeartbeats 3000000 in
theorem kturn_main (w : World) (a : Option Addr) (ops : List Op3) (n cap : Nat) (hO : OpsAt w a ops) (hl : ops.length = n) (hn : n ≤ 9223372036854775807) (h : n ≤ 200) :
    Calls Try.prog 5 #[.slice a n cap] w fun e w' => e = .returned (.bool true) ∧ Below w.heap.size w w' := by
  have HO := hide hO
  have HL := hide hl
  clear hO hl hn
  go_enter Try.func5, Try.ntmps5
  go_wp2_with fail
  refine (speaks6_any _).mono ?_
  rintro e w1 ⟨rfl, b1⟩
  have HB1 := hide b1
  have HN := hide (newL 50 (by omega) (.func (.func 10) #[] #[]) id w1 o_ord)
  clear b1
  go_wp2_with fail
  refine HN.out.mono ?_
  rintro e w2 ⟨rfl, h2, b2⟩
  obtain ⟨t, ht⟩ : ∃ t, w1.heap.size = t := ⟨_, rfl⟩
  rw [ht] at h2
  try rw [ht]
  have hwt : w.heap.size ≤ t := by rw [← ht]; exact HB1.out.size
  have HB2 := hide (HB1.out.trans (b2.mono HB1.out.size))
  have HN2 := hide (newL 50 (by omega) (.func (.func 22) #[] #[]) Neg.neg w2 t_ord)
  have H2 := hide h2
  clear HN h2 b2 ht HB1
  go_wp2_with fail
  refine HN2.out.mono ?_
  rintro e w3 ⟨rfl, h3, b3⟩
  obtain ⟨s, hs⟩ : ∃ s, w2.heap.size = s := ⟨_, rfl⟩
  have hts : t < s := by rw [← hs]; exact H2.out.lt
  rw [hs] at h3
  try rw [hs]
  have hws : w.heap.size ≤ s := by omega
  have HB3 := hide (HB2.out.trans (b3.mono HB2.out.size))
  have hb3 := HB3.out
  have HS := hide (show Tab w3 t (50 : Nat) (.func (.func 10) #[] #[]) id [] ∧ Tab w3 s (50 : Nat) (.func (.func 22) #[] #[]) Neg.neg ([] : List KV).reverse ∧ ([] : List KV).length ≤ 50 from ⟨H2.out.below b3 (Nat.le_refl _), h3, by simp⟩)
  clear HN2 h3 b3 hs H2 HB2
  go_wp2_with fail
  go_loopw [30] (fun i wz => ∃ (j : Nat) (L : List KV), j ≤ n ∧ i = .int .i64 j ∧ Hid (Tab wz t (50 : Nat) (.func (.func 10) #[] #[]) id L ∧ Tab wz s (50 : Nat) (.func (.func 22) #[] #[]) Neg.neg L.reverse ∧ L.length ≤ 50) ∧ Below w.heap.size w wz) (fun i _ => n - (intOf i).toNat)
  case atStart => exact ⟨0, [], Nat.zero_le _, rfl, HS, hb3⟩
  case round =>
    clear HS hb3 HB3
    obtain ⟨j, L, hj, rfl, HS, hbz⟩ := hrel
    by_cases hlt : j < n
    · obtain ⟨o, ho⟩ : ∃ o, ops[j]? = some o := ⟨ops[j]'(by rw [HL.out]; exact hlt), List.getElem?_eq_getElem _⟩
      obtain ⟨b, off, rfl, hbl, hcell⟩ := HO.out (by intro e; subst e; simp at ho)
      obtain ⟨p0, p1, p2⟩ := hcell j o ho
      have c0 := (hbz.cell (p := ⟨b, off + j * 3, none⟩) hbl).trans p0
      have c1 := (hbz.cell (p := ⟨b, off + j * 3 + 1, none⟩) hbl).trans p1
      have c2 := (hbz.cell (p := ⟨b, off + j * 3 + 2, none⟩) hbl).trans p2
      clear hcell p0 p1 p2 ho
      obtain ⟨o0, o1, o2⟩ := o
      simp only at c0 c1 c2
      have htl := HS.out.1.lt
      have hsl := HS.out.2.1.lt
      have HBZ := hide hbz
      clear hbz
      go_wp2_with fail
      obtain ⟨B, w4, hB, hw4, HC, HBA, HST, hBt, hBs, hBw, hBl⟩ : ∃ B wt, wr.heap.size = B ∧ wr.alloc (.cells #[.int .i64 o0, .int .i64 o1, .int .i64 o2] 30) = wt ∧ Hid (wt.heap[B]? = some (.cells #[.int .i64 o0, .int .i64 o1, .int .i64 o2] 30 (0, 0))) ∧ Hid (Below w.heap.size w wt) ∧ Hid (Tab wt t (50 : Nat) (.func (.func 10) #[] #[]) id L ∧ Tab wt s (50 : Nat) (.func (.func 22) #[] #[]) Neg.neg L.reverse) ∧ B ≠ t ∧ B ≠ s ∧ w.heap.size ≤ B ∧ B < wt.heap.size := by
        have hb := (Below.refl wr.heap.size wr).alloc (Nat.le_refl _) (.cells #[.int .i64 o0, .int .i64 o1, .int .i64 o2] 30)
        exact ⟨_, _, rfl, rfl, hide (heap_alloc_new _ _), hide (HBZ.out.alloc HBZ.out.size _), hide ⟨HS.out.1.below hb (Nat.le_refl _), HS.out.2.1.below hb (Nat.le_refl _)⟩, by omega, by omega, HBZ.out.size, by simp⟩
      try rw [hw4]
      try rw [hB]
      clear hw4 hB c0 c1 c2
      obtain ⟨k0, k1, k2, kf⟩ := three_cells HC.out
      have hbd : Below w4.heap.size w4 w4.drew := (Below.refl _ _).drew
      have hpa := PutC (m := 50) (HST.out.1.below hbd (Nat.le_refl _)) o_ord o1 o2 (by have := HS.out.2.2; omega)
      have hrev := putC_rev (m := 50) (k := o1) (v := o2) HS.out.1.asc
      have hplen := putC_len (m := 50) (k := o1) (v := o2) HS.out.1.asc HS.out.2.2
      obtain ⟨c, hc⟩ : ∃ c, (putC id 50 o1 o2 L).1 = c := ⟨_, rfl⟩
      obtain ⟨L', hL'⟩ : ∃ L', (putC id 50 o1 o2 L).2 = L' := ⟨_, rfl⟩
      rw [hc, hL'] at hpa hrev
      rw [hL'] at hplen
      have HPA := hide hpa
      have HREV := hide hrev
      have HTD := hide (And.intro (HST.out.1.below hbd (Nat.le_refl _)) (HST.out.2.below hbd (Nat.le_refl _)))
      have hne : t ≠ s := by omega
      clear hpa hrev hbd hc hL'
      go_region_held3 (fun w' => w'.cell? ⟨B, 1, none⟩ = some (.int .i64 o1) ∧ w'.cell? ⟨B, 2, none⟩ = some (.int .i64 o2)) (go_keep) (first
        | (go_at_call 14; (with_reducible refine HPA.out.mono ?_); rintro e w5 ⟨rfl, h5, g5⟩;
            have m1 : w5.cell? ⟨B, 1, none⟩ = some (.int .i64 o1) := gb_cell g5 k1 hBl hBt;
            have m2 : w5.cell? ⟨B, 2, none⟩ = some (.int .i64 o2) := gb_cell g5 k2 hBl hBt;
            have H5 := hide h5; have H5s := hide (Tab.other HTD.out.2 HTD.out.1 (fun e => hne e.symm) g5);
            have HB5 := hide (HBA.out.drew.grown g5 HBA.out.size (fun j e => by cases e; exact hwt)); have hl5 : B < w5.heap.size := Nat.lt_of_lt_of_le hBl g5.size;
            have hpb := PutC (m := 50) H5s.out t_ord o1 o2 (by rw [List.length_reverse]; have := HS.out.2.2; omega); rw [HREV.out] at hpb; have HPB := hide hpb; clear h5 g5 hpb)
        | (go_at_call 14; (with_reducible refine HPB.out.mono ?_); rintro e w6 ⟨rfl, h6, g6⟩;
            have n1 : w6.cell? ⟨B, 1, none⟩ = some (.int .i64 o1) := gb_cell g6 m1 hl5 hBs;
            have n2 : w6.cell? ⟨B, 2, none⟩ = some (.int .i64 o2) := gb_cell g6 m2 hl5 hBs;
            have H6 := hide h6; have H6t := hide (Tab.other H5.out H5s.out hne g6);
            have HB6 := hide (HB5.out.grown g6 HB5.out.size (fun j e => by cases e; exact hws)); clear h6 g6)
        | fail)
      all_goals
        have hb6 := HB6.out
        go_wp2_with fail
        go_roundw
        case rel => exact ⟨j + 1, L', by omega, by go_num, hide ⟨H6t.out, H6.out, hplen⟩, hb6⟩
        case measure => simp [intOf]; omega
    · obtain ⟨wb, rfl⟩ : ∃ wb, wb = wr := ⟨_, rfl⟩
      have HLN := hide (LenL HS.out.1)
      have hb0 := hbz
      have hlen := HS.out.2.2
      go_wp2_with fail
      refine HLN.out.mono ?_
      rintro e w5 ⟨rfl, rfl⟩
      clear HLN
      obtain ⟨N, hN⟩ : ∃ N, L.length = N := ⟨_, rfl⟩
      rw [hN] at hlen
      try rw [hN]
      have HNN := hide hN
      clear hN hbz
      go_wp2_with fail
      go_loopw [8] (fun i wz => ∃ (j : Nat), j ≤ N ∧ i = .int .i64 j ∧ Hid (Tab wz t (50 : Nat) (.func (.func 10) #[] #[]) id L ∧ Tab wz s (50 : Nat) (.func (.func 22) #[] #[]) Neg.neg L.reverse) ∧ Below w.heap.size w wz) (fun i _ => N - (intOf i).toNat)
      case atStart => exact ⟨0, Nat.zero_le _, rfl, hide ⟨HS.out.1, HS.out.2.1⟩, hb0⟩
      case round =>
        clear hb0 HS
        obtain ⟨i, hi, rfl, HS, hbz⟩ := hrel
        have HBZ := hide hbz
        by_cases hlt2 : i < N
        · obtain ⟨x, hx⟩ : ∃ x, L[i]? = some x := ⟨L[i]'(by rw [HNN.out]; exact hlt2), List.getElem?_eq_getElem _⟩
          have HA := hide (AtL HS.out.1 i x hx (by have := HNN.out; omega))
          have hx2 : L.reverse[N - 1 - i]? = some x := by
            have hnn := HNN.out
            rw [List.getElem?_reverse (by omega), hnn, show N - 1 - (N - 1 - i) = i by omega]
            exact hx
          have HX2 := hide hx2
          have hne : t ≠ s := by omega
          clear hx hx2 hbz
          go_wp2_with fail
          refine HA.out.mono ?_
          rintro e w6 ⟨rfl, h6, g6⟩
          have h6s := Tab.other HS.out.2 HS.out.1 (fun e => hne e.symm) g6
          have hat := AtL h6s (N - 1 - i) x HX2.out (by rw [List.length_reverse]; have := HNN.out; omega)
          rw [show ((N - 1 - i : Nat) : Int) = (N : Int) - 1 - (i : Int) by omega] at hat
          have HA2 := hide hat
          have H6 := hide (And.intro h6 h6s)
          have HB6 := hide (HBZ.out.grown g6 HBZ.out.size (fun j e => by cases e; exact hwt))
          clear h6 g6 h6s hat HA
          go_wp2_with fail
          refine HA2.out.mono ?_
          rintro e w7 ⟨rfl, h7, g7⟩
          have H7 := hide (And.intro (Tab.other H6.out.1 H6.out.2 hne g7) h7)
          have hb7 := HB6.out.grown g7 HB6.out.size (fun j e => by cases e; exact hws)
          clear h7 g7 HA2
          obtain ⟨x1, x2⟩ := x
          go_wp2_with fail
          go_roundw
          case rel => exact ⟨i + 1, by omega, by go_num, H7, hb7⟩
          case measure => simp [intOf]; omega
        · have hl2 := LenL HS.out.2
          rw [List.length_reverse, HNN.out] at hl2
          have HL2 := hide hl2
          clear hl2 hbz HS
          go_wp2_with fail
          refine HL2.out.mono ?_
          rintro e w6 ⟨rfl, rfl⟩
          clear HL2
          go_wp2
          go_ret
          exact ⟨rfl, HBZ.out⟩
theorem keyedTurned_any (w : World) (a : Option Addr) (ops : List Op3) (n cap : Nat) (hO : OpsAt w a ops) (hl : ops.length = n) (hn : n ≤ 9223372036854775807) :
    Calls Try.prog 5 #[.slice a n cap] w fun e w' => e = .returned (.bool true) ∧ Below w.heap.size w w' := by
  by_cases h : 200 < n
  · exact kturn_long w a ops n cap hO hl hn h
  · exact kturn_main w a ops n cap hO hl hn (by omega)
end Go.Proofs.Ytfnlgfbojgkajaa
