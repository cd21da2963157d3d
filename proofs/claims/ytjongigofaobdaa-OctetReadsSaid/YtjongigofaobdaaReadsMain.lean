/- The law that what an Eye reads is what the document's Eye reads, walked. -/
import Derived.Test.YtjongigofaobdaaReadsRef
import Derived.Test.YtjongigofaobdaaSpeaks
import Derived.Laws.AppendOwnNone
import Derived.Test.YtjongigofaobdaaPlainSums
namespace Go.Proofs.Ytjongigofaobdaa
open Go.RowKit
set_option linter.unusedVariables false
set_option linter.unusedSimpArgs false

/-- An Eye whose bytes lie in memory from base on. -/
structure EyeNew (base : Nat) (w : World) (E : Nat) (xs : List Int) : Prop where
  lo : base ≤ E
  own : ∃ a c, w.heap[E]? = some (.cells #[.slice a xs.length c, .bool false] 63 (0, 0)) ∧ w.ownsRow base 5 1 (.slice a xs.length c) xs.length (xs.map (Value.int .u8))

theorem newEye_more (a : Option Addr) (xs : List Int) (cap : Nat) (w : World) (hr : Row .u8 w a xs) (hlen : xs.length ≤ 1099511627776) :
    Calls Try.prog 17 #[.slice a xs.length cap] w fun e w' => ∃ E, e = .returned (.pointer (some ⟨E, 0, none⟩)) ∧ EyeNew w.heap.size w' E xs ∧ Below w.heap.size w w' := by
  go_enter Try.func17, Try.ntmps17
  go_wp2_with (go_at_call 36; refine (clone_any a xs cap _ hr (by omega)).mono ?_; rintro e w1 ⟨a', cap', rfl, hown, hbel⟩)
  go_ret
  exact ⟨w1.heap.size, rfl, ⟨hbel.size, a', cap', heap_alloc_new w1 _, hown.alloc _⟩, hbel.alloc hbel.size _⟩
theorem EyeNew.eye {base : Nat} {w : World} {E : Nat} {xs : List Int} (h : EyeNew base w E xs) : EyeAt w E xs false := by
  obtain ⟨a, c, hE, hown⟩ := h.own
  refine ⟨_, hE, ?_⟩
  rcases hown.2 with ⟨hv, h0⟩ | ⟨g, c', cur, hv, hg, hh, hnc, hcm, _⟩
  · exact .inl ⟨hv, List.length_eq_zero_iff.1 h0⟩
  · have hgE : g ≠ E := by intro e; subst e; rw [hE] at hh; simp at hh
    obtain ⟨rfl, rfl⟩ : a = some ⟨g, 0, none⟩ ∧ c = c' := by simpa using hv
    refine .inr ⟨g, 0, c, rfl, hgE, lt_of_block hh, hnc, by unfold maxLen at hcm; omega, fun i hi => ?_⟩
    rw [show 0 + i = i from by omega, hown.cellAt i (by omega)]
    simp [List.getElem?_map, List.getElem?_eq_getElem hi]
theorem EyeNew.set {base : Nat} {w : World} {E g i : Nat} {xs : List Int} (h : EyeNew base w E xs) (hg : g < base) (v : Value) : EyeNew base (w.setCell ⟨g, i, none⟩ v) E xs := by
  obtain ⟨a, c, hE, hown⟩ := h.own
  exact ⟨h.lo, a, c, (Below.heap_setCell _ _ _ _ (by have := h.lo; show E ≠ g; omega)).trans hE, ownsRow_setCell_below hown (by show g < base; exact hg) _⟩
theorem EyeNew.below {base : Nat} {w w' : World} {E B : Nat} {xs : List Int} (h : EyeNew base w E xs) (hb : Below B w w') (hB : w.heap.size ≤ B) : EyeNew base w' E xs := by
  obtain ⟨a, c, hE, hown⟩ := h.own
  exact ⟨h.lo, a, c, (hb.block E (Nat.lt_of_lt_of_le (lt_of_block hE) hB)).trans hE, owns_below hown hb hB⟩

/-- From one world to another just block R may have turned, of those that were there. -/
structure But (R : Nat) (w w' : World) : Prop where
  size : w.heap.size ≤ w'.heap.size
  block : ∀ k, k < w.heap.size → k ≠ R → w'.heap[k]? = w.heap[k]?
theorem EyeAt.but {w w' : World} {E R : Nat} {rest : List Int} {bad bad' : Bool} {a : Option Addr} {n cap I : Nat} (h : EyeAt w E rest bad) (hR : REye w R a n cap I bad') (hb : But R w w') : EyeAt w' E rest bad := by
  obtain ⟨v, hE, hL⟩ := h
  unfold REye at hR
  have hER : E ≠ R := by intro e; subst e; rw [hE] at hR; simp at hR
  refine ⟨v, (hb.block E (lt_of_block hE) hER).trans hE, ?_⟩
  rcases hL with h0 | ⟨b, off, c, hv, hbE, hbl, hlc, hc, hcell⟩
  · exact .inl h0
  · refine .inr ⟨b, off, c, hv, hbE, Nat.lt_of_lt_of_le hbl hb.size, hlc, hc, fun i hi => ?_⟩
    have hbR : b ≠ R := by
      intro e; subst e
      have h0 := hcell i hi
      simp only [World.cell?, hR] at h0
      match off + i, h0 with
      | 0, h0 => simp at h0
      | 1, h0 => simp at h0
      | 2, h0 => simp at h0
      | k + 3, h0 => simp at h0
    exact (World.cell?_of_block (hb.block b hbl hbR)).trans (hcell i hi)
theorem But.of_grown {w w' : World} {R : Nat} (h : w.grownBy w' (some R)) : But R w w' := ⟨h.size, fun k hk hne => h.block k hk (by intro e; cases e; exact hne rfl)⟩
theorem But.trans {a b c : World} {R : Nat} (h : But R a b) (k : But R b c) : But R a c := ⟨Nat.le_trans h.size k.size, fun i hi hne => (k.block i (Nat.lt_of_lt_of_le hi h.size) hne).trans (h.block i hi hne)⟩
theorem But.of_below {w w' : World} {R B : Nat} (h : Below B w w') (hB : w.heap.size ≤ B) : But R w w' := ⟨h.size, fun k hk _ => h.block k (by omega)⟩

theorem eyeNum_at (E : Nat) (xs : List Int) (n I : Nat) (bad : Bool) (s : Int) (w : World) (hxn : xs.length = n) (h : EyeAt w E (xs.drop I) bad) (hb : ∀ x ∈ xs, 0 ≤ x ∧ x ≤ 255) (hn : n ≤ 5000) (hI : I ≤ n) :
    Calls Try.prog 19 #[.pointer (some ⟨E, 0, none⟩), .int .i64 s] w fun e w' => e = .returned (.int .u64 (valB (if sz s ≤ n - I then (xs.drop I).take (sz s) else []))) ∧
      EyeAt w' E (xs.drop (if sz s ≤ n - I then I + sz s else n)) (bad || decide (n - I < sz s)) ∧ w.grownBy w' (some E) := by
  have hl : (xs.drop I).length = n - I := by rw [List.length_drop, hxn]
  have := eyeNum_any E (xs.drop I) bad s w h (fun x hx => hb x (List.mem_of_mem_drop hx)) (by omega)
  rw [hl] at this
  refine this.mono ?_
  rintro e w' ⟨rfl, h2, h3⟩
  refine ⟨rfl, ?_, h3⟩
  by_cases hk : sz s ≤ n - I
  · rw [if_pos hk] at h2 ⊢
    rw [List.drop_drop] at h2
    exact h2
  · rw [if_neg hk] at h2 ⊢
    rw [List.drop_of_length_le (by omega)]
    exact h2
theorem left_at (E : Nat) (xs : List Int) (n I : Nat) (bad : Bool) (w : World) (hxn : xs.length = n) (h : EyeAt w E (xs.drop I) bad) :
    Calls Try.prog 20 #[.pointer (some ⟨E, 0, none⟩)] w fun e w' => e = .returned (.int .i64 ((n - I : Nat) : Int)) ∧ w = w' := by
  have := left_any E _ bad w h
  rw [List.length_drop, hxn] at this
  exact this

theorem eyeBytes_at (E : Nat) (xs : List Int) (n I : Nat) (bad : Bool) (s : Int) (w : World) (hxn : xs.length = n) (h : EyeAt w E (xs.drop I) bad) (hn : n ≤ 5000) (hI : I ≤ n) (hs : -9223372036854775808 ≤ s ∧ s ≤ 9223372036854775807) :
    Calls Try.prog 23 #[.pointer (some ⟨E, 0, none⟩), .int .i64 s] w fun e w' => ∃ w1 a c, e = .returned (.slice a (if s.toNat ≤ n - I then s.toNat else 0) c) ∧
      w'.ownsRow w1.heap.size 5 1 (.slice a (if s.toNat ≤ n - I then s.toNat else 0) c) (if s.toNat ≤ n - I then s.toNat else 0) ((if s.toNat ≤ n - I then (xs.drop I).take s.toNat else []).map (Value.int .u8)) ∧
      EyeAt w1 E (xs.drop (if s.toNat ≤ n - I then I + s.toNat else n)) (bad || decide (n - I < s.toNat)) ∧ w.grownBy w1 (some E) ∧ Below w1.heap.size w1 w' := by
  have hl : (xs.drop I).length = n - I := by rw [List.length_drop, hxn]
  have := eyeBytes_any E (xs.drop I) bad s w h (by omega) hs
  rw [hl] at this
  refine this.mono ?_
  rintro e w' ⟨w1, a, c, rfl, h2, h3, h4, h5⟩
  refine ⟨w1, a, c, rfl, h2, ?_, h4, h5⟩
  by_cases hk : s.toNat ≤ n - I
  · rw [if_pos hk] at h3 ⊢
    rw [List.drop_drop] at h3
    exact h3
  · rw [if_neg hk] at h3 ⊢
    rw [List.drop_of_length_le (by omega)]
    exact h3
theorem But.set {w w' : World} {R g i : Nat} (h : But R w w') (hg : w.heap.size ≤ g) (v : Value) : But R w (w'.setCell ⟨g, i, none⟩ v) :=
  ⟨by simpa using h.size, fun k hk hne => (Below.heap_setCell _ _ _ _ (by show k ≠ g; omega)).trans (h.block k hk hne)⟩
theorem owns_but {w w' : World} {base R n : Nat} {v : Value} {xs : List Value} (h : w.ownsRow base 5 1 v n xs) (hg : w.grownBy w' (some R)) (hR : R < base) : w'.ownsRow base 5 1 v n xs := by
  refine h.kept hg (.inr ?_)
  intro e
  have := (h.lt R e).1
  omega

theorem append_none_as {P : Program} {w : World} {ops : Array Oper} {rest : List Oper} {o : Oper} {a : Act} {Q : Exit → Act → World → Prop} (hgd : o.guard = none) (s x : Operand) (t : TypeId)
    (ho : o.op = .call { callee := .builtin .append, args := #[s, x], argTypes := #[t, t] })
    (base : Nat) (e : TypeId) (i : TypeInfo) (size : Nat) (ht : P.underlying t = some (.slice e)) (hi : P.info? e = some i)
    (v : Value) (n : Nat) (xs : List Value) (hs : a.eval s = v) (hown : w.ownsRow base e size v n xs) (k c : Nat) (hk : k = 0) (hc : c = 0) (hx : a.eval x = .slice none k c) (v2 : Value) (hv : v2 = v)
    (h : wpList P ops Q rest (a.put o.dst v2) w) : wpList P ops Q (o :: rest) a w := by
  subst hk; subst hc; subst hv
  exact wpList_append_own_none hgd s x t ho base e i size ht hi _ n xs hs hown hx h

set_option maxHeartbeats 3200000 in
theorem octetReads_main (a : Option Addr) (xs : List Int) (n cap : Nat) (sa : Option Addr) (ss : List Int) (scap : Nat) (w : World) (hr : Row .u8 w a xs) (hxn : xs.length = n) (hb : ∀ x ∈ xs, 0 ≤ x ∧ x ≤ 255) (hnc : n ≤ cap) (hcm : cap ≤ 9223372036854775807) (hnil : a = none → cap = 0)
    (hs : Row .i64 w sa ss) (hsb : ∀ s ∈ ss, -9223372036854775808 ≤ s ∧ s ≤ 9223372036854775807) (hn : n ≤ 5000) (hl : ss.length ≤ 200) (A : Addr) (hA : a = some A) :
    Calls Try.prog 4 #[.slice a n cap, .slice sa ss.length scap] w fun e w' => e = .returned (.bool true) ∧ Below w.heap.size w w' := by
  obtain ⟨i0, hi, hz0, hz1, hz2⟩ := info_parts Try.info5
  have HR := hide hr
  have HX := hide hxn
  have HB := hide hb
  have HS := hide hs
  have HSB := hide hsb
  have HN := hide hnil
  clear hr hxn hb hs hsb hnil
  subst hA
  go_enter Try.func4, Try.ntmps4
  go_wp2_with fail
  refine (speaks1_any _).mono ?_
  rintro e w1 ⟨rfl, hbel⟩
  have hown0 : (w1.alloc (.cells #[] 5)).ownsRow w.heap.size 5 1 (.slice (some ⟨w1.heap.size, 0, none⟩) 0 0) 0 [] := World.ownsRow_lit w1 #[] 0 hbel.size (by unfold maxLen; omega) rfl
  have hba := hbel.alloc hbel.size (.cells #[] 5)
  have HCL := hide (row_cells (HR.out.below hba (Nat.le_refl _)))
  have HO0 := hide hown0
  have HXM := hide (show (xs.map (Value.int .u8)).length = n * 1 by rw [List.length_map, HX.out]; omega)
  clear hown0
  go_wp2_with (at_builtin; refine wpList_append_own _ rfl _ _ 24 rfl w.heap.size 5 i0 (.int .u8 0) 1 1 Try.underlying24 hi hz0 hz1 hz2 rfl (by decide) _ _ _ rfl HO0.out A n cap (xs.map (Value.int .u8)) rfl HXM.out HCL.out (ints_one _ _) (by unfold maxLen; omega) (by omega) hba.size ?_)
  intro v' w2 hown2 hgrow hnn
  replace hown2 : w2.ownsRow w.heap.size 5 1 v' n (xs.map (Value.int .u8)) := by simpa using hown2
  obtain ⟨g, c, rfl⟩ := slice_form hown2
  have hb2 : Below w.heap.size w w2 := hba.grown hgrow hba.size (fun j e => (HO0.out.lt j e).1)
  have hne := newEye_more g xs c w2 (by have := Row.of_owns (k := .u8) hown2; exact this) (by rw [HX.out]; omega)
  rw [HX.out] at hne
  have HNE := hide hne
  have O2 := hide hown2
  clear hown2 hgrow hnn hne
  go_wp2_with fail
  refine HNE.out.mono ?_
  rintro e w3 ⟨E, rfl, hE, hb23⟩
  have EN := hide hE
  clear hE
  have hRt : (w3.alloc (.cells #[.slice (some A) n cap, .int .i64 0, .bool false] 38)).heap[w3.heap.size]? = some (.cells #[.slice (some A) n cap, .int .i64 0, .bool false] 38 (0, 0)) := heap_alloc_new w3 _
  have HRE := hide (show REye (w3.alloc (.cells #[.slice (some A) n cap, .int .i64 0, .bool false] 38)) w3.heap.size (some A) n cap 0 false from hRt)
  have hb3 := hb2.trans (hb23.mono hb2.size)
  have hb4 := hb3.alloc hb3.size (.cells #[.slice (some A) n cap, .int .i64 0, .bool false] 38)
  have hEN := EN.out.below ((Below.refl w3.heap.size w3).alloc (Nat.le_refl _) (.cells #[.slice (some A) n cap, .int .i64 0, .bool false] 38)) (Nat.le_refl _)
  have EN4 := hide hEN
  have hown4 := (owns_below O2.out hb23 (Nat.le_refl _)).alloc (.cells #[.slice (some A) n cap, .int .i64 0, .bool false] 38)
  have O4 := hide (show ∃ zs, (w3.alloc (.cells #[.slice (some A) n cap, .int .i64 0, .bool false] 38)).ownsRow w.heap.size 5 1 (.slice g n c) n zs from ⟨_, hown4⟩)
  have hEl : E < w3.heap.size := by obtain ⟨_, _, h, _⟩ := EN.out.own; exact lt_of_block h
  have hE2 : w2.heap.size ≤ E := EN.out.lo
  have hs23 := hb23.size
  have hs02 := hb2.size
  have HG := hide O2.out.lt
  clear hRt hEN hown4
  go_wp2
  go_loopw [35] (fun i wz => ∃ j : Nat, j ≤ n ∧ i = .int .i64 j ∧ Hid (∃ zs, wz.ownsRow w.heap.size 5 1 (.slice g n c) n zs) ∧ Hid (EyeNew w2.heap.size wz E xs) ∧ Hid (REye wz w3.heap.size (some A) n cap 0 false) ∧ Below w.heap.size w wz) (fun i _ => n - (intOf i).toNat)
  case atStart => exact ⟨0, Nat.zero_le _, rfl, O4, EN4, HRE, hb4⟩
  case round =>
    clear O4 EN4 HRE hb4
    obtain ⟨j, hj, rfl, HO, HE, HRZ, hbz⟩ := hrel
    by_cases hlt : j < n
    · obtain ⟨zs, hoz⟩ := HO.out
      obtain ⟨G, rfl⟩ : ∃ G, g = some ⟨G, 0, none⟩ := by
        rcases hoz.2 with ⟨h, h0⟩ | ⟨G, cap', cur, hv, hg, _⟩
        · omega
        · exact ⟨G, (by simpa using hv : g = some ⟨G, 0, none⟩ ∧ c = cap').1⟩
      obtain ⟨hG1, hG2⟩ := HG.out G rfl
      have hzl : zs.length = n := by have := hoz.1; omega
      have hcz := hoz.cellAt j (by omega)
      rw [List.getElem?_eq_getElem (show j < zs.length by omega)] at hcz
      have hfz := hoz.frozenAt j
      have HST := hide (hoz.stored j (.int .u8 238)).1
      have HE' := hide (HE.out.set (i := j) hG2 (.int .u8 238))
      have HR' := hide (show REye (wr.setCell ⟨G, j, none⟩ (.int .u8 238)) w3.heap.size (some A) n cap 0 false from (Below.heap_setCell _ _ _ _ (by show w3.heap.size ≠ G; omega)).trans HRZ.out)
      generalize zs[j]'(by omega) = z at *
      clear hoz
      go_wp2
      go_roundw
      case rel => exact ⟨j + 1, by omega, by go_num, hide ⟨_, HST.out⟩, HE', HR', hbz.setCell (p := ⟨G, j, none⟩) hG1 _⟩
      case measure => simp [intOf]; omega
    · obtain ⟨wb, rfl⟩ : ∃ wb, wb = wr := ⟨_, rfl⟩
      have HEA := hide (show EyeAt wb E (xs.drop 0) false by rw [List.drop_zero]; exact HE.out.eye)
      clear HO HE HNE
      go_wp2
      go_loopw [44] (fun i wz => ∃ (k I : Nat) (bad : Bool), k ≤ ss.length ∧ i = .int .i64 k ∧ I ≤ n ∧ Hid (EyeAt wz E (xs.drop I) bad) ∧ Hid (REye wz w3.heap.size (some A) n cap I bad) ∧ Below w.heap.size w wz) (fun i _ => ss.length - (intOf i).toNat)
      case atStart => exact ⟨0, 0, false, Nat.zero_le _, rfl, Nat.zero_le _, HEA, HRZ, hbz⟩
      case round =>
        clear HEA HRZ hbz
        obtain ⟨k, I, bad, hk, rfl, hI, HEA, HRZ, hbz⟩ := hrel
        by_cases hlt2 : k < ss.length
        · obtain ⟨b, off, rfl, _, hcs⟩ := (HS.out.below hbz (Nat.le_refl _)).at hlt2
          have cs := hcs k hlt2
          have hsr : -9223372036854775808 ≤ ss[k]?.getD 0 ∧ ss[k]?.getD 0 ≤ 9223372036854775807 := by rw [List.getElem?_eq_getElem hlt2]; exact HSB.out _ (List.getElem_mem hlt2)
          generalize ss[k]?.getD 0 = s at *
          have hpar := and_one k (by omega)
          clear hcs
          by_cases hodd : k % 2 = 0
          · rw [hodd] at hpar
            clear hodd
            have HN1 := hide (eyeNum_at E xs n I bad s wr HX.out HEA.out HB.out hn hI)
            go_wp2_with fail
            refine HN1.out.mono ?_
            rintro e w5 ⟨rfl, heye5, hg5⟩
            have hb5 := hbz.grown hg5 hbz.size (fun j e => by cases e; omega)
            have hre5 : REye w5 w3.heap.size (some A) n cap I bad := (hg5.block _ (lt_of_block HRZ.out) (by intro e; cases e; omega)).trans HRZ.out
            have HN2 := hide (refEyeNum_any w3.heap.size (some A) xs n cap I bad s w5 hre5 (HR.out.below hb5 (Nat.le_refl _)) HB.out HX.out hnc hcm HN.out hI hn)
            have HE5 := hide heye5
            have HR5 := hide hre5
            clear heye5 hg5 hre5
            generalize valB (if sz s ≤ n - I then (xs.drop I).take (sz s) else []) = V at *
            have hI' : (if sz s ≤ n - I then I + sz s else n) ≤ n := by split <;> omega
            generalize (if sz s ≤ n - I then I + sz s else n) = I' at *
            generalize (bad || decide (n - I < sz s)) = bad' at *
            have hVV : (V != V) = false := by simp
            go_wp2_with fail
            refine HN2.out.mono ?_
            rintro e w6 ⟨rfl, hre6, hg6⟩
            have hb6 := hb5.grown hg6 hb5.size (fun j e => by cases e; omega)
            have heye6 := HE5.out.but HR5.out (But.of_grown hg6)
            have HE6 := hide heye6
            have HR6 := hide hre6
            have d0 := tri_cell0 hre6
            have d1 := tri_cell1 hre6
            have d2 := tri_cell2 hre6
            have hwn : IntKind.i64.wrap ((n : Int) - (I' : Int)) = (n : Int) - (I' : Int) := IntWalk.i64_in _ (by omega)
            have hni : ((n - I' : Nat) : Int) = (n : Int) - (I' : Int) := by omega
            have HL := fun W (h : EyeAt W E (xs.drop I') bad') => hide (left_at E xs n I' bad' W HX.out h)
            rw [hni] at HL
            have HLL := hide HL
            have hq1 : (((n : Int) - (I' : Int)) != ((n : Int) - (I' : Int))) = false := ne_false rfl
            have hq2 : (bad' != bad') = false := by simp
            clear HL hni heye6 hre6 hg6
            have HQ1 : Hid (∀ m, Calls Try.prog 20 #[.pointer (some ⟨E, 0, none⟩)] (w6.drewN m) fun e w' => e = .returned (.int .i64 ((n : Int) - (I' : Int))) ∧ w' = w6.drewN m) := fun m => (HLL.out (w6.drewN m) HE6.out).out.mono (fun _ _ h => ⟨h.1, h.2.symm⟩)
            have HQ2 : Hid (∀ m, Calls Try.prog 21 #[.pointer (some ⟨E, 0, none⟩)] (w6.drewN m) fun e w' => e = .returned (.bool bad') ∧ w' = w6.drewN m) := fun m => (bad_any E _ bad' (w6.drewN m) HE6.out).mono (fun _ _ h => ⟨h.1, h.2.symm⟩)
            go_wp2_with fail
            go_quiet ((first | (go_at_call 20; exact Calls.quiet_of_same (HQ1.out _)) | (go_at_call 21; exact Calls.quiet_of_same (HQ2.out _))))
            go_wp2
            go_roundw
            case rel => exact ⟨k + 1, I', bad', by omega, by go_num, hI', HE6, HR6, bdrewN hb6 _⟩
            case measure => simp [intOf]; omega
          · rw [show k % 2 = 1 by omega] at hpar
            clear hodd
            have HN1 := hide (eyeBytes_at E xs n I bad s wr HX.out HEA.out hn hI hsr)
            have hzl : (if s.toNat ≤ n - I then (xs.drop I).take s.toNat else []).length = (if s.toNat ≤ n - I then s.toNat else 0) := by
              split
              · rw [List.length_take, List.length_drop, HX.out]; omega
              · rfl
            have HZL := hide hzl
            have hM : (if s.toNat ≤ n - I then s.toNat else 0) ≤ 5000 := by split <;> omega
            have HB2 := fun (W : World) (hre : REye W w3.heap.size (some A) n cap I bad) (hr : Row .u8 W (some A) xs) => hide (refBytes_any w3.heap.size (some A) xs n cap I bad s W hre hr HX.out hnc hcm HN.out hI hn hsr.2)
            have hI' : (if s.toNat ≤ n - I then I + s.toNat else n) ≤ n := by split <;> omega
            generalize (if s.toNat ≤ n - I then (xs.drop I).take s.toNat else []) = Z at *
            generalize (if s.toNat ≤ n - I then s.toNat else 0) = M at *
            generalize (if s.toNat ≤ n - I then I + s.toNat else n) = I' at *
            generalize (bad || decide (n - I < s.toNat)) = bad' at *
            have HB3 := hide HB2
            have hcv : ∀ a c W, Row .u8 W a Z → (convert 24 9 (.slice a M c)).run Try.prog W = .ok (.string (strOfNums Z)) W := fun a c W hr => by
              have := conv_any a Z c W hr
              rw [hzl] at this; exact this
            generalize strOfNums Z = T at *
            have HCV := hide hcv
            have hTT : (T.toList == T.toList) = true := by simp
            clear hzl HB2 hcv
            go_wp2_with fail
            refine HN1.out.mono ?_
            rintro e w5 ⟨wq, ax, cx, rfl, hox, heye5, hg5, hb5q⟩
            have hbq := hbz.grown hg5 hbz.size (fun j e => by cases e; omega)
            have hb5 := hbq.trans (hb5q.mono hbq.size)
            have hRq : w3.heap.size < wq.heap.size := Nat.lt_of_lt_of_le (lt_of_block HRZ.out) hg5.size
            have hreq : REye wq w3.heap.size (some A) n cap I bad := (hg5.block _ (lt_of_block HRZ.out) (by intro e; cases e; omega)).trans HRZ.out
            have hre5 : REye w5 w3.heap.size (some A) n cap I bad := (hb5q.block _ hRq).trans hreq
            have HE5 := hide heye5
            have HRQ := hide hreq
            have HR5 := hide hre5
            have HOX := hide hox
            have HBQ := hide (But.of_below (R := w3.heap.size) hb5q (Nat.le_refl _))
            have HB5 := hide (HB3.out w5.drew hre5 ((HR.out.below hb5 (Nat.le_refl _)).below (Below.refl w5.heap.size w5).drew (Nat.le_refl _))).out
            have hd5 := HCV.out ax cx w5.drew ((Row.of_owns hox).below (Below.refl w5.heap.size w5).drew (Nat.le_refl _))
            clear heye5 hreq hre5 hox hg5 hb5q hbq
            go_wp2_with fail
            go_region_with (go_at_call 24; with_reducible refine HB5.out.mono ?_; rintro e w6 ⟨a6, c6, rfl, hr6, hre6, hg6⟩; have hox6 := owns_but (HOX.out.drew) hg6 hRq; have hd6 := HCV.out ax cx w6 (Row.of_owns hox6); have hd7 := HCV.out a6 c6 w6 hr6)
            all_goals
              have hbt : But w3.heap.size w5 w6 := ⟨(But.of_grown hg6).size, (But.of_grown hg6).block⟩
              have hb6 : Below w.heap.size w w6 := hb5.drew.grown hg6 hb5.size (fun j e => by cases e; omega)
              have HBT := hide (HBQ.out.trans hbt)
              have HOZ := hide (show ∃ zs, w6.ownsRow wq.heap.size 5 1 (.slice ax M cx) M zs from ⟨_, hox6⟩)
              have HRZ6 := hide hre6
              clear hd5 hd6 hd7 hr6 hre6 hg6 hbt hox6 hb5
              go_wp2
              go_loopw [71] (fun i wz => ∃ j : Nat, j ≤ M ∧ i = .int .i64 j ∧ Hid (∃ zs, wz.ownsRow wq.heap.size 5 1 (.slice ax M cx) M zs) ∧ Hid (REye wz w3.heap.size (some A) n cap I' bad') ∧ Hid (But w3.heap.size wq wz) ∧ Below w.heap.size w wz) (fun i _ => M - (intOf i).toNat)
              case atStart => exact ⟨0, Nat.zero_le _, rfl, HOZ, HRZ6, HBT, hb6⟩
              case round =>
                clear HOZ HRZ6 HBT hb6
                obtain ⟨jj, hjj, rfl, HOJ, HRJ, HBJ, hbj⟩ := hrel
                by_cases hlt3 : jj < M
                · obtain ⟨zs, hoz⟩ := HOJ.out
                  obtain ⟨G, rfl⟩ : ∃ G, ax = some ⟨G, 0, none⟩ := by
                    rcases hoz.2 with ⟨h, h0⟩ | ⟨G, cap', cur, hv, hg, _⟩
                    · omega
                    · exact ⟨G, (by simpa using hv : ax = some ⟨G, 0, none⟩ ∧ cx = cap').1⟩
                  obtain ⟨hG1, hG2⟩ := hoz.lt G rfl
                  have hzl : zs.length = M := by have := hoz.1; omega
                  have hcz := hoz.cellAt jj (by omega)
                  rw [List.getElem?_eq_getElem (show jj < zs.length by omega)] at hcz
                  have hfz := hoz.frozenAt jj
                  have HST := hide (hoz.stored jj (.int .u8 238)).1
                  have HR' := hide (show REye (wr.setCell ⟨G, jj, none⟩ (.int .u8 238)) w3.heap.size (some A) n cap I' bad' from (Below.heap_setCell _ _ _ _ (by show w3.heap.size ≠ G; omega)).trans HRJ.out)
                  have HB' := hide (HBJ.out.set (i := jj) hG1 (.int .u8 238))
                  generalize zs[jj]'(by omega) = z at *
                  clear hoz
                  go_wp2
                  go_roundw
                  case rel => exact ⟨jj + 1, by omega, by go_num, hide ⟨_, HST.out⟩, HR', HB', hbj.setCell (p := ⟨G, jj, none⟩) (by show w.heap.size ≤ G; omega) _⟩
                  case measure => simp [intOf]; omega
                · obtain ⟨w6, rfl⟩ : ∃ w6, w6 = wr := ⟨_, rfl⟩
                  have hre6 := HRJ.out
                  have heye6 := HE5.out.but HRQ.out HBJ.out
                  have hb6 := hbj
                  have HE6 := hide heye6
                  have HR6 := hide hre6
                  have d0 := tri_cell0 hre6
                  have d1 := tri_cell1 hre6
                  have d2 := tri_cell2 hre6
                  have hwn : IntKind.i64.wrap ((n : Int) - (I' : Int)) = (n : Int) - (I' : Int) := IntWalk.i64_in _ (by omega)
                  have hni : ((n - I' : Nat) : Int) = (n : Int) - (I' : Int) := by omega
                  have HL := fun W (h : EyeAt W E (xs.drop I') bad') => hide (left_at E xs n I' bad' W HX.out h)
                  rw [hni] at HL
                  have HLL := hide HL
                  have hq1 : (((n : Int) - (I' : Int)) != ((n : Int) - (I' : Int))) = false := ne_false rfl
                  have hq2 : (bad' != bad') = false := by simp
                  clear HL hni heye6 hre6
                  have HQ1 : Hid (∀ m, Calls Try.prog 20 #[.pointer (some ⟨E, 0, none⟩)] (w6.drewN m) fun e w' => e = .returned (.int .i64 ((n : Int) - (I' : Int))) ∧ w' = w6.drewN m) := fun m => (HLL.out (w6.drewN m) HE6.out).out.mono (fun _ _ h => ⟨h.1, h.2.symm⟩)
                  have HQ2 : Hid (∀ m, Calls Try.prog 21 #[.pointer (some ⟨E, 0, none⟩)] (w6.drewN m) fun e w' => e = .returned (.bool bad') ∧ w' = w6.drewN m) := fun m => (bad_any E _ bad' (w6.drewN m) HE6.out).mono (fun _ _ h => ⟨h.1, h.2.symm⟩)
                  go_wp2_with fail
                  go_quiet ((first | (go_at_call 20; exact Calls.quiet_of_same (HQ1.out _)) | (go_at_call 21; exact Calls.quiet_of_same (HQ2.out _))))
                  go_wp2
                  go_roundw
                  case rel => exact ⟨k + 1, I', bad', by omega, by go_num, hI', HE6, HR6, bdrewN hb6 _⟩
                  case measure => simp [intOf]; omega
        · go_wp2
          go_ret
          exact ⟨rfl, hbz⟩

set_option maxHeartbeats 3200000 in
theorem octetReads_nil (a : Option Addr) (xs : List Int) (n cap : Nat) (sa : Option Addr) (ss : List Int) (scap : Nat) (w : World) (hr : Row .u8 w a xs) (hxn : xs.length = n) (hb : ∀ x ∈ xs, 0 ≤ x ∧ x ≤ 255) (hnc : n ≤ cap) (hcm : cap ≤ 9223372036854775807) (hnil : a = none → cap = 0)
    (hs : Row .i64 w sa ss) (hsb : ∀ s ∈ ss, -9223372036854775808 ≤ s ∧ s ≤ 9223372036854775807) (hn : n ≤ 5000) (hl : ss.length ≤ 200) (hA : a = none) (hn0 : n = 0) (hc0 : cap = 0) :
    Calls Try.prog 4 #[.slice a n cap, .slice sa ss.length scap] w fun e w' => e = .returned (.bool true) ∧ Below w.heap.size w w' := by
  obtain ⟨i0, hi, hz0, hz1, hz2⟩ := info_parts Try.info5
  have HR := hide hr
  have HX := hide hxn
  have HB := hide hb
  have HS := hide hs
  have HSB := hide hsb
  have HN := hide hnil
  have HN0 := hide hn0
  have HC0 := hide hc0
  clear hr hxn hb hs hsb hnil hn0 hc0
  subst hA
  go_enter Try.func4, Try.ntmps4
  go_wp2_with fail
  refine (speaks1_any _).mono ?_
  rintro e w1 ⟨rfl, hbel⟩
  have hown0 : (w1.alloc (.cells #[] 5)).ownsRow w.heap.size 5 1 (.slice (some ⟨w1.heap.size, 0, none⟩) 0 0) 0 [] := World.ownsRow_lit w1 #[] 0 hbel.size (by unfold maxLen; omega) rfl
  have hba := hbel.alloc hbel.size (.cells #[] 5)
  have hx0 : xs = [] := List.length_eq_zero_iff.1 (by rw [HX.out]; exact HN0.out)
  obtain ⟨w2, hw2⟩ : ∃ w2, w1.alloc (.cells #[] 5) = w2 := ⟨_, rfl⟩
  have hown2 : w2.ownsRow w.heap.size 5 1 (.slice (some ⟨w1.heap.size, 0, none⟩) n 0) n (xs.map (Value.int .u8)) := by rw [← hw2, HN0.out, hx0]; exact hown0
  have hb2 : Below w.heap.size w w2 := by rw [← hw2]; exact hba
  have HO0 := hide (show w2.ownsRow w.heap.size 5 1 (.slice (some ⟨w1.heap.size, 0, none⟩) 0 0) 0 [] from by rw [← hw2]; exact hown0)
  clear hown0 hx0
  obtain ⟨g, hg⟩ : ∃ g, some (⟨w1.heap.size, 0, none⟩ : Addr) = g := ⟨_, rfl⟩
  obtain ⟨c, hcz⟩ : ∃ c, 0 = c := ⟨_, rfl⟩
  have HG0 := hide hg
  have HCZ := hide hcz
  clear hg hcz
  rw [HG0.out, HCZ.out] at hown2
  go_wp2_with (at_builtin; refine append_none_as rfl (.tmp 23) (.tmp 24) 24 rfl w.heap.size 5 i0 1 Try.underlying24 hi _ _ _ rfl HO0.out n cap HN0.out HC0.out rfl (.slice g n c) (by rw [← HG0.out, ← HCZ.out, HN0.out]; rfl) ?_)
  clear hw2
  have hne := newEye_more g xs c w2 (by have := Row.of_owns (k := .u8) hown2; exact this) (by rw [HX.out]; omega)
  rw [HX.out] at hne
  have HNE := hide hne
  have O2 := hide hown2
  clear hown2 hne
  go_wp2_with fail
  refine HNE.out.mono ?_
  rintro e w3 ⟨E, rfl, hE, hb23⟩
  have EN := hide hE
  clear hE
  have hRt : (w3.alloc (.cells #[.slice none n cap, .int .i64 0, .bool false] 38)).heap[w3.heap.size]? = some (.cells #[.slice none n cap, .int .i64 0, .bool false] 38 (0, 0)) := heap_alloc_new w3 _
  have HRE := hide (show REye (w3.alloc (.cells #[.slice none n cap, .int .i64 0, .bool false] 38)) w3.heap.size none n cap 0 false from hRt)
  have hb3 := hb2.trans (hb23.mono hb2.size)
  have hb4 := hb3.alloc hb3.size (.cells #[.slice none n cap, .int .i64 0, .bool false] 38)
  have hEN := EN.out.below ((Below.refl w3.heap.size w3).alloc (Nat.le_refl _) (.cells #[.slice none n cap, .int .i64 0, .bool false] 38)) (Nat.le_refl _)
  have EN4 := hide hEN
  have hown4 := (owns_below O2.out hb23 (Nat.le_refl _)).alloc (.cells #[.slice none n cap, .int .i64 0, .bool false] 38)
  have O4 := hide (show ∃ zs, (w3.alloc (.cells #[.slice none n cap, .int .i64 0, .bool false] 38)).ownsRow w.heap.size 5 1 (.slice g n c) n zs from ⟨_, hown4⟩)
  have hEl : E < w3.heap.size := by obtain ⟨_, _, h, _⟩ := EN.out.own; exact lt_of_block h
  have hE2 : w2.heap.size ≤ E := EN.out.lo
  have hs23 := hb23.size
  have hs02 := hb2.size
  have HG := hide O2.out.lt
  clear hRt hEN hown4
  go_wp2
  go_loopw [35] (fun i wz => ∃ j : Nat, j ≤ n ∧ i = .int .i64 j ∧ Hid (∃ zs, wz.ownsRow w.heap.size 5 1 (.slice g n c) n zs) ∧ Hid (EyeNew w2.heap.size wz E xs) ∧ Hid (REye wz w3.heap.size none n cap 0 false) ∧ Below w.heap.size w wz) (fun i _ => n - (intOf i).toNat)
  case atStart => exact ⟨0, Nat.zero_le _, rfl, O4, EN4, HRE, hb4⟩
  case round =>
    clear O4 EN4 HRE hb4
    obtain ⟨j, hj, rfl, HO, HE, HRZ, hbz⟩ := hrel
    by_cases hlt : j < n
    · obtain ⟨zs, hoz⟩ := HO.out
      obtain ⟨G, rfl⟩ : ∃ G, g = some ⟨G, 0, none⟩ := by
        rcases hoz.2 with ⟨h, h0⟩ | ⟨G, cap', cur, hv, hg, _⟩
        · omega
        · exact ⟨G, (by simpa using hv : g = some ⟨G, 0, none⟩ ∧ c = cap').1⟩
      obtain ⟨hG1, hG2⟩ := HG.out G rfl
      have hzl : zs.length = n := by have := hoz.1; omega
      have hcz := hoz.cellAt j (by omega)
      rw [List.getElem?_eq_getElem (show j < zs.length by omega)] at hcz
      have hfz := hoz.frozenAt j
      have HST := hide (hoz.stored j (.int .u8 238)).1
      have HE' := hide (HE.out.set (i := j) hG2 (.int .u8 238))
      have HR' := hide (show REye (wr.setCell ⟨G, j, none⟩ (.int .u8 238)) w3.heap.size none n cap 0 false from (Below.heap_setCell _ _ _ _ (by show w3.heap.size ≠ G; omega)).trans HRZ.out)
      generalize zs[j]'(by omega) = z at *
      clear hoz
      go_wp2
      go_roundw
      case rel => exact ⟨j + 1, by omega, by go_num, hide ⟨_, HST.out⟩, HE', HR', hbz.setCell (p := ⟨G, j, none⟩) hG1 _⟩
      case measure => simp [intOf]; omega
    · obtain ⟨wb, rfl⟩ : ∃ wb, wb = wr := ⟨_, rfl⟩
      have HEA := hide (show EyeAt wb E (xs.drop 0) false by rw [List.drop_zero]; exact HE.out.eye)
      clear HO HE HNE
      go_wp2
      go_loopw [44] (fun i wz => ∃ (k I : Nat) (bad : Bool), k ≤ ss.length ∧ i = .int .i64 k ∧ I ≤ n ∧ Hid (EyeAt wz E (xs.drop I) bad) ∧ Hid (REye wz w3.heap.size none n cap I bad) ∧ Below w.heap.size w wz) (fun i _ => ss.length - (intOf i).toNat)
      case atStart => exact ⟨0, 0, false, Nat.zero_le _, rfl, Nat.zero_le _, HEA, HRZ, hbz⟩
      case round =>
        clear HEA HRZ hbz
        obtain ⟨k, I, bad, hk, rfl, hI, HEA, HRZ, hbz⟩ := hrel
        by_cases hlt2 : k < ss.length
        · obtain ⟨b, off, rfl, _, hcs⟩ := (HS.out.below hbz (Nat.le_refl _)).at hlt2
          have cs := hcs k hlt2
          have hsr : -9223372036854775808 ≤ ss[k]?.getD 0 ∧ ss[k]?.getD 0 ≤ 9223372036854775807 := by rw [List.getElem?_eq_getElem hlt2]; exact HSB.out _ (List.getElem_mem hlt2)
          generalize ss[k]?.getD 0 = s at *
          have hpar := and_one k (by omega)
          clear hcs
          by_cases hodd : k % 2 = 0
          · rw [hodd] at hpar
            clear hodd
            have HN1 := hide (eyeNum_at E xs n I bad s wr HX.out HEA.out HB.out hn hI)
            go_wp2_with fail
            refine HN1.out.mono ?_
            rintro e w5 ⟨rfl, heye5, hg5⟩
            have hb5 := hbz.grown hg5 hbz.size (fun j e => by cases e; omega)
            have hre5 : REye w5 w3.heap.size none n cap I bad := (hg5.block _ (lt_of_block HRZ.out) (by intro e; cases e; omega)).trans HRZ.out
            have HN2 := hide (refEyeNum_any w3.heap.size none xs n cap I bad s w5 hre5 (HR.out.below hb5 (Nat.le_refl _)) HB.out HX.out hnc hcm (fun _ => HC0.out) hI hn)
            have HE5 := hide heye5
            have HR5 := hide hre5
            clear heye5 hg5 hre5
            generalize valB (if sz s ≤ n - I then (xs.drop I).take (sz s) else []) = V at *
            have hI' : (if sz s ≤ n - I then I + sz s else n) ≤ n := by split <;> omega
            generalize (if sz s ≤ n - I then I + sz s else n) = I' at *
            generalize (bad || decide (n - I < sz s)) = bad' at *
            have hVV : (V != V) = false := by simp
            go_wp2_with fail
            refine HN2.out.mono ?_
            rintro e w6 ⟨rfl, hre6, hg6⟩
            have hb6 := hb5.grown hg6 hb5.size (fun j e => by cases e; omega)
            have heye6 := HE5.out.but HR5.out (But.of_grown hg6)
            have HE6 := hide heye6
            have HR6 := hide hre6
            have d0 := tri_cell0 hre6
            have d1 := tri_cell1 hre6
            have d2 := tri_cell2 hre6
            have hwn : IntKind.i64.wrap ((n : Int) - (I' : Int)) = (n : Int) - (I' : Int) := IntWalk.i64_in _ (by omega)
            have hni : ((n - I' : Nat) : Int) = (n : Int) - (I' : Int) := by omega
            have HL := fun W (h : EyeAt W E (xs.drop I') bad') => hide (left_at E xs n I' bad' W HX.out h)
            rw [hni] at HL
            have HLL := hide HL
            have hq1 : (((n : Int) - (I' : Int)) != ((n : Int) - (I' : Int))) = false := ne_false rfl
            have hq2 : (bad' != bad') = false := by simp
            clear HL hni heye6 hre6 hg6
            have HQ1 : Hid (∀ m, Calls Try.prog 20 #[.pointer (some ⟨E, 0, none⟩)] (w6.drewN m) fun e w' => e = .returned (.int .i64 ((n : Int) - (I' : Int))) ∧ w' = w6.drewN m) := fun m => (HLL.out (w6.drewN m) HE6.out).out.mono (fun _ _ h => ⟨h.1, h.2.symm⟩)
            have HQ2 : Hid (∀ m, Calls Try.prog 21 #[.pointer (some ⟨E, 0, none⟩)] (w6.drewN m) fun e w' => e = .returned (.bool bad') ∧ w' = w6.drewN m) := fun m => (bad_any E _ bad' (w6.drewN m) HE6.out).mono (fun _ _ h => ⟨h.1, h.2.symm⟩)
            go_wp2_with fail
            go_quiet ((first | (go_at_call 20; exact Calls.quiet_of_same (HQ1.out _)) | (go_at_call 21; exact Calls.quiet_of_same (HQ2.out _))))
            go_wp2
            go_roundw
            case rel => exact ⟨k + 1, I', bad', by omega, by go_num, hI', HE6, HR6, bdrewN hb6 _⟩
            case measure => simp [intOf]; omega
          · rw [show k % 2 = 1 by omega] at hpar
            clear hodd
            have HN1 := hide (eyeBytes_at E xs n I bad s wr HX.out HEA.out hn hI hsr)
            have hzl : (if s.toNat ≤ n - I then (xs.drop I).take s.toNat else []).length = (if s.toNat ≤ n - I then s.toNat else 0) := by
              split
              · rw [List.length_take, List.length_drop, HX.out]; omega
              · rfl
            have HZL := hide hzl
            have hM : (if s.toNat ≤ n - I then s.toNat else 0) ≤ 5000 := by split <;> omega
            have HB2 := fun (W : World) (hre : REye W w3.heap.size none n cap I bad) (hr : Row .u8 W none xs) => hide (refBytes_any w3.heap.size none xs n cap I bad s W hre hr HX.out hnc hcm (fun _ => HC0.out) hI hn hsr.2)
            have hI' : (if s.toNat ≤ n - I then I + s.toNat else n) ≤ n := by split <;> omega
            generalize (if s.toNat ≤ n - I then (xs.drop I).take s.toNat else []) = Z at *
            generalize (if s.toNat ≤ n - I then s.toNat else 0) = M at *
            generalize (if s.toNat ≤ n - I then I + s.toNat else n) = I' at *
            generalize (bad || decide (n - I < s.toNat)) = bad' at *
            have HB3 := hide HB2
            have hcv : ∀ a c W, Row .u8 W a Z → (convert 24 9 (.slice a M c)).run Try.prog W = .ok (.string (strOfNums Z)) W := fun a c W hr => by
              have := conv_any a Z c W hr
              rw [hzl] at this; exact this
            generalize strOfNums Z = T at *
            have HCV := hide hcv
            have hTT : (T.toList == T.toList) = true := by simp
            clear hzl HB2 hcv
            go_wp2_with fail
            refine HN1.out.mono ?_
            rintro e w5 ⟨wq, ax, cx, rfl, hox, heye5, hg5, hb5q⟩
            have hbq := hbz.grown hg5 hbz.size (fun j e => by cases e; omega)
            have hb5 := hbq.trans (hb5q.mono hbq.size)
            have hRq : w3.heap.size < wq.heap.size := Nat.lt_of_lt_of_le (lt_of_block HRZ.out) hg5.size
            have hreq : REye wq w3.heap.size none n cap I bad := (hg5.block _ (lt_of_block HRZ.out) (by intro e; cases e; omega)).trans HRZ.out
            have hre5 : REye w5 w3.heap.size none n cap I bad := (hb5q.block _ hRq).trans hreq
            have HE5 := hide heye5
            have HRQ := hide hreq
            have HR5 := hide hre5
            have HOX := hide hox
            have HBQ := hide (But.of_below (R := w3.heap.size) hb5q (Nat.le_refl _))
            have HB5 := hide (HB3.out w5.drew hre5 ((HR.out.below hb5 (Nat.le_refl _)).below (Below.refl w5.heap.size w5).drew (Nat.le_refl _))).out
            have hd5 := HCV.out ax cx w5.drew ((Row.of_owns hox).below (Below.refl w5.heap.size w5).drew (Nat.le_refl _))
            clear heye5 hreq hre5 hox hg5 hb5q hbq
            go_wp2_with fail
            go_region_with (go_at_call 24; with_reducible refine HB5.out.mono ?_; rintro e w6 ⟨a6, c6, rfl, hr6, hre6, hg6⟩; have hox6 := owns_but (HOX.out.drew) hg6 hRq; have hd6 := HCV.out ax cx w6 (Row.of_owns hox6); have hd7 := HCV.out a6 c6 w6 hr6)
            all_goals
              have hbt : But w3.heap.size w5 w6 := ⟨(But.of_grown hg6).size, (But.of_grown hg6).block⟩
              have hb6 : Below w.heap.size w w6 := hb5.drew.grown hg6 hb5.size (fun j e => by cases e; omega)
              have HBT := hide (HBQ.out.trans hbt)
              have HOZ := hide (show ∃ zs, w6.ownsRow wq.heap.size 5 1 (.slice ax M cx) M zs from ⟨_, hox6⟩)
              have HRZ6 := hide hre6
              clear hd5 hd6 hd7 hr6 hre6 hg6 hbt hox6 hb5
              go_wp2
              go_loopw [71] (fun i wz => ∃ j : Nat, j ≤ M ∧ i = .int .i64 j ∧ Hid (∃ zs, wz.ownsRow wq.heap.size 5 1 (.slice ax M cx) M zs) ∧ Hid (REye wz w3.heap.size none n cap I' bad') ∧ Hid (But w3.heap.size wq wz) ∧ Below w.heap.size w wz) (fun i _ => M - (intOf i).toNat)
              case atStart => exact ⟨0, Nat.zero_le _, rfl, HOZ, HRZ6, HBT, hb6⟩
              case round =>
                clear HOZ HRZ6 HBT hb6
                obtain ⟨jj, hjj, rfl, HOJ, HRJ, HBJ, hbj⟩ := hrel
                by_cases hlt3 : jj < M
                · obtain ⟨zs, hoz⟩ := HOJ.out
                  obtain ⟨G, rfl⟩ : ∃ G, ax = some ⟨G, 0, none⟩ := by
                    rcases hoz.2 with ⟨h, h0⟩ | ⟨G, cap', cur, hv, hg, _⟩
                    · omega
                    · exact ⟨G, (by simpa using hv : ax = some ⟨G, 0, none⟩ ∧ cx = cap').1⟩
                  obtain ⟨hG1, hG2⟩ := hoz.lt G rfl
                  have hzl : zs.length = M := by have := hoz.1; omega
                  have hcz := hoz.cellAt jj (by omega)
                  rw [List.getElem?_eq_getElem (show jj < zs.length by omega)] at hcz
                  have hfz := hoz.frozenAt jj
                  have HST := hide (hoz.stored jj (.int .u8 238)).1
                  have HR' := hide (show REye (wr.setCell ⟨G, jj, none⟩ (.int .u8 238)) w3.heap.size none n cap I' bad' from (Below.heap_setCell _ _ _ _ (by show w3.heap.size ≠ G; omega)).trans HRJ.out)
                  have HB' := hide (HBJ.out.set (i := jj) hG1 (.int .u8 238))
                  generalize zs[jj]'(by omega) = z at *
                  clear hoz
                  go_wp2
                  go_roundw
                  case rel => exact ⟨jj + 1, by omega, by go_num, hide ⟨_, HST.out⟩, HR', HB', hbj.setCell (p := ⟨G, jj, none⟩) (by show w.heap.size ≤ G; omega) _⟩
                  case measure => simp [intOf]; omega
                · obtain ⟨w6, rfl⟩ : ∃ w6, w6 = wr := ⟨_, rfl⟩
                  have hre6 := HRJ.out
                  have heye6 := HE5.out.but HRQ.out HBJ.out
                  have hb6 := hbj
                  have HE6 := hide heye6
                  have HR6 := hide hre6
                  have d0 := tri_cell0 hre6
                  have d1 := tri_cell1 hre6
                  have d2 := tri_cell2 hre6
                  have hwn : IntKind.i64.wrap ((n : Int) - (I' : Int)) = (n : Int) - (I' : Int) := IntWalk.i64_in _ (by omega)
                  have hni : ((n - I' : Nat) : Int) = (n : Int) - (I' : Int) := by omega
                  have HL := fun W (h : EyeAt W E (xs.drop I') bad') => hide (left_at E xs n I' bad' W HX.out h)
                  rw [hni] at HL
                  have HLL := hide HL
                  have hq1 : (((n : Int) - (I' : Int)) != ((n : Int) - (I' : Int))) = false := ne_false rfl
                  have hq2 : (bad' != bad') = false := by simp
                  clear HL hni heye6 hre6
                  have HQ1 : Hid (∀ m, Calls Try.prog 20 #[.pointer (some ⟨E, 0, none⟩)] (w6.drewN m) fun e w' => e = .returned (.int .i64 ((n : Int) - (I' : Int))) ∧ w' = w6.drewN m) := fun m => (HLL.out (w6.drewN m) HE6.out).out.mono (fun _ _ h => ⟨h.1, h.2.symm⟩)
                  have HQ2 : Hid (∀ m, Calls Try.prog 21 #[.pointer (some ⟨E, 0, none⟩)] (w6.drewN m) fun e w' => e = .returned (.bool bad') ∧ w' = w6.drewN m) := fun m => (bad_any E _ bad' (w6.drewN m) HE6.out).mono (fun _ _ h => ⟨h.1, h.2.symm⟩)
                  go_wp2_with fail
                  go_quiet ((first | (go_at_call 20; exact Calls.quiet_of_same (HQ1.out _)) | (go_at_call 21; exact Calls.quiet_of_same (HQ2.out _))))
                  go_wp2
                  go_roundw
                  case rel => exact ⟨k + 1, I', bad', by omega, by go_num, hI', HE6, HR6, bdrewN hb6 _⟩
                  case measure => simp [intOf]; omega
        · go_wp2
          go_ret
          exact ⟨rfl, hbz⟩
end Go.Proofs.Ytjongigofaobdaa
