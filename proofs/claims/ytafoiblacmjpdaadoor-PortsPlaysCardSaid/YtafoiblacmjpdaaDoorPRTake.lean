/- Ports: the document's Take. -/
import Derived.Test.YtafoiblacmjpdaaDoorPRef
namespace Go.Proofs.YtafoiblacmjpdaaDoor
open Go.RowKit Go.Deep
set_option linter.unusedVariables false
set_option linter.unusedSimpArgs false
set_option maxRecDepth 100000
def tkF (p : Int) (s : List Int × Bool) (x : Int) : List Int × Bool := if (!s.2 && decide (p < x)) = true then (s.1 ++ [p] ++ [x], true) else (s.1 ++ [x], s.2)
def tkS (p : Int) (xs : List Int) : List Int × Bool := xs.foldl (tkF p) ([], false)
def tkL (p : Int) (xs : List Int) : List Int := if (tkS p xs).2 = true then (tkS p xs).1 else (tkS p xs).1 ++ [p]
theorem tkS_snoc (p : Int) (xs : List Int) (x : Int) : tkS p (xs ++ [x]) = tkF p (tkS p xs) x := by unfold tkS; rw [List.foldl_append]; rfl
theorem tkS_len (p : Int) (xs : List Int) : (tkS p xs).1.length = xs.length + (if (tkS p xs).2 = true then 1 else 0) := by
  have h : ∀ n, (tkS p (xs.take n)).1.length = (xs.take n).length + (if (tkS p (xs.take n)).2 = true then 1 else 0) := by
    intro n
    induction n with
    | zero => simp [tkS]
    | succ n ih =>
      cases hx : xs[n]? with
      | none =>
        have hl := List.getElem?_eq_none_iff.1 hx
        rw [List.take_of_length_le (by omega), ← List.take_of_length_le (l := xs) (i := n) hl]; exact ih
      | some x =>
        rw [List.take_add_one, hx, Option.toList_some, tkS_snoc]
        unfold tkF
        cases hb : (tkS p (xs.take n)).2 <;> rw [hb] at ih <;> cases hd : decide (p < x) <;> simp_all <;> omega
  have h2 := h xs.length
  rwa [List.take_length] at h2
theorem rtake_no (R : Nat) (xs : List Int) (p : Int) (w : World) (h : RAt w R xs) (hn : p < 1024 ∨ p ∈ xs) :
    Calls Tryd.prog 11 #[.pointer (some ⟨R, 0, none⟩), .int .i64 p] w fun e w' => e = .returned (.bool false) ∧ w' = w := by
  have HH := hide (rhas_any R xs p w h)
  have HX := hide h
  by_cases hl : p < 1024
  · have d1 : decide (p < 1024) = true := by simp; omega
    clear hn hl
    go_enter Tryd.func11, Tryd.ntmps11
    go_wp2_with fail
    go_ret
    exact ⟨rfl, rfl⟩
  · have d1 : decide (p < 1024) = false := by simp; omega
    have hm : decide (p ∈ xs) = true := by simp; rcases hn with h | h; omega; exact h
    rw [hm] at HH
    clear hn hl hm
    go_enter Tryd.func11, Tryd.ntmps11
    go_wp2_with fail
    refine HH.out.mono ?_
    rintro e w1 ⟨rfl, rfl⟩
    go_wp2_with fail
    go_ret
    exact ⟨rfl, rfl⟩
theorem pushI (wz : World) (K : Nat) (oa : Option Addr) (oc on : Nat) (ys : List Int) (hown : wz.ownsRow K 3 1 (.slice oa on oc) on (ys.map (Value.int .i64))) (y : Int) (hs : on ≤ 1000000) (hK : K ≤ wz.heap.size) :
    ∃ a' c' w', (Builtin.append_ #[27, 27] 27 #[.slice oa on oc, .slice (some ⟨wz.heap.size, 0, none⟩) 1 1]).run Tryd.prog (wz.alloc (.cells #[.int .i64 y] 3)) = .ok (.slice a' (on + 1) c') w' ∧ w'.ownsRow K 3 1 (.slice a' (on + 1) c') (on + 1) ((ys ++ [y]).map (Value.int .i64)) ∧ Below K wz w' := by
  have hal : Below wz.heap.size wz (wz.alloc (.cells #[.int .i64 y] 3)) := (Below.refl _ _).alloc (Nat.le_refl _) _
  have hr2 := hown.alloc (.cells #[.int .i64 y] 3)
  obtain ⟨a3, c3, V3, hrun, hown3, hg3, _⟩ := appI _ K oa on oc _ hr2 wz.heap.size y (heap_alloc_new _ _) hs (by have := hal.size; omega)
  exact ⟨a3, c3, V3, hrun, hown3, (hal.mono hK).grown hg3 (by have := hal.size; omega) (fun z e => (hr2.lt z e).1)⟩
set_option maxHeartbeats 2000000 in
theorem rtake_yes (R : Nat) (xs : List Int) (p : Int) (w : World) (h : RAt w R xs) (hl : ¬ p < 1024) (hm : p ∉ xs) (hlen : xs.length ≤ 90000) :
    Calls Tryd.prog 11 #[.pointer (some ⟨R, 0, none⟩), .int .i64 p] w fun e w' => e = .returned (.bool true) ∧ RAt w' R (tkL p xs) ∧ OnlyB R w w' := by
  have HH := rhas_any R xs p w h
  rw [show decide (p ∈ xs) = false by simp [hm]] at HH
  replace HH := hide HH
  obtain ⟨a, c, h1, h2, h3⟩ := h.cell
  have d1 : decide (p < 1024) = false := by simp; omega
  obtain ⟨n, hn⟩ : ∃ n, xs.length = n := ⟨_, rfl⟩
  have HN := hide hn
  have HLB := hide (show n ≤ 90000 by rw [← hn]; exact hlen)
  rw [hn] at h1
  have HX := hide (And.intro h1 (And.intro h2 h3))
  clear h hl hm hlen hn h1 h2 h3
  go_enter Tryd.func11, Tryd.ntmps11
  go_wp2_with fail
  refine HH.out.mono ?_
  rintro e w1 ⟨rfl, rfl⟩
  clear HH
  obtain ⟨K, hK⟩ : ∃ K, w1.heap.size = K := ⟨_, rfl⟩
  have HK := hide hK
  have hlit := World.ownsRow_lit (base := K) (e := 3) (size := 1) w1 #[] 0 (by omega) (by unfold maxLen; omega) rfl
  have hal : Below K w1 (w1.alloc (.cells #[] 3)) := by rw [← hK]; exact (Below.refl _ _).alloc (Nat.le_refl _) _
  have HS := hide (And.intro hlit hal)
  clear hlit hal hK
  go_wp2_with fail
  go_loopw [5, 6, 7] (fun ov bv i wz => ∃ (j on : Nat) (oa : Option Addr) (oc : Nat) (b : Bool), j ≤ n ∧ i = .int .i64 j ∧ bv = .bool b ∧ ov = .slice oa on oc ∧ Hid ((tkS p (xs.take j)).2 = b ∧ on ≤ j + 1 ∧ Below K w1 wz ∧ wz.ownsRow K 3 1 (.slice oa on oc) on ((tkS p (xs.take j)).1.map (Value.int .i64)))) (fun _ _ i _ => n - (intOf i).toNat)
  case atStart => exact ⟨0, 0, _, _, false, Nat.zero_le _, rfl, rfl, rfl, hide ⟨rfl, by omega, HS.out.2, HS.out.1⟩⟩
  case round =>
    clear HS
    obtain ⟨j, on, oa, oc, b, hj, rfl, rfl, rfl, HT⟩ := hrel
    have hRK : R < K := by have := HK.out; have := lt_of_block HX.out.1; omega
    obtain ⟨u0, uf⟩ := one_cell ((HT.out.2.2.1.block R hRK).trans HX.out.1)
    have hj4 : (0 : Int) ≤ (j : Int) := by omega
    have hj5 : (j : Int) ≤ 90000 := by have := HLB.out; omega
    by_cases hlt : j < n
    · have d2 : decide (j < n) = true := by simp; omega
      obtain ⟨b1, off, he, hbl, hc⟩ := HX.out.2.1.at (i := j) (by have := HN.out; omega)
      have hbK : b1 < K := by have := HK.out; omega
      have hcj := (HT.out.2.2.1.cell (p := ⟨b1, off + j, none⟩) hbK).trans (hc j (by have := HN.out; omega))
      obtain ⟨x, hx⟩ : ∃ x, xs[j]?.getD 0 = x := ⟨_, rfl⟩
      rw [hx] at hcj
      have HST := hide (show tkS p (xs.take (j + 1)) = tkF p (tkS p (xs.take j)) x by
        have hj2 : j < xs.length := by have := HN.out; omega
        rw [List.take_add_one, List.getElem?_eq_getElem hj2, Option.toList_some, tkS_snoc]
        rw [List.getElem?_eq_getElem hj2, Option.getD_some] at hx
        rw [hx])
      obtain ⟨g, hg⟩ : ∃ g, decide (p < x) = g := ⟨_, rfl⟩
      have hwr : K ≤ wr.heap.size := by have := HT.out.2.2.1.size; have := HK.out; omega
      subst he
      clear hc hbl hx
      cases b with
      | true =>
        obtain ⟨a5, c5, w5, hrun, o5, b5⟩ := pushI wr K oa oc on _ HT.out.2.2.2 x (by have := HT.out.2.1; have := HLB.out; omega) hwr
        have HRUN := hide hrun
        have HY := hide (show (tkS p (xs.take (j + 1))).2 = true ∧ on + 1 ≤ j + 1 + 1 ∧ Below K w1 w5 ∧ w5.ownsRow K 3 1 (.slice a5 (on + 1) c5) (on + 1) ((tkS p (xs.take (j + 1))).1.map (Value.int .i64)) from by
          rw [HST.out]
          unfold tkF
          rw [HT.out.1]
          exact ⟨rfl, by have := HT.out.2.1; omega, HT.out.2.2.1.trans b5, o5⟩)
        clear hrun o5 b5 HT hg
        go_wp2_with (at_builtin; refine Lib.wpList_append_run _ rfl _ _ _ _ rfl _ _ rfl rfl _ _ HRUN.out ?_)
        exact ⟨⟨j + 1, on + 1, a5, c5, true, by omega, by go_num, rfl, rfl, HY⟩, by simp [intOf]; omega⟩
      | false =>
        cases g with
        | false =>
          obtain ⟨a5, c5, w5, hrun, o5, b5⟩ := pushI wr K oa oc on _ HT.out.2.2.2 x (by have := HT.out.2.1; have := HLB.out; omega) hwr
          have HRUN := hide hrun
          have HY := hide (show (tkS p (xs.take (j + 1))).2 = false ∧ on + 1 ≤ j + 1 + 1 ∧ Below K w1 w5 ∧ w5.ownsRow K 3 1 (.slice a5 (on + 1) c5) (on + 1) ((tkS p (xs.take (j + 1))).1.map (Value.int .i64)) from by
            rw [HST.out]
            unfold tkF
            rw [HT.out.1, hg]
            exact ⟨rfl, by have := HT.out.2.1; omega, HT.out.2.2.1.trans b5, o5⟩)
          clear hrun o5 b5 HT
          go_wp2_with (at_builtin; refine Lib.wpList_append_run _ rfl _ _ _ _ rfl _ _ rfl rfl _ _ HRUN.out ?_)
          exact ⟨⟨j + 1, on + 1, a5, c5, false, by omega, by go_num, rfl, rfl, HY⟩, by simp [intOf]; omega⟩
        | true =>
          obtain ⟨a5, c5, w5, hrun, o5, b5⟩ := pushI wr K oa oc on _ HT.out.2.2.2 p (by have := HT.out.2.1; have := HLB.out; omega) hwr
          have HRUN := hide hrun
          have hw5 : K ≤ w5.heap.size := Nat.le_trans hwr b5.size
          obtain ⟨a6, c6, w6, hrun6, o6, b6⟩ := pushI w5 K a5 c5 (on + 1) _ o5 x (by have := HT.out.2.1; have := HLB.out; omega) hw5
          have HRUN6 := hide hrun6
          have u5 := (b5.cell (p := ⟨R, 0, none⟩) hRK).trans u0
          have hc5 := (b5.cell (p := ⟨b1, off + j, none⟩) hbK).trans hcj
          have HY := hide (show (tkS p (xs.take (j + 1))).2 = true ∧ on + 1 + 1 ≤ j + 1 + 1 ∧ Below K w1 w6 ∧ w6.ownsRow K 3 1 (.slice a6 (on + 1 + 1) c6) (on + 1 + 1) ((tkS p (xs.take (j + 1))).1.map (Value.int .i64)) from by
            rw [HST.out]
            unfold tkF
            rw [HT.out.1, hg]
            refine ⟨rfl, ?_, (HT.out.2.2.1.trans b5).trans b6, o6⟩
            have h1 := HT.out.2.2.2.1
            have h2 := tkS_len p (xs.take j)
            rw [HT.out.1] at h2
            have h3 : (xs.take j).length = j := by rw [List.length_take]; have := HN.out; omega
            simp at h1 h2
            omega)
          clear hrun o5 b5 hrun6 o6 b6 HT
          go_wp2_with (at_builtin; first | (refine Lib.wpList_append_run _ rfl _ _ _ _ rfl _ _ rfl rfl _ _ HRUN.out ?_) | (refine Lib.wpList_append_run _ rfl _ _ _ _ rfl _ _ rfl rfl _ _ HRUN6.out ?_))
          exact ⟨⟨j + 1, on + 1 + 1, a6, c6, true, by omega, by go_num, rfl, rfl, HY⟩, by simp [intOf]; omega⟩
    · have d2 : decide (j < n) = false := by simp; omega
      have hjn : xs.take j = xs := List.take_of_length_le (by have := HN.out; omega)
      have HTB := hide (show on ≤ n + 1 by have := HT.out.2.1; omega)
      cases b with
      | true =>
        obtain ⟨w7, hw7⟩ : ∃ z, wr.setCell ⟨R, 0, none⟩ (.slice oa on oc) = z := ⟨_, rfl⟩
        have HF := hide (show RAt w7 R (tkL p xs) ∧ OnlyB R w1 w7 from by
          have hb : Below K w1 wr := HT.out.2.2.1
          have ho : wr.ownsRow K 3 1 (.slice oa on oc) on ((tkL p xs).map (Value.int .i64)) := (by unfold tkL; rw [← hjn, HT.out.1]; exact HT.out.2.2.2)
          have hh := (hb.block R hRK).trans HX.out.1
          have hset := heap_setCell_same wr R 0 _ _ (.slice oa on oc) hh
          have hoth := fun b (hb : b ≠ R) => heap_setCell_other wr ⟨R, 0, none⟩ b (.slice oa on oc) hb
          have hon : (tkL p xs).length = on := by have := ho.1; simpa using this
          rw [← hw7]
          refine ⟨⟨⟨oa, oc, by rw [hon]; exact hset, ?_, fun b e => by have h1 := (ho.lt b.block (by rw [e]; rfl)).1; omega⟩, by have := HLB.out; have := HTB.out; omega, cap_of hset (owns_cap ho)⟩, (OnlyB.of (by rw [HK.out]; exact hb)).setCell 0 _⟩
          refine Row.of_owns (base := K) (e := 3) (n := on) (cap := oc) ⟨ho.1, ?_⟩
          rcases ho.2 with g | ⟨g, cap, cur, hv, hg, hh2, r⟩
          · exact .inl g
          · exact .inr ⟨g, cap, cur, hv, hg, (hoth g (by omega)).trans hh2, r⟩)
        clear HT hjn
        go_wp2_with fail
        go_ret
        exact ⟨rfl, HF.out⟩
      | false =>
        have hwr : K ≤ wr.heap.size := by have := HT.out.2.2.1.size; have := HK.out; omega
        obtain ⟨a5, c5, w5, hrun, o5, b5⟩ := pushI wr K oa oc on _ HT.out.2.2.2 p (by have := HTB.out; have := HLB.out; omega) hwr
        have HRUN := hide hrun
        have u5 := (b5.cell (p := ⟨R, 0, none⟩) hRK).trans u0
        have f5 := (one_cell ((b5.block R hRK).trans ((HT.out.2.2.1.block R hRK).trans HX.out.1))).2
        obtain ⟨w7, hw7⟩ : ∃ z, w5.setCell ⟨R, 0, none⟩ (.slice a5 (on + 1) c5) = z := ⟨_, rfl⟩
        have HF := hide (show RAt w7 R (tkL p xs) ∧ OnlyB R w1 w7 from by
          have hb : Below K w1 w5 := (HT.out.2.2.1.trans b5)
          have ho : w5.ownsRow K 3 1 (.slice a5 (on + 1) c5) (on + 1) ((tkL p xs).map (Value.int .i64)) := (by unfold tkL; rw [← hjn, HT.out.1]; exact o5)
          have hh := (hb.block R hRK).trans HX.out.1
          have hset := heap_setCell_same w5 R 0 _ _ (.slice a5 (on + 1) c5) hh
          have hoth := fun b (hb : b ≠ R) => heap_setCell_other w5 ⟨R, 0, none⟩ b (.slice a5 (on + 1) c5) hb
          have hon : (tkL p xs).length = (on + 1) := by have := ho.1; simpa using this
          rw [← hw7]
          refine ⟨⟨⟨a5, c5, by rw [hon]; exact hset, ?_, fun b e => by have h1 := (ho.lt b.block (by rw [e]; rfl)).1; omega⟩, by have := HLB.out; have := HTB.out; omega, cap_of hset (owns_cap ho)⟩, (OnlyB.of (by rw [HK.out]; exact hb)).setCell 0 _⟩
          refine Row.of_owns (base := K) (e := 3) (n := (on + 1)) (cap := c5) ⟨ho.1, ?_⟩
          rcases ho.2 with g | ⟨g, cap, cur, hv, hg, hh2, r⟩
          · exact .inl g
          · exact .inr ⟨g, cap, cur, hv, hg, (hoth g (by omega)).trans hh2, r⟩)
        clear HT hjn hrun o5 b5
        go_wp2_with (at_builtin; refine Lib.wpList_append_run _ rfl _ _ _ _ rfl _ _ rfl rfl _ _ HRUN.out ?_)
        go_ret
        exact ⟨rfl, HF.out⟩
end Go.Proofs.YtafoiblacmjpdaaDoor
