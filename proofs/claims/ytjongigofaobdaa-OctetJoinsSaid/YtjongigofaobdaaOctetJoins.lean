/- The law that texts are put one behind the other, and stay, walked. -/
import Derived.Test.YtjongigofaobdaaSpeaks
import Derived.Test.YtjongigofaobdaaJoin
namespace Go.Proofs.Ytjongigofaobdaa
open Go.RowKit
set_option linter.unusedVariables false
set_option linter.unusedSimpArgs false
theorem Try.info24 : (Try.prog.info? 24).map (fun i => (i.zero, i.size, i.bytes)) = some (some (.slice none 0 0), 1, 24) := by kernel_rfl

theorem strOf_append (xs ys : List Int) : strOfNums (xs ++ ys) = strOfNums xs ++ strOfNums ys := by
  apply ByteArray.ext
  rw [ByteArray.data_append]
  simp [strOfNums]

/-- Blocks of bytes stay. -/
def Keep5 (w w' : World) : Prop := ∀ (B : Nat) (cs : Array Value), w.heap[B]? = some (.cells cs 5 (0, 0)) → w'.heap[B]? = some (.cells cs 5 (0, 0))
theorem Keep5.owns {w w' : World} {base : Nat} {v : Value} {n : Nat} {xs : List Value} (h : Keep5 w w') (ho : w.ownsRow base 5 1 v n xs) : w'.ownsRow base 5 1 v n xs := by
  refine ⟨ho.1, ?_⟩
  rcases ho.2 with h1 | ⟨g, cap, cur, hv, hg, hh, r⟩
  · exact .inl h1
  · exact .inr ⟨g, cap, cur, hv, hg, h g cur hh, r⟩
/-- Behind an append to an owned row of another type blocks of bytes stay. -/
theorem keep5_grown {w w' : World} {base : Nat} {v : Value} {n : Nat} {xs : List Value} {o : Obj} (ho : w.ownsRow base 24 1 v n xs) (hg : (w.alloc o).grownBy w' v.ownBlock) : Keep5 w w' := fun B cs hB => by
  have hlt := lt_of_block hB
  refine (hg.block B (by simp; omega) ?_).trans ((Below.heap_alloc _ _ _ hlt).trans hB)
  intro e
  rcases ho.2 with ⟨h, _⟩ | ⟨g, c', cur, hv, hg, hh, _⟩
  · rw [h] at e; simp [Value.ownBlock] at e
  · rw [hv] at e; simp [Value.ownBlock] at e; subst e; rw [hh] at hB; simp at hB

/-- The parts that the law has copied. -/
structure Cops (base : Nat) (w : World) (v : Value) (k : Nat) (P : List Part) : Prop where
  own : w.ownsRow base 24 1 v k (P.map Part.v)
  rows : ∀ p ∈ P, w.ownsRow base 5 1 (Part.v p) p.2.1.length (p.2.1.map (Value.int .u8))

theorem Cops.parts {base : Nat} {w : World} {a : Option Addr} {k c : Nat} {P : List Part} (h : Cops base w (.slice a k c) k P) : P.length = k ∧ Parts w a P ∧ (a = none → c = 0) := by
  have hl : P.length = k := by have := h.own.1; simpa using this
  refine ⟨hl, ⟨fun hne => ?_, fun p hp => ⟨Row.of_owns (h.rows p hp), none_cap (h.rows p hp)⟩⟩, none_cap h.own⟩
  rcases h.own.2 with ⟨hv, h0⟩ | ⟨g, cap, cur, hv, hg, hh, _⟩
  · exact absurd (List.length_eq_zero_iff.1 (by omega)) hne
  · obtain ⟨rfl, rfl⟩ : a = some ⟨g, 0, none⟩ ∧ c = cap := by simpa using hv
    refine ⟨g, 0, rfl, lt_of_block hh, fun i p hi => ?_⟩
    have hil : i < P.length := (List.getElem?_eq_some_iff.1 hi).1
    rw [show 0 + i = i from by omega, h.own.cellAt i (by omega), List.getElem?_map, hi]; rfl

theorem Cops.below {base : Nat} {w w' : World} {v : Value} {k : Nat} {P : List Part} {B : Nat} (h : Cops base w v k P) (hb : Below B w w') (hB : w.heap.size ≤ B) : Cops base w' v k P :=
  ⟨owns_below h.own hb hB, fun p hp => owns_below (h.rows p hp) hb hB⟩
theorem flat_eq {P L : List Part} (h : P.map (·.2.1) = L.map (·.2.1)) : flat P = flat L := by
  unfold flat
  rw [List.flatMap_def, List.flatMap_def, h]
theorem map_at {P L : List Part} (h : P.map (·.2.1) = L.map (·.2.1)) (i : Nat) (p q : Part) (hp : P[i]? = some p) (hq : L[i]? = some q) : p.2.1 = q.2.1 := by
  have := congrArg (fun l => l[i]?) h
  simp only [List.getElem?_map, hp, hq, Option.map_some, Option.some.injEq] at this
  exact this
theorem one_part (p : Part) : ∀ u ∈ [Part.v p], u.oneCell' = true := by
  intro u hu; simp at hu; subst hu; rfl

set_option maxHeartbeats 3200000 in
theorem octetJoins_any (a : Option Addr) (L : List Part) (cap : Nat) (w : World) (hp : Parts w a L) (hb : ∀ p ∈ L, ∀ x ∈ p.2.1, 0 ≤ x ∧ x ≤ 255) :
    Calls Try.prog 6 #[.slice a L.length cap] w fun e w' => e = .returned (.bool true) ∧ Below w.heap.size w w' := by
  by_cases hl : 100 < L.length
  · go_enter Try.func6, Try.ntmps6
    go_wp2_with (go_at_call 13; refine (speaks1_any _).mono ?_; rintro e w1 ⟨rfl, hbel⟩)
    go_ret
    exact ⟨rfl, hbel⟩
  · obtain ⟨i0, hi, hz0, hz1, hz2⟩ := info_parts Try.info5
    obtain ⟨j0, hj, hy0, hy1, hy2⟩ := info_parts Try.info24
    have HPT := hide hp
    have HB := hide hb
    clear hp hb
    go_enter Try.func6, Try.ntmps6
    go_wp2_with fail
    refine (speaks1_any _).mono ?_
    rintro e w1 ⟨rfl, hbel⟩
    have hown0 : Cops w.heap.size (w1.alloc (.cells #[] 24)) (.slice (some ⟨w1.heap.size, 0, none⟩) 0 0) 0 [] := ⟨World.ownsRow_lit w1 #[] 0 hbel.size (by unfold maxLen; omega) rfl, by simp⟩
    have hbel0 := hbel.alloc hbel.size (.cells #[] 24)
    go_wp2
    go_loopw [3, 4, 18] (fun v s i wr => ∃ (k : Nat) (a' : Option Addr) (c' : Nat) (P : List Part) (S : ByteArray), k ≤ L.length ∧ i = .int .i64 k ∧ v = .slice a' k c' ∧ s = .string S ∧ S = strOfNums (flat (L.take k)) ∧ S.size ≤ 1000 * k ∧
        Cops w.heap.size wr (.slice a' k c') k P ∧ P.map (·.2.1) = (L.take k).map (·.2.1) ∧ Below w.heap.size w wr)
      (fun _ _ i _ => L.length - (intOf i).toNat)
    case atStart => exact ⟨0, _, _, [], _, Nat.zero_le _, rfl, rfl, rfl, rfl, Nat.zero_le _, hown0, rfl, hbel0⟩
    case round =>
      clear hown0 hbel0 hbel
      obtain ⟨k, a', c', P, S, hk, rfl, rfl, rfl, hS, hSs, hcop, hPL, hbel⟩ := hrel
      have HS := hide hS
      have HC := hide hcop
      have HP := hide hPL
      clear hS hcop hPL
      by_cases hlt : k < L.length
      · obtain ⟨p, hpk⟩ : ∃ p, L[k]? = some p := ⟨L[k], List.getElem?_eq_getElem hlt⟩
        have hp := HPT.out.below hbel (Nat.le_refl _)
        obtain ⟨b, off, rfl, hbl, hc⟩ := hp.cells (by intro e; rw [e] at hlt; simp at hlt)
        obtain ⟨hrow, hnil⟩ := hp.rows p (List.mem_of_getElem? hpk)
        have cx := hc k p hpk
        have hfs := flat_snoc L k p hpk
        have htk : (L.take (k + 1)).map (·.2.1) = (L.take k).map (·.2.1) ++ [p.2.1] := by
          rw [List.take_add_one, hpk]; simp
        unfold Part.v at cx
        obtain ⟨pa, pxs, pc⟩ := p
        simp only at cx hfs hrow hnil htk
        have HF := hide hfs
        have HT := hide htk
        have HPK := hide hpk
        clear hfs hpk hc hp htk
        by_cases hl3 : 1000 < pxs.length
        · clear hrow hnil
          go_wp2
          go_ret
          exact ⟨rfl, hbel⟩
        · have hown1 : (wr.alloc (.cells #[] 5)).ownsRow w.heap.size 5 1 (.slice (some ⟨wr.heap.size, 0, none⟩) 0 0) 0 [] := World.ownsRow_lit wr #[] 0 hbel.size (by unfold maxLen; omega) rfl
          have hba := hbel.alloc hbel.size (.cells #[] 5)
          have hR := hide (hrow.below ((Below.refl wr.heap.size wr).alloc (Nat.le_refl _) (.cells #[] 5)) (Nat.le_refl _))
          have HO1 := hide hown1
          clear hown1 hrow
          have HRW := hide ((HPT.out.rows _ (List.mem_of_getElem? HPK.out)).1)
          simp only at HRW
          cases pa with
          | none =>
            obtain rfl := row_none HRW.out
            obtain rfl := hnil rfl
            clear hnil
            obtain ⟨w2, hw2⟩ : ∃ w2, wr.alloc (.cells #[] 5) = w2 := ⟨_, rfl⟩
            have hb2' : Below wr.heap.size wr w2 := by rw [← hw2]; exact (Below.refl _ _).alloc (Nat.le_refl _) _
            have B2 : Below w.heap.size w w2 := by rw [← hw2]; exact hba
            have O2 := hide (show w2.ownsRow w.heap.size 5 1 (.slice (some ⟨wr.heap.size, 0, none⟩) 0 0) 0 [] from by rw [← hw2]; exact HO1.out)
            have hcop2 := HC.out.below hb2' (Nat.le_refl _)
            have hrow2 := HPT.out.below B2 (Nat.le_refl _)
            have C2 := hide hcop2
            clear hcop2 hrow2 hb2'
            go_wp2_with (first | (at_builtin; refine wpList_append_own_none rfl (.tmp 26) (.tmp 27) 24 rfl w.heap.size 5 i0 1 Try.underlying24 hi _ _ _ rfl HO1.out rfl ?_; rw [hw2]) | (at_builtin; refine wpList_append_own _ rfl (.tmp 25) (.tmp 29) 46 rfl w.heap.size 24 j0 (.slice none 0 0) 1 24 Try.underlying46 hj hy0 hy1 hy2 rfl (by decide) _ _ _ rfl (C2.out.own.alloc _) ⟨w2.heap.size, 0, none⟩ 1 1 [.slice (some ⟨wr.heap.size, 0, none⟩) 0 0] rfl rfl (new_cell _ _ _) (one_part (some ⟨wr.heap.size, 0, none⟩, [], 0)) (by unfold maxLen; omega) (by omega) (by have := B2.size; simp; omega) ?_))
            intro v3 w3 hown3 hgrow3 _
            have hk5 := keep5_grown C2.out.own hgrow3
            obtain ⟨a3, c3, rfl⟩ := slice_form hown3
            have hcop3 : Cops w.heap.size w3 (.slice a3 (k + 1) c3) (k + 1) (P ++ [(some ⟨wr.heap.size, 0, none⟩, ([] : List Int), 0)]) :=
              ⟨by rw [List.map_append]; exact hown3, fun p hp => by
                rcases List.mem_append.1 hp with h | h
                · exact hk5.owns (C2.out.rows p h)
                · simp at h; subst h; exact hk5.owns O2.out⟩
            have B3 : Below w.heap.size w w3 := (B2.alloc B2.size _).grown hgrow3 (by have := B2.size; simp; omega) (fun j e => (C2.out.own.lt j e).1)
            have hrw : Row .u8 w3 none ([] : List Int) := HRW.out.below B3 (Nat.le_refl _)
            have hcv := conv_any none ([] : List Int) 0 w3 hrw
            have hsz := strOfNums_size ([] : List Int)
            have HST := hide (strOf_append (flat (L.take k)) ([] : List Int))
            rw [← HS.out, ← HF.out] at HST
            generalize strOfNums ([] : List Int) = T at *
            replace hcv : (convert 24 9 (.slice none 0 0)).run Try.prog w3 = .ok (.string T) w3 := hcv
            replace hsz : T.size = 0 := hsz
            have hTs : T.size ≤ 1000 := by omega
            have hSb : S.size + T.size ≤ 9223372036854775807 := by omega
            have C3 := hide hcop3
            have HTS := hide hsz
            clear hcop3 hown3 hgrow3 hk5 hrw hsz
            go_wp2
            go_roundw
            case rel => exact ⟨k + 1, a3, c3, _, _, by omega, by go_num, rfl, rfl, HST.out.symm, by rw [ByteArray.size_append]; omega, C3.out, by rw [List.map_append, HP.out, HT.out]; rfl, B3⟩
            case measure => simp [intOf]; omega
          | some ad =>
            clear hnil
            have HCL := hide (row_cells hR.out)
            go_wp2_with (at_builtin; refine wpList_append_own _ rfl _ _ 24 rfl w.heap.size 5 i0 (.int .u8 0) 1 1 Try.underlying24 hi hz0 hz1 hz2 rfl (by decide) _ _ _ rfl HO1.out ad pxs.length pc (pxs.map (Value.int .u8)) rfl (by simp) HCL.out (ints_one _ _) (by unfold maxLen; omega) (by omega) (by have := hbel.size; simp; omega) ?_)
            intro v' w2 hown2 hgrow _
            replace hown2 : w2.ownsRow w.heap.size 5 1 v' pxs.length (pxs.map (Value.int .u8)) := by simpa using hown2
            obtain ⟨a2, c2, rfl⟩ := slice_form hown2
            have B2 : Below w.heap.size w w2 := hba.grown hgrow hba.size (fun j e => (HO1.out.lt j e).1)
            have hb2' : Below wr.heap.size wr w2 := ((Below.refl wr.heap.size wr).alloc (Nat.le_refl _) _).grown hgrow (by simp) (fun j e => by cases e; exact Nat.le_refl _)
            have O2 := hide hown2
            clear hown2 hgrow
            have hcop2 := HC.out.below hb2' (Nat.le_refl _)
            have hrow2 := HPT.out.below B2 (Nat.le_refl _)
            have C2 := hide hcop2
            clear hcop2 hrow2 hb2'
            go_wp2_with (at_builtin; refine wpList_append_own _ rfl _ _ 46 rfl w.heap.size 24 j0 (.slice none 0 0) 1 24 Try.underlying46 hj hy0 hy1 hy2 rfl (by decide) _ _ _ rfl (C2.out.own.alloc _) ⟨w2.heap.size, 0, none⟩ 1 1 [.slice a2 pxs.length c2] rfl rfl (new_cell _ _ _) (one_part (a2, pxs, c2)) (by unfold maxLen; omega) (by omega) (by have := B2.size; simp; omega) ?_)
            intro v3 w3 hown3 hgrow3 _
            have hk5 := keep5_grown C2.out.own hgrow3
            obtain ⟨a3, c3, rfl⟩ := slice_form hown3
            have hcop3 : Cops w.heap.size w3 (.slice a3 (k + 1) c3) (k + 1) (P ++ [(a2, pxs, c2)]) :=
              ⟨by rw [List.map_append]; exact hown3, fun p hp => by
                rcases List.mem_append.1 hp with h | h
                · exact hk5.owns (C2.out.rows p h)
                · simp at h; subst h; exact hk5.owns O2.out⟩
            have B3 : Below w.heap.size w w3 := (B2.alloc B2.size _).grown hgrow3 (by have := B2.size; simp; omega) (fun j e => (C2.out.own.lt j e).1)
            have hrw : Row .u8 w3 (some ad) pxs := HRW.out.below B3 (Nat.le_refl _)
            have hcv := conv_any (some ad) pxs pc w3 hrw
            have hsz := strOfNums_size pxs
            have HST := hide (strOf_append (flat (L.take k)) pxs)
            rw [← HS.out, ← HF.out] at HST
            generalize strOfNums pxs = T at *
            have hTs : T.size ≤ 1000 := by omega
            have hSb : S.size + T.size ≤ 9223372036854775807 := by omega
            have C3 := hide hcop3
            have HTS := hide hsz
            clear hcop3 hown3 hgrow3 hk5 hrw hsz
            go_wp2
            go_roundw
            case rel => exact ⟨k + 1, a3, c3, _, _, by omega, by go_num, rfl, rfl, HST.out.symm, by rw [ByteArray.size_append]; omega, C3.out, by rw [List.map_append, HP.out, HT.out]; rfl, B3⟩
            case measure => simp [intOf]; omega
      · obtain ⟨wa, rfl⟩ : ∃ wa, wa = wr := ⟨_, rfl⟩
        have hkn : k = L.length := by omega
        have HPE := hide (show P.map (·.2.1) = L.map (·.2.1) by rw [HP.out, hkn, List.take_length])
        have hSL : S = strOfNums (flat L) := by rw [HS.out, hkn, List.take_length]
        have hSz : (flat L).length ≤ 100000 := by rw [← strOfNums_size, ← hSL]; omega
        obtain ⟨hPl, hPP, hPn⟩ := HC.out.parts
        have hj := join_any a' P c' wa hPP (by rw [flat_eq HPE.out]; omega) (by omega)
        rw [flat_eq HPE.out, hPl] at hj
        have HJ := hide hj
        have HSL := hide hSL
        have HPL := hide hPl
        have HPPH := hide hPP
        clear hj hSL hPl hPP hPn HP HS hkn
        go_wp2_with fail
        refine HJ.out.mono ?_
        rintro e w2 ⟨g, c, rfl, hown, hbel2⟩
        have hcv := conv_any g (flat L) c w2 (Row.of_owns hown)
        rw [← HSL.out] at hcv
        have hss : (S.toList == S.toList) = true := by simp
        have hb2 := hbel.trans (hbel2.mono hbel.size)
        have HO2 := hide (show ∃ zs, w2.ownsRow wa.heap.size 5 1 (.slice g (flat L).length c) (flat L).length zs from ⟨_, hown⟩)
        clear hown HSL
        generalize (flat L).length = n at *
        go_wp2
        go_loopw [44] (fun i wz => ∃ j : Nat, j ≤ n ∧ i = .int .i64 j ∧ Hid (∃ zs, wz.ownsRow wa.heap.size 5 1 (.slice g n c) n zs) ∧ Below wa.heap.size wa wz) (fun i _ => n - (intOf i).toNat)
        case atStart => exact ⟨0, Nat.zero_le _, rfl, HO2, hbel2⟩
        case round =>
          clear hcv HO2 hbel2 hb2
          obtain ⟨j, hj, rfl, HO3, hbz⟩ := hrel
          by_cases hlt2 : j < n
          · obtain ⟨zs, hoz⟩ := HO3.out
            obtain ⟨G, rfl, hGb⟩ : ∃ G, g = some ⟨G, 0, none⟩ ∧ wa.heap.size ≤ G := by
              rcases hoz.2 with ⟨h, h0⟩ | ⟨G, cap', cur, hv, hg, _⟩
              · omega
              · exact ⟨G, by simpa using (by simpa using hv : g = some ⟨G, 0, none⟩ ∧ c = cap').1, hg⟩
            have hzl : zs.length = n := by have := hoz.1; omega
            have hcz := hoz.cellAt j (by omega)
            rw [List.getElem?_eq_getElem (show j < zs.length by omega)] at hcz
            have hfz := hoz.frozenAt j
            have HST := hide (hoz.stored j (.int .u8 238)).1
            generalize zs[j]'(by omega) = z at *
            clear hoz
            go_wp2
            go_roundw
            case rel => exact ⟨j + 1, by omega, by go_num, hide ⟨_, HST.out⟩, hbz.setCell (p := ⟨G, j, none⟩) hGb _⟩
            case measure => simp [intOf]; omega
          · have hcz := HC.out.below hbz (Nat.le_refl _)
            have hbw := hbel.trans (hbz.mono hbel.size)
            have hLz := HPT.out.below hbw (Nat.le_refl _)
            have HCZ := hide hcz.parts.2.1
            have HLZ := hide hLz
            clear hcz hLz HO3
            go_wp2
            obtain ⟨wb, rfl⟩ : ∃ wb, wb = wr := ⟨_, rfl⟩
            go_loopw [53] (fun i wz => ∃ j : Nat, j ≤ k ∧ i = .int .i64 j ∧ Below wb.heap.size wb wz) (fun i _ => k - (intOf i).toNat)
            case atStart => exact ⟨0, Nat.zero_le _, rfl, Below.refl _ _⟩
            case round =>
              obtain ⟨q, hq, rfl, hbq⟩ := hrel
              by_cases hlt3 : q < k
              · obtain ⟨p1, hp1⟩ : ∃ p1, P[q]? = some p1 := ⟨_, List.getElem?_eq_getElem (show q < P.length by rw [HPL.out]; exact hlt3)⟩
                obtain ⟨p2, hp2⟩ : ∃ p2, L[q]? = some p2 := ⟨_, List.getElem?_eq_getElem (show q < L.length by omega)⟩
                have hpe := map_at HPE.out q p1 p2 hp1 hp2
                have hA := HCZ.out.below hbq (Nat.le_refl _)
                have hC := HLZ.out.below hbq (Nat.le_refl _)
                obtain ⟨b1, o1, rfl, hb1, hx1⟩ := hA.cells (by intro e; rw [e] at hp1; simp at hp1)
                obtain ⟨b2, o2, rfl, hb2, hx2⟩ := hC.cells (by intro e; rw [e] at hp2; simp at hp2)
                have e1 := hx1 q p1 hp1
                have e2 := hx2 q p2 hp2
                have r1 := (hA.rows p1 (List.mem_of_getElem? hp1)).1
                have r2 := (hC.rows p2 (List.mem_of_getElem? hp2)).1
                obtain ⟨A1, X1, D1⟩ := p1
                obtain ⟨A2, X2, D2⟩ := p2
                unfold Part.v at e1 e2
                simp only at hpe r1 r2 e1 e2
                subst hpe
                have v1 : ∀ nq, (convert 24 9 (.slice A1 X1.length D1)).run Try.prog (wr.drewN nq) = .ok (.string (strOfNums X1)) (wr.drewN nq) := fun nq => conv_any A1 X1 D1 _ (r1.below (bdrewN (Below.refl wr.heap.size wr) nq) (Nat.le_refl _))
                have v2 : ∀ nq, (convert 24 9 (.slice A2 X1.length D2)).run Try.prog (wr.drewN nq) = .ok (.string (strOfNums X1)) (wr.drewN nq) := fun nq => conv_any A2 X1 D2 _ (r2.below (bdrewN (Below.refl wr.heap.size wr) nq) (Nat.le_refl _))
                generalize strOfNums X1 = T at *
                generalize X1.length = xl at *
                have htt : (T.toList == T.toList) = true := by simp
                have hq1 : (q : Int) < (k : Int) := by omega
                have hq2 : (q : Int) < (L.length : Int) := by omega
                clear hA hC hx1 hx2 r1 r2 hp1 hp2
                go_wp2
                go_quiet (fail)
                go_wp2
                go_roundw
                case rel => exact ⟨q + 1, by omega, by go_num, bdrewN hbq _⟩
                case measure => simp [intOf]; omega
              · have hj0 := join_any none [] 0 wr ⟨fun h => absurd rfl h, by simp⟩ (by simp [flat]) (by simp)
                have hf0 : (flat []).length = 0 := rfl
                rw [hf0] at hj0
                have HJ0 := hide hj0
                clear hj0 hf0
                go_wp2_with fail
                refine HJ0.out.mono ?_
                rintro e w5 ⟨a5, c5, rfl, _, hbel5⟩
                go_wp2
                go_ret
                exact ⟨rfl, (hbw.trans (hbq.mono hbw.size)).trans (hbel5.mono (Nat.le_trans hbw.size hbq.size))⟩
end Go.Proofs.Ytjongigofaobdaa
