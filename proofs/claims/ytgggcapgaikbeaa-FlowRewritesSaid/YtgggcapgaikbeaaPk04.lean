/- The document's small functions of layer 5: two, lay, Sum. -/
import Derived.Test.YtgggcapgaikbeaaPk01
import Derived.Test.YtgggcapgaikbeaaPk03
import Derived.Lib.AppendZerosOnto
namespace Go.Proofs.Ytgggcapgaikbeaa
open Go.RowKit
set_option linter.unusedVariables false
set_option linter.unusedSimpArgs false
set_option maxRecDepth 100000
/-- An append onto a row of one's own: it runs. -/
theorem app_own (V : World) (base : Nat) (v : Value) (n : Nat) (xs : List Int) (hV : V.ownsRow base 5 1 v n (xs.map (Value.int .u8))) (a : Option Addr) (ys : List Int) (m c : Nat) (hr : Row .u8 V a ys) (hl : ys.length = m) (hn : a = none → c = 0)
    (hs : n + m ≤ 1099511627776) (hb : base ≤ V.heap.size) :
    ∃ v' w', (Builtin.append_ #[25, 25] 25 #[v, .slice a m c]).run Try.prog V = .ok v' w' ∧ (w'.ownsRow base 5 1 v' (n + m) ((xs ++ ys).map (Value.int .u8)) ∧ Below base V w') := by
  obtain ⟨i0, hi, hz0, hz1, hz2⟩ := info_parts Try.info5
  cases a with
  | none =>
    have hy : ys = [] := row_none hr
    have hm0 : m = 0 := by rw [← hl, hy]; rfl
    have hrun := run_append_owned_none (P := Try.prog) (w := V) base 25 25 5 i0 1 Try.underlying25 hi v n (xs.map (Value.int .u8)) hV
    rw [hn rfl, hm0, hy, List.append_nil]
    exact ⟨_, _, hrun, hV, Below.refl _ _⟩
  | some ad =>
    obtain ⟨v', w', h1, h2, h3, _⟩ := run_append_own (P := Try.prog) V base 25 25 5 i0 (.int .u8 0) 1 1 Try.underlying25 hi hz0 hz1 hz2 rfl (by decide) v n (xs.map (Value.int .u8)) hV ad m c (ys.map (Value.int .u8)) (by simp [hl]) (row_cells hr) (ints_one _ _) (by unfold maxLen; omega) (by omega) hb
    rw [← List.map_append] at h2
    exact ⟨_, _, h1, h2, (Below.refl base V).grown h3 hb (fun k e => (hV.lt k e).1)⟩
theorem refNum2_own (n : Nat) (w : World) (hn : n < 18446744073709551616) :
    Calls Try.prog 48 #[.int .i64 2, .int .u64 n] w fun e w' => ∃ g c, e = .returned (.slice (some ⟨g, 0, none⟩) 2 c) ∧ w'.ownsRow w.heap.size 5 1 (.slice (some ⟨g, 0, none⟩) 2 c) 2 ((numB 2 n).map (Value.int .u8)) ∧ Below w.heap.size w w' := refNum_own 2 n w hn
theorem refNum4_own (n : Nat) (w : World) (hn : n < 18446744073709551616) :
    Calls Try.prog 48 #[.int .i64 4, .int .u64 n] w fun e w' => ∃ g c, e = .returned (.slice (some ⟨g, 0, none⟩) 4 c) ∧ w'.ownsRow w.heap.size 5 1 (.slice (some ⟨g, 0, none⟩) 4 c) 4 ((numB 4 n).map (Value.int .u8)) ∧ Below w.heap.size w w' := refNum_own 4 n w hn
theorem two_any (n : Nat) (w : World) (hn : n ≤ 1000000) :
    Calls Try.prog 61 #[.int .i64 n] w fun e w' => ∃ g c, e = .returned (.slice (some ⟨g, 0, none⟩) 2 c) ∧ w'.ownsRow w.heap.size 5 1 (.slice (some ⟨g, 0, none⟩) 2 c) 2 ((numB 2 n).map (Value.int .u8)) ∧ Below w.heap.size w w' := by
  have hc : IntKind.u64.wrap (n : Int) = (n : Int) := wraps_u64 _ (by omega) (by omega)
  go_enter Try.func61, Try.ntmps61
  go_wp2_with fail
  refine (refNum2_own n w (by omega)).mono ?_
  rintro e w1 ⟨g, c, rfl, o, b⟩
  have O := hide o
  have B := hide b
  clear o b
  go_wp2
  go_ret
  exact ⟨g, c, rfl, O.out, B.out⟩
theorem numB2 (v : Nat) (h : v ≤ 65535) : numB 2 v = [((v / 256 : Nat) : Int), ((v % 256 : Nat) : Int)] := by
  have h1 : numB 2 v = [byteAt v 1, byteAt v 0] := rfl
  rw [h1]; unfold byteAt; simp; omega
theorem owns_store {w : World} {base n c g : Nat} {xs : List Int} {i : Nat} {v : Int} (h : w.ownsRow base 5 1 (.slice (some ⟨g, 0, none⟩) n c) n (xs.map (Value.int .u8))) (hi : i < n) :
    (w.setCell ⟨g, i, none⟩ (.int .u8 v)).ownsRow base 5 1 (.slice (some ⟨g, 0, none⟩) n c) n ((xs.set i v).map (Value.int .u8)) := by
  rcases h.2 with ⟨h0, _⟩ | ⟨r, cap, cur, hv, hr, hh, hnc, hcm, hcs, htk⟩
  · cases h0
  · obtain ⟨rfl, rfl⟩ : g = r ∧ c = cap := by simpa using hv
    have hlt := lt_of_block hh
    have h' : w.heap[g] = .cells cur 5 (0, 0) := by simpa [Array.getElem?_eq_getElem hlt] using hh
    refine ⟨by have := h.1; simpa using this, .inr ⟨g, c, cur.setIfInBounds i (.int .u8 v), rfl, hr, ?_, hnc, hcm, by simpa using hcs, ?_⟩⟩
    · show (w.heap.modify g _)[g]? = _
      rw [Array.getElem?_eq_getElem (by simpa using hlt), Array.getElem_modify_self, h']
      rfl
    · rw [Array.toList_setIfInBounds, List.take_set, htk, List.map_set]
theorem spl2 : ∀ (i : Nat) (xs : List Int) (a b : Int), i + 2 ≤ xs.length → (xs.set i a).set (i + 1) b = spl xs i [a, b]
  | 0, x :: y :: r, a, b, _ => by simp [spl]
  | i + 1, x :: r, a, b, h => by
    have ih := spl2 i r a b (by simp at h; omega)
    simp only [List.set_cons_succ, ih]
    simp [spl, Nat.add_right_comm]
  | 0, [x], a, b, h => by simp at h
  | 0, [], a, b, h => by simp at h
  | i + 1, [], a, b, h => by simp at h
set_option maxHeartbeats 800000 in
theorem rlay_any (base n c at' : Nat) (a : Option Addr) (xs : List Int) (v : Nat) (w : World) (hown : w.ownsRow base 5 1 (.slice a n c) n (xs.map (Value.int .u8))) (hat : at' + 2 ≤ n) (hn : n ≤ 1000000) (hv : v ≤ 65535) :
    Calls Try.prog 49 #[.slice a n c, .int .i64 at', .int .u16 v] w fun e w' => e = .returned (.slice a n c) ∧
      w'.ownsRow base 5 1 (.slice a n c) n ((spl xs at' (numB 2 v)).map (Value.int .u8)) ∧ Below base w w' := by
  obtain ⟨g, rfl, hgb, hgl⟩ : ∃ g, a = some ⟨g, 0, none⟩ ∧ base ≤ g ∧ g < w.heap.size := by
    rcases hown.2 with ⟨_, h0⟩ | ⟨g, c', cur, hv, hg, hh, _⟩
    · omega
    · obtain ⟨rfl, rfl⟩ : a = some ⟨g, 0, none⟩ ∧ c = c' := by simpa using hv
      exact ⟨g, rfl, hg, lt_of_block hh⟩
  have hxl : xs.length = n := by have := hown.1; simpa using this
  have ho1 := owns_store (v := ((v / 256 : Nat) : Int)) hown (show at' < n by omega)
  have ho2 := owns_store (v := ((v % 256 : Nat) : Int)) ho1 (show at' + 1 < n by omega)
  rw [spl2 _ _ _ _ (by omega), ← numB2 v hv] at ho2
  have c0 := hown.cellAt at' (by omega)
  have c1 := ho1.cellAt (at' + 1) (by omega)
  have fr : ∀ (W : World) (ys : List Int), W.ownsRow base 5 1 (.slice (some ⟨g, 0, none⟩) n c) n (ys.map (Value.int .u8)) → ∀ i, W.frozen? ⟨g, i, none⟩ = false := fun W ys h i => by
    rcases h.2 with ⟨h0, _⟩ | ⟨r, cap, cur, hv, hr, hh, _⟩
    · cases h0
    · obtain ⟨rfl, rfl⟩ : g = r ∧ c = cap := by simpa using hv
      simp [World.frozen?, hh]
  have f0 := fr _ _ hown at'
  have f1 := fr _ _ ho1 (at' + 1)
  have hd1 : (v : Int) / 256 = ((v / 256 : Nat) : Int) := by omega
  have hd2 : (v : Int) % 256 = ((v % 256 : Nat) : Int) := by omega
  have hq : IntKind.u8.wrap ((v / 256 : Nat) : Int) = ((v / 256 : Nat) : Int) := by rw [IntKind.wrap_u8]; omega
  have hq2 : IntKind.u8.wrap ((v % 256 : Nat) : Int) = ((v % 256 : Nat) : Int) := by rw [IntKind.wrap_u8]; omega
  obtain ⟨y0, hy0⟩ : ∃ y0, (xs.map (Value.int .u8))[at']? = some y0 := ⟨_, List.getElem?_eq_getElem (by simp; omega)⟩
  rw [hy0] at c0
  obtain ⟨y1, hy1⟩ : ∃ y1, ((xs.set at' ((v / 256 : Nat) : Int)).map (Value.int .u8))[at' + 1]? = some y1 := ⟨_, List.getElem?_eq_getElem (by simp; omega)⟩
  rw [hy1] at c1
  have HO := hide ho2
  clear hown ho1 ho2 fr hxl hy0 hy1
  have ha : IntKind.i64.wrap ((at' : Int) + 1) = (at' : Int) + 1 := IntWalk.i64_in _ (by omega)
  have hb0 : (0 : Int) ≤ (at' : Int) := by omega
  have hb1 : (at' : Int) < (n : Int) := by omega
  have hb2 : (at' : Int) + 1 < (n : Int) := by omega
  have hta : ((at' : Int) + 1).toNat = at' + 1 := by omega
  generalize v / 256 = v1 at *
  generalize v % 256 = v2 at *
  have hbl : Below base w ((w.setCell ⟨g, at', none⟩ (.int .u8 v1)).setCell ⟨g, at' + 1, none⟩ (.int .u8 v2)) := ((Below.refl _ _).setCell (by simpa using hgb) _).setCell (by simpa using hgb) _
  have HB := hide hbl
  clear hbl
  go_enter Try.func49, Try.ntmps49
  go_wp2
  go_ret
  exact ⟨rfl, HO.out, HB.out⟩

set_option maxHeartbeats 1600000 in
theorem rsum_any (src dst proto n c : Nat) (a : Option Addr) (xs : List Int) (w : World) (hr : Row .u8 w a xs) (hno : a = none → c = 0) (hl : xs.length = n) (hb : ∀ x ∈ xs, 0 ≤ x ∧ x ≤ 255) (h1 : src ≤ 4294967295) (h2 : dst ≤ 4294967295) (h3 : proto ≤ 255) (h4 : n ≤ 100000) :
    Calls Try.prog 60 #[.int .u32 src, .int .u32 dst, .int .u8 proto, .slice a n c] w fun e w' => e = .returned (.int .u16 (csum (psB src dst proto n ++ xs))) ∧ Below w.heap.size w w' := by
  have HR := hide hr
  have HL := hide hl
  have HNO := hide hno
  have HBB := hide hb
  have hc1 : IntKind.u64.wrap (src : Int) = (src : Int) := wraps_u64 _ (by omega) (by omega)
  have hc2 : IntKind.u64.wrap (dst : Int) = (dst : Int) := wraps_u64 _ (by omega) (by omega)
  clear hr hl hno hb
  go_enter Try.func60, Try.ntmps60
  go_wp2_with fail
  refine (refNum4_own src w (by omega)).mono ?_
  rintro e w1 ⟨g1, c1, rfl, o1, b1⟩
  have O1 := hide o1
  have B1 := hide b1
  clear o1 b1
  go_wp2_with fail
  refine (refNum4_own dst w1 (by omega)).mono ?_
  rintro e w2 ⟨g2, c2, rfl, o2, b2⟩
  have B2 := hide (B1.out.trans (b2.mono B1.out.size))
  obtain ⟨v3, w3, hrun3, o3, b3⟩ := app_own w2 w.heap.size (.slice (some ⟨g1, 0, none⟩) 4 c1) 4 (numB 4 src) (owns_below O1.out b2 (Nat.le_refl _)) (some ⟨g2, 0, none⟩) (numB 4 dst) 4 c2 (Row.of_owns o2) (numB_len _ _) (fun h => by cases h) (by omega) B2.out.size
  obtain ⟨a3, c3, rfl⟩ := slice_form o3
  have HRUN3 := hide hrun3
  have O3 := hide o3
  have B3 := hide (B2.out.trans b3)
  clear o2 b2 o3 b3 hrun3
  have ha3 : Below w.heap.size w3 (w3.alloc (.cells #[.int .u8 0, .int .u8 (proto : Int)] 5)) := (Below.refl _ _).alloc B3.out.size _
  have hlit : Row .u8 (w3.alloc (.cells #[.int .u8 0, .int .u8 (proto : Int)] 5)) (some ⟨w3.heap.size, 0, none⟩) [0, (proto : Int)] :=
    Row.of_owns (base := w3.heap.size) (e := 5) (n := 2) (cap := 2) (World.ownsRow_lit w3 #[.int .u8 0, .int .u8 (proto : Int)] 2 (Nat.le_refl _) (by unfold maxLen; omega) rfl)
  obtain ⟨v4, w4, hrun4, o4, b4⟩ := app_own _ w.heap.size (.slice a3 (4 + 4) c3) (4 + 4) (numB 4 src ++ numB 4 dst) (O3.out.alloc _) (some ⟨w3.heap.size, 0, none⟩) [0, (proto : Int)] 2 2 hlit rfl (fun h => by cases h) (by omega) (by have := B3.out.size; simp; omega)
  obtain ⟨a4, c4, rfl⟩ := slice_form o4
  have HRUN4 := hide hrun4
  have O4 := hide o4
  have B4 := hide ((B3.out.trans ha3).trans b4)
  clear hrun4 o4 b4 ha3 hlit
  go_wp2_with (first
    | (at_builtin; refine Lib.wpList_append_run _ rfl _ _ _ _ rfl _ _ rfl rfl _ _ HRUN3.out ?_)
    | (at_builtin; refine Lib.wpList_append_run _ rfl _ _ _ _ rfl _ _ rfl rfl _ _ HRUN4.out ?_))
  refine (two_any n w4 (by omega)).mono ?_
  rintro e w5 ⟨g5, c5, rfl, o5, b5⟩
  have B5 := hide (B4.out.trans (b5.mono B4.out.size))
  obtain ⟨v6, w6, hrun6, o6, b6⟩ := app_own w5 w.heap.size (.slice a4 (4 + 4 + 2) c4) (4 + 4 + 2) _ (owns_below O4.out b5 (Nat.le_refl _)) (some ⟨g5, 0, none⟩) (numB 2 n) 2 c5 (Row.of_owns o5) (numB_len _ _) (fun h => by cases h) (by omega) B5.out.size
  obtain ⟨a6, c6, rfl⟩ := slice_form o6
  have HRUN6 := hide hrun6
  have O6 := hide o6
  have B6 := hide (B5.out.trans b6)
  clear o5 b5 o6 b6 hrun6 HRUN3 HRUN4
  obtain ⟨v7, w7, hrun7, o7, b7⟩ := app_own w6 w.heap.size (.slice a6 (4 + 4 + 2 + 2) c6) (4 + 4 + 2 + 2) _ O6.out a xs n c (HR.out.below B6.out (Nat.le_refl _)) HL.out HNO.out (by omega) B6.out.size
  obtain ⟨a7, c7, rfl⟩ := slice_form o7
  have HRUN7 := hide hrun7
  have B7 := hide (B6.out.trans b7)
  have e7 : ((((numB 4 src ++ numB 4 dst) ++ [0, (proto : Int)]) ++ numB 2 n) ++ xs) = psB src dst proto n ++ xs := by simp [psB]
  rw [e7] at o7
  have hsz : (psB src dst proto n ++ xs).length = 4 + 4 + 2 + 2 + n := by rw [List.length_append, psB_len, HL.out]
  have hrs := refSum_any a7 (psB src dst proto n ++ xs) c7 w7 (Row.of_owns o7) (by
    intro x hx; rcases List.mem_append.1 hx with h | h; exact psB_rng _ _ _ _ h3 x h; exact HBB.out x h) (by omega)
  rw [hsz] at hrs
  have HRS := hide hrs
  clear o7 b7 hrun7 e7 hsz hrs
  go_wp2_with (first
    | (at_builtin; refine Lib.wpList_append_run _ rfl _ _ _ _ rfl _ _ rfl rfl _ _ HRUN6.out ?_)
    | (at_builtin; refine Lib.wpList_append_run _ rfl _ _ _ _ rfl _ _ rfl rfl _ _ HRUN7.out ?_))
  refine HRS.out.mono ?_
  rintro e w8 ⟨rfl, b8⟩
  have B8 := hide (B7.out.trans (b8.mono B7.out.size))
  clear b8
  go_wp2
  go_ret
  exact ⟨rfl, B8.out⟩
end Go.Proofs.Ytgggcapgaikbeaa
