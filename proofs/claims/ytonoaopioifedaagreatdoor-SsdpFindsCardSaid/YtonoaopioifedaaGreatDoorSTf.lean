/- Ssdp: the names, told to the law's function. -/
import Derived.Test.YtonoaopioifedaaGreatDoorSTl
namespace Go.Proofs.YtonoaopioifedaaGreatDoor
open Go.RowKit Go.Shelf Go.Deep
set_option linter.unusedVariables false
set_option linter.unusedSimpArgs false
set_option maxRecDepth 100000
set_option maxHeartbeats 1000000 in
theorem great_any (cs : Array Value) (u : List UInt8) (fa : Option Addr) (n cap : Nat) (hs : cs.size = 28) (hu : cs[27]? = some (.string (bt u))) (hf : cs[25]? = some (.slice fa n cap)) (w : World) :
    Calls Tryz.prog 8 #[.agg cs] w fun e w' => e = .returned (.bool (decide (300 < u.length) || decide (100 < n))) ∧ Below w.heap.size w w' := by
  obtain ⟨_, c27⟩ := Array.getElem?_eq_some_iff.1 hu
  obtain ⟨_, c25⟩ := Array.getElem?_eq_some_iff.1 hf
  have HB := hide ((Below.refl w.heap.size w).alloc (Nat.le_refl _) (.cells cs 28))
  obtain ⟨l, hl⟩ : ∃ l, u.length = l := ⟨_, rfl⟩
  have hz : (bt u).size = l := by rw [← hl]; simp [ByteArray.size]
  rw [hl]
  generalize bt u = U at *
  obtain ⟨p, hp⟩ : ∃ p, decide (300 < l) = p := ⟨_, rfl⟩
  obtain ⟨q, hq⟩ : ∃ p, decide (100 < n) = p := ⟨_, rfl⟩
  have d1 : decide ((300 : Int) < (l : Int)) = p := by rw [← hp]; simp; omega
  have d2 : decide ((100 : Int) < (n : Int)) = q := by rw [← hq]; simp; omega
  rw [hp, hq]
  clear hu hf hl
  cases p with
  | true =>
    clear d2
    go_enter Tryz.func8, Tryz.ntmps8
    go_wp2_with fail
    go_ret
    exact ⟨rfl, HB.out⟩
  | false =>
    go_enter Tryz.func8, Tryz.ntmps8
    go_wp2_with fail
    go_ret
    exact ⟨by cases q <;> rfl, HB.out⟩
set_option maxHeartbeats 4000000 in
theorem nmsF_any (w0 : World) (bo bi bx by' bm : Nat) (o : List UInt8) (ho : o.length ≤ 1000) (most : Int) (P : Nat) (w : World) (h0 : TS w0 bo bi bx by' bm o most 0 w) (hP : w.heap[P]? = some (.cells #[.string (bt o)] 9 (0, 0))) (h1 : w0.heap.size ≤ bo) (h2 : w0.heap.size ≤ bi) (hd : bo ≠ bi ∧ bo ≠ bx ∧ bo ≠ by' ∧ bo ≠ bm ∧ bi ≠ bx ∧ bi ≠ by' ∧ bi ≠ bm) :
    Calls Tryz.prog 31 #[.func (.func 14) #[] #[.pointer (some ⟨bo, 0, none⟩), .pointer (some ⟨bi, 0, none⟩), .pointer (some ⟨bx, 0, none⟩), .pointer (some ⟨by', 0, none⟩), .pointer (some ⟨bm, 0, none⟩)], .pointer (some ⟨P, 0, none⟩)] w fun e W' => (∃ v, e = .returned v) ∧
      ∃ k : Nat, 1 ≤ k ∧ k ≤ 6 ∧ TS w0 bo bi bx by' bm o most k W' ∧ (k = 6 ∨ most ≤ (k : Int)) ∧ (k = 1 ∨ ((k - 1 : Nat) : Int) < most) := by
  have HD := hide (And.intro h1 (And.intro h2 hd))
  obtain ⟨g, hg⟩ : ∃ g, w.heap.size = g := ⟨_, rfl⟩
  obtain ⟨W0, hW0⟩ : ∃ V, w.alloc (.cells (nmRow o) 9) = V := ⟨_, rfl⟩
  have hal : Below w.heap.size w W0 := by rw [← hW0]; exact (Below.refl _ w).alloc (Nat.le_refl _) _
  have hG : W0.heap[g]? = some (.cells (nmRow o) 9 (0, 0)) := by rw [← hW0, ← hg]; exact heap_alloc_new _ _
  have cP := cell_of_one hP
  have HG := hide hg
  have HX := hide (show TS w0 bo bi bx by' bm o most 0 W0 ∧ (0 = 0 ∨ ((0 : Nat) : Int) < most) ∧ W0.heap[g]? = some (.cells (nmRow o) 9 (0, 0)) ∧ W0.heap[P]? = some (.cells #[.string (bt o)] 9 (0, 0)) from ⟨h0.next hal, .inl rfl, hG, below_blk hal hP (Nat.le_refl _)⟩)
  have HA := hide (show w.alloc (.cells #[.string (bt sRoot), .string (bt o), .string (bt sGw1), .string (bt sGw2), .string (bt sSv1), .string (bt sSv2)] 9) = W0 from hW0)
  clear hW0 hG hal h0 hP hg h1 h2 hd
  go_enter Tryz.func31, Tryz.ntmps31
  go_upto_region 1 with (fail)
  try unfold sRoot sGw1 sGw2 sSv1 sSv2 at HA
  rw [HA.out]
  rw [HG.out]
  clear cP HA HG
  go_loopw [9] (fun i wr => ∃ k : Nat, k ≤ 6 ∧ i = .int .i64 (k : Int) ∧ Hid (TS w0 bo bi bx by' bm o most k wr ∧ (k = 0 ∨ (k : Int) < most) ∧ wr.heap[g]? = some (.cells (nmRow o) 9 (0, 0)) ∧ wr.heap[P]? = some (.cells #[.string (bt o)] 9 (0, 0))))
    (fun i _ => 6 - (intOf i).toNat)
  case atStart => exact ⟨0, Nat.zero_le _, rfl, hide ⟨HX.out.1, .inl rfl, HX.out.2.2.1, HX.out.2.2.2⟩⟩
  case round =>
    clear HX
    obtain ⟨k, hk, rfl, HX⟩ := hrel
    have hk4 : (0 : Int) ≤ (k : Int) := by omega
    have hk5 : (k : Int) ≤ 6 := by omega
    by_cases hlt : k < 6
    · have d1 : decide ((k : Int) < 6) = true := by simp; omega
      obtain ⟨y, hy⟩ : ∃ y, (nmsL o)[k]? = some y := ⟨_, List.getElem?_eq_getElem (by rw [nmsL_len]; exact hlt)⟩
      have hyl := nmsL_le o y (List.mem_of_getElem? hy) ho
      have cy := nm_cell HX.out.2.2.1 hy
      have cP := cell_of_one HX.out.2.2.2
      have hun : unL o y = if y = o then o else o ++ (sDd ++ y) := rfl
      have hbq := bt_beq y o
      have HG2 := hide HX.out.2.2.1
      have HP2 := hide HX.out.2.2.2
      have HL := hide HX.out.2.1
      have hR := tells1_any w0 bo bi bx by' bm o most k y wr HX.out.1 hlt hy HD.out.1 HD.out.2.1 HD.out.2.2
      obtain ⟨q, hq⟩ : ∃ q, decide (((k + 1 : Nat) : Int) < most) = q := ⟨_, rfl⟩
      rw [hq] at hR
      have HQ := hide hq
      have hs1 : ∀ V : World, (Op.stringOp .add ⟨#[58, 58]⟩ (bt y)).run Tryz.prog V = .ok (.string (bt (sDd ++ y))) V := fun V => run_string_add_lists V sDd y (by decide) (by omega)
      have hs2 : ∀ V : World, (Op.stringOp .add (bt o) (bt (sDd ++ y))).run Tryz.prog V = .ok (.string (bt (o ++ (sDd ++ y)))) V := fun V => run_string_add_lists V o (sDd ++ y) (by omega) (by simp only [List.length_append, sDd, List.length_cons, List.length_nil]; omega)
      clear HX hy hq
      by_cases hyo : y = o
      · rw [if_pos hyo] at hun
        rw [decide_eq_true hyo] at hbq
        rw [hun] at hR
        have HR := hide hR
        clear hun hs1 hs2 hR
        generalize bt o = O at *
        generalize bt y = Y at *
        go_wp2_with fail
        refine HR.out.mono ?_
        rintro e W3 ⟨rfl, hts, hkt⟩
        cases q with
        | true =>
          have HF := hide (show TS w0 bo bi bx by' bm o most (k + 1) W3 ∧ (k + 1 = 0 ∨ ((k + 1 : Nat) : Int) < most) ∧ W3.heap[g]? = some (.cells (nmRow o) 9 (0, 0)) ∧ W3.heap[P]? = some (.cells #[.string O] 9 (0, 0)) from ⟨hts, .inr (of_decide_eq_true HQ.out), hkt _ _ _ HG2.out, hkt _ _ _ HP2.out⟩)
          clear hts hkt HR
          go_wp2_with fail
          exact ⟨⟨k + 1, by omega, by go_num, HF⟩, by simp [intOf]; omega⟩
        | false =>
          have HF := hide (show TS w0 bo bi bx by' bm o most (k + 1) W3 from hts)
          clear hts hkt HR
          go_wp2_with fail
          refine bodyPost_ret (results_none rfl _ _ _) rfl ?_
          exact ⟨⟨_, rfl⟩, k + 1, by omega, by omega, HF.out, .inr (by have := of_decide_eq_false HQ.out; omega), by
            rcases HL.out with h | h
            · exact .inl (by omega)
            · exact .inr (by simpa using h)⟩
      · rw [if_neg hyo] at hun
        rw [decide_eq_false hyo] at hbq
        rw [hun] at hR
        have HR := hide hR
        clear hun hR
        generalize bt (o ++ (sDd ++ y)) = U at *
        generalize bt (sDd ++ y) = D at *
        generalize bt o = O at *
        generalize bt y = Y at *
        go_wp2_with fail
        refine HR.out.mono ?_
        rintro e W3 ⟨rfl, hts, hkt⟩
        cases q with
        | true =>
          have HF := hide (show TS w0 bo bi bx by' bm o most (k + 1) W3 ∧ (k + 1 = 0 ∨ ((k + 1 : Nat) : Int) < most) ∧ W3.heap[g]? = some (.cells (nmRow o) 9 (0, 0)) ∧ W3.heap[P]? = some (.cells #[.string O] 9 (0, 0)) from ⟨hts, .inr (of_decide_eq_true HQ.out), hkt _ _ _ HG2.out, hkt _ _ _ HP2.out⟩)
          clear hts hkt HR
          go_wp2_with fail
          exact ⟨⟨k + 1, by omega, by go_num, HF⟩, by simp [intOf]; omega⟩
        | false =>
          have HF := hide (show TS w0 bo bi bx by' bm o most (k + 1) W3 from hts)
          clear hts hkt HR
          go_wp2_with fail
          refine bodyPost_ret (results_none rfl _ _ _) rfl ?_
          exact ⟨⟨_, rfl⟩, k + 1, by omega, by omega, HF.out, .inr (by have := of_decide_eq_false HQ.out; omega), by
            rcases HL.out with h | h
            · exact .inl (by omega)
            · exact .inr (by simpa using h)⟩
    · have d1 : decide ((k : Int) < 6) = false := by simp; omega
      obtain rfl : k = 6 := by omega
      have HF := hide (show TS w0 bo bi bx by' bm o most 6 wr ∧ (6 : Int) < most from ⟨HX.out.1, by rcases HX.out.2.1 with h | h; (omega); exact h⟩)
      clear HX
      go_wp2_with fail
      go_end0
      exact ⟨⟨_, rfl⟩, 6, by decide, by decide, HF.out.1, .inl rfl, .inr (by have := HF.out.2; show ((5 : Nat) : Int) < most; omega)⟩
end Go.Proofs.YtonoaopioifedaaGreatDoor
