/- The document's table: the least key above another. -/
import Derived.Test.YtcgkblmhfgjoaaaKRef
namespace Go.Proofs.Ytcgkblmhfgjoaaa
open Go.RowKit Go.Deep
set_option linter.unusedVariables false
set_option linter.unusedSimpArgs false
set_option maxRecDepth 100000
/-- One more key is looked at. -/
def stepN (all : Bool) (above : Int) (s : Int × Bool) (x : Int) : Int × Bool :=
  if (all = true ∨ above < x) ∧ (s.2 = false ∨ x < s.1) then (x, true) else s
def nextL (all : Bool) (above : Int) (ks : List Int) : Int × Bool := ks.foldl (stepN all above) (0, false)
theorem foldl_take {α β : Type} (f : β → α → β) (z : β) {ks : List α} {j : Nat} {x : α} (h : ks[j]? = some x) : (ks.take (j + 1)).foldl f z = f ((ks.take j).foldl f z) x := by
  rw [List.take_add_one, h]; simp
set_option maxHeartbeats 3000000 in
theorem nextR_any (w : World) (p : Nat) (most : Int) (ks vs : List Int) (ka : Option Addr) (kc : Nat) (va : Option Addr) (vc : Nat) (above : Int) (all : Bool) (h : RTr w p most ks vs ka kc va vc) (hn : ks.length ≤ 1000000) :
    Calls Try.prog 31 #[.pointer (some ⟨p, 0, none⟩), .int .i64 above, .bool all] w fun e w' => e = .returned (.tuple #[.int .i64 (nextL all above ks).1, .bool (nextL all above ks).2]) ∧ w' = w := by
  obtain ⟨t0, t1, t2, tf⟩ := three_cells h.tab
  have HR := hide h.krow
  obtain ⟨n, hnn⟩ : ∃ n, ks.length = n := ⟨_, rfl⟩
  rw [hnn] at t0 hn
  have HN := hide hnn
  clear h t1 t2 tf hnn
  go_enter Try.func31, Try.ntmps31
  go_wp2_with fail
  go_loop [8, 9, 10] (fun b f i => ∃ (j : Nat) (best : Int) (found : Bool), j ≤ n ∧ i = .int .i64 j ∧ b = .int .i64 best ∧ f = .bool found ∧ Hid ((ks.take j).foldl (stepN all above) (0, false) = (best, found))) (fun b f i => n - (intOf i).toNat)
  case atStart => exact ⟨0, 0, false, Nat.zero_le _, rfl, rfl, rfl, hide rfl⟩
  case round =>
    obtain ⟨j, best, found, hj, rfl, rfl, rfl, HJ⟩ := hrel
    by_cases hlt : j < n
    · obtain ⟨x, hx⟩ : ∃ x, ks[j]? = some x := ⟨ks[j]'(by rw [HN.out]; exact hlt), List.getElem?_eq_getElem _⟩
      obtain ⟨b, off, rfl, hbl, hc⟩ := HR.out.at (i := j) (by rw [HN.out]; exact hlt)
      have cj := hc j (by rw [HN.out]; exact hlt)
      rw [hx, Option.getD_some] at cj
      have hstep : ∀ r, stepN all above (best, found) x = r → Hid ((ks.take (j + 1)).foldl (stepN all above) (0, false) = r) := fun r hr => hide (by rw [foldl_take _ _ hx, HJ.out]; exact hr)
      have HST := hide hstep
      clear hc hx hstep
      obtain ⟨d1, hd1⟩ : ∃ d, decide (above < x) = d := ⟨_, rfl⟩
      obtain ⟨d2, hd2⟩ : ∃ d, decide (x < best) = d := ⟨_, rfl⟩
      cases all with
      | true =>
        cases found with
        | false =>
          have H2 := HST.out (x, true) (by have := hd1; have := hd2; simp only [decide_eq_true_eq, decide_eq_false_iff_not] at *; simp [stepN, *])
          clear HST
          go_wp2
          go_round
          case rel => exact ⟨j + 1, x, true, by omega, by go_num, rfl, rfl, H2⟩
          case measure => simp [intOf]; omega
        | true =>
          cases d2 with
          | true =>
            have H2 := HST.out (x, true) (by have := hd1; have := hd2; simp only [decide_eq_true_eq, decide_eq_false_iff_not] at *; simp [stepN, *])
            clear HST
            go_wp2
            go_round
            case rel => exact ⟨j + 1, x, true, by omega, by go_num, rfl, rfl, H2⟩
            case measure => simp [intOf]; omega
          | false =>
            have H2 := HST.out (best, true) (by have := hd1; have := hd2; simp only [decide_eq_true_eq, decide_eq_false_iff_not] at *; simp [stepN, *])
            clear HST
            go_wp2
            go_round
            case rel => exact ⟨j + 1, best, true, by omega, by go_num, rfl, rfl, H2⟩
            case measure => simp [intOf]; omega
      | false =>
        cases d1 with
        | false =>
          have H2 := HST.out (best, found) (by have := hd1; have := hd2; simp only [decide_eq_true_eq, decide_eq_false_iff_not] at *; simp [stepN, *])
          clear HST
          go_wp2
          go_round
          case rel => exact ⟨j + 1, best, found, by omega, by go_num, rfl, rfl, H2⟩
          case measure => simp [intOf]; omega
        | true =>
          cases found with
          | false =>
            have H2 := HST.out (x, true) (by have := hd1; have := hd2; simp only [decide_eq_true_eq, decide_eq_false_iff_not] at *; simp [stepN, *])
            clear HST
            go_wp2
            go_round
            case rel => exact ⟨j + 1, x, true, by omega, by go_num, rfl, rfl, H2⟩
            case measure => simp [intOf]; omega
          | true =>
            cases d2 with
            | true =>
              have H2 := HST.out (x, true) (by have := hd1; have := hd2; simp only [decide_eq_true_eq, decide_eq_false_iff_not] at *; simp [stepN, *])
              clear HST
              go_wp2
              go_round
              case rel => exact ⟨j + 1, x, true, by omega, by go_num, rfl, rfl, H2⟩
              case measure => simp [intOf]; omega
            | false =>
              have H2 := HST.out (best, true) (by have := hd1; have := hd2; simp only [decide_eq_true_eq, decide_eq_false_iff_not] at *; simp [stepN, *])
              clear HST
              go_wp2
              go_round
              case rel => exact ⟨j + 1, best, true, by omega, by go_num, rfl, rfl, H2⟩
              case measure => simp [intOf]; omega
    · have hfin : nextL all above ks = (best, found) := by
        unfold nextL
        rw [← HJ.out, List.take_of_length_le (by rw [HN.out]; omega)]
      have HF := hide hfin
      clear hfin
      go_wp2
      go_ret2
      exact ⟨by rw [HF.out]; rfl, rfl⟩
end Go.Proofs.Ytcgkblmhfgjoaaa
