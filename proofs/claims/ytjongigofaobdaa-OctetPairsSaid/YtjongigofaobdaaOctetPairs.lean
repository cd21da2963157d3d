/- The law of octet.Pairs, walked: for every slice of bytes and every number that is asked for it answers true. -/
import Derived.Test.YtjongigofaobdaaSpeaks
import Derived.Deep.QuietTactic
import Derived.BigQuiet
namespace Go.Proofs.Ytjongigofaobdaa
open Go.RowKit
set_option linter.unusedVariables false
set_option linter.unusedSimpArgs false

theorem cnt_cases (P : Nat) (most : Int) : cnt P most ≤ P ∧ ((P ≤ 0 ∧ cnt P most ≤ 0) ∨ (1 ≤ P ∧ most ≤ 1 ∧ cnt P most ≤ 1 ∧ 1 ≤ cnt P most ∧ ((cnt P most : Int) != 1) = false) ∨
    (1 ≤ P ∧ 1 < most ∧ most ≤ P ∧ (cnt P most : Int) ≤ most ∧ most ≤ cnt P most ∧ ((cnt P most : Int) != most) = false) ∨ (1 ≤ P ∧ 1 < most ∧ P < most ∧ cnt P most ≤ P ∧ P ≤ cnt P most ∧ ((cnt P most : Int) != (P : Int)) = false)) := by
  have h : cnt P most ≤ P ∧ ((P ≤ 0 ∧ cnt P most ≤ 0) ∨ (1 ≤ P ∧ most ≤ 1 ∧ cnt P most ≤ 1 ∧ 1 ≤ cnt P most) ∨ (1 ≤ P ∧ 1 < most ∧ most ≤ P ∧ (cnt P most : Int) ≤ most ∧ most ≤ cnt P most) ∨ (1 ≤ P ∧ 1 < most ∧ P < most ∧ cnt P most ≤ P ∧ P ≤ cnt P most)) := by
    unfold cnt; split <;> omega
  refine ⟨h.1, ?_⟩
  rcases h.2 with h | h | h | h
  · exact .inl h
  · exact .inr (.inl ⟨h.1, h.2.1, h.2.2.1, h.2.2.2, ne_false (by omega)⟩)
  · exact .inr (.inr (.inl ⟨h.1, h.2.1, h.2.2.1, h.2.2.2.1, h.2.2.2.2, ne_false (by omega)⟩))
  · exact .inr (.inr (.inr ⟨h.1, h.2.1, h.2.2.1, h.2.2.2.1, h.2.2.2.2, ne_false (by omega)⟩))

set_option maxHeartbeats 1600000 in
/-- The law: what is told are the numbers, as many as are asked for. -/
theorem octetPairs_any (a : Option Addr) (xs : List Int) (cap : Nat) (most : Int) (w : World) (hr : Row .u8 w a xs) (hb : ∀ x ∈ xs, 0 ≤ x ∧ x ≤ 255) (hm : -9223372036854775808 ≤ most ∧ most ≤ 9223372036854775807) :
    Calls Try.prog 5 #[.slice a xs.length cap, .int .i64 most] w fun e w' => e = .returned (.bool true) ∧ Below w.heap.size w w' := by
  by_cases hl : 5000 < xs.length
  · go_enter Try.func5, Try.ntmps5
    go_wp2_with (go_at_call 13; refine (speaks1_any _).mono ?_; rintro e w1 ⟨rfl, hbel⟩)
    go_ret
    exact ⟨rfl, hbel⟩
  · obtain ⟨hc1, hc2⟩ := cnt_cases (prs xs).length most
    have hpl := prs_len xs
    have HL : ((prs xs).take (cnt (prs xs).length most)).length = cnt (prs xs).length most := by rw [List.length_take]; omega
    have C1 : ∀ w1, Below w.heap.size w w1 → Calls Try.prog 25 #[.slice a xs.length cap, .int .i64 most] w1 fun e w' => ∃ a' c', e = .returned (.slice a' (cnt (prs xs).length most) c') ∧
        Row .u16 w' a' ((prs xs).take (cnt (prs xs).length most)) ∧ Below w1.heap.size w1 w' := fun w1 h1 => by
      have := pairs_any a xs cap most w1 (hr.below h1 (Nat.le_refl _)) hb (by omega)
      rw [HL] at this; exact this
    have C2 : ∀ w1, Below w.heap.size w w1 → Calls Try.prog 26 #[.slice a xs.length cap] w1 fun e w' => ∃ a' c', e = .returned (.slice a' (prs xs).length c') ∧
        Row .u16 w' a' (prs xs) ∧ Below w1.heap.size w1 w' := fun w1 h1 => refPairs_any a xs cap w1 (hr.below h1 (Nat.le_refl _)) hb (by omega)
    have HT : ∀ i, i < cnt (prs xs).length most → ((prs xs).take (cnt (prs xs).length most))[i]?.getD 0 = (prs xs)[i]?.getD 0 := fun i hi => by rw [List.getElem?_take_of_lt hi]
    have hP : (prs xs).length ≤ 2501 := by omega
    generalize (prs xs).take (cnt (prs xs).length most) = zs at *
    generalize cnt (prs xs).length most = m at *
    generalize prs xs = ys at *
    have K1 := hide C1
    have K2 := hide C2
    have HZ := hide HL
    have HTT := hide HT
    clear C1 C2 HL HT hpl hr hb
    rcases hc2 with ⟨h1, h2⟩ | ⟨h1, h2, h3, h4, h5⟩ | ⟨h1, h2, h3, h4, h5, h6⟩ | ⟨h1, h2, h3, h4, h5, h6⟩
    · go_enter Try.func5, Try.ntmps5
      go_wp2_with fail
      refine (speaks1_any _).mono ?_
      rintro e w1 ⟨rfl, hbel⟩
      go_wp2_with fail
      refine (K1.out _ hbel).mono ?_
      rintro e w2 ⟨a2, c2, rfl, hr2, hbel2⟩
      go_wp2_with fail
      have hbb := hbel.trans (hbel2.mono hbel.size)
      refine (K2.out _ hbb).mono ?_
      rintro e w3 ⟨a3, c3, rfl, hr3, hbel3⟩
      have hr2' := hr2.below hbel3 (Nat.le_refl _)
      have hbf := hbb.trans (hbel3.mono hbb.size)
      have R2 := hide hr2'
      have R3 := hide hr3
      clear hr2 hr3 hr2' hbb hbel hbel2 hbel3
      go_wp2
      all_goals
        go_loopw [33] (fun i wr => ∃ k : Nat, k ≤ m ∧ i = .int .i64 k ∧ Below w3.heap.size w3 wr) (fun i _ => m - (intOf i).toNat)
        case atStart => exact ⟨0, Nat.zero_le _, rfl, Below.refl _ _⟩
        case round =>
          obtain ⟨k, hk, rfl, hb3⟩ := hrel
          by_cases hlt : k < m
          · obtain ⟨b2, o2, rfl, _, hx2⟩ := (R2.out.below hb3 (Nat.le_refl _)).at (i := k) (by rw [HZ.out]; exact hlt)
            obtain ⟨b3, o3, rfl, _, hx3⟩ := (R3.out.below hb3 (Nat.le_refl _)).at (i := k) (by omega)
            have e2 := hx2 k (by rw [HZ.out]; exact hlt)
            have e3 := hx3 k (by omega)
            rw [HTT.out k hlt] at e2
            generalize ys[k]?.getD 0 = y at *
            have hkm : (k : Int) < (m : Int) := by omega
            have hky : (k : Int) < (ys.length : Int) := by omega
            clear hx2 hx3
            go_wp2
            go_quiet (fail)
            go_wp2
            go_roundw
            case rel => exact ⟨k + 1, by omega, by go_num, bdrewN hb3 _⟩
            case measure => simp [intOf]; omega
          · go_wp2
            go_ret
            exact ⟨rfl, hbf.trans (hb3.mono hbf.size)⟩
    · go_enter Try.func5, Try.ntmps5
      go_wp2_with fail
      refine (speaks1_any _).mono ?_
      rintro e w1 ⟨rfl, hbel⟩
      go_wp2_with fail
      refine (K1.out _ hbel).mono ?_
      rintro e w2 ⟨a2, c2, rfl, hr2, hbel2⟩
      go_wp2_with fail
      have hbb := hbel.trans (hbel2.mono hbel.size)
      refine (K2.out _ hbb).mono ?_
      rintro e w3 ⟨a3, c3, rfl, hr3, hbel3⟩
      have hr2' := hr2.below hbel3 (Nat.le_refl _)
      have hbf := hbb.trans (hbel3.mono hbb.size)
      have R2 := hide hr2'
      have R3 := hide hr3
      clear hr2 hr3 hr2' hbb hbel hbel2 hbel3
      go_wp2
      all_goals
        go_loopw [33] (fun i wr => ∃ k : Nat, k ≤ m ∧ i = .int .i64 k ∧ Below w3.heap.size w3 wr) (fun i _ => m - (intOf i).toNat)
        case atStart => exact ⟨0, Nat.zero_le _, rfl, Below.refl _ _⟩
        case round =>
          obtain ⟨k, hk, rfl, hb3⟩ := hrel
          by_cases hlt : k < m
          · obtain ⟨b2, o2, rfl, _, hx2⟩ := (R2.out.below hb3 (Nat.le_refl _)).at (i := k) (by rw [HZ.out]; exact hlt)
            obtain ⟨b3, o3, rfl, _, hx3⟩ := (R3.out.below hb3 (Nat.le_refl _)).at (i := k) (by omega)
            have e2 := hx2 k (by rw [HZ.out]; exact hlt)
            have e3 := hx3 k (by omega)
            rw [HTT.out k hlt] at e2
            generalize ys[k]?.getD 0 = y at *
            have hkm : (k : Int) < (m : Int) := by omega
            have hky : (k : Int) < (ys.length : Int) := by omega
            clear hx2 hx3
            go_wp2
            go_quiet (fail)
            go_wp2
            go_roundw
            case rel => exact ⟨k + 1, by omega, by go_num, bdrewN hb3 _⟩
            case measure => simp [intOf]; omega
          · go_wp2
            go_ret
            exact ⟨rfl, hbf.trans (hb3.mono hbf.size)⟩
    · go_enter Try.func5, Try.ntmps5
      go_wp2_with fail
      refine (speaks1_any _).mono ?_
      rintro e w1 ⟨rfl, hbel⟩
      go_wp2_with fail
      refine (K1.out _ hbel).mono ?_
      rintro e w2 ⟨a2, c2, rfl, hr2, hbel2⟩
      go_wp2_with fail
      have hbb := hbel.trans (hbel2.mono hbel.size)
      refine (K2.out _ hbb).mono ?_
      rintro e w3 ⟨a3, c3, rfl, hr3, hbel3⟩
      have hr2' := hr2.below hbel3 (Nat.le_refl _)
      have hbf := hbb.trans (hbel3.mono hbb.size)
      have R2 := hide hr2'
      have R3 := hide hr3
      clear hr2 hr3 hr2' hbb hbel hbel2 hbel3
      go_wp2
      all_goals
        go_loopw [33] (fun i wr => ∃ k : Nat, k ≤ m ∧ i = .int .i64 k ∧ Below w3.heap.size w3 wr) (fun i _ => m - (intOf i).toNat)
        case atStart => exact ⟨0, Nat.zero_le _, rfl, Below.refl _ _⟩
        case round =>
          obtain ⟨k, hk, rfl, hb3⟩ := hrel
          by_cases hlt : k < m
          · obtain ⟨b2, o2, rfl, _, hx2⟩ := (R2.out.below hb3 (Nat.le_refl _)).at (i := k) (by rw [HZ.out]; exact hlt)
            obtain ⟨b3, o3, rfl, _, hx3⟩ := (R3.out.below hb3 (Nat.le_refl _)).at (i := k) (by omega)
            have e2 := hx2 k (by rw [HZ.out]; exact hlt)
            have e3 := hx3 k (by omega)
            rw [HTT.out k hlt] at e2
            generalize ys[k]?.getD 0 = y at *
            have hkm : (k : Int) < (m : Int) := by omega
            have hky : (k : Int) < (ys.length : Int) := by omega
            clear hx2 hx3
            go_wp2
            go_quiet (fail)
            go_wp2
            go_roundw
            case rel => exact ⟨k + 1, by omega, by go_num, bdrewN hb3 _⟩
            case measure => simp [intOf]; omega
          · go_wp2
            go_ret
            exact ⟨rfl, hbf.trans (hb3.mono hbf.size)⟩
    · go_enter Try.func5, Try.ntmps5
      go_wp2_with fail
      refine (speaks1_any _).mono ?_
      rintro e w1 ⟨rfl, hbel⟩
      go_wp2_with fail
      refine (K1.out _ hbel).mono ?_
      rintro e w2 ⟨a2, c2, rfl, hr2, hbel2⟩
      go_wp2_with fail
      have hbb := hbel.trans (hbel2.mono hbel.size)
      refine (K2.out _ hbb).mono ?_
      rintro e w3 ⟨a3, c3, rfl, hr3, hbel3⟩
      have hr2' := hr2.below hbel3 (Nat.le_refl _)
      have hbf := hbb.trans (hbel3.mono hbb.size)
      have R2 := hide hr2'
      have R3 := hide hr3
      clear hr2 hr3 hr2' hbb hbel hbel2 hbel3
      go_wp2
      all_goals
        go_loopw [33] (fun i wr => ∃ k : Nat, k ≤ m ∧ i = .int .i64 k ∧ Below w3.heap.size w3 wr) (fun i _ => m - (intOf i).toNat)
        case atStart => exact ⟨0, Nat.zero_le _, rfl, Below.refl _ _⟩
        case round =>
          obtain ⟨k, hk, rfl, hb3⟩ := hrel
          by_cases hlt : k < m
          · obtain ⟨b2, o2, rfl, _, hx2⟩ := (R2.out.below hb3 (Nat.le_refl _)).at (i := k) (by rw [HZ.out]; exact hlt)
            obtain ⟨b3, o3, rfl, _, hx3⟩ := (R3.out.below hb3 (Nat.le_refl _)).at (i := k) (by omega)
            have e2 := hx2 k (by rw [HZ.out]; exact hlt)
            have e3 := hx3 k (by omega)
            rw [HTT.out k hlt] at e2
            generalize ys[k]?.getD 0 = y at *
            have hkm : (k : Int) < (m : Int) := by omega
            have hky : (k : Int) < (ys.length : Int) := by omega
            clear hx2 hx3
            go_wp2
            go_quiet (fail)
            go_wp2
            go_roundw
            case rel => exact ⟨k + 1, by omega, by go_num, bdrewN hb3 _⟩
            case measure => simp [intOf]; omega
          · go_wp2
            go_ret
            exact ⟨rfl, hbf.trans (hb3.mono hbf.size)⟩
end Go.Proofs.Ytjongigofaobdaa
