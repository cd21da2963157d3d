/- The law that numbers of two bytes, put one behind the other, are told in pairs as they were, walked. -/
import Derived.Test.YtjongigofaobdaaPlainBack
import Derived.Test.YtjongigofaobdaaJoin
import Derived.Test.YtjongigofaobdaaSpeaks
namespace Go.Proofs.Ytjongigofaobdaa
open Go.RowKit
set_option linter.unusedVariables false
set_option linter.unusedSimpArgs false
set_option maxHeartbeats 1600000 in
theorem octetBack_any (a : Option Addr) (xs : List Int) (cap : Nat) (w : World) (hr : Row .u16 w a xs) (hb : ∀ x ∈ xs, 0 ≤ x ∧ x ≤ 65535) :
    Calls Try.prog 7 #[.slice a xs.length cap] w fun e w' => e = .returned (.bool true) ∧ Below w.heap.size w w' := by
  by_cases hl : 1000 < xs.length
  · go_enter Try.func7, Try.ntmps7
    go_wp2_with (go_at_call 13; refine (speaks1_any _).mono ?_; rintro e w1 ⟨rfl, hbel⟩)
    go_ret
    exact ⟨rfl, hbel⟩
  · have HR := hide hr
    have HB := hide hb
    clear hr hb
    go_enter Try.func7, Try.ntmps7
    go_wp2_with fail
    refine (speaks1_any _).mono ?_
    rintro e w1 ⟨rfl, hbel⟩
    have hown0 : (w1.alloc (.cells #[] 5)).ownsRow w.heap.size 5 1 (.slice (some ⟨w1.heap.size, 0, none⟩) 0 0) 0 [] := World.ownsRow_lit w1 #[] 0 hbel.size (by unfold maxLen; omega) rfl
    have hbel0 := hbel.alloc hbel.size (.cells #[] 5)
    go_wp2
    go_loopw [3, 16] (fun v i wr => ∃ k : Nat, ∃ a' c', k ≤ xs.length ∧ i = .int .i64 k ∧ v = .slice a' (2 * k) c' ∧
        wr.ownsRow w.heap.size 5 1 (.slice a' (2 * k) c') (2 * k) ((encB (xs.take k)).map (Value.int .u8)) ∧ Below w.heap.size w wr)
      (fun _ i _ => xs.length - (intOf i).toNat)
    case atStart => exact ⟨0, _, _, Nat.zero_le _, rfl, rfl, hown0, hbel0⟩
    case round =>
      clear hown0 hbel0 hbel
      obtain ⟨k, a', c', hk, rfl, rfl, hown, hbel⟩ := hrel
      by_cases hlt : k < xs.length
      · obtain ⟨b, off, rfl, hbl, hc⟩ := (HR.out.below hbel (Nat.le_refl _)).at hlt
        have cx := hc k hlt
        have hsn := encB_snoc xs k hlt
        have hrn : 0 ≤ xs[k]?.getD 0 ∧ xs[k]?.getD 0 ≤ 65535 := by rw [List.getElem?_eq_getElem hlt]; exact HB.out _ (List.getElem_mem hlt)
        generalize xs[k]?.getD 0 = x at *
        obtain ⟨n, rfl⟩ := Int.eq_ofNat_of_zero_le hrn.1
        have hn : n ≤ 65535 := by omega
        have HS := hide hsn
        have HO := hide hown
        clear hsn hown hc hrn
        go_wp2_with fail
        refine (num_any 2 n _ (by omega)).mono ?_
        rintro e w2 ⟨rfl, hown2, hbel2⟩
        rw [show sz 2 = 2 from rfl, numB_two n hn] at *
        have hb12 := hbel.trans (hbel2.mono hbel.size)
        have O2 := hide hown2
        have ho1 : w2.ownsRow w.heap.size 5 1 (.slice a' (2 * k) c') (2 * k) ((encB (xs.take k)).map (Value.int .u8)) := owns_below HO.out hbel2 (Nat.le_refl _)
        have O1 := hide ho1
        clear hown2 ho1
        go_wp2_with fail
        refine (join2_any a' _ (encB (xs.take k)) [(n : Int) / 256, (n : Int) % 256] (2 * k) 2 c' 2 _ (by rw [encB_len, List.length_take]; omega) rfl (Row.of_owns O1.out) (none_cap O1.out) (Row.of_owns O2.out) (by simp) (by omega)).mono ?_
        rintro e w3 ⟨a3, c3, rfl, hown3, hbel3⟩
        rw [← HS.out] at hown3
        have O3 := hide (owns_mono hown3 hb12.size)
        have B3 := hide (hb12.trans (hbel3.mono hb12.size))
        clear hown3 hbel3
        go_wp2
        go_roundw
        case rel => exact ⟨k + 1, a3, c3, by omega, by go_num, by rw [show 2 * k + 2 = 2 * (k + 1) from by omega], by rw [show 2 * k + 2 = 2 * (k + 1) from by omega] at O3; exact O3.out, B3.out⟩
        case measure => simp [intOf]; omega
      · obtain rfl : k = xs.length := by omega
        rw [List.take_length] at hown
        have hpr := pairs_any a' (encB xs) c' (xs.length : Nat) wr (Row.of_owns hown) (encB_rng xs HB.out) (by rw [encB_len]; omega)
        rw [prs_encB, encB_len, show cnt xs.length (xs.length : Nat) = xs.length from by unfold cnt; split <;> omega, List.take_length] at hpr
        have HPR := hide hpr
        clear hpr hown
        go_wp2_with fail
        refine HPR.out.mono ?_
        rintro e w2 ⟨a2, c2, rfl, hr2, hbel2⟩
        have R2 := hide hr2
        have hb12 := hbel.trans (hbel2.mono hbel.size)
        have R0 := hide (HR.out.below hb12 (Nat.le_refl _))
        clear hr2
        have hne : ((xs.length : Int) != (xs.length : Int)) = false := ne_false rfl
        go_wp2
        go_loopw [38] (fun i wr => ∃ k : Nat, k ≤ xs.length ∧ i = .int .i64 k ∧ Below w2.heap.size w2 wr) (fun i _ => xs.length - (intOf i).toNat)
        case atStart => exact ⟨0, Nat.zero_le _, rfl, Below.refl _ _⟩
        case round =>
          obtain ⟨k, hk, rfl, hb3⟩ := hrel
          by_cases hlt : k < xs.length
          · obtain ⟨b2, o2, rfl, _, hx2⟩ := (R2.out.below hb3 (Nat.le_refl _)).at (i := k) hlt
            obtain ⟨b3, o3, rfl, _, hx3⟩ := (R0.out.below hb3 (Nat.le_refl _)).at (i := k) hlt
            have e2 := hx2 k hlt
            have e3 := hx3 k hlt
            generalize xs[k]?.getD 0 = y at *
            have hkm : (k : Int) < (xs.length : Int) := by omega
            clear hx2 hx3
            go_wp2
            go_quiet (fail)
            go_wp2
            go_roundw
            case rel => exact ⟨k + 1, by omega, by go_num, bdrewN hb3 _⟩
            case measure => simp [intOf]; omega
          · go_wp2
            go_ret
            exact ⟨rfl, hb12.trans (hb3.mono hb12.size)⟩
end Go.Proofs.Ytjongigofaobdaa
