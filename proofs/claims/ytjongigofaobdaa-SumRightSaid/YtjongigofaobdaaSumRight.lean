/- The law that texts with their check sum behind them are right, and with another number aren't, walked. -/
import Derived.Test.YtjongigofaobdaaPlainSums
import Derived.Test.YtjongigofaobdaaSumMore
import Derived.Test.YtjongigofaobdaaEye
namespace Go.Proofs.Ytjongigofaobdaa
open Go.RowKit
set_option linter.unusedVariables false
set_option linter.unusedSimpArgs false

set_option maxHeartbeats 1600000 in
theorem sumRight_any (a : Option Addr) (xs : List Int) (cap : Nat) (turn : Nat) (w : World) (hr : Row .u8 w a xs) (hn : a = none → cap = 0) (hb : ∀ x ∈ xs, 0 ≤ x ∧ x ≤ 255) (ht : turn ≤ 65535) (hcap : xs.length < 9223372036854775808) :
    Calls Try.prog 11 #[.slice a xs.length cap, .int .u16 turn] w fun e w' => e = .returned (.bool true) ∧ Below w.heap.size w w' := by
  by_cases hl : 3000 < xs.length
  · go_enter Try.func11, Try.ntmps11
    go_wp2_with (go_at_call 27; refine (speaks2_any _).mono ?_; rintro e w1 ⟨rfl, hbel⟩)
    go_ret
    exact ⟨rfl, hbel⟩
  · have hand := and_one xs.length hcap
    by_cases hodd : xs.length % 2 = 1
    · rw [hodd] at hand
      clear hodd
      go_enter Try.func11, Try.ntmps11
      go_wp2_with (go_at_call 27; refine (speaks2_any _).mono ?_; rintro e w1 ⟨rfl, hbel⟩)
      go_ret
      exact ⟨rfl, hbel⟩
    · have hev : xs.length % 2 = 0 := by omega
      rw [hev] at hand
      obtain ⟨n, hnn⟩ : ∃ n : Nat, csum xs = (n : Int) := Int.eq_ofNat_of_zero_le (csum_rng xs).1
      have hn5 : n ≤ 65535 := by have := (csum_rng xs).2; omega
      have hP := (psum_rng xs hb).1
      have hxor : bits .xor .u16 (n : Int) (turn : Int) = ((n ^^^ turn : Nat) : Int) := u16_xor_nat n turn (by omega) (by omega)
      have hmlt := xor_lt n turn (by omega) (by omega)
      have hcn : csum (xs ++ numB 2 n) = 0 := by
        rw [csum_behind xs n hn5 hev]; exact right_good _ _ hP hnn.symm
      have hcm : csum (xs ++ numB 2 (n ^^^ turn)) = 65535 - f16 (psum xs + ((n ^^^ turn : Nat) : Int)) := csum_behind xs _ (by omega) hev
      have hcase : (turn = 0 ∧ (csum (xs ++ numB 2 (n ^^^ turn)) == 0) = true) ∨ (turn ≠ 0 ∧ turn = 65535 ∧ n = 0 ∧ (csum (xs ++ numB 2 (n ^^^ turn)) == 0) = true) ∨ (turn ≠ 0 ∧ (csum (xs ++ numB 2 (n ^^^ turn)) == 0) = false) := by
        by_cases h0 : turn = 0
        · left; refine ⟨h0, ?_⟩
          rw [h0, Nat.xor_zero, hcn]; rfl
        · right
          by_cases h1 : turn = 65535 ∧ n = 0
          · left; refine ⟨h0, h1.1, h1.2, ?_⟩
            rw [hcm, h1.1, h1.2, show (0 ^^^ 65535 : Nat) = 65535 from rfl]
            have := right_top (psum xs) hP (by rw [h1.2] at hnn; exact hnn.symm)
            rw [show ((65535 : Nat) : Int) = 65535 from rfl, this]; rfl
          · right; refine ⟨h0, ?_⟩
            have hne := xor_ne n turn h0
            have := right_bad (psum xs) n ((n ^^^ turn : Nat) : Int) hP hnn.symm (by omega) (by omega) (by omega) (by
              rintro ⟨e1, e2⟩
              have e1' : n = 0 := by omega
              rw [e1', Nat.zero_xor] at e2
              exact h1 ⟨by omega, e1'⟩)
            rw [hcm]
            simpa using this
      have H27 := fun w => hide (speaks2_any w)
      have HS1 := fun (w : World) (h : Row .u8 w a xs) => hide (sum1_any w a xs xs.length cap rfl h hn hb (by omega))
      rw [hnn] at HS1
      have HR2 := fun (m : Nat) (w : World) (a2 : Option Addr) (c2 : Nat) (h1 : Row .u8 w a xs) (h2 : Row .u8 w a2 (numB 2 m)) (n2 : a2 = none → c2 = 0) => hide (right2_any w a a2 xs (numB 2 m) xs.length 2 cap c2 rfl (numB_len 2 m) h1 hn h2 n2 (fun x hx => by rcases List.mem_append.1 hx with h | h; exact hb x h; exact numB_rng 2 m x h) (by omega))
      have HSA := hide HS1
      have HRA := hide HR2
      have HH := hide hr
      have HCN := hide hcn
      have HX := hide hxor
      clear HS1 HR2 hr hcn hxor hcm hnn hb hP hev hodd H27
      have hm1 : n ^^^ turn ≤ 65535 := by omega
      clear hmlt
      rcases hcase with ⟨h0, hc⟩ | ⟨h0, h1, h2, hc⟩ | ⟨h0, hc⟩
      · have HC := hide hc
        clear hc
        generalize n ^^^ turn = m at *
        have hxr := HX.out
        have htt : ((turn : Int) == 0) = true := by simp [h0]
        clear h0
        go_enter Try.func11, Try.ntmps11
        go_wp2_with fail
        refine (speaks2_any _).mono ?_
        rintro e w1 ⟨rfl, hbel⟩
        have R1 := HH.out.below hbel (Nat.le_refl _)
        go_wp2_with fail
        refine (HSA.out _ R1).out.mono ?_
        rintro e w2 ⟨rfl, hbel2⟩
        have hb2 := hbel.trans (hbel2.mono hbel.size)
        go_wp2_with fail
        refine (refNum_full 2 n _ (by omega)).mono ?_
        rintro e w3 ⟨a3, c3, rfl, hr3, hbel3, hn3⟩
        rw [show sz 2 = 2 from rfl] at *
        have hb3 := hb2.trans (hbel3.mono hb2.size)
        have R3 := HH.out.below hb3 (Nat.le_refl _)
        go_wp2_with fail
        refine (HRA.out n _ a3 c3 R3 hr3 hn3).out.mono ?_
        rintro e w4 ⟨rfl, hbel4⟩
        rw [HCN.out]
        have hb4 := hb3.trans (hbel4.mono hb3.size)
        clear R1 R3 hr3 hn3
        go_wp2_with fail
        refine (refNum_full 2 m _ (by omega)).mono ?_
        rintro e w5 ⟨a5, c5, rfl, hr5, hbel5, hn5⟩
        rw [show sz 2 = 2 from rfl] at *
        have hb5 := hb4.trans (hbel5.mono hb4.size)
        have R5 := HH.out.below hb5 (Nat.le_refl _)
        go_wp2_with fail
        refine (HRA.out m _ a5 c5 R5 hr5 hn5).out.mono ?_
        rintro e w6 ⟨rfl, hbel6⟩
        rw [HC.out]
        have hb6 := hb5.trans (hbel6.mono hb5.size)
        clear R5 hr5 hn5
        go_wp2
        go_ret
        exact ⟨rfl, hb6⟩
      · have HC := hide hc
        clear hc
        generalize n ^^^ turn = m at *
        have hxr := HX.out
        have htt : ((turn : Int) == 0) = false := by simp [h0]
        have ht1 : ((turn : Int) == 65535) = true := by simp [h1]
        have ht2 : ((n : Int) == 0) = true := by simp [h2]
        clear h0 h1 h2
        go_enter Try.func11, Try.ntmps11
        go_wp2_with fail
        refine (speaks2_any _).mono ?_
        rintro e w1 ⟨rfl, hbel⟩
        have R1 := HH.out.below hbel (Nat.le_refl _)
        go_wp2_with fail
        refine (HSA.out _ R1).out.mono ?_
        rintro e w2 ⟨rfl, hbel2⟩
        have hb2 := hbel.trans (hbel2.mono hbel.size)
        go_wp2_with fail
        refine (refNum_full 2 n _ (by omega)).mono ?_
        rintro e w3 ⟨a3, c3, rfl, hr3, hbel3, hn3⟩
        rw [show sz 2 = 2 from rfl] at *
        have hb3 := hb2.trans (hbel3.mono hb2.size)
        have R3 := HH.out.below hb3 (Nat.le_refl _)
        go_wp2_with fail
        refine (HRA.out n _ a3 c3 R3 hr3 hn3).out.mono ?_
        rintro e w4 ⟨rfl, hbel4⟩
        rw [HCN.out]
        have hb4 := hb3.trans (hbel4.mono hb3.size)
        clear R1 R3 hr3 hn3
        go_wp2_with fail
        refine (refNum_full 2 m _ (by omega)).mono ?_
        rintro e w5 ⟨a5, c5, rfl, hr5, hbel5, hn5⟩
        rw [show sz 2 = 2 from rfl] at *
        have hb5 := hb4.trans (hbel5.mono hb4.size)
        have R5 := HH.out.below hb5 (Nat.le_refl _)
        go_wp2_with fail
        refine (HRA.out m _ a5 c5 R5 hr5 hn5).out.mono ?_
        rintro e w6 ⟨rfl, hbel6⟩
        rw [HC.out]
        have hb6 := hb5.trans (hbel6.mono hb5.size)
        clear R5 hr5 hn5
        go_wp2
        go_ret
        exact ⟨rfl, hb6⟩
      · have HC := hide hc
        clear hc
        generalize n ^^^ turn = m at *
        have hxr := HX.out
        have htt : ((turn : Int) == 0) = false := by simp [h0]
        clear h0
        go_enter Try.func11, Try.ntmps11
        go_wp2_with fail
        refine (speaks2_any _).mono ?_
        rintro e w1 ⟨rfl, hbel⟩
        have R1 := HH.out.below hbel (Nat.le_refl _)
        go_wp2_with fail
        refine (HSA.out _ R1).out.mono ?_
        rintro e w2 ⟨rfl, hbel2⟩
        have hb2 := hbel.trans (hbel2.mono hbel.size)
        go_wp2_with fail
        refine (refNum_full 2 n _ (by omega)).mono ?_
        rintro e w3 ⟨a3, c3, rfl, hr3, hbel3, hn3⟩
        rw [show sz 2 = 2 from rfl] at *
        have hb3 := hb2.trans (hbel3.mono hb2.size)
        have R3 := HH.out.below hb3 (Nat.le_refl _)
        go_wp2_with fail
        refine (HRA.out n _ a3 c3 R3 hr3 hn3).out.mono ?_
        rintro e w4 ⟨rfl, hbel4⟩
        rw [HCN.out]
        have hb4 := hb3.trans (hbel4.mono hb3.size)
        clear R1 R3 hr3 hn3
        go_wp2_with fail
        refine (refNum_full 2 m _ (by omega)).mono ?_
        rintro e w5 ⟨a5, c5, rfl, hr5, hbel5, hn5⟩
        rw [show sz 2 = 2 from rfl] at *
        have hb5 := hb4.trans (hbel5.mono hb4.size)
        have R5 := HH.out.below hb5 (Nat.le_refl _)
        go_wp2_with fail
        refine (HRA.out m _ a5 c5 R5 hr5 hn5).out.mono ?_
        rintro e w6 ⟨rfl, hbel6⟩
        rw [HC.out]
        have hb6 := hb5.trans (hbel6.mono hb5.size)
        clear R5 hr5 hn5
        go_wp2
        go_ret
        exact ⟨rfl, hb6⟩
end Go.Proofs.Ytjongigofaobdaa
