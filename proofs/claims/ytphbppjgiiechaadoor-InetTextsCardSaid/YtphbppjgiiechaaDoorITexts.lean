/- inet: InetTexts. -/
import Derived.Test.YtphbppjgiiechaaDoorIParse
import Derived.Test.YtphbppjgiiechaaDoorIRPa
import Derived.Test.YtphbppjgiiechaaDoorIRTx
namespace Go.Proofs.YtphbppjgiiechaaDoor
open Go.RowKit Go.Lib
set_option linter.unusedVariables false
set_option linter.unusedSimpArgs false
set_option maxRecDepth 100000
theorem addr_small (l : List UInt8) (v : Nat) (h : addrD l = some v) : v ≤ 4294967295 := by
  have := (acc_of_text l v h).2.1
  omega
set_option maxHeartbeats 2000000 in
theorem inetTexts_any (a : Nat) (s : ByteArray) (w : World) (ha : a ≤ 4294967295) (hE : ET w) :
    Calls Tryd.prog 3 #[.int .u32 (a : Int), .string s] w fun e w' => e = .returned (.bool true) ∧ Below w.heap.size w w' := by
  have HS := hide (speaks_any w hE.pt)
  obtain ⟨n, hn⟩ : ∃ n, s.size = n := ⟨_, rfl⟩
  by_cases hb : 1000 < n
  · have d1 : decide ((1000 : Int) < (n : Int)) = true := by simp; omega
    clear hE hb ha
    go_enter Tryd.func3, Tryd.ntmps3
    go_wp2_with fail
    refine HS.out.mono ?_
    rintro e w1 ⟨rfl, b1⟩
    have HB1 := hide b1
    clear b1 HS
    go_wp2_with fail
    go_ret
    exact ⟨rfl, HB1.out⟩
  have d1 : decide ((1000 : Int) < (n : Int)) = false := by simp; omega
  have HP := hide (fun (W : World) (h : ET W) => parse_gen s W h (by omega))
  have HR := hide (fun (W : World) => rparse_any s W (by omega))
  have HSM := hide (fun v => addr_small s.data.toList v)
  have HT := hide (fun (W : World) (h : ET W) => text_any a W ha h.pt)
  have HRT := hide (fun (W : World) => rtext_any a W ha)
  have hXs : (⟨(txt (qb a) 4).toArray⟩ : ByteArray).size ≤ 1000 := by
    have h := addr_txt a ha
    have := (acc_of_text _ a h).2.2
    simpa [ByteArray.size] using Nat.le_trans this (by decide)
  have HPX := hide (fun (W : World) (h : ET W) => parse_gen ⟨(txt (qb a) 4).toArray⟩ W h hXs)
  have hax : addrD (⟨(txt (qb a) 4).toArray⟩ : ByteArray).data.toList = some a := by simpa using addr_txt a ha
  rw [hax] at HPX
  obtain ⟨r, hr⟩ : ∃ r, addrD s.data.toList = r := ⟨_, rfl⟩
  rw [hr] at HP HR HSM
  generalize (⟨(txt (qb a) 4).toArray⟩ : ByteArray) = X at *
  have hXX : (X.toList == X.toList) = true := by simp
  have ha4 : (0 : Int) ≤ (a : Int) := by omega
  have HE := hide hE
  clear hE hb ha hXs hax hr
  unfold addrV at HP HR HPX
  go_enter Tryd.func3, Tryd.ntmps3
  go_wp2_with fail
  refine HS.out.mono ?_
  rintro e w1 ⟨rfl, b1⟩
  have HB1 := hide b1
  have HE1 := hide (HE.out.below b1 (Nat.le_refl _))
  clear b1 HS
  go_wp2_with fail
  refine (HP.out w1 HE1.out).mono ?_
  rintro e w2 ⟨rfl, b2⟩
  have HB2 := hide (HB1.out.trans (b2.mono HB1.out.size))
  have HE2 := hide (HE1.out.below b2 (Nat.le_refl _))
  clear b2 HP HB1 HE1
  cases r
  all_goals
    go_wp2_with fail
    refine (HR.out w2).mono ?_
    rintro e w3 ⟨rfl, rfl⟩
    clear HR
    go_wp2_with fail
    refine (HT.out _ HE2.out).mono ?_
    rintro e w4 ⟨rfl, b4⟩
    have HB4 := hide (HB2.out.trans (b4.mono HB2.out.size))
    have HE4 := hide (HE2.out.below b4 (Nat.le_refl _))
    clear b4 HB2 HE2
    go_wp2_with fail
    refine (HPX.out _ HE4.out).mono ?_
    rintro e w5 ⟨rfl, b5⟩
    have HB5 := hide (HB4.out.trans (b5.mono HB4.out.size))
    have HE5 := hide (HE4.out.below b5 (Nat.le_refl _))
    clear b5 HB4 HE4
    go_wp2_with fail
    refine (HT.out _ HE5.out).mono ?_
    rintro e w6 ⟨rfl, b6⟩
    have HB6 := hide (HB5.out.trans (b6.mono HB5.out.size))
    clear b6 HB5 HE5
    go_wp2_with fail
    refine (HRT.out _).mono ?_
    rintro e w7 ⟨rfl, b7⟩
    have HB7 := hide (HB6.out.trans (b7.mono HB6.out.size))
    clear b7 HB6
    go_wp2_with fail
    go_ret
    exact ⟨rfl, HB7.out⟩
end Go.Proofs.YtphbppjgiiechaaDoor
