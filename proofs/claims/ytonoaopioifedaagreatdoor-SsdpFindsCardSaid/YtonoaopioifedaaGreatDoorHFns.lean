/- Head: bytes' kinds, texts' kinds. -/
import Derived.Test.YtonoaopioifedaaGreatDoorHPl
import Derived.Test.YtonoaopioifedaaGreatDoorShelf
import Derived.IntWalk
import Derived.Below
import Derived.Laws.RangeAny
import Derived.Deep.RegionHeld3
import Derived.LaidMore
import Derived.Lib.Strings
namespace Go.Proofs.YtonoaopioifedaaGreatDoor.H
open Go.RowKit
set_option linter.unusedVariables false
set_option linter.unusedSimpArgs false
set_option maxRecDepth 100000
def Hid (p : Prop) : Prop := p
theorem Hid.out {p : Prop} (h : Hid p) : p := h
theorem hide {p : Prop} (h : p) : Hid p := h
abbrev bs (l : List UInt8) : ByteArray := ⟨l.toArray⟩
theorem bs_back (s : ByteArray) : bs s.data.toList = s := by cases s; simp [bs]
theorem great_any (c : UInt8) (w : World) : Calls Tryz.prog 89 #[.int .u8 (c.toNat : Int)] w fun e w' => e = .returned (.bool (upB c)) ∧ w' = w := by
  obtain ⟨x, hx⟩ : ∃ x, c.toNat = x := ⟨_, rfl⟩
  obtain ⟨r, hr⟩ : ∃ r, upB c = r := ⟨_, rfl⟩
  rw [hr]
  unfold upB at hr
  rw [hx] at hr ⊢
  have HR := hide hr
  clear hr hx
  by_cases ha : 65 ≤ x
  · have da : decide ((65 : Int) ≤ (x : Int)) = true := by simp; omega
    by_cases hb : x ≤ 90
    · have db : decide ((x : Int) ≤ 90) = true := by simp; omega
      have HE := hide (show r = true by rw [← HR.out]; simp [ha, hb] <;> omega)
      clear ha hb
      go_enter Tryz.func89, Tryz.ntmps89
      go_wp2_with fail
      go_ret
      exact ⟨by rw [HE.out]; rfl, rfl⟩
    · have db : decide ((x : Int) ≤ 90) = false := by simp; omega
      have HE := hide (show r = false by rw [← HR.out]; simp [ha, hb] <;> omega)
      clear ha hb
      go_enter Tryz.func89, Tryz.ntmps89
      go_wp2_with fail
      go_ret
      exact ⟨by rw [HE.out]; rfl, rfl⟩
  · have da : decide ((65 : Int) ≤ (x : Int)) = false := by simp; omega
    have HE := hide (show r = false by rw [← HR.out]; simp [ha] <;> omega)
    clear ha
    go_enter Tryz.func89, Tryz.ntmps89
    go_wp2_with fail
    go_ret
    exact ⟨by rw [HE.out]; rfl, rfl⟩
theorem inValue_any (c : UInt8) (w : World) : Calls Tryz.prog 68 #[.int .u8 (c.toNat : Int)] w fun e w' => e = .returned (.bool (valB c)) ∧ w' = w := by
  obtain ⟨x, hx⟩ : ∃ x, c.toNat = x := ⟨_, rfl⟩
  obtain ⟨r, hr⟩ : ∃ r, valB c = r := ⟨_, rfl⟩
  rw [hr]
  unfold valB at hr
  rw [hx] at hr ⊢
  have HR := hide hr
  clear hr hx
  by_cases ha : 32 ≤ x
  · have da : decide ((32 : Int) ≤ (x : Int)) = true := by simp; omega
    by_cases hb : x ≠ 127
    · have db : ((x : Int) != 127) = true := by simp; omega
      have HE := hide (show r = true by rw [← HR.out]; simp [ha, hb] <;> omega)
      clear ha hb
      go_enter Tryz.func68, Tryz.ntmps68
      go_wp2_with fail
      go_ret
      exact ⟨by rw [HE.out]; rfl, rfl⟩
    · have db : ((x : Int) != 127) = false := by simp; omega
      by_cases hn : x = 9
      · have dn : ((x : Int) == 9) = true := by simp; omega
        have HE := hide (show r = true by rw [← HR.out]; simp [ha, hb, hn] <;> omega)
        clear ha hb hn
        go_enter Tryz.func68, Tryz.ntmps68
        go_wp2_with fail
        go_ret
        exact ⟨by rw [HE.out]; rfl, rfl⟩
      · have dn : ((x : Int) == 9) = false := by simp; omega
        have HE := hide (show r = false by rw [← HR.out]; simp [ha, hb, hn] <;> omega)
        clear ha hb hn
        go_enter Tryz.func68, Tryz.ntmps68
        go_wp2_with fail
        go_ret
        exact ⟨by rw [HE.out]; rfl, rfl⟩
  · have da : decide ((32 : Int) ≤ (x : Int)) = false := by simp; omega
    by_cases hn : x = 9
    · have dn : ((x : Int) == 9) = true := by simp; omega
      have HE := hide (show r = true by rw [← HR.out]; simp [ha, hn] <;> omega)
      clear ha hn
      go_enter Tryz.func68, Tryz.ntmps68
      go_wp2_with fail
      go_ret
      exact ⟨by rw [HE.out]; rfl, rfl⟩
    · have dn : ((x : Int) == 9) = false := by simp; omega
      have HE := hide (show r = false by rw [← HR.out]; simp [ha, hn] <;> omega)
      clear ha hn
      go_enter Tryz.func68, Tryz.ntmps68
      go_wp2_with fail
      go_ret
      exact ⟨by rw [HE.out]; rfl, rfl⟩
theorem inTarget_any (c : UInt8) (w : World) : Calls Tryz.prog 65 #[.int .u8 (c.toNat : Int)] w fun e w' => e = .returned (.bool (tgtB c)) ∧ w' = w := by
  obtain ⟨x, hx⟩ : ∃ x, c.toNat = x := ⟨_, rfl⟩
  obtain ⟨r, hr⟩ : ∃ r, tgtB c = r := ⟨_, rfl⟩
  rw [hr]
  unfold tgtB at hr
  rw [hx] at hr ⊢
  have HR := hide hr
  clear hr hx
  by_cases ha : 33 ≤ x
  · have da : decide ((33 : Int) ≤ (x : Int)) = true := by simp; omega
    by_cases hb : x ≤ 126
    · have db : decide ((x : Int) ≤ 126) = true := by simp; omega
      have HE := hide (show r = true by rw [← HR.out]; simp [ha, hb] <;> omega)
      clear ha hb
      go_enter Tryz.func65, Tryz.ntmps65
      go_wp2_with fail
      go_ret
      exact ⟨by rw [HE.out]; rfl, rfl⟩
    · have db : decide ((x : Int) ≤ 126) = false := by simp; omega
      have HE := hide (show r = false by rw [← HR.out]; simp [ha, hb] <;> omega)
      clear ha hb
      go_enter Tryz.func65, Tryz.ntmps65
      go_wp2_with fail
      go_ret
      exact ⟨by rw [HE.out]; rfl, rfl⟩
  · have da : decide ((33 : Int) ≤ (x : Int)) = false := by simp; omega
    have HE := hide (show r = false by rw [← HR.out]; simp [ha] <;> omega)
    clear ha
    go_enter Tryz.func65, Tryz.ntmps65
    go_wp2_with fail
    go_ret
    exact ⟨by rw [HE.out]; rfl, rfl⟩
theorem idx_sp (b : UInt8) : decide (0 ≤ Lib.indexByte [33, 35, 36, 37, 38, 39, 42, 43, 45, 46, 94, 95, 96, 124, 126] b) = spB b := all256 (p := fun b => decide (0 ≤ Lib.indexByte [33, 35, 36, 37, 38, 39, 42, 43, 45, 46, 94, 95, 96, 124, 126] b) = spB b) (by decide) b
theorem byte_int (c : UInt8) : ((c.toNat : Nat) : Int).toNat.toUInt8 = c := by simp
theorem inToken_any (c : UInt8) (w : World) : Calls Tryz.prog 81 #[.int .u8 (c.toNat : Int)] w fun e w' => e = .returned (.bool (tokB c)) ∧ w' = w := by
  have HG := great_any c w
  have HI := Tryz.strings_IndexByte (bs [33, 35, 36, 37, 38, 39, 42, 43, 45, 46, 94, 95, 96, 124, 126]) (c.toNat : Int) w
  rw [byte_int] at HI
  obtain ⟨r, hr⟩ : ∃ r, tokB c = r := ⟨_, rfl⟩
  rw [hr]
  unfold tokB at hr
  rw [← idx_sp] at hr
  obtain ⟨I, hI⟩ : ∃ I, Lib.indexByte [33, 35, 36, 37, 38, 39, 42, 43, 45, 46, 94, 95, 96, 124, 126] c = I := ⟨_, rfl⟩
  change Calls Tryz.prog _ _ _ (fun e w' => e = .returned (.int .i64 (Lib.indexByte [33, 35, 36, 37, 38, 39, 42, 43, 45, 46, 94, 95, 96, 124, 126] c)) ∧ w' = w) at HI
  rw [hI] at hr HI
  obtain ⟨u, hu⟩ : ∃ u, upB c = u := ⟨_, rfl⟩
  rw [hu] at hr HG
  obtain ⟨x, hx⟩ : ∃ x, c.toNat = x := ⟨_, rfl⟩
  rw [hx] at hr HG HI ⊢
  have HR := hide hr
  replace HG := hide HG
  replace HI := hide HI
  clear hr hx hu hI
  by_cases ha : 97 ≤ x
  · have da : decide ((97 : Int) ≤ (x : Int)) = true := by simp; omega
    by_cases hb : x ≤ 122
    · have db : decide ((x : Int) ≤ 122) = true := by simp; omega
      have HE := hide (show r = true by rw [← HR.out]; simp [ha, hb] <;> omega)
      clear ha hb
      go_enter Tryz.func81, Tryz.ntmps81
      go_wp2_with (first | (go_at_call 89; refine HG.out.mono ?_; rintro e w1 ⟨rfl, rfl⟩) | (go_at_call 107; refine HI.out.mono ?_; rintro e w1 ⟨rfl, rfl⟩))
      go_ret
      exact ⟨by rw [HE.out]; rfl, rfl⟩
    · have db : decide ((x : Int) ≤ 122) = false := by simp; omega
      cases u with
      | true =>
        have HE := hide (show r = true by rw [← HR.out]; simp [ha, hb] <;> omega)
        clear ha hb
        go_enter Tryz.func81, Tryz.ntmps81
        go_wp2_with (first | (go_at_call 89; refine HG.out.mono ?_; rintro e w1 ⟨rfl, rfl⟩) | (go_at_call 107; refine HI.out.mono ?_; rintro e w1 ⟨rfl, rfl⟩))
        go_ret
        exact ⟨by rw [HE.out]; rfl, rfl⟩
      | false =>
        by_cases hc : 48 ≤ x
        · have dc : decide ((48 : Int) ≤ (x : Int)) = true := by simp; omega
          by_cases hd : x ≤ 57
          · have dd : decide ((x : Int) ≤ 57) = true := by simp; omega
            have HE := hide (show r = true by rw [← HR.out]; simp [ha, hb, hc, hd] <;> omega)
            clear ha hb hc hd
            go_enter Tryz.func81, Tryz.ntmps81
            go_wp2_with (first | (go_at_call 89; refine HG.out.mono ?_; rintro e w1 ⟨rfl, rfl⟩) | (go_at_call 107; refine HI.out.mono ?_; rintro e w1 ⟨rfl, rfl⟩))
            go_ret
            exact ⟨by rw [HE.out]; rfl, rfl⟩
          · have dd : decide ((x : Int) ≤ 57) = false := by simp; omega
            by_cases hsp : 0 ≤ I
            · have dsp : decide (0 ≤ I) = true := by simp; omega
              have HE := hide (show r = true by rw [← HR.out]; simp [ha, hb, hc, hd, hsp] <;> omega)
              clear ha hb hc hd hsp
              go_enter Tryz.func81, Tryz.ntmps81
              go_wp2_with (first | (go_at_call 89; refine HG.out.mono ?_; rintro e w1 ⟨rfl, rfl⟩) | (go_at_call 107; refine HI.out.mono ?_; rintro e w1 ⟨rfl, rfl⟩))
              go_ret
              exact ⟨by rw [HE.out]; rfl, rfl⟩
            · have dsp : decide (0 ≤ I) = false := by simp; omega
              have HE := hide (show r = false by rw [← HR.out]; simp [ha, hb, hc, hd, hsp] <;> omega)
              clear ha hb hc hd hsp
              go_enter Tryz.func81, Tryz.ntmps81
              go_wp2_with (first | (go_at_call 89; refine HG.out.mono ?_; rintro e w1 ⟨rfl, rfl⟩) | (go_at_call 107; refine HI.out.mono ?_; rintro e w1 ⟨rfl, rfl⟩))
              go_ret
              exact ⟨by rw [HE.out]; rfl, rfl⟩
        · have dc : decide ((48 : Int) ≤ (x : Int)) = false := by simp; omega
          by_cases hsp : 0 ≤ I
          · have dsp : decide (0 ≤ I) = true := by simp; omega
            have HE := hide (show r = true by rw [← HR.out]; simp [ha, hb, hc, hsp] <;> omega)
            clear ha hb hc hsp
            go_enter Tryz.func81, Tryz.ntmps81
            go_wp2_with (first | (go_at_call 89; refine HG.out.mono ?_; rintro e w1 ⟨rfl, rfl⟩) | (go_at_call 107; refine HI.out.mono ?_; rintro e w1 ⟨rfl, rfl⟩))
            go_ret
            exact ⟨by rw [HE.out]; rfl, rfl⟩
          · have dsp : decide (0 ≤ I) = false := by simp; omega
            have HE := hide (show r = false by rw [← HR.out]; simp [ha, hb, hc, hsp] <;> omega)
            clear ha hb hc hsp
            go_enter Tryz.func81, Tryz.ntmps81
            go_wp2_with (first | (go_at_call 89; refine HG.out.mono ?_; rintro e w1 ⟨rfl, rfl⟩) | (go_at_call 107; refine HI.out.mono ?_; rintro e w1 ⟨rfl, rfl⟩))
            go_ret
            exact ⟨by rw [HE.out]; rfl, rfl⟩
  · have da : decide ((97 : Int) ≤ (x : Int)) = false := by simp; omega
    cases u with
    | true =>
      have HE := hide (show r = true by rw [← HR.out]; simp [ha] <;> omega)
      clear ha
      go_enter Tryz.func81, Tryz.ntmps81
      go_wp2_with (first | (go_at_call 89; refine HG.out.mono ?_; rintro e w1 ⟨rfl, rfl⟩) | (go_at_call 107; refine HI.out.mono ?_; rintro e w1 ⟨rfl, rfl⟩))
      go_ret
      exact ⟨by rw [HE.out]; rfl, rfl⟩
    | false =>
      by_cases hc : 48 ≤ x
      · have dc : decide ((48 : Int) ≤ (x : Int)) = true := by simp; omega
        by_cases hd : x ≤ 57
        · have dd : decide ((x : Int) ≤ 57) = true := by simp; omega
          have HE := hide (show r = true by rw [← HR.out]; simp [ha, hc, hd] <;> omega)
          clear ha hc hd
          go_enter Tryz.func81, Tryz.ntmps81
          go_wp2_with (first | (go_at_call 89; refine HG.out.mono ?_; rintro e w1 ⟨rfl, rfl⟩) | (go_at_call 107; refine HI.out.mono ?_; rintro e w1 ⟨rfl, rfl⟩))
          go_ret
          exact ⟨by rw [HE.out]; rfl, rfl⟩
        · have dd : decide ((x : Int) ≤ 57) = false := by simp; omega
          by_cases hsp : 0 ≤ I
          · have dsp : decide (0 ≤ I) = true := by simp; omega
            have HE := hide (show r = true by rw [← HR.out]; simp [ha, hc, hd, hsp] <;> omega)
            clear ha hc hd hsp
            go_enter Tryz.func81, Tryz.ntmps81
            go_wp2_with (first | (go_at_call 89; refine HG.out.mono ?_; rintro e w1 ⟨rfl, rfl⟩) | (go_at_call 107; refine HI.out.mono ?_; rintro e w1 ⟨rfl, rfl⟩))
            go_ret
            exact ⟨by rw [HE.out]; rfl, rfl⟩
          · have dsp : decide (0 ≤ I) = false := by simp; omega
            have HE := hide (show r = false by rw [← HR.out]; simp [ha, hc, hd, hsp] <;> omega)
            clear ha hc hd hsp
            go_enter Tryz.func81, Tryz.ntmps81
            go_wp2_with (first | (go_at_call 89; refine HG.out.mono ?_; rintro e w1 ⟨rfl, rfl⟩) | (go_at_call 107; refine HI.out.mono ?_; rintro e w1 ⟨rfl, rfl⟩))
            go_ret
            exact ⟨by rw [HE.out]; rfl, rfl⟩
      · have dc : decide ((48 : Int) ≤ (x : Int)) = false := by simp; omega
        by_cases hsp : 0 ≤ I
        · have dsp : decide (0 ≤ I) = true := by simp; omega
          have HE := hide (show r = true by rw [← HR.out]; simp [ha, hc, hsp] <;> omega)
          clear ha hc hsp
          go_enter Tryz.func81, Tryz.ntmps81
          go_wp2_with (first | (go_at_call 89; refine HG.out.mono ?_; rintro e w1 ⟨rfl, rfl⟩) | (go_at_call 107; refine HI.out.mono ?_; rintro e w1 ⟨rfl, rfl⟩))
          go_ret
          exact ⟨by rw [HE.out]; rfl, rfl⟩
        · have dsp : decide (0 ≤ I) = false := by simp; omega
          have HE := hide (show r = false by rw [← HR.out]; simp [ha, hc, hsp] <;> omega)
          clear ha hc hsp
          go_enter Tryz.func81, Tryz.ntmps81
          go_wp2_with (first | (go_at_call 89; refine HG.out.mono ?_; rintro e w1 ⟨rfl, rfl⟩) | (go_at_call 107; refine HI.out.mono ?_; rintro e w1 ⟨rfl, rfl⟩))
          go_ret
          exact ⟨by rw [HE.out]; rfl, rfl⟩
end Go.Proofs.YtonoaopioifedaaGreatDoor.H
