/- Head: HeadParts. -/
import Derived.Test.YtdpbgbhlcebmgaaDoorHEnv
namespace Go.Proofs.YtdpbgbhlcebmgaaDoor
open Go.RowKit Go.Deep
set_option linter.unusedVariables false
set_option linter.unusedSimpArgs false
set_option maxRecDepth 100000
def Yes (w : World) (e : Ending) (w' : World) : Prop := e = .returned (.bool true) ∧ Below w.heap.size w w'
theorem app_list (a b : ByteArray) : (a ++ b).data.toList = a.data.toList ++ b.data.toList := by simp [ByteArray.data_append]
set_option maxHeartbeats 2000000 in
theorem headParts_any (m t : ByteArray) (c : UInt8) (w : World) (hE : Env w) : Calls Tryd.prog 7 #[.string m, .string t, .int .u8 (c.toNat : Int)] w (Yes w) := by
  have HS := hide (speaks_any w hE)
  have HE := hide hE
  obtain ⟨lm, hlm⟩ : ∃ n, m.size = n := ⟨_, rfl⟩
  obtain ⟨lt, hlt⟩ : ∃ n, t.size = n := ⟨_, rfl⟩
  clear hE
  by_cases h1 : 200 < lm
  · have d1 : decide ((200 : Int) < (lm : Int)) = true := by simp; omega
    clear h1
    go_enter Tryd.func7, Tryd.ntmps7
    go_wp2_with fail
    refine HS.out.mono ?_
    rintro e w1 ⟨rfl, b1⟩
    have HB := hide b1
    clear b1
    go_wp2_with fail
    go_ret
    exact ⟨rfl, HB.out⟩
  have d1 : decide ((200 : Int) < (lm : Int)) = false := by simp; omega
  by_cases h2 : 1000 < lt
  · have d2 : decide ((1000 : Int) < (lt : Int)) = true := by simp; omega
    clear h1 h2
    go_enter Tryd.func7, Tryd.ntmps7
    go_wp2_with fail
    refine HS.out.mono ?_
    rintro e w1 ⟨rfl, b1⟩
    have HB := hide b1
    clear b1
    go_wp2_with fail
    go_ret
    exact ⟨rfl, HB.out⟩
  have d2 : decide ((1000 : Int) < (lt : Int)) = false := by simp; omega
  have hX : ∀ (X : ByteArray) L r, X.data.toList = L → L.length ≤ 100000 → startL L = r → ∀ w, Env w → Calls Tryd.prog 11 #[.string X] w fun e w' => e = .returned (startV r) ∧ Below w.heap.size w w' := fun X L r e1 hs e2 w hE => by
    have := start_any X w (by rw [← e1] at hs; simpa using hs) hE
    rwa [e1, e2] at this
  obtain ⟨M, hM⟩ : ∃ M, m.data.toList = M := ⟨_, rfl⟩
  obtain ⟨T, hT⟩ : ∃ T, t.data.toList = T := ⟨_, rfl⟩
  have hMl : M.length = lm := by rw [← hM, ← hlm]; simp
  have hTl : T.length = lt := by rw [← hT, ← hlt]; simp
  obtain ⟨r1, hr1⟩ : ∃ r, startL (M ++ 32 :: (T ++ 32 :: [72, 84, 84, 80, 47, 49, 46, 49])) = r := ⟨_, rfl⟩
  obtain ⟨r4, hr4⟩ : ∃ r, startL (M ++ 32 :: (T ++ 32 :: [72, 84, 84, 80, 47, 49, 46, c])) = r := ⟨_, rfl⟩
  have hpo := parts_other M T c
  rw [hr1, hr4] at hpo
  have HC1 := hide (hX (m ++ ⟨#[32]⟩ ++ t ++ ⟨#[32, 72, 84, 84, 80, 47, 49, 46]⟩ ++ ⟨#[49]⟩) _ r1 (by simp only [app_list, hM, hT]; simp) (by simp; omega) hr1)
  have HC2 := hide (hX (m ++ ⟨#[32, 32]⟩ ++ t ++ ⟨#[32, 72, 84, 84, 80, 47, 49, 46, 49]⟩) _ none (by simp only [app_list, hM, hT]; simp) (by simp; omega) (parts_wide M T [72, 84, 84, 80, 47, 49, 46, 49]))
  have HC3 := hide (hX (m ++ ⟨#[32]⟩ ++ t ++ ⟨#[32, 72, 84, 84, 80, 47, 49, 46]⟩ ++ ⟨#[49, 32]⟩) _ none (by simp only [app_list, hM, hT]; simp) (by simp; omega) (parts_more M T [72, 84, 84, 80, 47, 49, 46, 49]))
  have HC4 := hide (hX (m ++ ⟨#[32]⟩ ++ t ++ ⟨#[32, 72, 84, 84, 80, 47, 49, 46]⟩ ++ bs [c]) _ r4 (by simp only [app_list, hM, hT]; simp) (by simp; omega) hr4)
  have HPO := hide hpo
  clear hX hM hT hr1 hr4 hpo hMl hTl
  go_enter Tryd.func7, Tryd.ntmps7
  go_wp2_with fail
  refine HS.out.mono ?_
  rintro e w1 ⟨rfl, b1⟩
  have HB := hide b1
  clear b1
  go_wp2_with fail
  have HD1 := hide (HC1.out w1 (HE.out.below HB.out (Nat.le_refl _)))
  (with_reducible refine HD1.out.mono ?_)
  rintro e w2 ⟨rfl, b2⟩
  have HB2 := hide (HB.out.trans (b2.mono HB.out.size))
  clear b2 HD1 HC1 HB
  obtain ⟨g1, hg1⟩ : ∃ g, r1.isSome = g := ⟨_, rfl⟩
  obtain ⟨a1, a2, a3, hv1⟩ : ∃ a b d, startV r1 = .tuple #[a, b, d, .bool g1] := by cases r1 with
    | none => exact ⟨_, _, _, by rw [← hg1]; rfl⟩
    | some p => exact ⟨_, _, _, by rw [← hg1]; rfl⟩
  rw [hv1]
  go_wp2_with fail
  have HD2 := hide (HC2.out w2 (HE.out.below HB2.out (Nat.le_refl _)))
  (with_reducible refine HD2.out.mono ?_)
  rintro e w3 ⟨rfl, b3⟩
  have HB3 := hide (HB2.out.trans (b3.mono HB2.out.size))
  clear b3 HD2 HC2 HB2
  unfold startV
  go_wp2_with fail
  have HD3 := hide (HC3.out w3 (HE.out.below HB3.out (Nat.le_refl _)))
  (with_reducible refine HD3.out.mono ?_)
  rintro e w4 ⟨rfl, b4⟩
  have HB4 := hide (HB3.out.trans (b4.mono HB3.out.size))
  clear b4 HD3 HC3 HB3
  unfold startV
  have hcv : (convert 41 9 (.slice (some ⟨w4.heap.size, 0, none⟩) 1 1)).run Tryd.prog (w4.alloc (.cells #[.int .u8 (c.toNat : Int)] 5)) = .ok (.string (bs [c])) (w4.alloc (.cells #[.int .u8 (c.toNat : Int)] 5)) :=
    run_convert_bytes_back (w4.alloc (.cells #[.int .u8 (c.toNat : Int)] 5)) 41 9 5 ⟨w4.heap.size, 0, none⟩ 1 [c] Tryd.underlying41 Tryd.underlying5 Tryd.underlying9 (fun j hj => by
      obtain rfl : j = 0 := by simpa using hj
      rw [add0]
      have := heap_alloc_new w4 (.cells #[.int .u8 (c.toNat : Int)] 5)
      simp only [World.cell?, this]
      rfl)
  have hal := (Below.refl w4.heap.size w4).alloc (Nat.le_refl _) (.cells #[.int .u8 (c.toNat : Int)] 5)
  have HB5 := hide (HB4.out.trans (hal.mono HB4.out.size))
  clear hal
  go_wp2_with fail
  clear hcv
  have HD4 := hide (HC4.out _ (HE.out.below HB5.out (Nat.le_refl _)))
  (with_reducible refine HD4.out.mono ?_)
  rintro e w6 ⟨rfl, b6⟩
  have HB6 := hide (HB5.out.trans (b6.mono HB5.out.size))
  clear b6 HD4 HC4 HB5 HB4
  obtain ⟨g4, hg4⟩ : ∃ g, r4.isSome = g := ⟨_, rfl⟩
  obtain ⟨b1, b2, b3, hv4⟩ : ∃ a b d, startV r4 = .tuple #[a, b, d, .bool g4] := by cases r4 with
    | none => exact ⟨_, _, _, by rw [← hg4]; rfl⟩
    | some p => exact ⟨_, _, _, by rw [← hg4]; rfl⟩
  rw [hv4]
  have hpo := HPO.out
  rw [hg1, hg4] at hpo
  have hc48 : (c == 48) = decide (c.toNat = 48) := all256 (p := fun c => (c == 48) = decide (c.toNat = 48)) (by decide) c
  have hc49 : (c == 49) = decide (c.toNat = 49) := all256 (p := fun c => (c == 49) = decide (c.toNat = 49)) (by decide) c
  rw [hc48, hc49] at hpo
  obtain ⟨x, hx⟩ : ∃ x, c.toNat = x := ⟨_, rfl⟩
  rw [hx] at hpo ⊢
  clear hc48 hc49 HPO hx hg1 hg4 hv1 hv4
  cases g1 with
  | false =>
    have e4 : g4 = false := by rw [hpo]; rfl
    subst e4
    clear hpo
    go_wp2_with fail
    go_ret
    exact ⟨rfl, HB6.out⟩
  | true =>
    by_cases h48 : x = 48
    · have e4 : g4 = true := by rw [hpo, h48]; rfl
      have d5 : ((x : Int) == 48) = true := by simp; omega
      subst e4
      clear hpo h48
      go_wp2_with fail
      go_ret
      exact ⟨rfl, HB6.out⟩
    · have d5 : ((x : Int) == 48) = false := by simp; omega
      by_cases h49 : x = 49
      · have e4 : g4 = true := by rw [hpo, h49]; rfl
        have d6 : ((x : Int) == 49) = true := by simp; omega
        subst e4
        clear hpo h48 h49
        go_wp2_with fail
        go_ret
        exact ⟨rfl, HB6.out⟩
      · have e4 : g4 = false := by rw [hpo]; simp [h48, h49]
        have d6 : ((x : Int) == 49) = false := by simp; omega
        subst e4
        clear hpo h48 h49
        go_wp2_with fail
        go_ret
        exact ⟨rfl, HB6.out⟩
end Go.Proofs.YtdpbgbhlcebmgaaDoor
