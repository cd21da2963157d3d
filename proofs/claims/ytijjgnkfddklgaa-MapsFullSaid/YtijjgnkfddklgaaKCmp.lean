/- cmp.Compare, cmp.Or. -/
import Derived.Test.YtijjgnkfddklgaaEKey
import Derived.Deep.Cut
import Derived.IntWalk
namespace Go.Proofs.Ytijjgnkfddklgaa
open Go.RowKit Go.Deep
set_option linter.unusedVariables false
set_option linter.unusedSimpArgs false
set_option maxRecDepth 100000
def ordI (a b : Int) : Int := if a < b then -1 else if b < a then 1 else 0
def nzF : List Int → Int
  | [] => 0
  | x :: xs => if x ≠ 0 then x else nzF xs
theorem nz_all : ∀ (xs : List Int), (∀ x ∈ xs, x = 0) → nzF xs = 0
  | [], _ => rfl
  | x :: xs, h => by
    unfold nzF
    rw [if_neg (by have := h x (by simp); omega)]
    exact nz_all xs fun y hy => h y (by simp [hy])
theorem nz_at : ∀ (xs : List Int) (j : Nat), j < xs.length → (∀ k, k < j → xs[k]?.getD 0 = 0) → xs[j]?.getD 0 ≠ 0 → nzF xs = xs[j]?.getD 0
  | [], _, h, _, _ => by simp at h
  | x :: xs, 0, _, _, h => by unfold nzF; simp at h; rw [if_pos h]; simp
  | x :: xs, j + 1, hj, h0, h => by
    unfold nzF
    have hx := h0 0 (by omega)
    simp at hx
    rw [if_neg (by omega)]
    simp at h hj ⊢
    exact nz_at xs j (by omega) (fun k hk => by have := h0 (k + 1) (by omega); simpa using this) h
theorem ordI_sgn (a b : Int) : ordI a b = sgn a b := rfl
theorem cmpB_anyN (a : Int) (w : World) : Calls Try.prog 81 #[.int .u8 a] w fun e w' => e = .returned (.bool false) ∧ w' = w := by
  go_enter Try.func81, Try.ntmps81
  go_wp2_with fail
  go_ret
  exact ⟨by simp, rfl⟩
theorem cmpB_any (a b : Int) (w : World) : Calls Try.prog 59 #[.int .u8 a, .int .u8 b] w fun e w' => e = .returned (.int .i64 (ordI a b)) ∧ w' = w := by
  obtain ⟨r, hr⟩ : ∃ r, ordI a b = r := ⟨_, rfl⟩
  rw [hr]
  unfold ordI at hr
  by_cases h1 : a < b
  · have d1 : decide (a < b) = true := by simpa using h1
    have HR := hide (show r = -1 by rw [← hr, if_pos h1])
    clear hr h1
    go_enter Try.func59, Try.ntmps59
    go_wp2_with ((with_reducible refine (cmpB_anyN _ _).mono ?_); rintro _ w1 ⟨rfl, rfl⟩)
    go_ret
    exact ⟨by rw [HR.out]; rfl, rfl⟩
  · have d1 : decide (a < b) = false := by simpa using h1
    by_cases h2 : b < a
    · have d2 : decide (b < a) = true := by simpa using h2
      have HR := hide (show r = 1 by rw [← hr, if_neg h1, if_pos h2])
      clear hr h1 h2
      go_enter Try.func59, Try.ntmps59
      go_wp2_with ((with_reducible refine (cmpB_anyN _ _).mono ?_); rintro _ w1 ⟨rfl, rfl⟩)
      go_ret
      exact ⟨by rw [HR.out]; rfl, rfl⟩
    · have d2 : decide (b < a) = false := by simpa using h2
      have HR := hide (show r = 0 by rw [← hr, if_neg h1, if_neg h2])
      clear hr h1 h2
      go_enter Try.func59, Try.ntmps59
      go_wp2_with ((with_reducible refine (cmpB_anyN _ _).mono ?_); rintro _ w1 ⟨rfl, rfl⟩)
      go_ret
      exact ⟨by rw [HR.out]; rfl, rfl⟩
theorem cmpW_anyN (a : Int) (w : World) : Calls Try.prog 82 #[.int .u16 a] w fun e w' => e = .returned (.bool false) ∧ w' = w := by
  go_enter Try.func82, Try.ntmps82
  go_wp2_with fail
  go_ret
  exact ⟨by simp, rfl⟩
theorem cmpW_any (a b : Int) (w : World) : Calls Try.prog 60 #[.int .u16 a, .int .u16 b] w fun e w' => e = .returned (.int .i64 (ordI a b)) ∧ w' = w := by
  obtain ⟨r, hr⟩ : ∃ r, ordI a b = r := ⟨_, rfl⟩
  rw [hr]
  unfold ordI at hr
  by_cases h1 : a < b
  · have d1 : decide (a < b) = true := by simpa using h1
    have HR := hide (show r = -1 by rw [← hr, if_pos h1])
    clear hr h1
    go_enter Try.func60, Try.ntmps60
    go_wp2_with ((with_reducible refine (cmpW_anyN _ _).mono ?_); rintro _ w1 ⟨rfl, rfl⟩)
    go_ret
    exact ⟨by rw [HR.out]; rfl, rfl⟩
  · have d1 : decide (a < b) = false := by simpa using h1
    by_cases h2 : b < a
    · have d2 : decide (b < a) = true := by simpa using h2
      have HR := hide (show r = 1 by rw [← hr, if_neg h1, if_pos h2])
      clear hr h1 h2
      go_enter Try.func60, Try.ntmps60
      go_wp2_with ((with_reducible refine (cmpW_anyN _ _).mono ?_); rintro _ w1 ⟨rfl, rfl⟩)
      go_ret
      exact ⟨by rw [HR.out]; rfl, rfl⟩
    · have d2 : decide (b < a) = false := by simpa using h2
      have HR := hide (show r = 0 by rw [← hr, if_neg h1, if_neg h2])
      clear hr h1 h2
      go_enter Try.func60, Try.ntmps60
      go_wp2_with ((with_reducible refine (cmpW_anyN _ _).mono ?_); rintro _ w1 ⟨rfl, rfl⟩)
      go_ret
      exact ⟨by rw [HR.out]; rfl, rfl⟩
theorem cmpX_anyN (a : Int) (w : World) : Calls Try.prog 83 #[.int .u32 a] w fun e w' => e = .returned (.bool false) ∧ w' = w := by
  go_enter Try.func83, Try.ntmps83
  go_wp2_with fail
  go_ret
  exact ⟨by simp, rfl⟩
theorem cmpX_any (a b : Int) (w : World) : Calls Try.prog 61 #[.int .u32 a, .int .u32 b] w fun e w' => e = .returned (.int .i64 (ordI a b)) ∧ w' = w := by
  obtain ⟨r, hr⟩ : ∃ r, ordI a b = r := ⟨_, rfl⟩
  rw [hr]
  unfold ordI at hr
  by_cases h1 : a < b
  · have d1 : decide (a < b) = true := by simpa using h1
    have HR := hide (show r = -1 by rw [← hr, if_pos h1])
    clear hr h1
    go_enter Try.func61, Try.ntmps61
    go_wp2_with ((with_reducible refine (cmpX_anyN _ _).mono ?_); rintro _ w1 ⟨rfl, rfl⟩)
    go_ret
    exact ⟨by rw [HR.out]; rfl, rfl⟩
  · have d1 : decide (a < b) = false := by simpa using h1
    by_cases h2 : b < a
    · have d2 : decide (b < a) = true := by simpa using h2
      have HR := hide (show r = 1 by rw [← hr, if_neg h1, if_pos h2])
      clear hr h1 h2
      go_enter Try.func61, Try.ntmps61
      go_wp2_with ((with_reducible refine (cmpX_anyN _ _).mono ?_); rintro _ w1 ⟨rfl, rfl⟩)
      go_ret
      exact ⟨by rw [HR.out]; rfl, rfl⟩
    · have d2 : decide (b < a) = false := by simpa using h2
      have HR := hide (show r = 0 by rw [← hr, if_neg h1, if_neg h2])
      clear hr h1 h2
      go_enter Try.func61, Try.ntmps61
      go_wp2_with ((with_reducible refine (cmpX_anyN _ _).mono ?_); rintro _ w1 ⟨rfl, rfl⟩)
      go_ret
      exact ⟨by rw [HR.out]; rfl, rfl⟩
set_option maxHeartbeats 400000 in
theorem or_any (xs : List Int) (w : World) (B c : Nat) (hc : ∀ i, i < xs.length → w.cell? ⟨B, i, none⟩ = some (.int .i64 (xs[i]?.getD 0))) (hl : xs.length ≤ 9223372036854775807) :
    Calls Try.prog 45 #[.slice (some ⟨B, 0, none⟩) xs.length c] w fun e w' => e = .returned (.int .i64 (nzF xs)) ∧ w' = w := by
  obtain ⟨n, hn⟩ : ∃ n, xs.length = n := ⟨_, rfl⟩
  rw [hn] at hc hl ⊢
  have HC := hide hc
  have HN := hide hn
  obtain ⟨r, hr⟩ : ∃ r, nzF xs = r := ⟨_, rfl⟩
  rw [hr]
  have HR := hide hr
  clear hc hn hr
  go_enter Try.func45, Try.ntmps45
  go_wp2_with fail
  go_loop [8] (fun i => ∃ j : Nat, j ≤ n ∧ i = .int .i64 j ∧ Hid (∀ k, k < j → xs[k]?.getD 0 = 0)) (fun i => n - (intOf i).toNat)
  case atStart => exact ⟨0, Nat.zero_le _, rfl, hide (fun k hk => absurd hk (by omega))⟩
  case round =>
    obtain ⟨j, hj, rfl, HZ⟩ := hrel
    by_cases hlt : j < n
    · have c0 := HC.out j hlt
      obtain ⟨x, hx⟩ : ∃ x, xs[j]?.getD 0 = x := ⟨_, rfl⟩
      rw [hx] at c0
      by_cases hz : x = 0
      · subst hz
        have HZ2 := hide (show ∀ k, k < j + 1 → xs[k]?.getD 0 = 0 by
          intro k hk
          rcases Nat.lt_or_ge k j with h | h
          · exact HZ.out k h
          · have : k = j := by omega
            rw [this]; exact hx)
        clear hx
        go_wp2_with fail
        go_round
        case rel => exact ⟨j + 1, by omega, by go_num, HZ2⟩
        case measure => simp [intOf]; omega
      · have hd : (x != 0) = true := by simpa using hz
        have HX := hide (show r = x by rw [← HR.out, nz_at xs j (by rw [HN.out]; exact hlt) HZ.out (by rw [hx]; exact hz), hx])
        clear hz hx
        go_wp2_with fail
        go_ret
        exact ⟨by rw [HX.out]; rfl, rfl⟩
    · have HX := hide (show r = 0 by
        rw [← HR.out]
        refine nz_all xs fun x hx => ?_
        obtain ⟨k, hk, rfl⟩ := List.getElem_of_mem hx
        have := HZ.out k (by have := HN.out; omega)
        rw [List.getElem?_eq_getElem hk] at this
        exact this)
      go_wp2_with fail
      go_ret
      exact ⟨by rw [HX.out]; rfl, rfl⟩
theorem or_three (V : World) (a b c : Int) :
    Calls Try.prog 45 #[.slice (some ⟨V.heap.size, 0, none⟩) 3 3] (V.alloc (.cells #[.int .i64 a, .int .i64 b, .int .i64 c] 3)).drew fun x w' => x = .returned (.int .i64 (nzF [a, b, c])) ∧ w' = (V.alloc (.cells #[.int .i64 a, .int .i64 b, .int .i64 c] 3)).drew := by
  refine or_any [a, b, c] _ V.heap.size 3 (fun i hi => ?_) (by simp)
  obtain ⟨c0, c1, c2, _⟩ := three_cells (heap_alloc_new V (.cells #[.int .i64 a, .int .i64 b, .int .i64 c] 3))
  match i, hi with
  | 0, _ => exact c0
  | 1, _ => exact c1
  | 2, _ => exact c2
theorem nz_three (a b c : Int) : nzF [a, b, c] = if a ≠ 0 then a else if b ≠ 0 then b else c := by
  unfold nzF
  split
  · rfl
  · unfold nzF
    split
    · rfl
    · unfold nzF
      split
      · rfl
      · rename_i h; unfold nzF; omega
set_option maxHeartbeats 2000000 in
theorem orderM_any (x y : MK) (w : World) :
    Calls Try.prog 30 #[.agg #[.int .u8 x.p, .int .u16 x.x, .int .u32 x.r], .agg #[.int .u8 y.p, .int .u16 y.x, .int .u32 y.r]] w fun e w' => e = .returned (.int .i64 (sgn (tM x) (tM y))) ∧ Below w.heap.size w w' := by
  have hr := tM_sgn x y
  rw [← nz_three, ← ordI_sgn x.p, ← ordI_sgn x.x, ← ordI_sgn x.r] at hr
  obtain ⟨r, hre⟩ : ∃ r, sgn (tM x) (tM y) = r := ⟨_, rfl⟩
  rw [hre] at hr ⊢
  have HR := hide hr
  clear hr hre
  obtain ⟨xp, h1⟩ : ∃ z, x.p = z := ⟨_, rfl⟩
  obtain ⟨xx, h2⟩ : ∃ z, x.x = z := ⟨_, rfl⟩
  obtain ⟨xr, h3⟩ : ∃ z, x.r = z := ⟨_, rfl⟩
  obtain ⟨yp, h4⟩ : ∃ z, y.p = z := ⟨_, rfl⟩
  obtain ⟨yx, h5⟩ : ∃ z, y.x = z := ⟨_, rfl⟩
  obtain ⟨yr, h6⟩ : ∃ z, y.r = z := ⟨_, rfl⟩
  rw [h1, h2, h3, h4, h5, h6] at HR ⊢
  clear h1 h2 h3 h4 h5 h6
  obtain ⟨W, hW⟩ : ∃ W, (w.alloc (.cells #[.int .u8 xp, .int .u16 xx, .int .u32 xr] 76)).alloc (.cells #[.int .u8 yp, .int .u16 yx, .int .u32 yr] 76) = W := ⟨_, rfl⟩
  obtain ⟨hx, hy, hb⟩ : W.heap[w.heap.size]? = some (.cells #[.int .u8 xp, .int .u16 xx, .int .u32 xr] 76 (0, 0)) ∧ W.heap[w.heap.size + 1]? = some (.cells #[.int .u8 yp, .int .u16 yx, .int .u32 yr] 76 (0, 0)) ∧ Below w.heap.size w W := by
    subst hW
    refine ⟨below_block ((Below.refl _ _).alloc (Nat.le_refl _) _) (heap_alloc_new w _) (Nat.le_refl _), ?_, ((Below.refl _ _).alloc (Nat.le_refl _) _).alloc (by simp) _⟩
    have h1 := heap_alloc_new (w.alloc (.cells #[.int .u8 xp, .int .u16 xx, .int .u32 xr] 76)) (.cells #[.int .u8 yp, .int .u16 yx, .int .u32 yr] 76)
    have hz : (w.alloc (.cells #[.int .u8 xp, .int .u16 xx, .int .u32 xr] 76)).heap.size = w.heap.size + 1 := by simp
    rw [hz] at h1
    exact h1
  obtain ⟨B1, hB1⟩ : ∃ B, w.heap.size = B := ⟨_, rfl⟩
  obtain ⟨B2, hB2⟩ : ∃ B, w.heap.size + 1 = B := ⟨_, rfl⟩
  rw [hB1] at hx
  rw [hB2] at hy
  obtain ⟨x0, x1, x2, _⟩ := three_cells hx
  obtain ⟨y0, y1, y2, _⟩ := three_cells hy
  have hl1 := lt_of_block hx
  have hl2 := lt_of_block hy
  have HB := hide hb
  have HOR := hide (or_three W (ordI xp yp) (ordI xx yx) (ordI xr yr))
  have HE := hide (And.intro hW (And.intro hB1 hB2))
  clear hx hy hb hW hB1 hB2
  go_enter Try.func30, Try.ntmps30
  go_wp2_with fail
  rw [HE.out.1]
  rw [HE.out.2.2]
  rw [HE.out.2.1]
  clear HE
  go_region_held3 (fun w' => w'.cell? ⟨B1, 0, none⟩ = some (.int .u8 xp) ∧ w'.cell? ⟨B1, 1, none⟩ = some (.int .u16 xx) ∧ w'.cell? ⟨B1, 2, none⟩ = some (.int .u32 xr) ∧ w'.cell? ⟨B2, 0, none⟩ = some (.int .u8 yp) ∧ w'.cell? ⟨B2, 1, none⟩ = some (.int .u16 yx) ∧ w'.cell? ⟨B2, 2, none⟩ = some (.int .u32 yr)) ((go_keep; done)) (first
    | (go_at_call 59; (with_reducible refine (cmpB_any _ _ _).mono ?_); rintro _ w1 ⟨rfl, rfl⟩)
    | (go_at_call 60; (with_reducible refine (cmpW_any _ _ _).mono ?_); rintro _ w1 ⟨rfl, rfl⟩)
    | (go_at_call 61; (with_reducible refine (cmpX_any _ _ _).mono ?_); rintro _ w1 ⟨rfl, rfl⟩)
    | (go_at_call 45; (with_reducible refine HOR.out.mono ?_); rintro _ w1 ⟨rfl, rfl⟩)
    | fail)
  all_goals
    go_wp2_with fail
    go_ret
    exact ⟨by rw [HR.out]; rfl, (HB.out.alloc HB.out.size _).drew⟩
end Go.Proofs.Ytijjgnkfddklgaa
