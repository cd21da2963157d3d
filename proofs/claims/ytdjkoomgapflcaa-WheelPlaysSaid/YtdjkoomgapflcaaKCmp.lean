/- cmp.Compare, cmp.Or. -/
import Derived.Test.YtdjkoomgapflcaaEKey
import Derived.Deep.Cut
import Derived.IntWalk
namespace Go.Proofs.Ytdjkoomgapflcaa
open Go.RowKit Go.Deep
set_option linter.unusedVariables false
set_option linter.unusedSimpArgs false
set_option maxRecDepth 100000
def ordI (a b : Int) : Int := if a < b then -1 else if b < a then 1 else 0
def nzF : List Int → Int
  | [] => 0
  | x :: xs => if x ≠ 0 then x else nzF xs
theorem nz_all : ∀ (xs : List Int), (∀ x ∈ xs, x = 0) → nzF xs = 0
  | [], _ => rfl
  | x :: xs, h => by
    unfold nzF
    rw [if_neg (by have := h x (by simp); omega)]
    exact nz_all xs fun y hy => h y (by simp [hy])
theorem nz_at : ∀ (xs : List Int) (j : Nat), j < xs.length → (∀ k, k < j → xs[k]?.getD 0 = 0) → xs[j]?.getD 0 ≠ 0 → nzF xs = xs[j]?.getD 0
  | [], _, h, _, _ => by simp at h
  | x :: xs, 0, _, _, h => by unfold nzF; simp at h; rw [if_pos h]; simp
  | x :: xs, j + 1, hj, h0, h => by
    unfold nzF
    have hx := h0 0 (by omega)
    simp at hx
    rw [if_neg (by omega)]
    simp at h hj ⊢
    exact nz_at xs j (by omega) (fun k hk => by have := h0 (k + 1) (by omega); simpa using this) h
theorem ordI_sgn (a b : Int) : ordI a b = sgn a b := rfl
theorem cmpD_anyN (a : Int) (w : World) : Calls Try.prog 46 #[.int .u64 a] w fun e w' => e = .returned (.bool false) ∧ w' = w := by
  go_enter Try.func46, Try.ntmps46
  go_wp2_with fail
  go_ret
  exact ⟨by simp, rfl⟩
theorem cmpD_any (a b : Int) (w : World) : Calls Try.prog 34 #[.int .u64 a, .int .u64 b] w fun e w' => e = .returned (.int .i64 (ordI a b)) ∧ w' = w := by
  obtain ⟨r, hr⟩ : ∃ r, ordI a b = r := ⟨_, rfl⟩
  rw [hr]
  unfold ordI at hr
  by_cases h1 : a < b
  · have d1 : decide (a < b) = true := by simpa using h1
    have HR := hide (show r = -1 by rw [← hr, if_pos h1])
    clear hr h1
    go_enter Try.func34, Try.ntmps34
    go_wp2_with ((with_reducible refine (cmpD_anyN _ _).mono ?_); rintro _ w1 ⟨rfl, rfl⟩)
    go_ret
    exact ⟨by rw [HR.out]; rfl, rfl⟩
  · have d1 : decide (a < b) = false := by simpa using h1
    by_cases h2 : b < a
    · have d2 : decide (b < a) = true := by simpa using h2
      have HR := hide (show r = 1 by rw [← hr, if_neg h1, if_pos h2])
      clear hr h1 h2
      go_enter Try.func34, Try.ntmps34
      go_wp2_with ((with_reducible refine (cmpD_anyN _ _).mono ?_); rintro _ w1 ⟨rfl, rfl⟩)
      go_ret
      exact ⟨by rw [HR.out]; rfl, rfl⟩
    · have d2 : decide (b < a) = false := by simpa using h2
      have HR := hide (show r = 0 by rw [← hr, if_neg h1, if_neg h2])
      clear hr h1 h2
      go_enter Try.func34, Try.ntmps34
      go_wp2_with ((with_reducible refine (cmpD_anyN _ _).mono ?_); rintro _ w1 ⟨rfl, rfl⟩)
      go_ret
      exact ⟨by rw [HR.out]; rfl, rfl⟩
theorem cmpI_anyN (a : Int) (w : World) : Calls Try.prog 32 #[.int .i64 a] w fun e w' => e = .returned (.bool false) ∧ w' = w := by
  go_enter Try.func32, Try.ntmps32
  go_wp2_with fail
  go_ret
  exact ⟨by simp, rfl⟩
theorem cmpI_any (a b : Int) (w : World) : Calls Try.prog 20 #[.int .i64 a, .int .i64 b] w fun e w' => e = .returned (.int .i64 (ordI a b)) ∧ w' = w := by
  obtain ⟨r, hr⟩ : ∃ r, ordI a b = r := ⟨_, rfl⟩
  rw [hr]
  unfold ordI at hr
  by_cases h1 : a < b
  · have d1 : decide (a < b) = true := by simpa using h1
    have HR := hide (show r = -1 by rw [← hr, if_pos h1])
    clear hr h1
    go_enter Try.func20, Try.ntmps20
    go_wp2_with ((with_reducible refine (cmpI_anyN _ _).mono ?_); rintro _ w1 ⟨rfl, rfl⟩)
    go_ret
    exact ⟨by rw [HR.out]; rfl, rfl⟩
  · have d1 : decide (a < b) = false := by simpa using h1
    by_cases h2 : b < a
    · have d2 : decide (b < a) = true := by simpa using h2
      have HR := hide (show r = 1 by rw [← hr, if_neg h1, if_pos h2])
      clear hr h1 h2
      go_enter Try.func20, Try.ntmps20
      go_wp2_with ((with_reducible refine (cmpI_anyN _ _).mono ?_); rintro _ w1 ⟨rfl, rfl⟩)
      go_ret
      exact ⟨by rw [HR.out]; rfl, rfl⟩
    · have d2 : decide (b < a) = false := by simpa using h2
      have HR := hide (show r = 0 by rw [← hr, if_neg h1, if_neg h2])
      clear hr h1 h2
      go_enter Try.func20, Try.ntmps20
      go_wp2_with ((with_reducible refine (cmpI_anyN _ _).mono ?_); rintro _ w1 ⟨rfl, rfl⟩)
      go_ret
      exact ⟨by rw [HR.out]; rfl, rfl⟩
set_option maxHeartbeats 400000 in
theorem or_any (xs : List Int) (w : World) (B c : Nat) (hc : ∀ i, i < xs.length → w.cell? ⟨B, i, none⟩ = some (.int .i64 (xs[i]?.getD 0))) (hl : xs.length ≤ 9223372036854775807) :
    Calls Try.prog 33 #[.slice (some ⟨B, 0, none⟩) xs.length c] w fun e w' => e = .returned (.int .i64 (nzF xs)) ∧ w' = w := by
  obtain ⟨n, hn⟩ : ∃ n, xs.length = n := ⟨_, rfl⟩
  rw [hn] at hc hl ⊢
  have HC := hide hc
  have HN := hide hn
  obtain ⟨r, hr⟩ : ∃ r, nzF xs = r := ⟨_, rfl⟩
  rw [hr]
  have HR := hide hr
  clear hc hn hr
  go_enter Try.func33, Try.ntmps33
  go_wp2_with fail
  go_loop [8] (fun i => ∃ j : Nat, j ≤ n ∧ i = .int .i64 j ∧ Hid (∀ k, k < j → xs[k]?.getD 0 = 0)) (fun i => n - (intOf i).toNat)
  case atStart => exact ⟨0, Nat.zero_le _, rfl, hide (fun k hk => absurd hk (by omega))⟩
  case round =>
    obtain ⟨j, hj, rfl, HZ⟩ := hrel
    by_cases hlt : j < n
    · have c0 := HC.out j hlt
      obtain ⟨x, hx⟩ : ∃ x, xs[j]?.getD 0 = x := ⟨_, rfl⟩
      rw [hx] at c0
      by_cases hz : x = 0
      · subst hz
        have HZ2 := hide (show ∀ k, k < j + 1 → xs[k]?.getD 0 = 0 by
          intro k hk
          rcases Nat.lt_or_ge k j with h | h
          · exact HZ.out k h
          · have : k = j := by omega
            rw [this]; exact hx)
        clear hx
        go_wp2_with fail
        go_round
        case rel => exact ⟨j + 1, by omega, by go_num, HZ2⟩
        case measure => simp [intOf]; omega
      · have hd : (x != 0) = true := by simpa using hz
        have HX := hide (show r = x by rw [← HR.out, nz_at xs j (by rw [HN.out]; exact hlt) HZ.out (by rw [hx]; exact hz), hx])
        clear hz hx
        go_wp2_with fail
        go_ret
        exact ⟨by rw [HX.out]; rfl, rfl⟩
    · have HX := hide (show r = 0 by
        rw [← HR.out]
        refine nz_all xs fun x hx => ?_
        obtain ⟨k, hk, rfl⟩ := List.getElem_of_mem hx
        have := HZ.out k (by have := HN.out; omega)
        rw [List.getElem?_eq_getElem hk] at this
        exact this)
      go_wp2_with fail
      go_ret
      exact ⟨by rw [HX.out]; rfl, rfl⟩
theorem or_two (V : World) (a b : Int) :
    Calls Try.prog 33 #[.slice (some ⟨V.heap.size, 0, none⟩) 2 2] (V.alloc (.cells #[.int .i64 a, .int .i64 b] 3)).drew fun x w' => x = .returned (.int .i64 (nzF [a, b])) ∧ w' = (V.alloc (.cells #[.int .i64 a, .int .i64 b] 3)).drew := by
  refine or_any [a, b] _ V.heap.size 2 (fun i hi => ?_) (by simp)
  obtain ⟨c0, c1, _⟩ := two_cells (heap_alloc_new V (.cells #[.int .i64 a, .int .i64 b] 3))
  match i, hi with
  | 0, _ => exact c0
  | 1, _ => exact c1
theorem nz_two (a b : Int) : nzF [a, b] = if a ≠ 0 then a else b := by
  unfold nzF
  split
  · rfl
  · unfold nzF
    split
    · rfl
    · rename_i h; unfold nzF; omega
set_option maxHeartbeats 2000000 in
theorem orderE_any (x y : EK) (w : World) :
    Calls Try.prog 22 #[.agg #[.int .u64 x.s, .int .i64 x.k], .agg #[.int .u64 y.s, .int .i64 y.k]] w fun e w' => e = .returned (.int .i64 (sgn (tE x) (tE y))) ∧ Below w.heap.size w w' := by
  have hr := tE_sgn x y
  rw [← nz_two, ← ordI_sgn x.s, ← ordI_sgn x.k] at hr
  obtain ⟨r, hre⟩ : ∃ r, sgn (tE x) (tE y) = r := ⟨_, rfl⟩
  rw [hre] at hr ⊢
  have HR := hide hr
  clear hr hre
  obtain ⟨xs, hxs⟩ : ∃ z, x.s = z := ⟨_, rfl⟩
  obtain ⟨xk, hxk⟩ : ∃ z, x.k = z := ⟨_, rfl⟩
  obtain ⟨ys, hys⟩ : ∃ z, y.s = z := ⟨_, rfl⟩
  obtain ⟨yk, hyk⟩ : ∃ z, y.k = z := ⟨_, rfl⟩
  rw [hxs, hxk, hys, hyk] at HR ⊢
  clear hxs hxk hys hyk
  obtain ⟨W, hW⟩ : ∃ W, (w.alloc (.cells #[.int .u64 xs, .int .i64 xk] 52)).alloc (.cells #[.int .u64 ys, .int .i64 yk] 52) = W := ⟨_, rfl⟩
  obtain ⟨hx, hy, hb⟩ : W.heap[w.heap.size]? = some (.cells #[.int .u64 xs, .int .i64 xk] 52 (0, 0)) ∧ W.heap[w.heap.size + 1]? = some (.cells #[.int .u64 ys, .int .i64 yk] 52 (0, 0)) ∧ Below w.heap.size w W := by
    subst hW
    refine ⟨below_block ((Below.refl _ _).alloc (Nat.le_refl _) _) (heap_alloc_new w _) (Nat.le_refl _), ?_, ((Below.refl _ _).alloc (Nat.le_refl _) _).alloc (by simp) _⟩
    have h1 := heap_alloc_new (w.alloc (.cells #[.int .u64 xs, .int .i64 xk] 52)) (.cells #[.int .u64 ys, .int .i64 yk] 52)
    have hz : (w.alloc (.cells #[.int .u64 xs, .int .i64 xk] 52)).heap.size = w.heap.size + 1 := by simp
    rw [hz] at h1
    exact h1
  obtain ⟨B1, hB1⟩ : ∃ B, w.heap.size = B := ⟨_, rfl⟩
  obtain ⟨B2, hB2⟩ : ∃ B, w.heap.size + 1 = B := ⟨_, rfl⟩
  rw [hB1] at hx
  rw [hB2] at hy
  obtain ⟨x0, x1, _⟩ := two_cells hx
  obtain ⟨y0, y1, _⟩ := two_cells hy
  have hl1 := lt_of_block hx
  have hl2 := lt_of_block hy
  have HB := hide hb
  have HOR := hide (or_two W (ordI xs ys) (ordI xk yk))
  have HE := hide (And.intro hW (And.intro hB1 hB2))
  clear hx hy hb hW hB1 hB2
  go_enter Try.func22, Try.ntmps22
  go_wp2_with fail
  rw [HE.out.1]
  rw [HE.out.2.2]
  rw [HE.out.2.1]
  clear HE
  go_region_held3 (fun w' => w'.cell? ⟨B1, 0, none⟩ = some (.int .u64 xs) ∧ w'.cell? ⟨B1, 1, none⟩ = some (.int .i64 xk) ∧ w'.cell? ⟨B2, 0, none⟩ = some (.int .u64 ys) ∧ w'.cell? ⟨B2, 1, none⟩ = some (.int .i64 yk)) ((go_keep; done)) (first
    | (go_at_call 34; (with_reducible refine (cmpD_any _ _ _).mono ?_); rintro _ w1 ⟨rfl, rfl⟩)
    | (go_at_call 20; (with_reducible refine (cmpI_any _ _ _).mono ?_); rintro _ w1 ⟨rfl, rfl⟩)
    | (go_at_call 33; (with_reducible refine HOR.out.mono ?_); rintro _ w1 ⟨rfl, rfl⟩)
    | fail)
  all_goals
    go_wp2_with fail
    go_ret
    exact ⟨by rw [HR.out]; rfl, (HB.out.alloc HB.out.size _).drew⟩
end Go.Proofs.Ytdjkoomgapflcaa
