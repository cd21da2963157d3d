/- An error's words. -/
import Derived.Test.YtinmlndimgengaaGreatDoorISpk
namespace Go.Proofs.YtinmlndimgengaaGreatDoor
open Go.RowKit Go.Deep
set_option linter.unusedVariables false
set_option linter.unusedSimpArgs false
set_option maxRecDepth 100000
/-- An error's words. -/
def wordsV (n : Int) : ByteArray := if n = 401 then ⟨#[73, 110, 118, 97, 108, 105, 100, 32, 65, 99, 116, 105, 111, 110]⟩ else if n = 402 then ⟨#[73, 110, 118, 97, 108, 105, 100, 32, 65, 114, 103, 115]⟩ else if n = 501 then ⟨#[65, 99, 116, 105, 111, 110, 32, 70, 97, 105, 108, 101, 100]⟩ else if n = 606 then ⟨#[65, 99, 116, 105, 111, 110, 32, 110, 111, 116, 32, 97, 117, 116, 104, 111, 114, 105, 122, 101, 100]⟩ else if n = 713 then ⟨#[83, 112, 101, 99, 105, 102, 105, 101, 100, 65, 114, 114, 97, 121, 73, 110, 100, 101, 120, 73, 110, 118, 97, 108, 105, 100]⟩ else if n = 714 then ⟨#[78, 111, 83, 117, 99, 104, 69, 110, 116, 114, 121, 73, 110, 65, 114, 114, 97, 121]⟩ else if n = 716 then ⟨#[87, 105, 108, 100, 67, 97, 114, 100, 78, 111, 116, 80, 101, 114, 109, 105, 116, 116, 101, 100, 73, 110, 69, 120, 116, 80, 111, 114, 116]⟩ else if n = 718 then ⟨#[67, 111, 110, 102, 108, 105, 99, 116, 73, 110, 77, 97, 112, 112, 105, 110, 103, 69, 110, 116, 114, 121]⟩ else if n = 728 then ⟨#[78, 111, 80, 111, 114, 116, 77, 97, 112, 115, 65, 118, 97, 105, 108, 97, 98, 108, 101]⟩ else if n = 729 then ⟨#[67, 111, 110, 102, 108, 105, 99, 116, 87, 105, 116, 104, 79, 116, 104, 101, 114, 77, 101, 99, 104, 97, 110, 105, 115, 109, 115]⟩ else if n = 730 then ⟨#[80, 111, 114, 116, 77, 97, 112, 112, 105, 110, 103, 78, 111, 116, 70, 111, 117, 110, 100]⟩ else if n = 732 then ⟨#[87, 105, 108, 100, 67, 97, 114, 100, 78, 111, 116, 80, 101, 114, 109, 105, 116, 116, 101, 100, 73, 110, 73, 110, 116, 80, 111, 114, 116]⟩ else if n = 733 then ⟨#[73, 110, 99, 111, 110, 115, 105, 115, 116, 101, 110, 116, 80, 97, 114, 97, 109, 101, 116, 101, 114, 115]⟩ else ⟨#[69, 114, 114, 111, 114]⟩
def nmW (j : Nat) : Int := ([401, 402, 501, 606, 713, 714, 716, 718, 728, 729, 730, 732, 733] : List Int)[j]?.getD 0
def txW (j : Nat) : ByteArray := ([⟨#[73, 110, 118, 97, 108, 105, 100, 32, 65, 99, 116, 105, 111, 110]⟩, ⟨#[73, 110, 118, 97, 108, 105, 100, 32, 65, 114, 103, 115]⟩, ⟨#[65, 99, 116, 105, 111, 110, 32, 70, 97, 105, 108, 101, 100]⟩, ⟨#[65, 99, 116, 105, 111, 110, 32, 110, 111, 116, 32, 97, 117, 116, 104, 111, 114, 105, 122, 101, 100]⟩, ⟨#[83, 112, 101, 99, 105, 102, 105, 101, 100, 65, 114, 114, 97, 121, 73, 110, 100, 101, 120, 73, 110, 118, 97, 108, 105, 100]⟩, ⟨#[78, 111, 83, 117, 99, 104, 69, 110, 116, 114, 121, 73, 110, 65, 114, 114, 97, 121]⟩, ⟨#[87, 105, 108, 100, 67, 97, 114, 100, 78, 111, 116, 80, 101, 114, 109, 105, 116, 116, 101, 100, 73, 110, 69, 120, 116, 80, 111, 114, 116]⟩, ⟨#[67, 111, 110, 102, 108, 105, 99, 116, 73, 110, 77, 97, 112, 112, 105, 110, 103, 69, 110, 116, 114, 121]⟩, ⟨#[78, 111, 80, 111, 114, 116, 77, 97, 112, 115, 65, 118, 97, 105, 108, 97, 98, 108, 101]⟩, ⟨#[67, 111, 110, 102, 108, 105, 99, 116, 87, 105, 116, 104, 79, 116, 104, 101, 114, 77, 101, 99, 104, 97, 110, 105, 115, 109, 115]⟩, ⟨#[80, 111, 114, 116, 77, 97, 112, 112, 105, 110, 103, 78, 111, 116, 70, 111, 117, 110, 100]⟩, ⟨#[87, 105, 108, 100, 67, 97, 114, 100, 78, 111, 116, 80, 101, 114, 109, 105, 116, 116, 101, 100, 73, 110, 73, 110, 116, 80, 111, 114, 116]⟩, ⟨#[73, 110, 99, 111, 110, 115, 105, 115, 116, 101, 110, 116, 80, 97, 114, 97, 109, 101, 116, 101, 114, 115]⟩] : List ByteArray)[j]?.getD ⟨#[]⟩
theorem words_hit (j : Nat) (h : j < 13) : wordsV (nmW j) = txW j := by
  match j, h with
  | 0, _ | 1, _ | 2, _ | 3, _ | 4, _ | 5, _ | 6, _ | 7, _ | 8, _ | 9, _ | 10, _ | 11, _ | 12, _ => rfl
theorem words_miss (n : Int) (h : ∀ j, j < 13 → nmW j ≠ n) : wordsV n = ⟨#[69, 114, 114, 111, 114]⟩ := by
  unfold wordsV
  rw [if_neg (fun e => h 0 (by omega) (by rw [e]; rfl))]
  rw [if_neg (fun e => h 1 (by omega) (by rw [e]; rfl))]
  rw [if_neg (fun e => h 2 (by omega) (by rw [e]; rfl))]
  rw [if_neg (fun e => h 3 (by omega) (by rw [e]; rfl))]
  rw [if_neg (fun e => h 4 (by omega) (by rw [e]; rfl))]
  rw [if_neg (fun e => h 5 (by omega) (by rw [e]; rfl))]
  rw [if_neg (fun e => h 6 (by omega) (by rw [e]; rfl))]
  rw [if_neg (fun e => h 7 (by omega) (by rw [e]; rfl))]
  rw [if_neg (fun e => h 8 (by omega) (by rw [e]; rfl))]
  rw [if_neg (fun e => h 9 (by omega) (by rw [e]; rfl))]
  rw [if_neg (fun e => h 10 (by omega) (by rw [e]; rfl))]
  rw [if_neg (fun e => h 11 (by omega) (by rw [e]; rfl))]
  rw [if_neg (fun e => h 12 (by omega) (by rw [e]; rfl))]
set_option maxHeartbeats 2000000 in
theorem words_any (n : Int) (w : World) : Calls Tryz.prog 18 #[.int .i64 n] w fun e w' => e = .returned (.string (wordsV n)) ∧ w' = w := by
  obtain ⟨r, hr⟩ : ∃ r, wordsV n = r := ⟨_, rfl⟩
  have HR := hide hr
  by_cases h0 : n = 401
  · subst h0
    rw [hr]
    clear hr
    go_enter Tryz.func18, Tryz.ntmps18
    go_wp2_with fail
    go_ret
    exact ⟨by rw [← HR.out]; rfl, rfl⟩
  by_cases h1 : n = 402
  · subst h1
    rw [hr]
    clear hr h0
    go_enter Tryz.func18, Tryz.ntmps18
    go_wp2_with fail
    go_ret
    exact ⟨by rw [← HR.out]; rfl, rfl⟩
  by_cases h2 : n = 501
  · subst h2
    rw [hr]
    clear hr h0 h1
    go_enter Tryz.func18, Tryz.ntmps18
    go_wp2_with fail
    go_ret
    exact ⟨by rw [← HR.out]; rfl, rfl⟩
  by_cases h3 : n = 606
  · subst h3
    rw [hr]
    clear hr h0 h1 h2
    go_enter Tryz.func18, Tryz.ntmps18
    go_wp2_with fail
    go_ret
    exact ⟨by rw [← HR.out]; rfl, rfl⟩
  by_cases h4 : n = 713
  · subst h4
    rw [hr]
    clear hr h0 h1 h2 h3
    go_enter Tryz.func18, Tryz.ntmps18
    go_wp2_with fail
    go_ret
    exact ⟨by rw [← HR.out]; rfl, rfl⟩
  by_cases h5 : n = 714
  · subst h5
    rw [hr]
    clear hr h0 h1 h2 h3 h4
    go_enter Tryz.func18, Tryz.ntmps18
    go_wp2_with fail
    go_ret
    exact ⟨by rw [← HR.out]; rfl, rfl⟩
  by_cases h6 : n = 716
  · subst h6
    rw [hr]
    clear hr h0 h1 h2 h3 h4 h5
    go_enter Tryz.func18, Tryz.ntmps18
    go_wp2_with fail
    go_ret
    exact ⟨by rw [← HR.out]; rfl, rfl⟩
  by_cases h7 : n = 718
  · subst h7
    rw [hr]
    clear hr h0 h1 h2 h3 h4 h5 h6
    go_enter Tryz.func18, Tryz.ntmps18
    go_wp2_with fail
    go_ret
    exact ⟨by rw [← HR.out]; rfl, rfl⟩
  by_cases h8 : n = 728
  · subst h8
    rw [hr]
    clear hr h0 h1 h2 h3 h4 h5 h6 h7
    go_enter Tryz.func18, Tryz.ntmps18
    go_wp2_with fail
    go_ret
    exact ⟨by rw [← HR.out]; rfl, rfl⟩
  by_cases h9 : n = 729
  · subst h9
    rw [hr]
    clear hr h0 h1 h2 h3 h4 h5 h6 h7 h8
    go_enter Tryz.func18, Tryz.ntmps18
    go_wp2_with fail
    go_ret
    exact ⟨by rw [← HR.out]; rfl, rfl⟩
  by_cases h10 : n = 730
  · subst h10
    rw [hr]
    clear hr h0 h1 h2 h3 h4 h5 h6 h7 h8 h9
    go_enter Tryz.func18, Tryz.ntmps18
    go_wp2_with fail
    go_ret
    exact ⟨by rw [← HR.out]; rfl, rfl⟩
  by_cases h11 : n = 732
  · subst h11
    rw [hr]
    clear hr h0 h1 h2 h3 h4 h5 h6 h7 h8 h9 h10
    go_enter Tryz.func18, Tryz.ntmps18
    go_wp2_with fail
    go_ret
    exact ⟨by rw [← HR.out]; rfl, rfl⟩
  by_cases h12 : n = 733
  · subst h12
    rw [hr]
    clear hr h0 h1 h2 h3 h4 h5 h6 h7 h8 h9 h10 h11
    go_enter Tryz.func18, Tryz.ntmps18
    go_wp2_with fail
    go_ret
    exact ⟨by rw [← HR.out]; rfl, rfl⟩
  have HM := hide (words_miss n (fun j hj e => by
    match j, hj with
    | 0, _ => exact h0 e.symm
    | 1, _ => exact h1 e.symm
    | 2, _ => exact h2 e.symm
    | 3, _ => exact h3 e.symm
    | 4, _ => exact h4 e.symm
    | 5, _ => exact h5 e.symm
    | 6, _ => exact h6 e.symm
    | 7, _ => exact h7 e.symm
    | 8, _ => exact h8 e.symm
    | 9, _ => exact h9 e.symm
    | 10, _ => exact h10 e.symm
    | 11, _ => exact h11 e.symm
    | 12, _ => exact h12 e.symm
    ))
  have e0 : (n == 401) = false := by simpa using h0
  have e1 : (n == 402) = false := by simpa using h1
  have e2 : (n == 501) = false := by simpa using h2
  have e3 : (n == 606) = false := by simpa using h3
  have e4 : (n == 713) = false := by simpa using h4
  have e5 : (n == 714) = false := by simpa using h5
  have e6 : (n == 716) = false := by simpa using h6
  have e7 : (n == 718) = false := by simpa using h7
  have e8 : (n == 728) = false := by simpa using h8
  have e9 : (n == 729) = false := by simpa using h9
  have e10 : (n == 730) = false := by simpa using h10
  have e11 : (n == 732) = false := by simpa using h11
  have e12 : (n == 733) = false := by simpa using h12
  rw [hr]
  clear hr h0 h1 h2 h3 h4 h5 h6 h7 h8 h9 h10 h11 h12
  go_enter Tryz.func18, Tryz.ntmps18
  go_wp2_with fail
  go_ret
  have hq := HR.out.symm.trans HM.out
  subst hq
  exact ⟨rfl, rfl⟩
set_option maxHeartbeats 2000000 in
theorem rwords_any (n : Int) (w : World) : Calls Tryz.prog 19 #[.int .i64 n] w fun e w' => e = .returned (.string (wordsV n)) ∧ Below w.heap.size w w' := by
  obtain ⟨V1, hV1, v1, b1⟩ : ∃ V, w.alloc (.cells #[.int .i64 401, .int .i64 402, .int .i64 501, .int .i64 606, .int .i64 713, .int .i64 714, .int .i64 716, .int .i64 718, .int .i64 728, .int .i64 729, .int .i64 730, .int .i64 732, .int .i64 733] 3) = V ∧ V.heap[w.heap.size]? = some (.cells #[.int .i64 401, .int .i64 402, .int .i64 501, .int .i64 606, .int .i64 713, .int .i64 714, .int .i64 716, .int .i64 718, .int .i64 728, .int .i64 729, .int .i64 730, .int .i64 732, .int .i64 733] 3 (0, 0)) ∧ Below w.heap.size w V := ⟨_, rfl, heap_alloc_new _ _, (Below.refl _ _).alloc (Nat.le_refl _) _⟩
  obtain ⟨V2, hV2, v2, b2⟩ : ∃ V, V1.alloc (.cells #[.string ⟨#[73, 110, 118, 97, 108, 105, 100, 32, 65, 99, 116, 105, 111, 110]⟩, .string ⟨#[73, 110, 118, 97, 108, 105, 100, 32, 65, 114, 103, 115]⟩, .string ⟨#[65, 99, 116, 105, 111, 110, 32, 70, 97, 105, 108, 101, 100]⟩, .string ⟨#[65, 99, 116, 105, 111, 110, 32, 110, 111, 116, 32, 97, 117, 116, 104, 111, 114, 105, 122, 101, 100]⟩, .string ⟨#[83, 112, 101, 99, 105, 102, 105, 101, 100, 65, 114, 114, 97, 121, 73, 110, 100, 101, 120, 73, 110, 118, 97, 108, 105, 100]⟩, .string ⟨#[78, 111, 83, 117, 99, 104, 69, 110, 116, 114, 121, 73, 110, 65, 114, 114, 97, 121]⟩, .string ⟨#[87, 105, 108, 100, 67, 97, 114, 100, 78, 111, 116, 80, 101, 114, 109, 105, 116, 116, 101, 100, 73, 110, 69, 120, 116, 80, 111, 114, 116]⟩, .string ⟨#[67, 111, 110, 102, 108, 105, 99, 116, 73, 110, 77, 97, 112, 112, 105, 110, 103, 69, 110, 116, 114, 121]⟩, .string ⟨#[78, 111, 80, 111, 114, 116, 77, 97, 112, 115, 65, 118, 97, 105, 108, 97, 98, 108, 101]⟩, .string ⟨#[67, 111, 110, 102, 108, 105, 99, 116, 87, 105, 116, 104, 79, 116, 104, 101, 114, 77, 101, 99, 104, 97, 110, 105, 115, 109, 115]⟩, .string ⟨#[80, 111, 114, 116, 77, 97, 112, 112, 105, 110, 103, 78, 111, 116, 70, 111, 117, 110, 100]⟩, .string ⟨#[87, 105, 108, 100, 67, 97, 114, 100, 78, 111, 116, 80, 101, 114, 109, 105, 116, 116, 101, 100, 73, 110, 73, 110, 116, 80, 111, 114, 116]⟩, .string ⟨#[73, 110, 99, 111, 110, 115, 105, 115, 116, 101, 110, 116, 80, 97, 114, 97, 109, 101, 116, 101, 114, 115]⟩] 9) = V ∧ V.heap[V1.heap.size]? = some (.cells #[.string ⟨#[73, 110, 118, 97, 108, 105, 100, 32, 65, 99, 116, 105, 111, 110]⟩, .string ⟨#[73, 110, 118, 97, 108, 105, 100, 32, 65, 114, 103, 115]⟩, .string ⟨#[65, 99, 116, 105, 111, 110, 32, 70, 97, 105, 108, 101, 100]⟩, .string ⟨#[65, 99, 116, 105, 111, 110, 32, 110, 111, 116, 32, 97, 117, 116, 104, 111, 114, 105, 122, 101, 100]⟩, .string ⟨#[83, 112, 101, 99, 105, 102, 105, 101, 100, 65, 114, 114, 97, 121, 73, 110, 100, 101, 120, 73, 110, 118, 97, 108, 105, 100]⟩, .string ⟨#[78, 111, 83, 117, 99, 104, 69, 110, 116, 114, 121, 73, 110, 65, 114, 114, 97, 121]⟩, .string ⟨#[87, 105, 108, 100, 67, 97, 114, 100, 78, 111, 116, 80, 101, 114, 109, 105, 116, 116, 101, 100, 73, 110, 69, 120, 116, 80, 111, 114, 116]⟩, .string ⟨#[67, 111, 110, 102, 108, 105, 99, 116, 73, 110, 77, 97, 112, 112, 105, 110, 103, 69, 110, 116, 114, 121]⟩, .string ⟨#[78, 111, 80, 111, 114, 116, 77, 97, 112, 115, 65, 118, 97, 105, 108, 97, 98, 108, 101]⟩, .string ⟨#[67, 111, 110, 102, 108, 105, 99, 116, 87, 105, 116, 104, 79, 116, 104, 101, 114, 77, 101, 99, 104, 97, 110, 105, 115, 109, 115]⟩, .string ⟨#[80, 111, 114, 116, 77, 97, 112, 112, 105, 110, 103, 78, 111, 116, 70, 111, 117, 110, 100]⟩, .string ⟨#[87, 105, 108, 100, 67, 97, 114, 100, 78, 111, 116, 80, 101, 114, 109, 105, 116, 116, 101, 100, 73, 110, 73, 110, 116, 80, 111, 114, 116]⟩, .string ⟨#[73, 110, 99, 111, 110, 115, 105, 115, 116, 101, 110, 116, 80, 97, 114, 97, 109, 101, 116, 101, 114, 115]⟩] 9 (0, 0)) ∧ Below V1.heap.size V1 V := ⟨_, rfl, heap_alloc_new _ _, (Below.refl _ _).alloc (Nat.le_refl _) _⟩
  obtain ⟨A, hA⟩ : ∃ b, w.heap.size = b := ⟨_, rfl⟩
  obtain ⟨B, hB⟩ : ∃ b, V1.heap.size = b := ⟨_, rfl⟩
  rw [hA] at v1
  rw [hB] at v2
  have v1' := below_blk b2 v1 (Nat.le_refl _)
  have HC1 := hide (show ∀ j, j < 13 → V2.cell? ⟨A, j, none⟩ = some (.int .i64 (nmW j)) from fun j hj => by
    rw [cell_of_row _ _ _ _ _ (0, 0) v1']
    match j, hj with
    | 0, _ | 1, _ | 2, _ | 3, _ | 4, _ | 5, _ | 6, _ | 7, _ | 8, _ | 9, _ | 10, _ | 11, _ | 12, _ => rfl)
  have HC2 := hide (show ∀ j, j < 13 → V2.cell? ⟨B, j, none⟩ = some (.string (txW j)) from fun j hj => by
    rw [cell_of_row _ _ _ _ _ (0, 0) v2]
    match j, hj with
    | 0, _ | 1, _ | 2, _ | 3, _ | 4, _ | 5, _ | 6, _ | 7, _ | 8, _ | 9, _ | 10, _ | 11, _ | 12, _ => rfl)
  have HB := hide (b1.trans (b2.mono b1.size))
  have HE := hide (And.intro hV1 (And.intro hV2 (And.intro hA hB)))
  clear hV1 hV2 v1 v2 b1 b2 hA hB v1'
  go_enter Tryz.func19, Tryz.ntmps19
  go_upto_region 2 with (fail)
  rw [HE.out.1, HE.out.2.2.1]
  go_upto_region 3 with (fail)
  rw [HE.out.2.1, HE.out.2.2.2]
  go_wp2_with fail
  go_loop [5] (fun i => ∃ j : Nat, j ≤ 13 ∧ i = .int .i64 j ∧ Hid (∀ k, k < j → nmW k ≠ n)) (fun i => 13 - (intOf i).toNat)
  case atStart => exact ⟨0, Nat.zero_le _, rfl, hide (fun k h => by omega)⟩
  case round =>
    obtain ⟨j, hj, rfl, HI⟩ := hrel
    by_cases hlt : j < 13
    · have d1 := HC1.out j hlt
      have d2 := HC2.out j hlt
      obtain ⟨x, hx⟩ : ∃ x, nmW j = x := ⟨_, rfl⟩
      obtain ⟨y, hy⟩ : ∃ x, txW j = x := ⟨_, rfl⟩
      rw [hx] at d1
      rw [hy] at d2
      have HH := hide (words_hit j hlt)
      have HXY := hide (And.intro hx hy)
      clear hx hy
      by_cases he : x = n
      · have e1 : (x == n) = true := by simpa using he
        have HY := hide he
        clear he
        go_wp2_with fail
        go_ret
        have hq : wordsV n = y := by rw [← HXY.out.2, ← HH.out, HXY.out.1, HY.out]
        rw [hq]
        exact ⟨rfl, HB.out⟩
      · have e1 : (x == n) = false := by simpa using he
        have HN := hide (show ∀ k, k < j + 1 → nmW k ≠ n from fun k hk => by
          by_cases h2 : k = j
          · subst h2; rw [HXY.out.1]; exact he
          · exact HI.out k (by omega))
        clear he
        go_wp2_with fail
        go_round
        case rel => exact ⟨j + 1, by omega, by go_num, HN⟩
        case measure => simp [intOf]; omega
    · have HM := hide (words_miss n (fun k hk => HI.out k (by omega)))
      go_wp2_with fail
      go_ret
      rw [HM.out]
      exact ⟨rfl, HB.out⟩
/-- The law: an error's words are the document's. -/
theorem igdWords_any (w : World) (n : Int) : Calls Tryz.prog 4 #[.int .i64 n] w fun e w' => e = .returned (.bool true) ∧ Below w.heap.size w w' := by
  have HS := hide (speaks_any w)
  go_enter Tryz.func4, Tryz.ntmps4
  go_wp2_with fail
  refine HS.out.mono ?_
  rintro e w1 ⟨rfl, b1⟩
  have HB1 := hide b1
  have HW := hide (words_any n w1)
  have HR := hide (rwords_any n w1)
  obtain ⟨v, hv⟩ : ∃ v, wordsV n = v := ⟨_, rfl⟩
  rw [hv] at HW HR
  clear hv b1 HS
  go_wp2_with fail
  refine HW.out.mono ?_
  rintro e w2 ⟨rfl, hq⟩
  obtain rfl := hq.symm
  go_wp2_with fail
  refine HR.out.mono ?_
  rintro e w3 ⟨rfl, b3⟩
  have HB3 := hide (HB1.out.trans (b3.mono HB1.out.size))
  clear b3
  go_wp2_with fail
  go_ret
  exact ⟨by simp, HB3.out⟩
end Go.Proofs.YtinmlndimgengaaGreatDoor
