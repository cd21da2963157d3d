/- How long connections last: the small functions walked. -/
import Derived.Test.YtggnbhihajealaaTkPlain
import Derived.Test.YtggnbhihajealaaProg
import Derived.IntWalk
import Derived.Below
import Derived.Laws.BitsAllLaws
import Derived.Deep.RegionHeld3
namespace Go.Proofs.Ytggnbhihajealaa
open Go.RowKit
set_option linter.unusedVariables false
set_option linter.unusedSimpArgs false
set_option maxRecDepth 100000
theorem bcell5 {W w1 : World} (hb : Below W.heap.size W w1) : (∀ b o, b < W.heap.size → w1.cell? ⟨b, o, none⟩ = W.cell? ⟨b, o, none⟩) ∧ (∀ b o, b < W.heap.size → w1.frozen? ⟨b, o, none⟩ = W.frozen? ⟨b, o, none⟩) :=
  ⟨fun b o h => hb.cell (p := ⟨b, o, none⟩) h, fun b o h => hb.frozen (p := ⟨b, o, none⟩) h⟩
theorem ret_bool {a b : Bool} (h : a = b) : Ending.returned (.bool a) = .returned (.bool b) := by rw [h]
theorem begins_any (f : Nat) (w : World) (hf : f < 256) :
    Calls Try.prog 8 #[.int .u8 (f : Int)] w fun e w' => e = .returned (.bool (begB f)) ∧ w' = w := by
  have h := beg_and f hf
  obtain ⟨x, hx⟩ : ∃ x, begB f = x := ⟨_, rfl⟩
  rw [hx] at h ⊢
  have HX := hide hx
  clear hx
  go_enter Try.func8, Try.ntmps8
  go_wp2_with fail
  go_ret
  exact ⟨rfl, rfl⟩
theorem rem_bit (x : Nat) : ((x : Int).tmod 2 == 1) = decide (x % 2 = 1) := by
  rw [Bool.eq_iff_iff]
  have : (x : Int).tmod 2 = ((x % 2 : Nat) : Int) := by rw [Int.tmod_eq_emod_of_nonneg (by omega)]; simp
  rw [this]; simp; omega
theorem bit_any (f n : Nat) (w : World) (hf : f < 256) (hn : n ≤ 7) :
    Calls Try.prog 14 #[.int .u8 (f : Int), .int .i64 (n : Int)] w fun e w' => e = .returned (.bool (kB f n)) ∧ w' = w := by
  go_enter Try.func14, Try.ntmps14
  go_wp2_with fail
  go_ret
  refine ⟨ret_bool ?_, rfl⟩
  have h := rem_bit (f / 2 ^ n)
  unfold kB
  rw [← h]
  simp
theorem bit_num (f n : Nat) (m : Int) (hm : (n : Int) = m) (w : World) (hf : f < 256) (hn : n ≤ 7) :
    Calls Try.prog 14 #[.int .u8 (f : Int), .int .i64 m] w fun e w' => e = .returned (.bool (kB f n)) ∧ w' = w := by
  subst hm; exact bit_any f n w hf hn
theorem overP_any (a b c d e : Bool) (w : World) :
    Calls Try.prog 15 #[(St5.mk a b c d e).v] w fun x w' => x = .returned (.bool (overB ⟨a, b, c, d, e⟩)) ∧ w' = w.alloc (.cells #[.bool a, .bool b, .bool c, .bool d, .bool e] 23) := by
  unfold St5.v overB
  dsimp only
  cases e <;> cases c <;>
  · go_enter Try.func15, Try.ntmps15
    go_wp2_with fail
    go_ret
    exact ⟨rfl, rfl⟩
theorem overR_any (a b c d e : Bool) (w : World) :
    Calls Try.prog 16 #[(St5.mk a b c d e).v] w fun x w' => x = .returned (.bool (overB ⟨a, b, c, d, e⟩)) ∧ w' = w.alloc (.cells #[.bool a, .bool b, .bool c, .bool d, .bool e] 23) := by
  unfold St5.v overB
  dsimp only
  cases e <;> cases c <;>
  · go_enter Try.func16, Try.ntmps16
    go_wp2_with fail
    go_ret
    exact ⟨rfl, rfl⟩
theorem openP_any (a b c d e : Bool) (w : World) :
    Calls Try.prog 17 #[(St5.mk a b c d e).v] w fun x w' => x = .returned (.bool (openB ⟨a, b, c, d, e⟩)) ∧ w' = w.alloc (.cells #[.bool a, .bool b, .bool c, .bool d, .bool e] 23) := by
  unfold St5.v openB
  dsimp only
  cases a <;> cases b <;>
  · go_enter Try.func17, Try.ntmps17
    go_wp2_with fail
    go_ret
    exact ⟨rfl, rfl⟩
theorem beginsR_any (f : Nat) (w : World) (hf : f < 256) :
    Calls Try.prog 9 #[.int .u8 (f : Int)] w fun e w' => e = .returned (.bool (begB f)) ∧ w' = w := by
  have H1 := hide (fun V : World => bit_num f 1 1 rfl V hf (by omega))
  have H4 := hide (fun V : World => bit_num f 4 4 rfl V hf (by omega))
  have H2 := hide (fun V : World => bit_num f 2 2 rfl V hf (by omega))
  unfold begB
  generalize kB f 1 = x at *
  generalize kB f 4 = y at *
  generalize kB f 2 = z at *
  cases x <;> cases y <;>
  · go_enter Try.func9, Try.ntmps9
    go_wp2_with (first | ((with_reducible refine (H1.out _).mono ?_); rintro e w1 ⟨rfl, rfl⟩) | ((with_reducible refine (H4.out _).mono ?_); rintro e w1 ⟨rfl, rfl⟩) | ((with_reducible refine (H2.out _).mono ?_); rintro e w1 ⟨rfl, rfl⟩))
    go_ret
    exact ⟨rfl, rfl⟩
theorem two_boxes {w w2 : World} {a b c d e : Value} {a2 b2 c2 d2 e2 : Value} (hb : Below ((w.alloc (.cells #[a, b, c, d, e] 23)).alloc (.cells #[a2, b2, c2, d2, e2] 23)).heap.size ((w.alloc (.cells #[a, b, c, d, e] 23)).alloc (.cells #[a2, b2, c2, d2, e2] 23)) w2) :
    w2.cell? ⟨w.heap.size, 0, none⟩ = some a ∧ w2.cell? ⟨w.heap.size, 1, none⟩ = some b ∧ w2.cell? ⟨w.heap.size, 2, none⟩ = some c ∧ w2.cell? ⟨w.heap.size, 3, none⟩ = some d ∧ w2.cell? ⟨w.heap.size, 4, none⟩ = some e ∧ (∀ o, w2.frozen? ⟨w.heap.size, o, none⟩ = false) ∧
    w2.cell? ⟨w.heap.size + 1, 0, none⟩ = some a2 ∧ w2.cell? ⟨w.heap.size + 1, 1, none⟩ = some b2 ∧ w2.cell? ⟨w.heap.size + 1, 2, none⟩ = some c2 ∧ w2.cell? ⟨w.heap.size + 1, 3, none⟩ = some d2 ∧ w2.cell? ⟨w.heap.size + 1, 4, none⟩ = some e2 ∧ (∀ o, w2.frozen? ⟨w.heap.size + 1, o, none⟩ = false) ∧ w.heap.size + 1 < w2.heap.size := by
  obtain ⟨c0, f0⟩ := bcell5 hb
  have hz := hb.size
  refine ⟨?_, ?_, ?_, ?_, ?_, fun o => ?_, ?_, ?_, ?_, ?_, ?_, fun o => ?_, by simp at hz; omega⟩
  all_goals first | rw [c0 _ _ (by simp; try omega)] | rw [f0 _ _ (by simp; try omega)]
  all_goals simp [go_sem]
theorem limP_any (p : Nat) (a b c d e : Bool) (w : World) (hp : p < 256) :
    Calls Try.prog 12 #[.int .u8 (p : Int), (St5.mk a b c d e).v] w fun x w' => x = .returned (.int .u64 (lim p ⟨a, b, c, d, e⟩ : Nat)) ∧ Below w.heap.size w w' := by
  have HB := hide ((Below.refl w.heap.size w).alloc (Nat.le_refl _) (.cells #[.bool a, .bool b, .bool c, .bool d, .bool e] 23))
  have HO := hide (fun V : World => openP_any a b c d e V)
  have HV := hide (fun V : World => overP_any a b c d e V)
  obtain ⟨l, hl⟩ : ∃ l, lim p ⟨a, b, c, d, e⟩ = l := ⟨_, rfl⟩
  rw [hl]
  unfold lim at hl
  generalize openB ⟨a, b, c, d, e⟩ = x at *
  generalize overB ⟨a, b, c, d, e⟩ = y at *
  unfold St5.v at *
  dsimp only at *
  by_cases h1 : p = 1
  · have d1 : ((p : Int) == 1) = true := by simp [h1]
    have HL := hide (show l = 60 by rw [← hl, if_pos h1])
    clear hl h1
    go_enter Try.func12, Try.ntmps12
    go_wp2_with fail
    go_ret
    exact ⟨by rw [HL.out]; rfl, HB.out⟩
  by_cases h2 : p = 17
  · have d1 : ((p : Int) == 1) = false := by simp; omega
    have d2 : ((p : Int) == 17) = true := by simp [h2]
    have HL := hide (show l = 300 by rw [← hl, if_neg h1, if_pos h2])
    clear hl h1 h2
    go_enter Try.func12, Try.ntmps12
    go_wp2_with fail
    go_ret
    exact ⟨by rw [HL.out]; rfl, HB.out⟩
  have d1 : ((p : Int) == 1) = false := by simp; omega
  have d2 : ((p : Int) == 17) = false := by simp; omega
  by_cases h3 : p = 6
  · have d3 : ((p : Int) == 6) = true := by simp [h3]
    have HL := hide (show l = if (x && !y) = true then 7440 else 240 by rw [← hl, if_neg h1, if_neg h2, if_pos h3])
    clear hl h1 h2 h3
    cases x <;> cases y <;>
    · go_enter Try.func12, Try.ntmps12
      go_wp2_with fail
      refine (HO.out _).mono ?_
      rintro _ w1 ⟨rfl, rfl⟩
      go_wp2_with ((with_reducible refine (HV.out _).mono ?_); rintro _ w2 ⟨rfl, rfl⟩)
      go_ret
      refine ⟨by rw [HL.out]; rfl, ?_⟩
      repeat (first | exact Below.refl _ _ | refine Below.alloc ?_ (by first | (simp; done) | (simp; omega)) _)
  · have d3 : ((p : Int) == 6) = false := by simp; omega
    have HL := hide (show l = 0 by rw [← hl, if_neg h1, if_neg h2, if_neg h3])
    clear hl h1 h2 h3
    go_enter Try.func12, Try.ntmps12
    go_wp2_with fail
    go_ret
    exact ⟨by rw [HL.out]; rfl, HB.out⟩
theorem limR_any (p : Nat) (a b c d e : Bool) (w : World) (hp : p < 256) :
    Calls Try.prog 13 #[.int .u8 (p : Int), (St5.mk a b c d e).v] w fun x w' => x = .returned (.int .u64 (lim p ⟨a, b, c, d, e⟩ : Nat)) ∧ Below w.heap.size w w' := by
  have HB := hide ((Below.refl w.heap.size w).alloc (Nat.le_refl _) (.cells #[.bool a, .bool b, .bool c, .bool d, .bool e] 23))
  have HV := hide (fun V : World => overR_any a b c d e V)
  have hxy : openB ⟨a, b, c, d, e⟩ = (a && b) := rfl
  obtain ⟨l, hl⟩ : ∃ l, lim p ⟨a, b, c, d, e⟩ = l := ⟨_, rfl⟩
  rw [hl]
  unfold lim at hl
  rw [hxy] at hl
  clear hxy
  generalize overB ⟨a, b, c, d, e⟩ = y at *
  unfold St5.v at *
  dsimp only at *
  by_cases h1 : p = 1
  · have d1 : ((p : Int) == 1) = true := by simp [h1]
    have HL := hide (show l = 60 by rw [← hl, if_pos h1])
    clear hl h1
    go_enter Try.func13, Try.ntmps13
    go_wp2_with fail
    go_ret
    exact ⟨by rw [HL.out]; rfl, HB.out⟩
  by_cases h2 : p = 17
  · have d1 : ((p : Int) == 1) = false := by simp; omega
    have d2 : ((p : Int) == 17) = true := by simp [h2]
    have HL := hide (show l = 300 by rw [← hl, if_neg h1, if_pos h2])
    clear hl h1 h2
    go_enter Try.func13, Try.ntmps13
    go_wp2_with fail
    go_ret
    exact ⟨by rw [HL.out]; rfl, HB.out⟩
  have d1 : ((p : Int) == 1) = false := by simp; omega
  have d2 : ((p : Int) == 17) = false := by simp; omega
  by_cases h3 : p = 6
  · have d3 : ((p : Int) != 6) = false := by simp [h3]
    have HL := hide (show l = if ((a && b) && !y) = true then 7440 else 240 by rw [← hl, if_neg h1, if_neg h2, if_pos h3])
    clear hl h1 h2 h3
    cases a <;> cases b <;> cases y <;>
    · go_enter Try.func13, Try.ntmps13
      go_wp2_with fail
      refine (HV.out _).mono ?_
      rintro _ w1 ⟨rfl, rfl⟩
      go_wp2_with fail
      go_ret
      refine ⟨by rw [HL.out]; rfl, ?_⟩
      repeat (first | exact Below.refl _ _ | refine Below.alloc ?_ (by first | (simp; done) | (simp; omega)) _)
  · have d3 : ((p : Int) != 6) = true := by simp; omega
    have HL := hide (show l = 0 by rw [← hl, if_neg h1, if_neg h2, if_neg h3])
    clear hl h1 h2 h3
    go_enter Try.func13, Try.ntmps13
    go_wp2_with fail
    go_ret
    exact ⟨by rw [HL.out]; rfl, HB.out⟩
end Go.Proofs.Ytggnbhihajealaa
