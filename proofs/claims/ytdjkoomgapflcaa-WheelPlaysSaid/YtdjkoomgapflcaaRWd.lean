/- The document's wheel: First. -/
import Derived.Test.YtdjkoomgapflcaaRWc
namespace Go.Proofs.Ytdjkoomgapflcaa
open Go.RowKit Go.Deep
set_option linter.unusedVariables false
set_option linter.unusedSimpArgs false
set_option maxRecDepth 100000
def leP (a b : Int × Int) : Prop := a.2 < b.2 ∨ a.2 = b.2 ∧ a.1 ≤ b.1
theorem leP_refl (a : Int × Int) : leP a a := .inr ⟨rfl, Int.le_refl _⟩
theorem leP_trans {a b c : Int × Int} (h : leP a b) (k : leP b c) : leP a c := by unfold leP at *; omega
theorem leP_anti {a b : Int × Int} (h : leP a b) (k : leP b a) : a = b := by
  unfold leP at h k
  exact Prod.ext (by omega) (by omega)
/-- The first of the first j stands at b. -/
def MinAt (R : RL) (j b : Nat) : Prop := ∃ m, R[b]? = some m ∧ ∀ i x, i < j → R[i]? = some x → leP m x
def BestV (R : RL) (j : Nat) (b : Int) : Prop := j = 0 ∧ b = -1 ∨ ∃ i : Nat, i < j ∧ b = (i : Int) ∧ MinAt R j i
theorem MinAt.keep {R : RL} {j i : Nat} {m x : Int × Int} (h : MinAt R j i) (hm : R[i]? = some m) (hx : R[j]? = some x) (hl : leP m x) : MinAt R (j + 1) i := by
  obtain ⟨m', hm', h⟩ := h
  rw [hm] at hm'
  cases hm'
  refine ⟨m, hm, fun a y ha hy => ?_⟩
  rcases Nat.lt_or_ge a j with g | g
  · exact h a y g hy
  · obtain rfl : a = j := by omega
    rw [hx] at hy; cases hy; exact hl
theorem MinAt.new {R : RL} {j i : Nat} {m x : Int × Int} (h : MinAt R j i) (hm : R[i]? = some m) (hx : R[j]? = some x) (hl : leP x m) : MinAt R (j + 1) j := by
  obtain ⟨m', hm', h⟩ := h
  rw [hm] at hm'
  cases hm'
  refine ⟨x, hx, fun a y ha hy => ?_⟩
  rcases Nat.lt_or_ge a j with g | g
  · exact leP_trans hl (h a y g hy)
  · obtain rfl : a = j := by omega
    rw [hx] at hy; cases hy; exact leP_refl _
set_option maxHeartbeats 3000000 in
theorem firstR_any (w : World) (base rp : Nat) (R : RL) (ka : Option Addr) (kc : Nat) (va : Option Addr) (vc : Nat) (h : RW w base rp R ka kc va vc) (hn : R.length ≤ 1000000) :
    Calls Try.prog 12 #[.pointer (some ⟨rp, 0, none⟩)] w fun e w' => ∃ b : Int, e = .returned (.int .i64 b) ∧ BestV R R.length b ∧ Below w.heap.size w w' := by
  have HR0 := hide h
  obtain ⟨n, hnn⟩ : ∃ n, R.length = n := ⟨_, rfl⟩
  rw [hnn] at hn ⊢
  have HN := hide hnn
  clear h hnn
  go_enter Try.func12, Try.ntmps12
  go_wp2_with fail
  go_loopw [3, 4] (fun bv iv wr => ∃ j : Nat, ∃ b : Int, j ≤ n ∧ iv = .int .i64 j ∧ bv = .int .i64 b ∧ Hid (BestV R j b) ∧ Hid (RW wr base rp R ka kc va vc) ∧ Hid (Below w.heap.size w wr)) (fun _ iv _ => n - (intOf iv).toNat)
  case atStart => exact ⟨0, -1, Nat.zero_le _, rfl, rfl, hide (.inl ⟨rfl, rfl⟩), HR0, hide (Below.refl _ _)⟩
  case round =>
    clear HR0
    obtain ⟨j, b, hj, rfl, rfl, HB, HR, HW⟩ := hrel
    have ht := HR.out.tab
    rw [HN.out] at ht
    obtain ⟨t0, t1, tf⟩ := two_cells ht
    clear ht tf
    by_cases hlt : j < n
    · have hjR : j < R.length := by have := HN.out; omega
      obtain ⟨kg, vg, rfl, rfl, hc⟩ := HR.out.at (by omega)
      obtain ⟨⟨kj, sj⟩, hx⟩ : ∃ x, R[j]? = some x := ⟨_, List.getElem?_eq_getElem hjR⟩
      obtain ⟨ck, cv⟩ := hc j _ hx
      have HX := hide hx
      have hd : decide ((j : Int) < (n : Int)) = true := by simp; omega
      clear hjR hx
      rcases HB.out with ⟨h0, rfl⟩ | ⟨i, hi, rfl, hm⟩
      · subst h0
        have hd0 : decide ((-1 : Int) < 0) = true := by decide
        clear hc ck cv HB
        have HX2 := hide (show BestV R (0 + 1) ((0 : Nat) : Int) from .inr ⟨0, by omega, rfl, ⟨_, HX.out, fun a y ha hy => by
          obtain rfl : a = 0 := by omega
          rw [HX.out] at hy; cases hy; exact leP_refl _⟩⟩)
        go_wp2_with fail
        go_quiet (fail)
        go_wp2_with fail
        go_roundw
        case rel => exact ⟨0 + 1, ((0 : Nat) : Int), by omega, by go_num, by go_num, HX2, hide (HR.out.below (bdrewN (Below.refl _ _) _)), hide (bdrewN HW.out _)⟩
        case measure => simp [intOf]; omega
      · obtain ⟨⟨kb, sb⟩, hmb, _⟩ := id hm
        obtain ⟨dk, dv⟩ := hc i _ hmb
        have HM := hide hm
        have HMB := hide hmb
        have hd0 : decide ((i : Int) < 0) = false := by simp
        clear hc hm hmb HB
        by_cases h1 : sj < sb
        · have e1 : decide (sj < sb) = true := decide_eq_true h1
          have HB2 := hide (show BestV R (j + 1) (j : Int) from .inr ⟨j, by omega, rfl, HM.out.new HMB.out HX.out (.inl h1)⟩)
          go_wp2_with fail
          go_quiet (fail)
          go_wp2_with fail
          go_roundw
          case rel => exact ⟨j + 1, (j : Int), by omega, by go_num, by go_num, HB2, hide (HR.out.below (bdrewN (Below.refl _ _) _)), hide (bdrewN HW.out _)⟩
          case measure => simp [intOf]; omega
        · have e1 : decide (sj < sb) = false := decide_eq_false h1
          by_cases h2 : sj = sb
          · have e2 : (sj == sb) = true := by simpa using h2
            by_cases h3 : kj < kb
            · have e3 : decide (kj < kb) = true := decide_eq_true h3
              have HB2 := hide (show BestV R (j + 1) (j : Int) from .inr ⟨j, by omega, rfl, HM.out.new HMB.out HX.out (.inr ⟨h2, by dsimp only; omega⟩)⟩)
              go_wp2_with fail
              go_quiet (fail)
              go_wp2_with fail
              go_roundw
              case rel => exact ⟨j + 1, (j : Int), by omega, by go_num, by go_num, HB2, hide (HR.out.below (bdrewN (Below.refl _ _) _)), hide (bdrewN HW.out _)⟩
              case measure => simp [intOf]; omega
            · have e3 : decide (kj < kb) = false := decide_eq_false h3
              have HB2 := hide (show BestV R (j + 1) (i : Int) from .inr ⟨i, by omega, rfl, HM.out.keep HMB.out HX.out (.inr ⟨h2.symm, by dsimp only; omega⟩)⟩)
              go_wp2_with fail
              go_quiet (fail)
              go_wp2_with fail
              go_roundw
              case rel => exact ⟨j + 1, (i : Int), by omega, by go_num, by go_num, HB2, hide (HR.out.below (bdrewN (Below.refl _ _) _)), hide (bdrewN HW.out _)⟩
              case measure => simp [intOf]; omega
          · have e2 : (sj == sb) = false := by simpa using h2
            have HB2 := hide (show BestV R (j + 1) (i : Int) from .inr ⟨i, by omega, rfl, HM.out.keep HMB.out HX.out (.inl (by dsimp only; omega))⟩)
            go_wp2_with fail
            go_quiet (fail)
            go_wp2_with fail
            go_roundw
            case rel => exact ⟨j + 1, (i : Int), by omega, by go_num, by go_num, HB2, hide (HR.out.below (bdrewN (Below.refl _ _) _)), hide (bdrewN HW.out _)⟩
            case measure => simp [intOf]; omega
    · obtain rfl : j = n := by omega
      have hd : decide ((j : Int) < (j : Int)) = false := by simp
      go_wp2_with fail
      go_ret
      exact ⟨b, rfl, HB.out, HW.out⟩
end Go.Proofs.Ytdjkoomgapflcaa
