/- Ports: PortsStops. -/
import Derived.Test.YtdbgkmdoehgfeaaDoorPBack
import Derived.Test.YtdbgkmdoehgfeaaDoorPRise
namespace Go.Proofs.YtdbgkmdoehgfeaaDoor
open Go.RowKit Go.Deep
set_option linter.unusedVariables false
set_option linter.unusedSimpArgs false
set_option maxRecDepth 100000
set_option maxHeartbeats 8000000 in
theorem portsStops_any (w : World) (a : Option Addr) (xs : List Int) (n cap : Nat) (most : Int) (hr : Row .u16 w a xs) (hl : xs.length = n) (hx : ∀ x ∈ xs, 0 ≤ x ∧ x ≤ 65535) (hT : PtT w) :
    Calls Tryd.prog 5 #[.slice a n cap, .int .i64 most] w (Yes w) := by
  have HS := hide (speaks7_any w hT)
  have HT := hide hT
  have HR := hide (And.intro hr (And.intro hl hx))
  obtain ⟨C, hC⟩ : ∃ C : Nat, C = 64512 := ⟨_, rfl⟩
  have HC := hide hC
  clear hT hr hl hx hC
  go_enter Tryd.func5, Tryd.ntmps5
  go_wp2_with fail
  refine HS.out.mono ?_
  rintro e w1 ⟨rfl, b1⟩
  have HB1 := hide b1
  clear b1 HS
  by_cases h2 : 200 < n
  · have d1 : decide ((200 : Int) < (n : Int)) = true := by simp; omega
    clear h2
    go_wp2_with fail
    go_ret
    exact ⟨rfl, HB1.out⟩
  have d1 : decide ((200 : Int) < (n : Int)) = false := by simp; omega
  have HNM := hide (show n ≤ 200 ∧ n ≤ 200 by omega)
  clear h2
  go_wp2_with fail
  refine (new_any _).mono ?_
  rintro e w2 ⟨B, rfl, hB, hp2, b2⟩
  have HBw := hide (show w.heap.size ≤ B by have := HB1.out.size; have h := hB; (try simp at h); omega)
  have HX := hide (show TSt w w2 B C 0 from ⟨none_, 0, hp2, by
    have : ∀ k, cnt none_ k = 0 := fun k => by
      induction k with
      | zero => rfl
      | succ k ih => unfold cnt; rw [ih]; rfl
    exact this C, Nat.le_refl _, HB1.out.trans (b2.mono (by have := HB1.out.size; (try simp); omega))⟩)
  clear hB hp2 b2 HB1
  go_wp2_with fail
  go_loopw [21] (fun i wz => ∃ j : Nat, j ≤ n ∧ i = .int .i64 j ∧ Hid (TSt w wz B C j)) (fun i _ => n - (intOf i).toNat)
  case atStart => exact ⟨0, Nat.zero_le _, rfl, HX⟩
  case round =>
    clear HX
    obtain ⟨j, hj, rfl, HX⟩ := hrel
    by_cases hlt : j < n
    · have d3 : decide ((j : Int) < (n : Int)) = true := by simp; omega
      obtain ⟨t, k, h1, h2, h3, h4⟩ := HX.out
      obtain ⟨b, off, he, hbl, hc⟩ := (HR.out.1.below h4 (Nat.le_refl _)).at (i := j) (by have := HR.out.2.1; omega)
      have hcj := hc j (by have := HR.out.2.1; omega)
      have hxm := HR.out.2.2 (xs[j]?.getD 0) (by
        have hj2 : j < xs.length := by have := HR.out.2.1; omega
        rw [List.getElem?_eq_getElem hj2]
        exact List.getElem_mem hj2)
      obtain ⟨q, hq⟩ := Int.eq_ofNat_of_zero_le hxm.1
      rw [hq] at hcj hxm
      have HTK := hide (take_any B q k C t HC.out (by omega) (by have := HNM.out; omega) wr h1 h2)
      have HW := hide h4
      have HK := hide h3
      have hn3 : (j : Int) ≤ 1000 := by have := HNM.out; omega
      have hj4 : (0 : Int) ≤ (j : Int) := by omega
      have q4 : (0 : Int) ≤ (q : Int) := by omega
      clear h1 h2 h3 h4 hbl hc hxm hq HX
      subst he
      go_wp2_with fail
      (with_reducible refine HTK.out.mono ?_)
      rintro e w3 ⟨bb, t', k', rfl, p1, p2, p3, o⟩
      have HX := hide (show TSt w w3 B C (j + 1) from ⟨t', k', p1, p2, by have := HK.out; omega, HW.out.trans (o.below HBw.out HW.out.size)⟩)
      clear p1 p2 p3 o HTK
      go_wp2_with fail
      go_roundw
      case rel => exact ⟨j + 1, by omega, by go_num, HX⟩
      case measure => simp [intOf]; omega
    · have d3 : decide (j < n) = false := by simp; omega
      obtain ⟨t, k, h1, h2, h3, h4⟩ := HX.out
      have HP := hide (And.intro h1 (And.intro h2 (show k ≤ 200 by have := HNM.out; omega)))
      have HW := hide h4
      have HLI := hide (listed_any wr B t (k : Int) most (HT.out.below h4 (Nat.le_refl _)) h1)
      clear h1 h2 h3 h4 HX hlt hj
      go_wp2_with fail
      (with_reducible refine HLI.out.mono ?_)
      rintro e w3 ⟨ab, cb, L, hL, rfl, hown, hbel⟩
      have hlen := told_cnt t 1008
      rw [show 64 * 1008 = C by have := HC.out; omega, HP.out.2.1] at hlen
      have hsl := stop_len most (told t 1008) k hlen
      have hri := stop_rise most (told t 1008) (told_rise t 1008)
      rw [hL] at hsl hri
      obtain ⟨N, hN⟩ : ∃ N, L.length = N := ⟨_, rfl⟩
      rw [hN] at hsl hri ⊢
      have HN := hide hN
      have HRI := hide hri
      have HSL := hide hsl
      have HX := hide (show Row .i64 w3 ab L ∧ Below w.heap.size w w3 ∧ PAt w3 B t (k : Int) from ⟨Row.of_owns hown, HW.out.trans (hbel.mono HW.out.size), HP.out.1.below hbel (Nat.le_refl _)⟩)
      have hk3 : (k : Int) ≤ 200 := by have := HP.out.2.2; omega
      have HNB := hide (show N ≤ 1000 by have := HP.out.2.2; split at hsl <;> omega)
      clear hL hown hbel hlen hsl hri hN HLI HW
      go_upto_region 14 with (fail)
      go_cut [9] (fun wv wx => ∃ W : Int, wv = .int .i64 W ∧ Hid (W = max (min (k : Int) most) 1) ∧ Hid (Row .i64 wx ab L ∧ Below w.heap.size w wx ∧ PAt wx B t (k : Int)))
      case first =>
        have HLN := hide (len_any B t (k : Int) w3 HX.out.2.2)
        go_wp2_with fail
        (with_reducible refine HLN.out.mono ?_)
        rintro e w4 ⟨rfl, rfl⟩
        go_wp2_with fail
        all_goals
          go_meet
          exact ⟨_, rfl, by (show _ = _); omega, HX⟩
      case rest =>
      obtain ⟨W, rfl, HWV, HX⟩ := hcut
      obtain ⟨wy, rfl⟩ : ∃ wz, wz = wc := ⟨_, rfl⟩
      have HLN := hide (len_any B t (k : Int) wy HX.out.2.2)
      go_wp2_with fail
      (with_reducible refine HLN.out.mono ?_)
      rintro e w4 ⟨rfl, rfl⟩
      have HX1 := hide (And.intro HX.out.1 HX.out.2.1)
      rcases (show (((k : Int) == 0) = true ∧ (N : Int) = 0) ∨ (((k : Int) == 0) = false ∧ (N : Int) = W) by
        have h1 := HSL.out
        have h2 := HWV.out
        by_cases h : k = 0
        · rw [if_pos h] at h1; exact .inl ⟨by simp [h], h1⟩
        · rw [if_neg h] at h1; exact .inr ⟨by simp; omega, by omega⟩) with ⟨d5, hv⟩ | ⟨d5, hv⟩
      · have HV := hide hv
        clear hv HX HLN
        go_wp2_with fail
        go_loopw [10] (fun i wz => ∃ r : Nat, 1 ≤ r ∧ i = .int .i64 r ∧ Hid (Row .i64 wz ab L ∧ Below w.heap.size w wz)) (fun i _ => N - (intOf i).toNat)
        case atStart => exact ⟨1, Nat.le_refl _, rfl, HX1⟩
        case round =>
          clear HX1
          obtain ⟨r, hr, rfl, HX⟩ := hrel
          by_cases hlt : r < N
          · have d6 : decide (r < N) = true := by simp; omega
            obtain ⟨q, hq⟩ : ∃ q, r = q + 1 := ⟨r - 1, by omega⟩
            obtain ⟨b1, o1, he1, hl1, hc1⟩ := HX.out.1.at (i := r) (by have := HN.out; omega)
            have k1 := hc1 r (by have := HN.out; omega)
            have k2 := hc1 q (by have := HN.out; omega)
            have hlt2 := HRI.out q (by omega)
            rw [← hq] at hlt2
            obtain ⟨x, hx⟩ : ∃ x, L[r]?.getD 0 = x := ⟨_, rfl⟩
            obtain ⟨y, hy⟩ : ∃ x, L[q]?.getD 0 = x := ⟨_, rfl⟩
            rw [hx] at k1 hlt2
            rw [hy] at k2 hlt2
            have d7 : decide (x ≤ y) = false := by simp; omega
            have hs : (r : Int) - 1 = (q : Int) := by omega
            have hr4 : (0 : Int) ≤ (r : Int) := by omega
            have hq4 : (0 : Int) ≤ (q : Int) := by omega
            have hr5 : (r : Int) ≤ 1000 := by have := HNB.out; omega
            have hqN : q < N := by omega
            have HQ := hide hq
            have HX7 := hide (show Row .i64 wr.drew ab L ∧ Below w.heap.size w wr.drew from ⟨HX.out.1.below ((Below.refl wr.heap.size wr).drew) (Nat.le_refl _), HX.out.2.drew⟩)
            clear hl1 hc1 hx hy hq HX hlt2
            subst he1
            go_wp2_with fail
            go_region
            go_wp2_with fail
            go_roundw
            case rel => exact ⟨r + 1, by omega, by go_num, HX7⟩
            case measure => simp [intOf]; omega
          · have d6 : decide (r < N) = false := by simp; omega
            clear hr hlt
            go_wp2_with fail
            go_ret
            exact ⟨by simp [HV.out], HX.out.2⟩
      · have HV := hide hv
        clear hv HX HLN
        go_wp2_with fail
        go_loopw [10] (fun i wz => ∃ r : Nat, 1 ≤ r ∧ i = .int .i64 r ∧ Hid (Row .i64 wz ab L ∧ Below w.heap.size w wz)) (fun i _ => N - (intOf i).toNat)
        case atStart => exact ⟨1, Nat.le_refl _, rfl, HX1⟩
        case round =>
          clear HX1
          obtain ⟨r, hr, rfl, HX⟩ := hrel
          by_cases hlt : r < N
          · have d6 : decide (r < N) = true := by simp; omega
            obtain ⟨q, hq⟩ : ∃ q, r = q + 1 := ⟨r - 1, by omega⟩
            obtain ⟨b1, o1, he1, hl1, hc1⟩ := HX.out.1.at (i := r) (by have := HN.out; omega)
            have k1 := hc1 r (by have := HN.out; omega)
            have k2 := hc1 q (by have := HN.out; omega)
            have hlt2 := HRI.out q (by omega)
            rw [← hq] at hlt2
            obtain ⟨x, hx⟩ : ∃ x, L[r]?.getD 0 = x := ⟨_, rfl⟩
            obtain ⟨y, hy⟩ : ∃ x, L[q]?.getD 0 = x := ⟨_, rfl⟩
            rw [hx] at k1 hlt2
            rw [hy] at k2 hlt2
            have d7 : decide (x ≤ y) = false := by simp; omega
            have hs : (r : Int) - 1 = (q : Int) := by omega
            have hr4 : (0 : Int) ≤ (r : Int) := by omega
            have hq4 : (0 : Int) ≤ (q : Int) := by omega
            have hr5 : (r : Int) ≤ 1000 := by have := HNB.out; omega
            have hqN : q < N := by omega
            have HQ := hide hq
            have HX7 := hide (show Row .i64 wr.drew ab L ∧ Below w.heap.size w wr.drew from ⟨HX.out.1.below ((Below.refl wr.heap.size wr).drew) (Nat.le_refl _), HX.out.2.drew⟩)
            clear hl1 hc1 hx hy hq HX hlt2
            subst he1
            go_wp2_with fail
            go_region
            go_wp2_with fail
            go_roundw
            case rel => exact ⟨r + 1, by omega, by go_num, HX7⟩
            case measure => simp [intOf]; omega
          · have d6 : decide (r < N) = false := by simp; omega
            clear hr hlt
            go_wp2_with fail
            go_ret
            exact ⟨by simp [HV.out], HX.out.2⟩
end Go.Proofs.YtdbgkmdoehgfeaaDoor
