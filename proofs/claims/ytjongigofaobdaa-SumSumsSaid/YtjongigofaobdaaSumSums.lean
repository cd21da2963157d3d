/- The law that the check sum of any texts is told exactly, walked. -/
import Derived.Test.YtjongigofaobdaaSumMore
import Derived.Laws.AppendOwnNone
namespace Go.Proofs.Ytjongigofaobdaa
open Go.RowKit
set_option linter.unusedVariables false
set_option linter.unusedSimpArgs false

set_option maxHeartbeats 1600000 in
theorem sumSums_any (a : Option Addr) (L : List Part) (cap : Nat) (w : World) (hp : Parts w a L) (hb : ∀ p ∈ L, ∀ x ∈ p.2.1, 0 ≤ x ∧ x ≤ 255) :
    Calls Try.prog 8 #[.slice a L.length cap] w fun e w' => e = .returned (.bool true) ∧ Below w.heap.size w w' := by
  by_cases hl : 50 < L.length
  · go_enter Try.func8, Try.ntmps8
    go_wp2_with (go_at_call 27; refine (speaks2_any _).mono ?_; rintro e w1 ⟨rfl, hbel⟩)
    go_ret
    exact ⟨rfl, hbel⟩
  · obtain ⟨i0, hi, hz0, hz1, hz2⟩ := info_parts Try.info5
    have HPT := hide hp
    have HB := hide hb
    clear hp hb
    go_enter Try.func8, Try.ntmps8
    go_wp2_with fail
    refine (speaks2_any _).mono ?_
    rintro e w1 ⟨rfl, hbel⟩
    have hown0 : (w1.alloc (.cells #[] 5)).ownsRow w.heap.size 5 1 (.slice (some ⟨w1.heap.size, 0, none⟩) 0 0) 0 [] := World.ownsRow_lit w1 #[] 0 hbel.size (by unfold maxLen; omega) rfl
    have hbel0 := hbel.alloc hbel.size (.cells #[] 5)
    go_wp2
    go_loopw [3, 15] (fun v i wr => ∃ k : Nat, ∃ a' m c', k ≤ L.length ∧ i = .int .i64 k ∧ v = .slice a' m c' ∧ m = (flat (L.take k)).length ∧ m ≤ 3000 * k ∧
        wr.ownsRow w.heap.size 5 1 (.slice a' m c') m ((flat (L.take k)).map (Value.int .u8)) ∧ Below w.heap.size w wr)
      (fun _ i _ => L.length - (intOf i).toNat)
    case atStart => exact ⟨0, _, 0, _, Nat.zero_le _, rfl, rfl, rfl, Nat.zero_le _, hown0, hbel0⟩
    case round =>
      clear hown0 hbel0 hbel
      obtain ⟨k, a', m, c', hk, rfl, rfl, hm, hm3, hown, hbel⟩ := hrel
      have HM := hide hm
      have HO := hide hown
      clear hm hown
      by_cases hlt : k < L.length
      · obtain ⟨p, hpk⟩ : ∃ p, L[k]? = some p := ⟨L[k], List.getElem?_eq_getElem hlt⟩
        have hp := HPT.out.below hbel (Nat.le_refl _)
        obtain ⟨b, off, rfl, hbl, hc⟩ := hp.cells (by intro e; rw [e] at hlt; simp at hlt)
        obtain ⟨hrow, hnil⟩ := hp.rows p (List.mem_of_getElem? hpk)
        have cx := hc k p hpk
        have hfs := flat_snoc L k p hpk
        unfold Part.v at cx
        obtain ⟨pa, pxs, pc⟩ := p
        simp only at cx hfs hrow hnil
        have HF := hide hfs
        clear hfs hpk hc hp
        by_cases hl3 : 3000 < pxs.length
        · clear hrow hnil
          go_wp2
          go_ret
          exact ⟨rfl, hbel⟩
        · cases pa with
          | none =>
            obtain rfl := row_none hrow
            obtain rfl := hnil rfl
            clear hrow hnil
            go_wp2_with (at_builtin; refine wpList_append_own_none rfl _ _ 24 rfl w.heap.size 5 i0 1 Try.underlying24 hi _ _ _ rfl HO.out rfl ?_)
            go_roundw
            case rel => exact ⟨k + 1, a', m, c', by omega, by go_num, rfl, by rw [HF.out, HM.out]; simp, by omega, by rw [HF.out]; simpa using HO.out, hbel⟩
            case measure => simp [intOf]; omega
          | some ad =>
            clear hnil
            have hcl := row_cells hrow
            have HC := hide hcl
            clear hcl hrow
            go_wp2_with (at_builtin; refine wpList_append_own _ rfl _ _ 24 rfl w.heap.size 5 i0 (.int .u8 0) 1 1 Try.underlying24 hi hz0 hz1 hz2 rfl (by decide) _ _ _ rfl HO.out ad pxs.length pc (pxs.map (Value.int .u8)) rfl (by simp) HC.out (ints_one _ _) (by unfold maxLen; omega) (by omega) hbel.size ?_)
            intro v' w2 hown2 hgrow _
            obtain ⟨a2, c2, rfl⟩ := slice_form hown2
            have hbel2 : Below w.heap.size w w2 := hbel.grown hgrow hbel.size (fun j e => (HO.out.lt j e).1)
            have O2 := hide hown2
            have B2 := hide hbel2
            clear hown2 hbel2 hgrow
            go_wp2
            go_roundw
            case rel => exact ⟨k + 1, a2, m + pxs.length, c2, by omega, by go_num, rfl, by rw [HF.out, List.length_append, HM.out], by omega, by rw [HF.out]; simpa using O2.out, B2.out⟩
            case measure => simp [intOf]; omega
      · have hkn : k = L.length := by omega
        have hfl : flat (L.take k) = flat L := by rw [hkn, List.take_length]
        have hbb : ∀ x ∈ flat L, 0 ≤ x ∧ x ≤ 255 := fun x hx => by
          obtain ⟨p, hp, hx⟩ := List.mem_flatMap.1 hx
          exact HB.out p hp x hx
        rw [hfl] at HO HM
        clear hkn hfl
        have hsr := csum_rng (flat L)
        have hml : m < 1000000000 := by omega
        have h1 := refSum_any a' (flat L) c' wr (Row.of_owns HO.out) hbb (by rw [← HM.out]; exact hml)
        rw [← HM.out] at h1
        have H1 := hide h1
        have H2 := fun (W : World) (h : Below w.heap.size w W) => hide (sum_any a L cap W (HPT.out.below h (Nat.le_refl _)) (by rw [← HM.out]; exact hml) (by omega) hbb)
        have H3 := fun (W : World) (h : Below w.heap.size w W) => hide (right_any a L cap W (HPT.out.below h (Nat.le_refl _)) (by rw [← HM.out]; exact hml) (by omega) hbb)
        have J2 := hide H2
        have J3 := hide H3
        clear h1 H2 H3 hbb
        generalize csum (flat L) = c at *
        go_wp2_with fail
        refine H1.out.mono ?_
        rintro e w2 ⟨rfl, hbel2⟩
        have hb2 := hbel.trans (hbel2.mono hbel.size)
        have hcc : (c == c) = true := by simp
        go_wp2_with fail
        refine (J2.out _ hb2).out.mono ?_
        rintro e w3 ⟨rfl, hbel3⟩
        have hb3 := hb2.trans (hbel3.mono hb2.size)
        go_wp2_with fail
        refine (J3.out _ hb3).out.mono ?_
        rintro e w4 ⟨rfl, hbel4⟩
        have hb4 := hb3.trans (hbel4.mono hb3.size)
        obtain ⟨r, hrc⟩ : ∃ r, Hid ((c == 0) = r) := ⟨_, rfl⟩
        rw [hrc.out]
        go_wp2
        go_ret
        refine ⟨?_, hb4⟩
        show Ending.returned (.bool (r == (c == 0))) = _
        rw [hrc.out]; simp
end Go.Proofs.Ytjongigofaobdaa
