/- The law that check sums are changed exactly, walked. -/
import Derived.Test.YtjongigofaobdaaUpdate
namespace Go.Proofs.Ytjongigofaobdaa
open Go.RowKit
set_option linter.unusedVariables false
set_option linter.unusedSimpArgs false
theorem refUpdate_any (s x y : Int) (w : World) (h1 : 0 ≤ s) (h2 : s ≤ 65535) (h3 : 0 ≤ x) (h4 : x ≤ 65535) (h5 : 0 ≤ y) (h6 : y ≤ 65535) :
    Calls Try.prog 31 #[.int .u16 s, .int .u16 x, .int .u16 y] w fun e w' => e = .returned (.int .u16 (upd s (x, y))) ∧ w = w' := by
  have hu : upd s (x, y) = 65535 - f16 (f16 (65535 - s + (65535 - x)) + y) := by rw [f16_add _ _ (by omega) h5]; rfl
  have hf := f16_rng (65535 - s + (65535 - x))
  have hg := f16_rng (f16 (65535 - s + (65535 - x)) + y)
  rw [hu]
  have f1 := hf.1
  have f2 := hf.2
  have g1 := hg.1
  have g2 := hg.2
  clear hu hf hg
  go_enter Try.func31, Try.ntmps31
  go_wp2_with fail
  refine (refAdd_any (65535 - s) (65535 - x) _ (by omega) (by omega) (by omega) (by omega)).mono ?_
  rintro e w1 ⟨rfl, rfl⟩
  go_wp2_with fail
  refine (refAdd_any _ y _ f1 f2 h5 h6).mono ?_
  rintro e w1 ⟨rfl, rfl⟩
  go_wp2
  go_ret
  exact ⟨rfl, rfl⟩

set_option maxHeartbeats 1600000 in
theorem sumUpdates_any (s : Int) (a : Option Addr) (cs : List (Int × Int)) (cap : Nat) (w : World) (h1 : 0 ≤ s) (h2 : s ≤ 65535) (hc : Chg w a cs) (hb : ∀ p ∈ cs, (0 ≤ p.1 ∧ p.1 ≤ 65535) ∧ 0 ≤ p.2 ∧ p.2 ≤ 65535) :
    Calls Try.prog 9 #[.int .u16 s, .slice a cs.length cap] w fun e w' => e = .returned (.bool true) ∧ Below w.heap.size w w' := by
  by_cases hl : 1000 < cs.length
  · go_enter Try.func9, Try.ntmps9
    go_wp2_with (go_at_call 27; refine (speaks2_any _).mono ?_; rintro e w1 ⟨rfl, hbel⟩)
    go_ret
    exact ⟨rfl, hbel⟩
  · have HC := hide hc
    have HB := hide hb
    clear hc hb
    go_enter Try.func9, Try.ntmps9
    go_wp2_with fail
    refine (speaks2_any _).mono ?_
    rintro e w1 ⟨rfl, hbel⟩
    go_wp2
    go_loopw [5, 16] (fun v i wr => ∃ (k : Nat) (t : Int), k ≤ cs.length ∧ i = .int .i64 k ∧ v = .int .u16 t ∧ 0 ≤ t ∧ t ≤ 65535 ∧ t = updL s (cs.take k) ∧ Below w.heap.size w wr) (fun _ i _ => cs.length - (intOf i).toNat)
    case atStart => exact ⟨0, s, Nat.zero_le _, rfl, rfl, h1, h2, rfl, hbel⟩
    case round =>
      clear hbel
      obtain ⟨k, t, hk, rfl, rfl, ht1, ht2, hte, hbel⟩ := hrel
      have HT := hide hte
      clear hte
      by_cases hlt : k < cs.length
      · obtain ⟨p, hpk⟩ : ∃ p, cs[k]? = some p := ⟨_, List.getElem?_eq_getElem hlt⟩
        obtain ⟨b, off, rfl, hbl, hcc⟩ := HC.out.below hbel (Nat.le_refl _) (by intro e; rw [e] at hlt; simp at hlt)
        obtain ⟨e1, e2⟩ := hcc k p hpk
        obtain ⟨⟨p1, p2⟩, p3, p4⟩ := HB.out p (List.mem_of_getElem? hpk)
        have hst := updL_snoc s cs k p hpk
        rw [← HT.out] at hst
        have hur := upd_rng t p
        obtain ⟨x, y⟩ := p
        simp only at e1 e2 p1 p2 p3 p4
        have HST := hide hst
        have hb0 := hbel.alloc hbel.size (.cells #[.int .u16 x, .int .u16 y] 53)
        clear hst hcc hpk
        go_wp2_with fail
        refine (refUpdate_any t x y _ ht1 ht2 p1 p2 p3 p4).mono ?_
        rintro e w2 ⟨rfl, rfl⟩
        go_wp2
        go_roundw
        case rel => exact ⟨k + 1, _, by omega, by go_num, rfl, hur.1, hur.2, HST.out.symm, hb0⟩
        case measure => simp [intOf]; omega
      · have hkn : k = cs.length := by omega
        have ht : t = updL s cs := by rw [HT.out, hkn, List.take_length]
        clear HT hkn
        have H1 := fun (W : World) (h : Below w.heap.size w W) => hide (update_any s a cs cap W h1 h2 (HC.out.below h (Nat.le_refl _)) HB.out (by omega))
        rw [← ht] at H1
        have J1 := hide H1
        have H2 := fun (W : World) => hide (update_any s none [] 0 W h1 h2 (fun h => absurd rfl h) (by simp) (by simp))
        have he : updL s [] = s := rfl
        rw [he, List.length_nil] at H2
        have J2 := hide H2
        clear H1 H2 he ht
        have htt : (t == t) = true := by simp
        have hss : (s == s) = true := by simp
        go_wp2_with fail
        refine (J1.out _ hbel).out.mono ?_
        rintro e w2 ⟨rfl, hbel2⟩
        have hb2 := hbel.trans (hbel2.mono hbel.size)
        go_wp2_with fail
        refine (J2.out _).out.mono ?_
        rintro e w3 ⟨rfl, hbel3⟩
        have hb3 := hb2.trans (hbel3.mono hb2.size)
        go_wp2
        go_ret
        exact ⟨rfl, hb3⟩
end Go.Proofs.Ytjongigofaobdaa
