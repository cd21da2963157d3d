/- What the function that octet.Pairs gives does with the closure of 'pairs': it tells the numbers of two bytes each, in order, until it is told to end. -/
import Derived.Test.YtpchmajgeanflaaPairs
namespace Go.Proofs.Ytpchmajgeanflaa
open Go.RowKit
set_option linter.unusedVariables false
set_option linter.unusedSimpArgs false
theorem Try.info44 : (Try.prog.info? 44).map (fun i => (i.zero, i.size, i.bytes)) = some (some (.int .u16 0), 1, 2) := by kernel_rfl

/-- What the closure of 'pairs' keeps: 'ok' is true, 'out' owns what has come, 'most' is as it was. -/
structure St (base Bk Bo Bm : Nat) (most : Int) (ys : List Int) (w : World) : Prop where
  ok : w.heap[Bk]? = some (.cells #[.bool true] 4 (0, 0))
  out : ∃ a c, w.heap[Bo]? = some (.cells #[.slice a ys.length c] 41 (0, 0)) ∧ w.ownsRow base 44 1 (.slice a ys.length c) ys.length (ys.map (Value.int .u16))
  most : w.heap[Bm]? = some (.cells #[.int .i64 most] 3 (0, 0))

/-- Blocks of other types stay. -/
def Keep (w w' : World) : Prop := ∀ (B : Nat) (cs : Array Value) (t : TypeId), w.heap[B]? = some (.cells cs t (0, 0)) → t = 24 ∨ t = 5 → w'.heap[B]? = some (.cells cs t (0, 0))
theorem Keep.trans {a b c : World} (h : Keep a b) (k : Keep b c) : Keep a c := fun B cs t hB ht => k B cs t (h B cs t hB ht) ht
theorem Keep.owns {w w' : World} {base : Nat} {v : Value} {n : Nat} {xs : List Value} (h : Keep w w') (ho : w.ownsRow base 5 1 v n xs) : w'.ownsRow base 5 1 v n xs := by
  refine ⟨ho.1, ?_⟩
  rcases ho.2 with h1 | ⟨g, cap, cur, hv, hg, hh, r⟩
  · exact .inl h1
  · exact .inr ⟨g, cap, cur, hv, hg, h g cur 5 hh (.inr rfl), r⟩

theorem yield_any (base Bk Bo Bm : Nat) (most n i : Int) (r : Bool) (ys : List Int) (w : World) (h : St base Bk Bo Bm most ys w) (hn1 : base ≤ Bk) (hn2 : base ≤ Bo) (hlen : ys.length < 1000000000)
    (hi0 : i = ys.length) (hd : decide (((ys.length : Int) + 1) < most) = r) :
    Calls Try.prog 39 #[.int .i64 i, .int .u16 n, .pointer (some ⟨Bk, 0, none⟩), .pointer (some ⟨Bo, 0, none⟩), .pointer (some ⟨Bm, 0, none⟩)] w fun e w' =>
      e = .returned (.bool r) ∧ St base Bk Bo Bm most (ys ++ [n]) w' ∧ Below base w w' ∧ Keep w w' := by
  subst hi0
  have HDD := hide hd; clear hd
  obtain ⟨i0, hi, hz0, hz1, hz2⟩ := info_parts Try.info44
  obtain ⟨h1, ⟨a, c, h2, hown⟩, h3⟩ := h
  have c1 := cell_of_one h1
  have f1 := free_of_one h1
  have c2 := cell_of_one h2
  have f2 := free_of_one h2
  have c3 := cell_of_one h3
  have n1 : Bk ≠ Bo := by intro e; rw [e, h2] at h1; simp at h1
  have n2 : Bk ≠ Bm := by intro e; rw [e, h3] at h1; simp at h1
  have n3 : Bo ≠ Bm := by intro e; rw [e, h3] at h2; simp at h2
  have hob : ∀ (v : Value) (B : Nat), (∃ t o, w.heap[B]? = some (.cells #[o] t (0, 0)) ∧ t ≠ 44) → (Value.slice a ys.length c).ownBlock ≠ some B := by
    intro v B ⟨t, o, hB, ht⟩ e
    rcases hown.2 with ⟨h, _⟩ | ⟨g, c', cur, hv, hg, hh, _⟩
    · rw [h] at e; simp [Value.ownBlock] at e
    · rw [hv] at e; simp [Value.ownBlock] at e; subst e; rw [hh] at hB; simp at hB; exact ht hB.2.symm
  have o1 := hob (.bool true) Bk ⟨_, _, h1, by decide⟩
  have o2 := hob (.bool true) Bo ⟨_, _, h2, by decide⟩
  have o3 := hob (.bool true) Bm ⟨_, _, h3, by decide⟩
  clear hob
  have g1 := one_setCell (u := .bool true) h1
  have g2 : (w.setCell ⟨Bk, 0, none⟩ (.bool true)).heap[Bo]? = _ := (Below.heap_setCell w ⟨Bk, 0, none⟩ (.bool true) Bo (Ne.symm n1)).trans h2
  have g3 : (w.setCell ⟨Bk, 0, none⟩ (.bool true)).heap[Bm]? = _ := (Below.heap_setCell w ⟨Bk, 0, none⟩ (.bool true) Bm (Ne.symm n2)).trans h3
  have gown := ownsRow_setCell_other hown (a := ⟨Bk, 0, none⟩) o1 (.bool true)
  have c2' := cell_of_one g2
  have hsz : (w.setCell ⟨Bk, 0, none⟩ (.bool true)).heap.size = w.heap.size := by simp
  have hB1 : Bk < w.heap.size := lt_of_block h1
  have hB2 : Bo < w.heap.size := lt_of_block h2
  have hB3 : Bm < w.heap.size := lt_of_block h3
  have H1 := hide h1
  have H2 := hide h2
  have HO := hide hown
  have O1 := hide o1
  have O2 := hide o2
  have O3 := hide o3
  have G := hide gown
  have G1 := hide g1
  have G2 := hide g2
  have G3 := hide g3
  have LO := hide hown.lt
  clear o1 o2 o3 gown g1 g2 g3 h1 h2 h3 hsz hown
  go_enter Try.func39, Try.ntmps39
  go_wp2_with (at_builtin; refine wpList_append_own _ rfl _ _ 41 rfl base 44 i0 (.int .u16 0) 1 2 Try.underlying41 hi hz0 hz1 hz2 rfl (by decide) _ _ _ rfl (G.out.alloc _) ⟨w.heap.size, 0, none⟩ 1 1 [.int .u16 n] rfl rfl ?c1 ?c2 ?c3 ?c4 ?c5 ?_)
  case c1 =>
    intro j u hj
    match j, hj with
    | 0, hj =>
      simp at hj; subst hj
      rw [Addr.add_lit, World.cell?_alloc_at _ _ _ _ (by simp)]; rfl
  case c2 => intro u hu; simp at hu; subst hu; rfl
  case c3 => unfold maxLen; omega
  case c4 => omega
  case c5 => simp; omega
  intro v' w1 hown1 hgrow hn0
  obtain ⟨a1, cc, rfl⟩ : ∃ a1 cc, v' = .slice a1 (ys.length + 1) cc := by
    rcases hown1.2 with ⟨h, h2⟩ | ⟨g, c, cur, h, _⟩
    · omega
    · exact ⟨_, _, h⟩
  have b1 : w1.heap[Bk]? = _ := (hgrow.block Bk (by simp; omega) (Ne.symm O1.out)).trans ((Below.heap_alloc _ _ Bk (by simpa using hB1)).trans G1.out)
  have b2 : w1.heap[Bo]? = _ := (hgrow.block Bo (by simp; omega) (Ne.symm O2.out)).trans ((Below.heap_alloc _ _ Bo (by simpa using hB2)).trans G2.out)
  have b3 : w1.heap[Bm]? = _ := (hgrow.block Bm (by simp; omega) (Ne.symm O3.out)).trans ((Below.heap_alloc _ _ Bm (by simpa using hB3)).trans G3.out)
  have bel : Below base w w1 := (((Below.refl base w).setCell (p := ⟨Bk, 0, none⟩) hn1 _).alloc (by simp; omega) _).grown hgrow (by simp; omega) (fun k e => (LO.out k e).1)
  have on1 : (Value.slice a1 (ys.length + 1) cc).ownBlock ≠ some Bo := by
    intro e
    rcases hown1.2 with ⟨h, _⟩ | ⟨g, c', cur, hv, hg, hh, _⟩
    · rw [h] at e; simp [Value.ownBlock] at e
    · rw [hv] at e; simp [Value.ownBlock] at e; subst e; rw [hh] at b2; simp at b2
  have d2 := cell_of_one b2
  have e2 := free_of_one b2
  have k2 := one_setCell (u := .slice a1 (ys.length + 1) cc) b2
  have d2' := cell_of_one k2
  have k1 : (w1.setCell ⟨Bo, 0, none⟩ (.slice a1 (ys.length + 1) cc)).heap[Bk]? = _ := (Below.heap_setCell w1 ⟨Bo, 0, none⟩ _ Bk n1).trans b1
  have k3 : (w1.setCell ⟨Bo, 0, none⟩ (.slice a1 (ys.length + 1) cc)).heap[Bm]? = _ := (Below.heap_setCell w1 ⟨Bo, 0, none⟩ _ Bm (Ne.symm n3)).trans b3
  have d3' := cell_of_one k3
  have kown := ownsRow_setCell_other hown1 (a := ⟨Bo, 0, none⟩) on1 (.slice a1 (ys.length + 1) cc)
  have bel' := bel.setCell (p := ⟨Bo, 0, none⟩) hn2 (.slice a1 (ys.length + 1) cc)
  have kp : Keep w (w1.setCell ⟨Bo, 0, none⟩ (.slice a1 (ys.length + 1) cc)) := by
    intro B cs t hB ht
    have hlt := lt_of_block hB
    have n1 : B ≠ Bk := by intro e; subst e; rw [H1.out] at hB; rcases ht with rfl | rfl <;> simp at hB
    have n2 : B ≠ Bo := by intro e; subst e; rw [H2.out] at hB; rcases ht with rfl | rfl <;> simp at hB
    have n3 : (Value.slice a ys.length c).ownBlock ≠ some B := by
      intro e
      rcases HO.out.2 with ⟨h, _⟩ | ⟨g, c', cur, hv, hg, hh, _⟩
      · rw [h] at e; simp [Value.ownBlock] at e
      · rw [hv] at e; simp [Value.ownBlock] at e; subst e; rw [hh] at hB; rcases ht with rfl | rfl <;> simp at hB
    exact (Below.heap_setCell w1 ⟨Bo, 0, none⟩ _ B n2).trans ((hgrow.block B (by simp; omega) (Ne.symm n3)).trans ((Below.heap_alloc _ _ B (by simpa using hlt)).trans ((Below.heap_setCell w ⟨Bk, 0, none⟩ _ B n1).trans hB)))
  have KP := hide kp
  clear kp
  have K1 := hide k1
  have K2 := hide k2
  have K3 := hide k3
  have KO := hide kown
  have BE := hide bel'
  clear k1 k2 k3 kown bel' bel b1 b2 b3 hgrow hown1 hn0 c1 c2 c2' c3
  go_wp2
  go_ret
  exact ⟨by rw [← HDD.out]; rfl, ⟨K1.out, ⟨a1, cc, by simpa using K2.out, by simpa using KO.out⟩, K3.out⟩, BE.out, KP.out⟩

/-- How many pairs are told. -/
def cnt (P : Nat) (most : Int) : Nat := if P = 0 then 0 else (max (min (P : Int) most) 1).toNat

set_option maxHeartbeats 800000 in
theorem loop_any (base K Bk Bo Bm : Nat) (most : Int) (a : Option Addr) (xs : List Int) (cap : Nat) (w : World) (hK : w.heap[K]? = some (.cells #[.slice a xs.length cap] 24 (0, 0)))
    (ho : w.ownsRow base 5 1 (.slice a xs.length cap) xs.length (xs.map (Value.int .u8))) (hb : ∀ x ∈ xs, 0 ≤ x ∧ x ≤ 255)
    (h : St base Bk Bo Bm most [] w) (hn1 : base ≤ Bk) (hn2 : base ≤ Bo) (hlen : xs.length < 1000000000) :
    Calls Try.prog 43 #[.func (.func 39) #[] #[.pointer (some ⟨Bk, 0, none⟩), .pointer (some ⟨Bo, 0, none⟩), .pointer (some ⟨Bm, 0, none⟩)], .pointer (some ⟨K, 0, none⟩)] w fun e w' =>
      e = .returned (.tuple #[]) ∧ St base Bk Bo Bm most ((prs xs).take (cnt (prs xs).length most)) w' ∧ Below base w w' := by
  have hpl := prs_len xs
  go_enter Try.func43, Try.ntmps43
  go_wp2
  go_loopw [3] (fun i wr => ∃ k : Nat, k ≤ (prs xs).length ∧ i = .int .i64 ((2 * k : Nat) : Int) ∧ St base Bk Bo Bm most ((prs xs).take k) wr ∧
      wr.heap[K]? = some (.cells #[.slice a xs.length cap] 24 (0, 0)) ∧ wr.ownsRow base 5 1 (.slice a xs.length cap) xs.length (xs.map (Value.int .u8)) ∧ Below base w wr ∧ (k = 0 ∨ (k : Int) < most))
    (fun i _ => xs.length + 1 - (intOf i).toNat)
  case atStart => exact ⟨0, Nat.zero_le _, rfl, h, hK, ho, Below.refl _ _, .inl rfl⟩
  case round =>
    have HP := hide hpl
    clear hpl hK ho h
    obtain ⟨k, hk, rfl, hst, hK, ho, hbel, hkm⟩ := hrel
    have hkl : ((prs xs).take k).length = k := by simp; omega
    have cK := cell_of_one hK
    by_cases hlt : 2 * k < xs.length
    · obtain ⟨b, off, rfl, hbl, hc⟩ := (Row.of_owns ho).at hlt
      have cx := hc (2 * k) hlt
      have hx := byte_at hb (2 * k)
      have hy := byte_at hb (2 * k + 1)
      have hpt := prs_take xs k hlt
      have hy0 : ¬ 2 * k + 1 < xs.length → xs[2 * k + 1]?.getD 0 = 0 := fun h => by rw [List.getElem?_eq_none (by omega)]; rfl
      have cx2 := hc (2 * k + 1)
      generalize xs[2 * k]?.getD 0 = x at *
      generalize xs[2 * k + 1]?.getD 0 = y at *
      have HPT := hide hpt
      have HST := hide hst
      have HO := hide ho
      have HK := hide hK
      have HKL := hide hkl
      clear hst ho hK hkl hc hpt
      have hkb : k < 1000000000 := by omega
      by_cases hm : (k : Int) + 1 < most
      · by_cases hlt2 : 2 * k + 1 < xs.length
        · replace cx2 := cx2 hlt2
          clear hy0
          go_wp2_with fail
          rw [or16 x y hx.1 hx.2 hy.1 hy.2]
          refine (yield_any base Bk Bo Bm most _ _ true _ _ HST.out hn1 hn2 (by rw [HKL.out]; omega) (by rw [HKL.out]) (by rw [HKL.out]; simpa using hm)).mono ?_
          rintro e w2 ⟨rfl, hst2, hbel2, hkp⟩
          have HST2 := hide hst2
          have HKP := hide hkp
          clear hst2 hkp
          go_wp2
          go_roundw
          case rel => exact ⟨k + 1, by rw [HP.out]; omega, by go_num, (by rw [HPT.out]; exact HST2.out), HKP.out _ _ _ HK.out (.inl rfl), HKP.out.owns HO.out, hbel.trans hbel2, .inr (by simpa using hm)⟩
          case measure => simp [intOf]; omega
        · have hyy := hide (hy0 hlt2)
          clear hy0 cx2
          go_wp2_with fail
          refine (yield_any base Bk Bo Bm most _ _ true _ _ HST.out hn1 hn2 (by rw [HKL.out]; omega) (by rw [HKL.out]) (by rw [HKL.out]; simpa using hm)).mono ?_
          rintro e w2 ⟨rfl, hst2, hbel2, hkp⟩
          have HST2 := hide hst2
          have HKP := hide hkp
          clear hst2 hkp
          go_wp2
          go_roundw
          case rel => exact ⟨k + 1, by rw [HP.out]; omega, by go_num, (by rw [HPT.out, show 256 * x + y = x * 256 by rw [hyy.out]; omega]; exact HST2.out), HKP.out _ _ _ HK.out (.inl rfl), HKP.out.owns HO.out, hbel.trans hbel2, .inr (by simpa using hm)⟩
          case measure => simp [intOf]; omega
      · by_cases hlt2 : 2 * k + 1 < xs.length
        · replace cx2 := cx2 hlt2
          clear hy0
          go_wp2_with fail
          rw [or16 x y hx.1 hx.2 hy.1 hy.2]
          refine (yield_any base Bk Bo Bm most _ _ false _ _ HST.out hn1 hn2 (by rw [HKL.out]; omega) (by rw [HKL.out]) (by rw [HKL.out]; simpa using hm)).mono ?_
          rintro e w2 ⟨rfl, hst2, hbel2, hkp⟩
          have HST2 := hide hst2
          have HKP := hide hkp
          clear hst2 hkp
          go_wp2
          refine bodyPost_ret (results_none rfl _ _ _) rfl ?_
          refine ⟨rfl, ?_, hbel.trans hbel2⟩
          have hc : cnt (prs xs).length most = k + 1 := by have := HP.out; unfold cnt; rw [if_neg (by omega)]; omega
          rw [hc]
          exact (by rw [HPT.out]; exact HST2.out)
        · have hyy := hide (hy0 hlt2)
          clear hy0 cx2
          go_wp2_with fail
          refine (yield_any base Bk Bo Bm most _ _ false _ _ HST.out hn1 hn2 (by rw [HKL.out]; omega) (by rw [HKL.out]) (by rw [HKL.out]; simpa using hm)).mono ?_
          rintro e w2 ⟨rfl, hst2, hbel2, hkp⟩
          have HST2 := hide hst2
          have HKP := hide hkp
          clear hst2 hkp
          go_wp2
          refine bodyPost_ret (results_none rfl _ _ _) rfl ?_
          refine ⟨rfl, ?_, hbel.trans hbel2⟩
          have hc : cnt (prs xs).length most = k + 1 := by have := HP.out; unfold cnt; rw [if_neg (by omega)]; omega
          rw [hc]
          exact (by rw [HPT.out, show 256 * x + y = x * 256 by rw [hyy.out]; omega]; exact HST2.out)
    · have hST := hide hst
      clear hst ho hK
      have hP : Hid (cnt (prs xs).length most = k) := by
        have := HP.out
        show cnt (prs xs).length most = k
        unfold cnt; split <;> omega
      go_wp2
      go_end0
      exact ⟨rfl, by rw [hP.out]; exact hST.out, hbel⟩
end Go.Proofs.Ytpchmajgeanflaa
