/- http: byte by byte the same is read as at once. -/
import Derived.Test.YtbiblaeocbcfhaaGreatDoorZApp
import Derived.Test.YtbiblaeocbcfhaaGreatDoorZFs
namespace Go.Proofs.YtbiblaeocbcfhaaGreatDoor
open Go.RowKit Go.Deep
set_option linter.unusedVariables false
set_option linter.unusedSimpArgs false
set_option maxRecDepth 100000
theorem St.lft0 {W w1 wz : World} {B : Nat} {q : PM} {v tv fv bv : Value} {rows : List TRow} (hE : Env W) (hb : Below W.heap.size W w1) (hB : w1.heap.size ≤ B) (hS : St w1 B (.slice none 0 0) (.slice none 0 0) (.slice none 0 0) wz q v rows tv fv bv) (hq : Bd q) : Lft W B q tv fv bv wz := by
  have hw := hb.size
  have h2 := hE.two
  have ho : ∀ k, Own B tv bv k → w1.heap.size ≤ k := fun k hk => by
    rcases hk with e | e | e
    · omega
    · rcases hS.ft k e with h | h
      · cases h
      · exact h
    · rcases hS.fb k e with h | h
      · cases h
      · exact h
  have hbel : Below W.heap.size W wz := hb.trans (hS.only.below (fun k hk => by rcases hk with e | e | e; omega; cases e; cases e) hw)
  exact ⟨hS.at', hE.below hbel (Nat.le_refl _), ⟨by omega, fun k e => by have := ho k (.inr (.inl e)); omega, fun k e => by have := ho k (.inr (.inr e)); omega⟩, hq, hbel, fun k hk => by have := ho k hk; omega⟩
/-- How far the second reader has come; the first one's things lie where they lay. -/
structure Wh (W w1 w5 : World) (B2 G : Nat) (l : List UInt8) (j : Nat) (wz : World) (v : Value) (rows : List TRow) (tv fv bv : Value) : Prop where
  told : (feedM pm0 (l.take j)).2 = rows.map (·.1)
  st : St w1 B2 (.slice none 0 0) (.slice none 0 0) (.slice none 0 0) wz (feedM pm0 (l.take j)).1 v rows tv fv bv
  only : OnlyS (fun k => k = B2 ∨ k = G) w5 wz
  tn : ∀ k, tv.ownBlock = some k → w5.heap.size ≤ k
  bn : ∀ k, bv.ownBlock = some k → w5.heap.size ≤ k
  gn : ∀ k, v.ownBlock = some k → k = G ∨ w5.heap.size ≤ k
theorem ones {w : World} {v : Value} {rows : List TRow} (h : Outs w v rows) : ∀ x ∈ rows, x.2.1.oneCell' = true ∧ x.2.2.oneCell' = true := fun x hx => by
  obtain ⟨a, c, e, -⟩ := (h.each x hx).1
  obtain ⟨a2, c2, e2⟩ := (h.each x hx).2.form
  rw [e, e2]
  exact ⟨rfl, rfl⟩
def Alike : Prop := ∀ (t : Told) (tf tb tf' tb' : Value) (w : World), FV w tf t.rq.fs → U8 w tb t.rq.body → FV w tf' t.rq.fs → U8 w tb' t.rq.body → t.rq.fs.length ≤ 40 →
    Calls Tryz.prog 10 #[.agg (tcells t tf tb), .agg (tcells t tf' tb')] w fun e w' => e = .returned (.bool true) ∧ Below w.heap.size w w'
set_option maxHeartbeats 2000000 in
theorem httpWhole_any (hAlike : Alike) (W : World) (l : List UInt8) (a : Option Addr) (n c : Nat) (hn : l.length = n) (hnc : n ≤ c) (hl : LiesB W a l) (hE : Env W) :
    Calls Tryz.prog 3 #[.slice a n c] W fun e w' => e = .returned (.bool true) ∧ Below W.heap.size W w' := by
  have HS := hide (speaks_any W hE)
  have HAk := hide hAlike
  clear hAlike
  have HC := hide (And.intro hE (And.intro hn (And.intro hnc hl)))
  clear hE hn hl
  by_cases b0 : n ≤ 3000
  rotate_left
  · have d0 : decide (3000 < n) = true := by simp; omega
    have d0'' : (3000 : Int) < (n : Int) := by omega
    clear b0
    go_enter Tryz.func3, Tryz.ntmps3
    go_wp2_with fail
    refine HS.out.mono ?_
    rintro e w1 ⟨rfl, b1⟩
    clear HS
    go_wp2_with fail
    go_ret
    exact ⟨rfl, b1⟩
  have d0 : decide (3000 < n) = false := by simp; omega
  have d0'' : ¬ (3000 : Int) < (n : Int) := by omega
  have HB := hide b0
  clear b0
  go_enter Tryz.func3, Tryz.ntmps3
  go_wp2_with fail
  refine HS.out.mono ?_
  rintro e w1 ⟨rfl, b1⟩
  have HB1 := hide b1
  have HN := hide (new_any w1)
  clear HS b1
  go_wp2_with fail
  refine HN.out.mono ?_
  rintro e w2 ⟨rfl, hA1, b2⟩
  have HA1 := hide (And.intro hA1 b2)
  have HN2 := hide (new_any w2)
  clear HN hA1 b2
  go_wp2_with fail
  refine HN2.out.mono ?_
  rintro e w3 ⟨rfl, hA2, b3⟩
  have hs1 := HA1.out.1.lt
  have hs2 := hA2.lt
  have hal := (Below.refl w3.heap.size w3).alloc (Nat.le_refl _) (.cells #[] 33)
  have hL1 := Lft.new HC.out.1 HB1.out HA1.out.1 HA1.out.2
  have hb3 : Below w1.heap.size w1 w3 := HA1.out.2.trans (b3.mono HA1.out.2.size)
  have hb4 := hb3.trans (hal.mono hb3.size)
  have hbel4 : Below W.heap.size W (w3.alloc (.cells #[] 33)) := HB1.out.trans (hb4.mono HB1.out.size)
  have hL4 : Lft W w1.heap.size pm0 (.slice none 0 0) (.slice none 0 0) (.slice none 0 0) (w3.alloc (.cells #[] 33)) := ⟨(HA1.out.1.below b3).below hal, HC.out.1.below hbel4 (Nat.le_refl _), hL1.lo, hL1.bd, hbel4, hL1.own⟩
  have hF := hL4.feed l a n c HC.out.2.1 (by have := HB.out; omega) HC.out.2.2.2
  have HF := hide hF
  have hA24 := hA2.below hal
  have hgot : (w3.alloc (.cells #[] 33)).ownsRow 0 33 7 (.slice (some ⟨w3.heap.size, 0, none⟩) 0 0) 0 [] := World.ownsRow_lit w3 #[] 0 (Nat.zero_le _) (Nat.zero_le _) rfl
  have hw4 : (w3.alloc (.cells #[] 33)).heap.size = w3.heap.size + 1 := by simp
  have H4 := hide (And.intro hA24 (And.intro hgot (And.intro hb4 (And.intro hs1 (And.intro hs2 (And.intro hw4 (And.intro hL4 b3.size)))))))
  obtain ⟨B1, hB1⟩ : ∃ k, w1.heap.size = k := ⟨_, rfl⟩
  obtain ⟨B2, hB2⟩ : ∃ k, w2.heap.size = k := ⟨_, rfl⟩
  obtain ⟨G, hG⟩ : ∃ k, w3.heap.size = k := ⟨_, rfl⟩
  rw [hB1] at HF ⊢
  rw [hB2] at ⊢
  have HE := hide (And.intro hB1 (And.intro hB2 hG))
  clear HN2 hA2 b3 hs1 hs2 hal hL1 hb3 hb4 hbel4 hL4 hF hA24 hgot hw4 hB1 hB2
  generalize hW4 : w3.alloc (.cells #[] 33) = w4 at HF H4
  go_wp2_with fail
  refine HF.out.mono ?_
  rintro e w5 ⟨aa, ca, rowsA, tvA, fvA, bvA, rfl, hfA, hSA⟩
  obtain ⟨hA24, hgot, hb4, hs1, hs2, hw4, hL4, -⟩ := H4.out
  obtain ⟨hB1, hB2, -⟩ := HE.out
  rw [hB1] at hs1 hL4
  rw [hB2] at hs1 hs2 hA24
  rw [hG] at hs2 hw4 hgot
  have hz5 := hSA.only.size
  have h15 : Below w1.heap.size w1 w5 := hb4.trans (hSA.only.below (fun k hk => by rcases hk with e | e | e; omega; cases e; cases e) hb4.size)
  have hOG : ∀ k, OB (.slice (some ⟨G, 0, none⟩) 0 0) [] k → k = G := fun k hk => by
    rcases hk with e | ⟨x, hx, _⟩
    · exact (Option.some.inj e).symm
    · simp at hx
  have h0 : Wh W w1 w5 B2 G l 0 w5 (.slice (some ⟨G, 0, none⟩) 0 0) [] (.slice none 0 0) (.slice none 0 0) (.slice none 0 0) :=
    ⟨rfl, ⟨⟨hSA.only.owns hgot (fun k hk e => by have h3 : G = k := Option.some.inj hk; rcases e with e | e | e; omega; cases e; cases e), fun x h => (by simp at h), fun k _ x h => (by simp at h), fun k hk => (by have := hOG k hk; omega)⟩, hA24.only hSA.only (fun e => by rcases e with e | e | e; omega; cases e; cases e) (fun _ e => (by cases e)) (fun _ e => (by cases e)) (fun _ e => (by cases e)), OnlyS.mono (OnlyS.of (h15.mono (Nat.le_refl _)) : OnlyS (fun _ => False) w1 w5) (fun _ _ h => h.elim), Fresh.refl _ _, Fresh.refl _ _, Fresh.refl _ _, fun k hk => ⟨by have := hOG k hk; omega, fun e => (by cases e), fun e => (by cases e), fun e => (by cases e)⟩, fun k hk => (by have := hOG k (.inl hk); omega), fun k hk => .inl (by have := hOG k hk; omega)⟩, OnlyS.refl _ _, fun _ e => (by cases e), fun _ e => (by cases e), fun k hk => .inl (hOG k (.inl hk))⟩
  have HI := hide h0
  have hmA : rowsA.length = (feedM pm0 l).2.length := by rw [hfA, List.length_map]
  generalize rowsA.length = mA at hSA hmA ⊢
  have HA := hide (And.intro hfA (And.intro hSA hmA))
  have HK := hide (And.intro hs1 (And.intro hs2 (And.intro hB1 (And.intro hB2 hw4))))
  clear hA24 hgot hb4 hs1 hs2 hw4 hL4 hB1 hB2 hz5 h15 hOG h0 hfA hSA hmA H4 HE HF hW4 hG
  go_wp2_with fail
  go_loopw [5, 28] (fun ov i wz => ∃ (j m : Nat) (oa : Option Addr) (oc : Nat) (rows : List TRow) (tv fv bv : Value), j ≤ n ∧ m ≤ j ∧ rows.length = m ∧ i = .int .i64 j ∧ ov = .slice oa m oc ∧ Hid (Wh W w1 w5 B2 G l j wz (.slice oa m oc) rows tv fv bv)) (fun _ i _ => n - (Lib.intOf i).toNat)
  case atStart => exact ⟨0, 0, _, 0, [], _, _, _, Nat.zero_le _, Nat.le_refl _, rfl, rfl, rfl, HI⟩
  case round =>
    clear HI
    obtain ⟨j, m, oa, oc, rows, tv, fv, bv, hj, hmj, hm, rfl, rfl, HI⟩ := hrel
    have hj4 : (0 : Int) ≤ (j : Int) := by omega
    have hj5 : (j : Int) ≤ 3000 := by have := HB.out; omega
    by_cases hlt : j < n
    · have d1 : decide (j < n) = true := by simp; omega
      have d2 : j + 1 ≤ c := by omega
      have hln := HC.out.2.1
      obtain ⟨u, hu⟩ : ∃ u, l[j]? = some u := ⟨_, List.getElem?_eq_getElem (by omega)⟩
      obtain ⟨g, off, rfl, hg, hcells⟩ := HC.out.2.2.2 (by rintro rfl; simp at hln; omega)
      have hL := St.lft0 HC.out.1 HB1.out (by have := HK.out; omega) HI.out.st (feed_bd _ _ (pm_bd 0 (.inl rfl)))
      have hF := feed_any B2 (feedM pm0 (l.take j)).1 tv fv bv [u] (some ⟨g, off + j, none⟩) 1 (c - j) wr hL.at' hL.env hL.lo hL.bd rfl (by omega) (fun _ => ⟨g, off + j, rfl, by have := hL.bel.size; omega, fun e => (by have := hL.own g e; omega), fun i y hy => by
        have hi : i = 0 := by have := (List.getElem?_eq_some_iff.1 hy).1; simp at this; omega
        subst hi
        obtain rfl : u = y := by simpa using hy
        rw [Nat.add_zero, World.cell?_of_block (hL.bel.block g hg)]
        exact hcells j u hu⟩)
      have HF := hide hF
      have hsn : feedM pm0 (l.take (j + 1)) = ((feedM (feedM pm0 (l.take j)).1 [u]).1, (feedM pm0 (l.take j)).2 ++ (feedM (feedM pm0 (l.take j)).1 [u]).2) := by
        rw [List.take_add_one, hu, Option.toList_some, feed_app]
      have HSN := hide (And.intro hsn hL.bel.size)
      clear hL hF hsn hu hcells hln
      go_wp2_with fail
      refine HF.out.mono ?_
      rintro e w6 ⟨af, cf, rowsF, tv1, fv1, bv1, rfl, hfF, hSF⟩
      have hkF : rowsF.length ≤ 1 := by
        have h := told_len [u] (feedM pm0 (l.take j)).1
        rw [hfF, List.length_map] at h
        exact h
      generalize hk : rowsF.length = k at hSF hkF ⊢
      have hM := HI.out.st.mv hSF.at' hSF.only hSF.ft hSF.ff hSF.fb
      obtain ⟨a', c', w7, hrun, o7, b7, f7⟩ := pushTs w6 oa af m oc k cf rows rowsF hM.outs.row hm hSF.outs.row hk (ones hSF.outs) (by omega)
      have hS7 := HI.out.st.app hSF o7 b7 f7
      have h56 := HI.out.only.size
      have h67 := hSF.only.size
      have HRUN := hide hrun
      have hm2 : (rows ++ rowsF).length = m + k := by rw [List.length_append, hm, hk]
      have HG := hide (show Wh W w1 w5 B2 G l (j + 1) w7 (.slice a' (m + k) c') (rows ++ rowsF) tv1 fv1 bv1 from
        ⟨by rw [HSN.out.1, List.map_append, ← HI.out.told, ← hfF], by rw [HSN.out.1]; exact hS7, (HI.out.only.trans hSF.only (fun i hi e => by
          rcases e with e | e | e
          · exact .inl e
          · have := HI.out.tn i e; omega
          · have := HI.out.bn i e; omega)).trans b7 (fun i hi e => by
          rcases HI.out.gn i e with e2 | e2
          · exact .inr e2
          · omega), fun i e => by
          rcases hSF.ft i e with e2 | e2
          · exact HI.out.tn i e2
          · omega, fun i e => by
          rcases hSF.fb i e with e2 | e2
          · exact HI.out.bn i e2
          · omega, fun i e => by
          rcases f7 i e with e2 | e2
          · exact HI.out.gn i e2
          · right; omega⟩)
      have HM := hide hm2
      clear hfF hSF hM hrun o7 b7 f7 hS7 h56 h67 hm2 hk HF HI
      go_wp2_with (at_builtin; refine Lib.wpList_append_run _ rfl _ _ _ _ rfl _ _ rfl rfl _ _ HRUN.out ?_)
      exact ⟨⟨j + 1, m + k, a', c', _, _, _, _, by omega, by omega, HM.out, by go_num, rfl, HG⟩, by simp [Lib.intOf]; omega⟩
    · have d1 : decide (j < n) = false := by simp; omega
      have hje : j = n := by omega
      subst hje
      have hW := HI.out
      have hln := HC.out.2.1
      have htk : l.take j = l := List.take_of_length_le (by omega)
      obtain ⟨q, hq⟩ : ∃ q, (feedM pm0 l).1 = q := ⟨_, rfl⟩
      obtain ⟨hfA, hSA, hmA⟩ := HA.out
      obtain ⟨hs1, hs2, hB1, hB2, hw4⟩ := HK.out
      have hst := hW.st
      have htold := hW.told
      rw [htk] at hst htold
      rw [hq] at hst hSA
      have hlen : mA = m := by rw [hmA, htold, List.length_map, hm]
      subst hlen
      have hsz := hSA.only.size
      have hAt : At wr B1 q tvA fvA bvA := hSA.at'.only hW.only (fun e => by rcases e with e | e <;> omega) (fun k hk e => by rcases hSA.ft k hk with h | h; cases h; rcases e with e | e <;> omega) (fun k hk e => by rcases hSA.fb k hk with h | h; cases h; rcases e with e | e <;> omega) (fun k hk e => by rcases hSA.ff k hk with h | h; cases h; rcases e with e | e <;> omega)
      have hOA : Outs wr (.slice aa mA ca) rowsA := hSA.outs.only hW.only (fun k hk e => by rcases hSA.src k hk with h | h | h; (rcases e with e | e <;> omega); cases h; cases h)
      have hmaps : rowsA.map (·.1) = rows.map (·.1) := by rw [← hfA, htold]
      have hforty : ∀ x ∈ rowsA, x.1.rq.fs.length ≤ 40 := fun x hx => feed_fs l pm0 (Nat.zero_le _) x.1 (by rw [hfA]; exact List.mem_map_of_mem hx)
      have hmA2 : rowsA.length = mA := by rw [hmA, hfA, List.length_map]
      have hbelW := HB1.out.trans ((hW.st.only.below (K := w1.heap.size) (fun k hk => by rcases hk with e | e | e; omega; cases e; cases e) (Nat.le_refl _)).mono HB1.out.size)
      have hD1 := dead_any B1 q _ _ _ wr hAt
      have hD2 := dead_any B2 q _ _ _ wr hst.at'
      have hI1 := idle_any B1 q _ _ _ wr hAt
      have hI2 := idle_any B2 q _ _ _ wr hst.at'
      generalize (q.waits == 7) = D at hD1 hD2
      generalize idleM q = I at hI1 hI2
      have HD1 := hide hD1
      have HD2 := hide hD2
      have HI1 := hide hI1
      have HI2 := hide hI2
      have HO := hide (And.intro hOA (And.intro hst.outs (And.intro hmaps (And.intro hforty (And.intro hmA2 hm)))))
      have HBW := hide hbelW
      have hm4 : (0 : Int) ≤ (mA : Int) := by omega
      have hm5 : (mA : Int) ≤ 3000 := by omega
      clear hW hln htk hq hfA hSA hmA hs1 hs2 hB1 hB2 hw4 hst htold hsz hAt hOA hmaps hforty hmA2 hm hbelW hD1 hD2 hI1 hI2 HI HA HK HC HB1 HB hlt hj d0 d0''
      cases D
      all_goals
        go_wp2_with fail
        refine HD1.out.mono ?_
        rintro e w6 ⟨rfl, rfl⟩
        go_wp2_with fail
        refine HD2.out.mono ?_
        rintro e w6 ⟨rfl, rfl⟩
        cases I
      all_goals
        go_wp2_with fail
        refine HI1.out.mono ?_
        rintro e w6 ⟨rfl, rfl⟩
        go_wp2_with fail
        refine HI2.out.mono ?_
        rintro e w6 ⟨rfl, rfl⟩
        clear HD1 HD2 HI1 HI2
        go_wp2_with fail
        go_loopw [62] (fun i wz => ∃ k : Nat, k ≤ mA ∧ i = .int .i64 k ∧ Hid (Below w6.heap.size w6 wz)) (fun i _ => mA - (Lib.intOf i).toNat)
        case atStart => exact ⟨0, Nat.zero_le _, rfl, hide (Below.refl _ _)⟩
        case round =>
          obtain ⟨k, hk, rfl, HBk⟩ := hrel
          have hk4 : (0 : Int) ≤ (k : Int) := by omega
          have hk5 : (k : Int) ≤ 3000 := by omega
          by_cases hlt2 : k < mA
          · have e1 : decide (k < mA) = true := by simp; omega
            obtain ⟨hOA, hOG, hmaps, hforty, hA6, hG6⟩ := HO.out
            obtain ⟨⟨t, tf, tb⟩, hx⟩ : ∃ x, rowsA[k]? = some x := ⟨_, List.getElem?_eq_getElem (by omega)⟩
            obtain ⟨⟨t2, tf2, tb2⟩, hy⟩ : ∃ x, rows[k]? = some x := ⟨_, List.getElem?_eq_getElem (by omega)⟩
            have hxy : t = t2 := by
              have h := congrArg (fun l : List Told => l[k]?) hmaps
              simp only [List.getElem?_map, hx, hy, Option.map_some] at h
              exact Option.some.inj h
            subst hxy
            obtain ⟨gA, rfl, hgA, hcA⟩ := row_cell hOA.row hA6 k _ hx
            obtain ⟨gG, rfl, hgG, hcG⟩ := row_cell hOG.row hG6 k _ hy
            have heA := hOA.each _ (List.mem_of_getElem? hx)
            have heG := hOG.each _ (List.mem_of_getElem? hy)
            have h40 := hforty _ (List.mem_of_getElem? hx)
            have hAL : ∀ V, Below w6.heap.size w6 V → Calls Tryz.prog 10 #[.agg (tcells t tf tb), .agg (tcells t tf2 tb2)] V fun e w' => e = .returned (.bool true) ∧ Below V.heap.size V w' := fun V hV =>
              HAk.out t tf tb tf2 tb2 V (heA.1.only (OnlyS.of hV : OnlyS (fun _ => False) _ _) (fun _ _ h => h)) (heA.2.only (OnlyS.of hV : OnlyS (fun _ => False) _ _) (fun _ _ h => h)) (heG.1.only (OnlyS.of hV : OnlyS (fun _ => False) _ _) (fun _ _ h => h)) (heG.2.only (OnlyS.of hV : OnlyS (fun _ => False) _ _) (fun _ _ h => h)) h40
            unfold tcells at hAL
            have kA := fun i (hi : i < 7) => (World.cell?_of_block (a := ⟨gA, k * 7 + i, none⟩) (HBk.out.block gA hgA)).trans (hcA i hi)
            have kG := fun i (hi : i < 7) => (World.cell?_of_block (a := ⟨gG, k * 7 + i, none⟩) (HBk.out.block gG hgG)).trans (hcG i hi)
            have p0 : wr.cell? ⟨gA, k * 7, none⟩ = some (.int .i64 (t.status : Int)) := kA 0 (by omega)
            have p1 : wr.cell? ⟨gA, k * 7 + 1, none⟩ = some (.string (bs t.rq.me)) := kA 1 (by omega)
            have p2 : wr.cell? ⟨gA, k * 7 + 2, none⟩ = some (.string (bs t.rq.ta)) := kA 2 (by omega)
            have p3 : wr.cell? ⟨gA, k * 7 + 3, none⟩ = some (.int .i64 (t.rq.minor : Int)) := kA 3 (by omega)
            have p4 : wr.cell? ⟨gA, k * 7 + 4, none⟩ = some tf := kA 4 (by omega)
            have p5 : wr.cell? ⟨gA, k * 7 + 5, none⟩ = some tb := kA 5 (by omega)
            have p6 : wr.cell? ⟨gA, k * 7 + 6, none⟩ = some (.bool t.rq.keep) := kA 6 (by omega)
            have q0 : wr.cell? ⟨gG, k * 7, none⟩ = some (.int .i64 (t.status : Int)) := kG 0 (by omega)
            have q1 : wr.cell? ⟨gG, k * 7 + 1, none⟩ = some (.string (bs t.rq.me)) := kG 1 (by omega)
            have q2 : wr.cell? ⟨gG, k * 7 + 2, none⟩ = some (.string (bs t.rq.ta)) := kG 2 (by omega)
            have q3 : wr.cell? ⟨gG, k * 7 + 3, none⟩ = some (.int .i64 (t.rq.minor : Int)) := kG 3 (by omega)
            have q4 : wr.cell? ⟨gG, k * 7 + 4, none⟩ = some tf2 := kG 4 (by omega)
            have q5 : wr.cell? ⟨gG, k * 7 + 5, none⟩ = some tb2 := kG 5 (by omega)
            have q6 : wr.cell? ⟨gG, k * 7 + 6, none⟩ = some (.bool t.rq.keep) := kG 6 (by omega)
            have HAL := hide hAL
            clear hOA hOG hmaps hforty hA6 hG6 hx hy hcA hcG heA heG h40 hAL kA kG hgA hgG HO
            go_wp2_with fail
            go_region_with (go_at_call 10; first
              | ((with_reducible refine (HAL.out _ HBk.out.drew).mono ?_); rintro e wc ⟨rfl, bc⟩; have HQ := hide (HBk.out.drew.trans (bc.mono HBk.out.drew.size)))
              | ((with_reducible refine (HAL.out _ HBk.out).mono ?_); rintro e wc ⟨rfl, bc⟩; have HQ := hide (HBk.out.trans (bc.mono HBk.out.size))))
            all_goals
              go_wp2_with fail
              exact ⟨⟨k + 1, by omega, by go_num, HQ⟩, by simp [Lib.intOf]; omega⟩
          · have e1 : decide (k < mA) = false := by simp; omega
            have HFIN := hide (HBW.out.trans (HBk.out.mono HBW.out.size))
            clear HO HBW HBk
            go_wp2_with fail
            go_ret
            exact ⟨rfl, HFIN.out⟩
end Go.Proofs.YtbiblaeocbcfhaaGreatDoor
