/- Ssdp: the document's answers to a search. -/
import Derived.Test.YtonoaopioifedaaGreatDoorSRo
import Derived.Test.YtonoaopioifedaaGreatDoorSLn
import Derived.Test.YtonoaopioifedaaGreatDoorSRn
namespace Go.Proofs.YtonoaopioifedaaGreatDoor
open Go.RowKit Go.Shelf Go.Deep
set_option linter.unusedVariables false
set_option linter.unusedSimpArgs false
set_option maxRecDepth 100000
theorem search_nil (p u : List UInt8) : searchL p (sUu ++ u) [] = [] := by
  unfold searchL namesL nmsL
  rfl
def SrTo (w : World) (ls : List (List UInt8)) (e : Ending) (w' : World) : Prop := ∃ a n c, e = .returned (.slice a n c) ∧ RowS w' a n ls ∧ Below w.heap.size w w'
theorem SrTo.nil {w w' : World} {a : Option Addr} {c : Nat} {ls : List (List UInt8)} (h : ls = []) (hb : Below w.heap.size w w') : SrTo w ls (.returned (.slice a 0 c)) w' := ⟨a, 0, c, rfl, by rw [h]; exact ⟨rfl, fun j y h => by simp at h⟩, hb⟩
structure SB (w : World) (CC r : Nat) (cs : Array Value) (fv : Value) (fs : List (List UInt8 × List UInt8)) (V : World) : Prop where
  below : Below w.heap.size w V
  row : H.OwnS V w.heap.size (some ⟨r, 0, none⟩) 0 0 []
  cfg : V.heap[CC]? = some (.cells cs 28 (0, 0))
  fv : H.FV V fv fs
  lt : r < V.heap.size ∧ CC < r
theorem SB.next {w V V' : World} {CC r : Nat} {cs : Array Value} {fv : Value} {fs : List (List UInt8 × List UInt8)} (h : SB w CC r cs fv fs V) (hb : Below V.heap.size V V') : SB w CC r cs fv fs V' :=
  ⟨h.below.trans (hb.mono h.below.size), owns_below h.row hb (Nat.le_refl _), below_blk hb h.cfg (Nat.le_refl _), h.fv.below hb, ⟨Nat.lt_of_lt_of_le h.lt.1 hb.size, h.lt.2⟩⟩
set_option maxHeartbeats 16000000 in
theorem rsearch_any (cs : Array Value) (ad : Nat) (u : List UInt8) (hc : CfS cs ad u) (l : List UInt8) (w : World) (ha : ad ≤ 4294967295) (hu : u.length ≤ 900) (hl : l.length ≤ 4000) :
    Calls Tryz.prog 11 #[.agg cs, .string (bt l)] w (SrTo w (searchL (plcL (txt (qb ad) 4)) (sUu ++ u) (H.soughtL l))) := by
  have htl := txt_len (qb ad) (fun i => by have : qb ad i < 256 := Nat.mod_lt _ (by decide); omega) 4 (Nat.le_refl _)
  obtain ⟨W1, hW1⟩ : ∃ V, w.alloc (.cells cs 28) = V := ⟨_, rfl⟩
  obtain ⟨W2, hW2⟩ : ∃ V, W1.alloc (.cells #[] 9) = V := ⟨_, rfl⟩
  have hb1 : Below w.heap.size w W1 := by rw [← hW1]; exact (Below.refl _ _).alloc (Nat.le_refl _) _
  have hb2 : Below W1.heap.size W1 W2 := by rw [← hW2]; exact (Below.refl _ _).alloc (Nat.le_refl _) _
  obtain ⟨CC, hCC⟩ : ∃ g, w.heap.size = g := ⟨_, rfl⟩
  obtain ⟨r, hr⟩ : ∃ g, CC + 1 = g := ⟨_, rfl⟩
  have hz1 : W1.heap.size = r := by rw [← hW1, ← hr, ← hCC]; simp
  have hc2 : W2.heap[CC]? = some (.cells cs 28 (0, 0)) := below_blk hb2 (by rw [← hW1, ← hCC]; exact heap_alloc_new _ _) (Nat.le_refl _)
  have hl4 : H.OwnS W2 w.heap.size (some ⟨r, 0, none⟩) 0 0 [] := by rw [← hW2, ← hz1]; exact World.ownsRow_lit (base := w.heap.size) (e := 9) (size := 1) W1 #[] 0 hb1.size (by unfold maxLen; omega) rfl
  have HE := hide (show (w.alloc (.cells cs 28)).alloc (.cells #[] 9) = W2 from by rw [hW1]; exact hW2)
  have HZ := hide (And.intro hCC hr)
  have HNM := hide (fun V => rnames_any cs ad u hc V hu)
  have HPL := hide (fun V => rplace_any cs ad u hc V ha)
  have HPP := hide (show (plcL (txt (qb ad) 4)).length ≤ 300 from by unfold plcL tLoc; simp only [List.length_append, List.length_cons, List.length_nil]; omega)
  have HOL := hide (show (sUu ++ u).length ≤ 1000 from by unfold sUu; simp only [List.length_append, List.length_cons, List.length_nil]; omega)
  have HNIL := hide (search_nil (plcL (txt (qb ad) 4)) u)
  have HWW := hide (hb1.trans (hb2.mono hb1.size))
  have HL4 := hide (And.intro hl4 (show r < W2.heap.size ∧ CC < r from ⟨by rw [← hW2]; simp; omega, by omega⟩))
  have HC2 := hide hc2
  have HSZ := hide hc.size
  have HLI := hide (rlines_any l W2 hl)
  have HBO := hide (lines_both l)
  obtain ⟨n, hn⟩ : ∃ n, l.length = n := ⟨_, rfl⟩
  have hnz : (bt l).size = n := by rw [← hn]; simp [ByteArray.size]
  have hn5 : (n : Int) ≤ 4000 := by omega
  have hn4 : (0 : Int) ≤ (n : Int) := by omega
  have HN := hide hn
  generalize plcL (txt (qb ad) 4) = PP at *
  generalize sUu ++ u = o at *
  obtain ⟨T, hT⟩ : ∃ T, bt l = T := ⟨_, rfl⟩
  rw [hT] at HLI hnz ⊢
  clear htl hW1 hW2 hb1 hb2 hCC hr hz1 hc2 hl4 hc ha hu hl hn hT
  go_enter Tryz.func11, Tryz.ntmps11
  go_upto_region 2 with (fail)
  rw [HE.out]
  rw [HZ.out.1]
  rw [HZ.out.2]
  go_wp2_with fail
  refine HLI.out.mono ?_
  rintro e w3 ⟨la, lc, k, rfl, hrow, hge, hk, b3⟩
  have hk4 : (0 : Int) ≤ (k : Int) := by omega
  have hk5 : (k : Int) ≤ 4001 := by omega
  have HROW := hide hrow
  have HGE := hide hge
  have HW3 := hide (HWW.out.trans (b3.mono HWW.out.size))
  have HC3 := hide (below_blk b3 HC2.out (Nat.le_refl _))
  have HR3 := hide (owns_below HL4.out.1 b3 (Nat.le_refl _))
  have HLT := hide HL4.out.2
  have HS23 := hide b3.size
  have HKL := hide (show (rlF l [] []).1.length = k from hrow.1)
  obtain ⟨okb, hok⟩ : ∃ b, (rlF l [] []).2 = b := ⟨_, rfl⟩
  rw [hok]
  have HOK := hide hok
  clear hrow hge b3 HLI HE HZ HWW HC2 HL4 hok hk
  cases okb with
  | false =>
    have HEM := hide (show searchL PP o (H.soughtL l) = [] from by
      rw [H.sought_bad l (H.fieldsO_bad l (by
        rcases HBO.out with ⟨p, ps, _, _, h⟩ | ⟨h, _⟩
        · have := HOK.out; rw [h] at this; cases this
        · exact h)), HNIL.out])
    go_wp2_with fail
    go_ret
    exact SrTo.nil HEM.out HW3.out
  | true =>
  by_cases hlong : 1024 < n
  · have d1 : decide ((1024 : Int) < (n : Int)) = true := by simp; omega
    have HEM := hide (show searchL PP o (H.soughtL l) = [] from by
      rw [show H.soughtL l = [] from by unfold H.soughtL; rw [if_pos (by rw [HN.out]; exact hlong)], HNIL.out])
    go_wp2_with fail
    go_ret
    exact SrTo.nil HEM.out HW3.out
  have d1 : decide ((1024 : Int) < (n : Int)) = false := by simp; omega
  by_cases hk2 : k < 2
  · have d2 : decide ((k : Int) < 2) = true := by simp; omega
    have HEM := hide (show searchL PP o (H.soughtL l) = [] from by
      rw [H.sought_bad l (H.fieldsO_bad l (by
        rcases HBO.out with ⟨p, ps, _, _, h⟩ | ⟨h, _⟩
        · exfalso
          have := HKL.out
          rw [h] at this
          simp at this
          omega
        · exact h)), HNIL.out])
    go_wp2_with fail
    go_ret
    exact SrTo.nil HEM.out HW3.out
  have d2 : decide ((k : Int) < 2) = false := by simp; omega
  obtain ⟨p, ps, hlo, hne, hrl⟩ : ∃ p ps, linesO l = some (p :: ps) ∧ (∀ x ∈ p :: ps, x ≠ []) ∧ rlF l [] [] = (p :: ps ++ [[]], true) := by
    rcases HBO.out with h | ⟨_, h | h⟩
    · exact h
    · have := HOK.out; rw [h] at this; cases this
    · have := HKL.out; omega
  obtain ⟨m, hm⟩ : ∃ m, ps.length = m := ⟨_, rfl⟩
  have hkm : k = m + 2 := by
    have := HKL.out
    rw [hrl] at this
    simp at this
    omega
  have HRW := hide (show RowS w3 la k (p :: ps ++ [[]]) from by have := HROW.out; rw [hrl] at this; exact this)
  have hlen : ∀ x ∈ p :: ps, x.length ≤ 4000 := by
    unfold linesO at hlo
    split at hlo
    · injection hlo with hlo
      intro x hx
      exact H.crl_len _ (Nat.le_trans (H.trimSuf_le _ _) (by rw [HN.out]; omega)) x (hlo ▸ hx)
    · cases hlo
  obtain ⟨gl, hgl, c0⟩ := HRW.out.2 0 p rfl
  have hgl3 := HGE.out ⟨gl, 0, none⟩ hgl
  subst hgl
  have HST := hide (show Calls Tryz.prog 26 #[.string (bt p)] w3 fun e w' => e = .returned (H.startV (H.startL p)) ∧ Below w3.heap.size w3 w' from by
    have := H.rstart_any (bt p) w3 (by rw [H.bs_len]; have := hlen p (by simp); omega)
    rwa [H.data_bs] at this)
  have hfo : H.fieldsO l = if H.headOK p then H.fieldsL ps else none := by unfold H.fieldsO; rw [hlo]
  have hho : H.headOK p = match H.startL p with
    | some (m, t, n) => decide (m = [77, 45, 83, 69, 65, 82, 67, 72]) && decide (t = [42]) && decide (n = 1)
    | none => false := rfl
  obtain ⟨vm, vt, vn, vb, b1, b2, b3, hsv, e1, e2, e3, hvn0, hvn1, hho2⟩ : ∃ (vm vt : ByteArray) (vn : Int) (vb b1 b2 b3 : Bool), H.startV (H.startL p) = .tuple #[.string vm, .string vt, .int .i64 vn, .bool vb] ∧ (vm.toList == [77, 45, 83, 69, 65, 82, 67, 72]) = b1 ∧ (vt.toList == [42]) = b2 ∧ (vn == 1) = b3 ∧ 0 ≤ vn ∧ vn ≤ 1 ∧ H.headOK p = (vb && b1 && b2 && b3) := by
    cases hs : H.startL p with
    | none => exact ⟨⟨#[]⟩, ⟨#[]⟩, 0, false, false, false, false, rfl, (H.eqb [] _).trans (by decide), (H.eqb [] _).trans (by decide), by decide, by decide, by decide, by rw [hho, hs]; rfl⟩
    | some r =>
      obtain ⟨m, t, n⟩ := r
      have hn1 : n ≤ 1 := by
        unfold H.startL at hs
        split at hs
        · rename_i k hk
          have := H.minor_le _ _ hk
          split at hs
          · injection hs with hs; injection hs with _ hs; injection hs with _ hs; omega
          · cases hs
        · cases hs
      refine ⟨bt m, bt t, n, true, _, _, _, rfl, H.eqb m _, H.eqb t _, rfl, by omega, by omega, ?_⟩
      rw [hho, hs]
      have : ((n : Int) == 1) = decide (n = 1) := by
        by_cases h : n = 1
        · subst h; rfl
        · rw [decide_eq_false h, beq_eq_false_iff_ne]; omega
      rw [this]; rfl
  rw [hsv] at HST
  rw [hho2] at hfo
  have HFO := hide hfo
  have E3 := hide (show (vn != 1) = !b3 from by rw [← e3]; rfl)
  have HLE := hide (show ps.length = m ∧ (∀ x ∈ ps, x.length ≤ 4000) ∧ w3.heap.size ≤ w3.heap.size from ⟨hm, fun x hx => hlen x (by simp [hx]), Nat.le_refl _⟩)
  have HCP := hide (show ∀ (j : Nat) (x : List UInt8), ps[j]? = some x → w3.cell? ⟨gl, 1 + j, none⟩ = some (.string (bt x)) from fun j x hx => by
    obtain ⟨g, e, hc⟩ := HRW.out.2 (j + 1) x (by
      show (p :: (ps ++ [[]]))[j + 1]? = some x
      rw [List.getElem?_cons_succ, List.getElem?_append_left (List.getElem?_eq_some_iff.1 hx).1]; exact hx)
    injection e with e
    injection e with e
    subst e
    rw [Nat.add_comm]; exact hc)
  have HGL := hide (show gl < w3.heap.size from World.block_lt_of_cell? _ _ c0)
  have HNL := hide (show l.length ≤ 1024 ∧ m ≤ 1024 from ⟨by rw [HN.out]; omega, by
    have h1 := H.fieldsO_len l (by rw [HN.out]; omega)
    have h2 := HKL.out
    unfold linesO at hlo
    split at hlo
    · injection hlo with hlo
      have h3 := H.crl_count (Lib.trimSuffix l [13, 10, 13, 10])
      have h4 := Lib.countB_le ⟨#[13, 10]⟩ (by decide) _ (H.bs (Lib.trimSuffix l [13, 10, 13, 10])) (Nat.le_refl _)
      rw [H.bs_len] at h4
      have h5 := H.trimSuf_le l [13, 10, 13, 10]
      rw [hlo, List.length_cons, hm] at h3
      have := HN.out
      omega
    · cases hlo⟩)
  subst hkm
  have hm4 : (0 : Int) ≤ (m : Int) := by omega
  have hm5 : (m : Int) ≤ 1024 := by have := HNL.out.2; omega
  generalize bt p = BP0 at *
  clear hlong hk2 hk4 hk5 hlo hne hrl hm hlen hgl3 hfo hho hho2 hsv HROW HBO
  go_wp2_with fail
  refine HST.out.mono ?_
  rintro e w4 ⟨rfl, b4⟩
  have HW4 := hide (HW3.out.trans (b4.mono HW3.out.size))
  have HC4 := hide (below_blk b4 HC3.out (Nat.le_refl _))
  have HR4 := hide (owns_below HR3.out b4 (Nat.le_refl _))
  have HX4 := hide (fun (i : Nat) (x : List UInt8) (hx : ps[i]? = some x) => (b4.cell (p := ⟨gl, 1 + i, none⟩) HGL.out).trans (HCP.out i x hx))
  have HGL4 := hide (show gl < w4.heap.size from Nat.lt_of_lt_of_le HGL.out b4.size)
  have HRC4 := hide (show r < w4.heap.size ∧ CC < r from ⟨by have := HLT.out; have := HS23.out; have := b4.size; omega, HLT.out.2⟩)
  clear b4 HST c0 HW3 HC3 HR3 HCP HGL HS23 HLT
  have HBAD := hide (fun h => show searchL PP o (H.soughtL l) = [] by rw [H.sought_bad l h, HNIL.out])
  cases vb with
  | false =>
    have HEM := hide (HBAD.out HFO.out)
    go_wp2_with fail
    all_goals
      go_ret
      exact SrTo.nil HEM.out HW4.out
  | true =>
  cases b1 with
  | false =>
    have HEM := hide (HBAD.out HFO.out)
    go_wp2_with fail
    all_goals
      go_ret
      exact SrTo.nil HEM.out HW4.out
  | true =>
  cases b2 with
  | false =>
    have HEM := hide (HBAD.out HFO.out)
    go_wp2_with fail
    all_goals
      go_ret
      exact SrTo.nil HEM.out HW4.out
  | true =>
  cases b3 with
  | false =>
    have HEM := hide (HBAD.out HFO.out)
    go_wp2_with fail
    all_goals
      go_ret
      exact SrTo.nil HEM.out HW4.out
  | true =>
  have e3m : (vn != 1) = false := E3.out
  have HFO := hide (show H.fieldsO l = H.fieldsL ps from HFO.out)
  obtain ⟨V4, hV4⟩ : ∃ V, w4.alloc (.cells #[] 60) = V := ⟨_, rfl⟩
  have HI := hide (show H.OwnF V4 w4.heap.size (.slice (some ⟨w4.heap.size, 0, none⟩) 0 0) [] ∧ H.fieldsL (ps.take 0) = some [] ∧ Below w4.heap.size w4 V4 from ⟨by rw [← hV4]; exact World.ownsRow_lit (base := w4.heap.size) (e := 60) (size := 2) w4 #[] 0 (Nat.le_refl _) (by unfold maxLen; omega) rfl, rfl, by rw [← hV4]; exact (Below.refl _ _).alloc (Nat.le_refl _) _⟩)
  obtain ⟨K4, hK4⟩ : ∃ g, w4.heap.size = g := ⟨_, rfl⟩
  have HE4 := hide (And.intro hV4 hK4)
  rw [hK4] at HI
  clear hV4
  go_wp2_with fail
  rw [HE4.out.1]
  try rw [HE4.out.2]
  go_loopw [12, 13] (fun ov i wz => ∃ (j : Nat) (a : Option Addr) (c : Nat) (fs : List (List UInt8 × List UInt8)), j ≤ m ∧ i = .int .i64 ((j : Int) + 1) ∧ ov = .slice a j c ∧ fs.length = j ∧ Hid (H.OwnF wz K4 (.slice a j c) fs ∧ H.fieldsL (ps.take j) = some fs ∧ Below K4 w4 wz)) (fun _ i _ => m + 2 - (intOf i).toNat)
  case atStart => exact ⟨0, _, 0, [], Nat.zero_le _, rfl, rfl, rfl, HI⟩
  case round =>
    clear HI
    obtain ⟨j, a, c, fs, hj, rfl, rfl, hfl, HI⟩ := hrel
    have hj4 : (0 : Int) ≤ (j : Int) := by omega
    have hj5 : (j : Int) ≤ 1024 := by omega
    by_cases hlt : j < m
    · have d1 : decide ((j : Int) < (m : Int)) = true := by simp; omega
      have d2 : decide ((j : Int) + 1 < (m : Int) + 1) = true := by simp; omega
      have d3 : decide ((j : Int) + 1 < (m : Int) + 2 - 1) = true := by simp; omega
      obtain ⟨x, hxj⟩ : ∃ x, ps[j]? = some x := ⟨_, List.getElem?_eq_getElem (by have := HLE.out.1; omega)⟩
      have hz : wr.cell? ⟨gl, 1 + j, none⟩ = some (.string (bt x)) := (HI.out.2.2.cell (p := ⟨gl, 1 + j, none⟩) (by rw [← HE4.out.2]; exact HGL4.out)).trans (HX4.out j x hxj)
      have hz2 : wr.cell? ⟨gl, j + 1, none⟩ = some (.string (bt x)) := by rw [Nat.add_comm]; exact hz
      have hL := H.rline_any (bt x) wr (by rw [H.bs_len]; have := HLE.out.2.1 x (List.mem_of_getElem? hxj); omega)
      rw [H.data_bs] at hL
      have hsucc : H.fieldsL (ps.take (j + 1)) = (H.lineL x).map fun f => fs ++ [f] := by rw [List.take_add_one, hxj, Option.toList_some, H.fields_snoc, HI.out.2.1]; rfl
      have hstop : H.lineL x = none → H.fieldsL ps = none := fun h => by
        rw [← List.take_append_drop (j + 1) ps]
        exact H.fields_stop _ _ (by rw [hsucc, h]; rfl)
      obtain ⟨s, hs⟩ : ∃ s, bt x = s := ⟨_, rfl⟩
      rw [hs] at hz hz2 hL
      have HL := hide hL
      have HRN := hide (show CC < wr.heap.size ∧ r < wr.heap.size from by have := HRC4.out; have := HI.out.2.2.size; omega)
      cases hlx : H.lineL x with
      | none =>
        rw [hlx] at HL
        have HEM := hide (HBAD.out (HFO.out.trans (hstop hlx)))
        have HB := hide (HW4.out.trans (HI.out.2.2.mono (by rw [← HE4.out.2]; exact HW4.out.size)))
        unfold H.lineV at HL
        clear hL hsucc hstop hs hxj hlx HI
        go_wp2_with fail
        refine HL.out.mono ?_
        rintro e w3 ⟨rfl, b1⟩
        have HB3 := hide (HB.out.trans (b1.mono HB.out.size))
        clear b1 HL
        go_wp2_with fail
        go_ret
        exact SrTo.nil HEM.out (HB3.out.alloc HB3.out.size _)
      | some f =>
        rw [hlx] at HL hsucc
        obtain ⟨f1, f2⟩ := f
        unfold H.lineV at HL
        have HI2 := hide HI.out
        have HS := hide (show H.fieldsL (ps.take (j + 1)) = some (fs ++ [(f1, f2)]) from hsucc)
        clear hL hsucc hstop hs hxj hlx HI
        go_wp2_with fail
        refine HL.out.mono ?_
        rintro e w1 ⟨rfl, b1⟩
        have hC1 := HI2.out.2.2.trans (b1.mono (by rw [← HE4.out.2]; exact HI2.out.2.2.size))
        have hC2 := hC1.alloc (by rw [← HE4.out.2]; exact hC1.size) (.cells #[.string (H.bs f1), .string (H.bs f2)] 60)
        have hO2 : H.OwnF (w1.alloc (.cells #[.string (H.bs f1), .string (H.bs f2)] 60)) K4 (.slice a j c) fs := World.ownsRow.alloc (owns_below HI2.out.1 b1 (Nat.le_refl _)) _
        obtain ⟨a', c', w5, hrun, o5, b5⟩ := H.pushF (w1.alloc (.cells #[.string (H.bs f1), .string (H.bs f2)] 60)) K4 a j c fs hO2 hfl (f1, f2) (by omega) (by rw [← HE4.out.2]; exact hC2.size)
        rw [show (w1.alloc (.cells #[.string (H.bs f1), .string (H.bs f2)] 60)).heap.size = w1.heap.size + 1 by simp] at hrun
        have HRUN := hide hrun
        have HG := hide (show H.OwnF w5 K4 (.slice a' (j + 1) c') (fs ++ [(f1, f2)]) ∧ H.fieldsL (ps.take (j + 1)) = some (fs ++ [(f1, f2)]) ∧ Below K4 w4 w5 from ⟨o5, HS.out, hC2.trans b5⟩)
        have hfl2 : (fs ++ [(f1, f2)]).length = j + 1 := by rw [List.length_append, hfl]; rfl
        have HFL := hide hfl2
        clear b1 HL hC1 hC2 hO2 hrun o5 b5 hfl hfl2
        go_wp2_with (at_builtin; refine Lib.wpList_append_run _ rfl _ _ _ _ rfl _ _ rfl rfl _ _ HRUN.out ?_)
        exact ⟨⟨j + 1, a', c', _, by omega, by go_num, rfl, HFL.out, HG⟩, by simp [intOf]; omega⟩
    have d1 : decide ((j : Int) < (m : Int)) = false := by simp; omega
    have d2 : decide ((j : Int) + 1 < (m : Int) + 1) = false := by simp; omega
    have d3 : decide ((j : Int) + 1 < (m : Int) + 2 - 1) = false := by simp; omega
    have hjm : j = m := by omega
    subst hjm
    have h := HI.out
    rw [List.take_of_length_le (by have := HLE.out.1; omega)] at h
    have HF := hide (show H.soughtL l = H.soughtF fs from H.sought_some l HNL.out.1 fs (HFO.out.trans h.2.1))
    have HO := hide (H.OwnF.fv h.1)
    have HB := hide (HW4.out.trans (h.2.2.mono (by rw [← HE4.out.2]; exact HW4.out.size)))
    have HRR := hide (owns_below HR4.out h.2.2 (by rw [← HE4.out.2]; exact Nat.le_refl _))
    have HCR := hide (below_blk h.2.2 HC4.out (by rw [← HE4.out.2]; exact Nat.le_refl _))
    have HRN := hide (show r < wr.heap.size ∧ CC < r from by have := HRC4.out; have := HE4.out.2; have := h.2.2.size; omega)
    have hfl9 : fs.length ≤ 2000 := by omega
    have HA := hide (show SB w CC r cs (.slice a j c) fs wr from ⟨HB.out, HRR.out, HCR.out, HO.out.1, HRN.out⟩)
    clear h HI HO hlt hj HX4 HE4 HC4 HR4 HW4 HBAD HFO HRC4 HGL4 HB HRR HCR HRN
    obtain ⟨mx, hmx⟩ : ∃ m, H.onlyL fs H.sMx = m := ⟨_, rfl⟩
    obtain ⟨st, hst⟩ : ∃ m, H.onlyL fs H.sSt = m := ⟨_, rfl⟩
    obtain ⟨mn, hmn⟩ : ∃ m, H.onlyL fs H.sMan = m := ⟨_, rfl⟩
    obtain ⟨k, hk⟩ : ∃ k, (H.numberL mx 10 9999999).getD 0 = k := ⟨_, rfl⟩
    obtain ⟨vk, hvk⟩ : ∃ v, (H.numberL mx 10 9999999).isSome = v := ⟨_, rfl⟩
    have hnv : H.numberV (H.numberL mx 10 9999999) = .tuple #[.int .i64 (k : Int), .bool vk] := by
      rw [← hk, ← hvk]
      cases H.numberL mx 10 9999999 <;> rfl
    obtain ⟨qa, hqa⟩ : ∃ b, decide ((H.getP fs H.sMan).length = 1) = b := ⟨_, rfl⟩
    obtain ⟨qb', hqb⟩ : ∃ b, decide ((H.getP fs H.sSt).length = 1) = b := ⟨_, rfl⟩
    obtain ⟨qd, hqd⟩ : ∃ b, decide ((H.getP fs H.sMx).length = 1) = b := ⟨_, rfl⟩
    have e1 := H.eqb mn [34, 115, 115, 100, 112, 58, 100, 105, 115, 99, 111, 118, 101, 114, 34]
    obtain ⟨q1, hq1⟩ : ∃ b, decide (mn = [34, 115, 115, 100, 112, 58, 100, 105, 115, 99, 111, 118, 101, 114, 34]) = b := ⟨_, rfl⟩
    rw [hq1] at e1
    obtain ⟨q2, hq2⟩ : ∃ b, ((k : Int) == 0) = b := ⟨_, rfl⟩
    have HSF := hide (show H.soughtF fs = if (qa && qb' && qd && vk && q1 && !q2) = true then st else [] from by
      rw [← hst]
      refine H.soughtF_is fs qa qb' qd vk q1 q2 hqa hqb hqd (by rw [hmx]; exact hvk) (by rw [hmn]; exact hq1) ?_
      rw [hmx, hk, ← hq2]
      by_cases h : k = 0
      · subst h; rfl
      · rw [decide_eq_false h]; symm; rw [beq_eq_false_iff_ne]; omega)
    have HO1 := hide (fun V hV => H.rone_any V (.slice a j c) fs H.sMan hV hfl9)
    have HO2 := hide (fun V hV => H.rone_any V (.slice a j c) fs H.sSt hV hfl9)
    have HO3 := hide (fun V hV => H.rone_any V (.slice a j c) fs H.sMx hV hfl9)
    rw [hmn, hqa] at HO1
    rw [hst, hqb] at HO2
    rw [hmx, hqd] at HO3
    have HNU := hide (fun V => H.rnumber_any (bt mx) 10 9999999 V)
    rw [H.data_bs, hnv] at HNU
    clear hmx hst hmn hk hvk hnv hqa hqb hqd hq1 hfl9
    obtain ⟨BM, hBM⟩ : ∃ b, bt mn = b := ⟨_, rfl⟩
    rw [show H.bs mn = BM from hBM] at HO1 e1
    obtain ⟨ST, hST⟩ : ∃ b, bt st = b := ⟨_, rfl⟩
    rw [show H.bs st = ST from hST] at HO2
    obtain ⟨MX, hMX⟩ : ∃ b, bt mx = b := ⟨_, rfl⟩
    rw [show H.bs mx = MX from hMX] at HO3
    rw [hMX] at HNU
    have HST := hide hST
    clear hBM hMX hST
    go_wp2_with fail
    refine (HO1.out _ HA.out.fv).mono ?_
    rintro e w5 ⟨rfl, b5⟩
    have HA5 := hide (HA.out.next b5)
    clear b5 HA HO1
    go_wp2_with fail
    refine (HO2.out _ HA5.out.fv).mono ?_
    rintro e w6 ⟨rfl, b6⟩
    have HA6 := hide (HA5.out.next b6)
    clear b6 HA5 HO2
    go_wp2_with fail
    refine (HO3.out _ HA6.out.fv).mono ?_
    rintro e w7 ⟨rfl, b7⟩
    have HA7 := hide (HA6.out.next b7)
    clear b7 HA6 HO3
    go_wp2_with fail
    refine (HNU.out _).mono ?_
    rintro e w8 ⟨rfl, rfl⟩
    clear HNU
    have HNO := hide (fun (h : H.soughtF fs = []) => show searchL PP o (H.soughtL l) = [] by rw [HF.out, h, HNIL.out])
    cases qa with
    | false =>
      have HEM := hide (HNO.out HSF.out)
      go_wp2_with fail
      all_goals
        go_ret
        exact SrTo.nil HEM.out HA7.out.below
    | true =>
    cases qb' with
    | false =>
      have HEM := hide (HNO.out HSF.out)
      go_wp2_with fail
      all_goals
        go_ret
        exact SrTo.nil HEM.out HA7.out.below
    | true =>
    cases qd with
    | false =>
      have HEM := hide (HNO.out HSF.out)
      go_wp2_with fail
      all_goals
        go_ret
        exact SrTo.nil HEM.out HA7.out.below
    | true =>
    cases vk with
    | false =>
      have HEM := hide (HNO.out HSF.out)
      go_wp2_with fail
      all_goals
        go_ret
        exact SrTo.nil HEM.out HA7.out.below
    | true =>
    cases q1 with
    | false =>
      have HEM := hide (HNO.out HSF.out)
      go_wp2_with fail
      all_goals
        go_ret
        exact SrTo.nil HEM.out HA7.out.below
    | true =>
    cases q2 with
    | true =>
      have hq5 : k = 0 := by have := beq_iff_eq.1 hq2; omega
      subst hq5
      have HEM := hide (HNO.out HSF.out)
      go_wp2_with fail
      all_goals
        go_ret
        exact SrTo.nil HEM.out HA7.out.below
    | false =>
    have HYES := hide (show searchL PP o (H.soughtL l) = searchL PP o st from by rw [HF.out, HSF.out]; rfl)
    have hq0 : ((k : Int) == 0) = false := hq2
    have hq3 : ((k : Int) != 0) = true := by rw [bne, hq0]; rfl
    have hq4 : decide ((k : Int) = 0) = false := by rw [beq_eq_false_iff_ne] at hq0; exact decide_eq_false hq0
    have hq5 : decide (k = 0) = false := by rw [beq_eq_false_iff_ne] at hq0; exact decide_eq_false (by omega)
    have hq6 : ¬ k = 0 := of_decide_eq_false hq5
    clear HSF HF HNO
    go_wp2_with ((refine ld_cfg (o := ⟨some 137, _, _, _, _, _⟩) (.tmp 2) rfl (by rfl) CC rfl cs HA7.out.cfg HSZ.out ?_; try simp only [Act.put, List.setIfInBounds_toArray, List.set_cons_zero, List.set_cons_succ]))
    refine (HNM.out _).mono ?_
    rintro e w2 ⟨xa, xc, ya, yc, rfl, hx, hy, hge, b2⟩
    have HX := hide hx
    have HY := hide hy
    have HGE := hide hge
    have HW2 := hide (HA7.out.below.trans (b2.mono HA7.out.below.size))
    have HC3 := hide (below_blk b2 HA7.out.cfg (Nat.le_refl _))
    have HLT := hide HA7.out.lt
    have HI := hide (show RI w w2 w2 w.heap.size r (some ⟨r, 0, none⟩) 0 0 ((((((namesL o).take 0).filter (sel st)).map (ansL PP))).map bt) from ⟨owns_below HA7.out.row b2 (Nat.le_refl _), HW2.out, Nat.le_refl _, fun _ _ _ => rfl, Nat.le_refl _, fun g hg => by injection hg with hg; subst hg; exact .inl rfl⟩)
    clear hx hy hge b2 HNM HA7
    go_wp2_with fail
    go_loopw [5, 26] (fun bv i wz => ∃ (k m : Nat) (a : Option Addr) (c : Nat), k ≤ 6 ∧ bv = .slice a m c ∧ i = .int .i64 (k : Int) ∧ Hid (RI w w2 wz w.heap.size r a m c ((((((namesL o).take k).filter (sel st)).map (ansL PP))).map bt))) (fun _ i _ => 6 - (intOf i).toNat)
    case atStart => exact ⟨0, 0, _, _, Nat.zero_le _, rfl, rfl, HI⟩
    case round =>
      clear HI hm4 hm5 hj4 hj5 hq0 hq2 hq3 hq4 hq5 hq6 e1 hn4 hn5
      obtain ⟨k, m, a, c, hk, rfl, rfl, HI⟩ := hrel
      have hk4 : (0 : Int) ≤ (k : Int) := by omega
      have hk5 : (k : Int) ≤ 6 := by omega
      by_cases hlt : k < 6
      · have d1 : decide ((k : Int) < 6) = true := by simp; omega
        obtain ⟨n1, hn1⟩ : ∃ y, (nmsL o)[k]? = some y := ⟨_, List.getElem?_eq_getElem (by rw [nmsL_len]; exact hlt)⟩
        have hl1 := nmsL_le o n1 (List.mem_of_getElem? hn1) HOL.out
        have hl2 := unL_le o n1 hl1 HOL.out
        obtain ⟨ga, hga, cn1⟩ := HX.out.2 k n1 hn1
        obtain ⟨n2, hn2⟩ : ∃ y, unL o n1 = y := ⟨_, rfl⟩
        obtain ⟨gb, hgb, cn2⟩ := HY.out.2 k n2 (by rw [List.getElem?_map, hn1]; exact congrArg some hn2)
        have g1 := HGE.out ⟨ga, 0, none⟩ (.inl hga)
        have g2 := HGE.out ⟨gb, 0, none⟩ (.inr hgb)
        have hr9 := HLT.out.1
        have hga9 : ga ≠ r := by intro e; simp only [e] at g1; omega
        have hgb9 : gb ≠ r := by intro e; simp only [e] at g2; omega
        have HCN := hide (And.intro cn1 (And.intro cn2 (And.intro hga9 hgb9)))
        have cn1 := HI.out.cell cn1 hga9
        have cn2 := HI.out.cell cn2 hgb9
        have htk : (namesL o).take (k + 1) = (namesL o).take k ++ [(n1, n2)] := by rw [List.take_add_one]; unfold namesL; rw [List.getElem?_map, hn1, ← hn2]; rfl
        have HTY := hide (show sel st (n1, n2) = true → (((namesL o).take (k + 1)).filter (sel st)).map (ansL PP) = (((namesL o).take k).filter (sel st)).map (ansL PP) ++ [ansL PP (n1, n2)] from fun h => by rw [htk, List.filter_append, List.map_append, List.filter_cons, if_pos h]; rfl)
        have HTN := hide (show sel st (n1, n2) = false → (((namesL o).take (k + 1)).filter (sel st)).map (ansL PP) = (((namesL o).take k).filter (sel st)).map (ansL PP) from fun h => by rw [htk, List.filter_append, List.map_append, List.filter_cons, if_neg (by rw [h]; decide)]; simp)
        have HKL := hide (show ((((namesL o).take k).filter (sel st)).map (ansL PP)).length ≤ 6 from by
          rw [List.length_map]
          refine Nat.le_trans (List.length_filter_le _ _) ?_
          rw [List.length_take]; omega)
        rw [hn2] at hl2
        subst hga hgb
        have d2 : decide (k < 6) = true := by simp; omega
        have d3 : (k : Int) < 6 := by omega
        have hsel : sel st (n1, n2) = (decide (st = n1) || decide (st = sAll)) := rfl
        have z1 := bt_beq st n1
        have z2 : ((bt st).toList == [115, 115, 100, 112, 58, 97, 108, 108]) = decide (st = sAll) := by rw [bt_list]; by_cases h : st = sAll; (rw [decide_eq_true h, h]; decide); (rw [decide_eq_false h, beq_eq_false_iff_ne]; exact h)
        obtain ⟨s1, hs1⟩ : ∃ b, decide (st = n1) = b := ⟨_, rfl⟩
        obtain ⟨s2, hs2⟩ : ∃ b, decide (st = sAll) = b := ⟨_, rfl⟩
        rw [hs1, HST.out] at z1
        have z3 : (ST.toList == n1) = s1 := by rw [← bt_list n1]; exact z1
        have z4 : (ST.toList != n1) = !s1 := by rw [bne, z3]
        rw [hs2, HST.out] at z2
        rw [hs1, hs2] at hsel
        have HSEL := hide hsel
        have HS5 := hide (show ∀ (V : World) {a' : Option Addr} {k' c' : Nat} {l' : List ByteArray}, RI w w2 V w.heap.size r a' k' c' l' → V.rangeAt CC 0 cs.toList ∧ (V.cell? ⟨ga, k, none⟩ = some (.string (bt n1)) ∧ V.cell? ⟨gb, k, none⟩ = some (.string (bt n2))) from fun V _ _ _ _ h => ⟨cfg_range ((h.keep CC (lt_of_block HC3.out) (by have := HLT.out.2; omega)).trans HC3.out), h.cell HCN.out.1 HCN.out.2.2.1, h.cell HCN.out.2.1 HCN.out.2.2.2⟩)
        have HSS := hide (fun (V : World) (hV : Below wr.heap.size wr V) => HS5.out V (HI.out.next hV))
        clear hn1 hn2 g1 g2 hr9 hk hs1 hs2 hsel htk hga9 hgb9
        cases s1 with
        | true =>
          have HTY := hide (HTY.out HSEL.out)
          clear HSEL HTN z2
          obtain ⟨e1, he1⟩ : ∃ l, [72, 84, 84, 80, 47, 49, 46, 49, 32, 50, 48, 48, 32, 79, 75, 13, 10, 67, 65, 67, 72, 69, 45, 67, 79, 78, 84, 82, 79, 76, 58, 32, 109, 97, 120, 45, 97, 103, 101, 61, 49, 56, 48, 48, 13, 10, 69, 88, 84, 58, 13, 10] ++ (PP ++ cr) = l := ⟨_, rfl⟩
          obtain ⟨e2, he2⟩ : ∃ l, e1 ++ [83, 69, 82, 86, 69, 82, 58, 32, 104, 101, 97, 114, 116, 104, 47, 49, 32, 85, 80, 110, 80, 47, 49, 46, 49, 32, 104, 101, 97, 114, 116, 104, 47, 49, 13, 10] = l := ⟨_, rfl⟩
          obtain ⟨e3, he3⟩ : ∃ l, e2 ++ [83, 84, 58, 32] = l := ⟨_, rfl⟩
          obtain ⟨e4, he4⟩ : ∃ l, e3 ++ n1 = l := ⟨_, rfl⟩
          obtain ⟨e5, he5⟩ : ∃ l, e4 ++ [13, 10, 85, 83, 78, 58, 32] = l := ⟨_, rfl⟩
          obtain ⟨e6, he6⟩ : ∃ l, e5 ++ n2 = l := ⟨_, rfl⟩
          obtain ⟨e9, he9⟩ : ∃ l, e6 ++ [13, 10, 13, 10] = l := ⟨_, rfl⟩
          have HFX := hide (show ansL PP (n1, n2) = e9 from by rw [← he9, ← he6, ← he5, ← he4, ← he3, ← he2, ← he1]; simp [ansL, msgL, Lib.join, List.intercalate, List.intersperse, tOk, tMax, tExt, tSrv, tSt, tUsn, cr])
          have le1 : e1.length ≤ 354 := by rw [← he1]; have := HPP.out; simp only [List.length_append, List.length_cons, List.length_nil, cr]; omega
          have le2 : e2.length ≤ 390 := by rw [← he2]; have := HPP.out; simp only [List.length_append, List.length_cons, List.length_nil, cr]; omega
          have le3 : e3.length ≤ 394 := by rw [← he3]; have := HPP.out; simp only [List.length_append, List.length_cons, List.length_nil, cr]; omega
          have le4 : e4.length ≤ 1394 := by rw [← he4]; have := HPP.out; simp only [List.length_append, List.length_cons, List.length_nil, cr]; omega
          have le5 : e5.length ≤ 1401 := by rw [← he5]; have := HPP.out; simp only [List.length_append, List.length_cons, List.length_nil, cr]; omega
          have le6 : e6.length ≤ 3403 := by rw [← he6]; have := HPP.out; simp only [List.length_append, List.length_cons, List.length_nil, cr]; omega
          have le9 : e9.length ≤ 3407 := by rw [← he9]; have := HPP.out; simp only [List.length_append, List.length_cons, List.length_nil, cr]; omega
          have f10 : ∀ V : World, (Op.stringOp .add ⟨#[72, 84, 84, 80, 47, 49, 46, 49, 32, 50, 48, 48, 32, 79, 75, 13, 10, 67, 65, 67, 72, 69, 45, 67, 79, 78, 84, 82, 79, 76, 58, 32, 109, 97, 120, 45, 97, 103, 101, 61, 49, 56, 48, 48, 13, 10, 69, 88, 84, 58, 13, 10]⟩ (bt (PP ++ cr))).run Tryz.prog V = .ok (.string (bt e1)) V := fun V => by rw [← he1]; exact run_string_add_lists V ([72, 84, 84, 80, 47, 49, 46, 49, 32, 50, 48, 48, 32, 79, 75, 13, 10, 67, 65, 67, 72, 69, 45, 67, 79, 78, 84, 82, 79, 76, 58, 32, 109, 97, 120, 45, 97, 103, 101, 61, 49, 56, 48, 48, 13, 10, 69, 88, 84, 58, 13, 10]) ((PP ++ cr)) (by decide) (by have := HPP.out; simp only [List.length_append, cr, List.length_cons, List.length_nil]; omega)
          have f11 : ∀ V : World, (Op.stringOp .add ⟨(([72, 84, 84, 80, 47, 49, 46, 49, 32, 50, 48, 48, 32, 79, 75, 13, 10, 67, 65, 67, 72, 69, 45, 67, 79, 78, 84, 82, 79, 76, 58, 32, 109, 97, 120, 45, 97, 103, 101, 61] : List UInt8).append [49, 56, 48, 48, 13, 10, 69, 88, 84, 58, 13, 10]).toArray⟩ (bt (PP ++ cr))).run Tryz.prog V = .ok (.string (bt e1)) V := fun V => by rw [← he1]; exact run_string_add_lists V ([72, 84, 84, 80, 47, 49, 46, 49, 32, 50, 48, 48, 32, 79, 75, 13, 10, 67, 65, 67, 72, 69, 45, 67, 79, 78, 84, 82, 79, 76, 58, 32, 109, 97, 120, 45, 97, 103, 101, 61, 49, 56, 48, 48, 13, 10, 69, 88, 84, 58, 13, 10]) ((PP ++ cr)) (by decide) (by have := HPP.out; simp only [List.length_append, cr, List.length_cons, List.length_nil]; omega)
          have f12 : ∀ V : World, (Op.stringOp .add ⟨(([72, 84, 84, 80, 47, 49, 46, 49, 32, 50, 48, 48, 32, 79, 75, 13, 10, 67, 65, 67, 72, 69, 45, 67, 79, 78, 84, 82, 79, 76, 58, 32, 109, 97, 120, 45, 97, 103, 101, 61] : List UInt8) ++ [49, 56, 48, 48, 13, 10, 69, 88, 84, 58, 13, 10]).toArray⟩ (bt (PP ++ cr))).run Tryz.prog V = .ok (.string (bt e1)) V := fun V => by rw [← he1]; exact run_string_add_lists V ([72, 84, 84, 80, 47, 49, 46, 49, 32, 50, 48, 48, 32, 79, 75, 13, 10, 67, 65, 67, 72, 69, 45, 67, 79, 78, 84, 82, 79, 76, 58, 32, 109, 97, 120, 45, 97, 103, 101, 61, 49, 56, 48, 48, 13, 10, 69, 88, 84, 58, 13, 10]) ((PP ++ cr)) (by decide) (by have := HPP.out; simp only [List.length_append, cr, List.length_cons, List.length_nil]; omega)
          have f20 : ∀ V : World, (Op.stringOp .add (bt e1) ⟨#[83, 69, 82, 86, 69, 82, 58, 32, 104, 101, 97, 114, 116, 104, 47, 49, 32, 85, 80, 110, 80, 47, 49, 46, 49, 32, 104, 101, 97, 114, 116, 104, 47, 49, 13, 10]⟩).run Tryz.prog V = .ok (.string (bt e2)) V := fun V => by rw [← he2]; exact run_string_add_lists V (e1) ([83, 69, 82, 86, 69, 82, 58, 32, 104, 101, 97, 114, 116, 104, 47, 49, 32, 85, 80, 110, 80, 47, 49, 46, 49, 32, 104, 101, 97, 114, 116, 104, 47, 49, 13, 10]) (by omega) (by decide)
          have f30 : ∀ V : World, (Op.stringOp .add (bt e2) ⟨#[83, 84, 58, 32]⟩).run Tryz.prog V = .ok (.string (bt e3)) V := fun V => by rw [← he3]; exact run_string_add_lists V (e2) ([83, 84, 58, 32]) (by omega) (by decide)
          have f40 : ∀ V : World, (Op.stringOp .add (bt e3) (bt n1)).run Tryz.prog V = .ok (.string (bt e4)) V := fun V => by rw [← he4]; exact run_string_add_lists V (e3) (n1) (by omega) (by omega)
          have f50 : ∀ V : World, (Op.stringOp .add (bt e4) ⟨#[13, 10, 85, 83, 78, 58, 32]⟩).run Tryz.prog V = .ok (.string (bt e5)) V := fun V => by rw [← he5]; exact run_string_add_lists V (e4) ([13, 10, 85, 83, 78, 58, 32]) (by omega) (by decide)
          have f60 : ∀ V : World, (Op.stringOp .add (bt e5) (bt n2)).run Tryz.prog V = .ok (.string (bt e6)) V := fun V => by rw [← he6]; exact run_string_add_lists V (e5) (n2) (by omega) (by omega)
          have f90 : ∀ V : World, (Op.stringOp .add (bt e6) ⟨#[13, 10, 13, 10]⟩).run Tryz.prog V = .ok (.string (bt e9)) V := fun V => by rw [← he9]; exact run_string_add_lists V (e6) ([13, 10, 13, 10]) (by omega) (by decide)
          have HE9 := hide (show bt (ansL PP (n1, n2)) = bt e9 from by rw [HFX.out])
          clear he1 he2 he3 he4 he5 he6 he9 le1 le2 le3 le4 le5 le6 le9
          generalize bt e1 = E1 at *
          generalize bt e2 = E2 at *
          generalize bt e3 = E3 at *
          generalize bt e4 = E4 at *
          generalize bt e5 = E5 at *
          generalize bt e6 = E6 at *
          generalize bt e9 = E9 at *
          generalize bt (PP ++ cr) = BP at *
          generalize bt n1 = N1 at *
          generalize bt n2 = N2 at *
          have HW0 := hide (below_drew wr)
          clear cn2
          go_wp2_with fail
          clear cn1 z1 z3 z4
          refine wp_region_held_drew (S := fun w' => w'.rangeAt CC 0 cs.toList ∧ (w'.cell? ⟨ga, k, none⟩ = some (.string N1) ∧ w'.cell? ⟨gb, k, none⟩ = some (.string N2))) (by kernel_rfl) (by exact HSS.out _ HW0.out) (fun hHeld => ?_)
          generalize wr.drew = z0 at *
          refine wpAnyH_take (i := 0) (oi := { dst := some 155, op := Op.move (Operand.tmp 5), type := 35, pos := "ref.go:85", after := #[], guard := none }) (v := ?_) rfl (by kernel_rfl) (by kernel_rfl) (by kernel_rfl) (fun _ _ _ h => h) (Or.inl ⟨by rfl, ?_⟩) (by assumption) ?_
          rotate_left
          · intro wS hSw
            try dsimp only at hSw
            go_simp
            try with_reducible rfl
          try simp only [Act.put, List.setIfInBounds_toArray, List.set_cons_zero, List.set_cons_succ]
          refine wpAnyH_take (i := 1) (oi := { dst := some 156, op := Op.load 28 (Operand.tmp 2), type := 28, pos := "ref.go:85", after := #[], guard := none }) (v := .agg cs) rfl (by kernel_rfl) (by kernel_rfl) (by kernel_rfl) (fun _ _ _ h => h) (yl_cfg (by rfl) _ rfl CC rfl cs (fun w h => h.1) HSZ.out) (by assumption) ?_
          try simp only [Act.put, List.setIfInBounds_toArray, List.set_cons_zero, List.set_cons_succ]
          refine wpAnyH_take (i := 6) (oi := { dst := some 161, op := Op.move (Operand.tmp 24), type := 35, pos := "ref.go:85", after := #[], guard := none }) (v := ?_) rfl (by kernel_rfl) (by kernel_rfl) (by kernel_rfl) (fun _ _ _ h => h) (Or.inl ⟨by rfl, ?_⟩) (by assumption) ?_
          rotate_left
          · intro wS hSw
            try dsimp only at hSw
            go_simp
            try with_reducible rfl
          try simp only [Act.put, List.setIfInBounds_toArray, List.set_cons_zero, List.set_cons_succ]
          refine wpAnyH_take (i := 7) (oi := { dst := some 162, op := Op.move (Operand.tmp 26), type := 3, pos := "ref.go:85", after := #[], guard := none }) (v := ?_) rfl (by kernel_rfl) (by kernel_rfl) (by kernel_rfl) (fun _ _ _ h => h) (Or.inl ⟨by rfl, ?_⟩) (by assumption) ?_
          rotate_left
          · intro wS hSw
            try dsimp only at hSw
            go_simp
            try with_reducible rfl
          try simp only [Act.put, List.setIfInBounds_toArray, List.set_cons_zero, List.set_cons_succ]
          refine wpAnyH_take (i := 8) (oi := { dst := some 163, op := Op.indexAddr 35 (Operand.tmp 161) (Operand.tmp 162), type := 0, pos := "ref.go:85", after := #[{ on := 6, ground := Ground.data }, { on := 7, ground := Ground.data }], guard := none }) (v := ?_) rfl (by kernel_rfl) (by kernel_rfl) (by kernel_rfl) (fun _ _ _ h => h) (Or.inl ⟨by rfl, ?_⟩) (by assumption) ?_
          rotate_left
          · intro wS hSw
            try dsimp only at hSw
            go_simp
            try with_reducible rfl
          try simp only [Act.put, List.setIfInBounds_toArray, List.set_cons_zero, List.set_cons_succ]
          refine wpAnyH_take (i := 9) (oi := { dst := some 164, op := Op.load 9 (Operand.tmp 163), type := 9, pos := "ref.go:85", after := #[{ on := 8, ground := Ground.data }], guard := none }) (v := ?_) rfl (by kernel_rfl) (by kernel_rfl) (by kernel_rfl) (fun _ _ _ h => h) (Or.inl ⟨by rfl, ?_⟩) (by assumption) ?_
          rotate_left
          · intro wS hSw
            try dsimp only at hSw
            go_simp
            try with_reducible rfl
          try simp only [Act.put, List.setIfInBounds_toArray, List.set_cons_zero, List.set_cons_succ]
          refine wpAnyH_take (i := 12) (oi := { dst := some 167, op := Op.move (Operand.tmp 25), type := 35, pos := "ref.go:85", after := #[], guard := none }) (v := ?_) rfl (by kernel_rfl) (by kernel_rfl) (by kernel_rfl) (fun _ _ _ h => h) (Or.inl ⟨by rfl, ?_⟩) (by assumption) ?_
          rotate_left
          · intro wS hSw
            try dsimp only at hSw
            go_simp
            try with_reducible rfl
          try simp only [Act.put, List.setIfInBounds_toArray, List.set_cons_zero, List.set_cons_succ]
          refine wpAnyH_take (i := 13) (oi := { dst := some 168, op := Op.move (Operand.tmp 26), type := 3, pos := "ref.go:85", after := #[], guard := none }) (v := ?_) rfl (by kernel_rfl) (by kernel_rfl) (by kernel_rfl) (fun _ _ _ h => h) (Or.inl ⟨by rfl, ?_⟩) (by assumption) ?_
          rotate_left
          · intro wS hSw
            try dsimp only at hSw
            go_simp
            try with_reducible rfl
          try simp only [Act.put, List.setIfInBounds_toArray, List.set_cons_zero, List.set_cons_succ]
          refine wpAnyH_take (i := 14) (oi := { dst := some 169, op := Op.indexAddr 35 (Operand.tmp 167) (Operand.tmp 168), type := 0, pos := "ref.go:85", after := #[{ on := 12, ground := Ground.data }, { on := 13, ground := Ground.data }], guard := none }) (v := ?_) rfl (by kernel_rfl) (by kernel_rfl) (by kernel_rfl) (fun _ _ _ h => h) (Or.inl ⟨by rfl, ?_⟩) (by assumption) ?_
          rotate_left
          · intro wS hSw
            try dsimp only at hSw
            go_simp
            try with_reducible rfl
          try simp only [Act.put, List.setIfInBounds_toArray, List.set_cons_zero, List.set_cons_succ]
          refine wpAnyH_take (i := 15) (oi := { dst := some 170, op := Op.load 9 (Operand.tmp 169), type := 9, pos := "ref.go:85", after := #[{ on := 14, ground := Ground.data }], guard := none }) (v := ?_) rfl (by kernel_rfl) (by kernel_rfl) (by kernel_rfl) (fun _ _ _ h => h) (Or.inl ⟨by rfl, ?_⟩) (by assumption) ?_
          rotate_left
          · intro wS hSw
            try dsimp only at hSw
            go_simp
            try with_reducible rfl
          try simp only [Act.put, List.setIfInBounds_toArray, List.set_cons_zero, List.set_cons_succ]
          refine wpAnyH_ready (rs := [2]) (by kernel_rfl) (by simp) ?_
          refine AllReadyH.cons (o := { dst := some 157, op := Op.call { callee := Callee.value (Operand.func 30), args := #[Operand.tmp 156], argTypes := #[28] }, type := 9, pos := "ref.go:85", after := #[{ on := 1, ground := Ground.data }], guard := none }) rfl (fun K hK => ?_) ?_
          ·
            go_simp
            go_at_call 30
            refine (HPL.out z0).mono ?_
            rintro e z1 ⟨rfl, b9⟩
            have HB1 := hide (HW0.out.trans (b9.mono HW0.out.size))
            clear b9
            refine hK.out _ _ (HSS.out _ HB1.out) (fun hHeld1 => ?_)
            clear hK K
            try simp only [Act.put, List.setIfInBounds_toArray, List.set_cons_zero, List.set_cons_succ]
            refine wpAnyH_take (i := 3) (oi := { dst := some 158, op := Op.binOp BinOp.add 9 (Operand.const (Value.string { data := #[72, 84, 84, 80, 47, 49, 46, 49, 32, 50, 48, 48, 32, 79, 75, 13, 10, 67, 65, 67, 72, 69, 45, 67, 79, 78, 84, 82, 79, 76, 58, 32, 109, 97, 120, 45, 97, 103, 101, 61, 49, 56, 48, 48, 13, 10, 69, 88, 84, 58, 13, 10] })) (Operand.tmp 157) 9, type := 9, pos := "ref.go:85", after := #[{ on := 2, ground := Ground.data }], guard := none }) (v := ?_) rfl (by kernel_rfl) (by kernel_rfl) (by kernel_rfl) (fun _ _ _ h => h) (Or.inl ⟨by rfl, ?_⟩) (by assumption) ?_
            rotate_left
            · intro wS hSw
              try dsimp only at hSw
              go_simp
              try with_reducible rfl
            try simp only [Act.put, List.setIfInBounds_toArray, List.set_cons_zero, List.set_cons_succ]
            refine wpAnyH_take (i := 4) (oi := { dst := some 159, op := Op.binOp BinOp.add 9 (Operand.tmp 158) (Operand.const (Value.string { data := #[83, 69, 82, 86, 69, 82, 58, 32, 104, 101, 97, 114, 116, 104, 47, 49, 32, 85, 80, 110, 80, 47, 49, 46, 49, 32, 104, 101, 97, 114, 116, 104, 47, 49, 13, 10] })) 9, type := 9, pos := "ref.go:85", after := #[{ on := 3, ground := Ground.data }], guard := none }) (v := ?_) rfl (by kernel_rfl) (by kernel_rfl) (by kernel_rfl) (fun _ _ _ h => h) (Or.inl ⟨by rfl, ?_⟩) (by assumption) ?_
            rotate_left
            · intro wS hSw
              try dsimp only at hSw
              go_simp
              try with_reducible rfl
            try simp only [Act.put, List.setIfInBounds_toArray, List.set_cons_zero, List.set_cons_succ]
            refine wpAnyH_take (i := 5) (oi := { dst := some 160, op := Op.binOp BinOp.add 9 (Operand.tmp 159) (Operand.const (Value.string { data := #[83, 84, 58, 32] })) 9, type := 9, pos := "ref.go:85", after := #[{ on := 4, ground := Ground.data }], guard := none }) (v := ?_) rfl (by kernel_rfl) (by kernel_rfl) (by kernel_rfl) (fun _ _ _ h => h) (Or.inl ⟨by rfl, ?_⟩) (by assumption) ?_
            rotate_left
            · intro wS hSw
              try dsimp only at hSw
              go_simp
              try with_reducible rfl
            try simp only [Act.put, List.setIfInBounds_toArray, List.set_cons_zero, List.set_cons_succ]
            refine wpAnyH_take (i := 10) (oi := { dst := some 165, op := Op.binOp BinOp.add 9 (Operand.tmp 160) (Operand.tmp 164) 9, type := 9, pos := "ref.go:85", after := #[{ on := 5, ground := Ground.data }, { on := 9, ground := Ground.data }], guard := none }) (v := ?_) rfl (by kernel_rfl) (by kernel_rfl) (by kernel_rfl) (fun _ _ _ h => h) (Or.inl ⟨by rfl, ?_⟩) (by assumption) ?_
            rotate_left
            · intro wS hSw
              try dsimp only at hSw
              go_simp
              try with_reducible rfl
            try simp only [Act.put, List.setIfInBounds_toArray, List.set_cons_zero, List.set_cons_succ]
            refine wpAnyH_take (i := 11) (oi := { dst := some 166, op := Op.binOp BinOp.add 9 (Operand.tmp 165) (Operand.const (Value.string { data := #[13, 10, 85, 83, 78, 58, 32] })) 9, type := 9, pos := "ref.go:85", after := #[{ on := 10, ground := Ground.data }], guard := none }) (v := ?_) rfl (by kernel_rfl) (by kernel_rfl) (by kernel_rfl) (fun _ _ _ h => h) (Or.inl ⟨by rfl, ?_⟩) (by assumption) ?_
            rotate_left
            · intro wS hSw
              try dsimp only at hSw
              go_simp
              try with_reducible rfl
            try simp only [Act.put, List.setIfInBounds_toArray, List.set_cons_zero, List.set_cons_succ]
            refine wpAnyH_take (i := 16) (oi := { dst := some 171, op := Op.binOp BinOp.add 9 (Operand.tmp 166) (Operand.tmp 170) 9, type := 9, pos := "ref.go:85", after := #[{ on := 11, ground := Ground.data }, { on := 15, ground := Ground.data }], guard := none }) (v := ?_) rfl (by kernel_rfl) (by kernel_rfl) (by kernel_rfl) (fun _ _ _ h => h) (Or.inl ⟨by rfl, ?_⟩) (by assumption) ?_
            rotate_left
            · intro wS hSw
              try dsimp only at hSw
              go_simp
              try with_reducible rfl
            try simp only [Act.put, List.setIfInBounds_toArray, List.set_cons_zero, List.set_cons_succ]
            refine wpAnyH_take (i := 17) (oi := { dst := some 172, op := Op.binOp BinOp.add 9 (Operand.tmp 171) (Operand.const (Value.string { data := #[13, 10, 13, 10] })) 9, type := 9, pos := "ref.go:85", after := #[{ on := 16, ground := Ground.data }], guard := none }) (v := ?_) rfl (by kernel_rfl) (by kernel_rfl) (by kernel_rfl) (fun _ _ _ h => h) (Or.inl ⟨by rfl, ?_⟩) (by assumption) ?_
            rotate_left
            · intro wS hSw
              try dsimp only at hSw
              go_simp
              try with_reducible rfl
            try simp only [Act.put, List.setIfInBounds_toArray, List.set_cons_zero, List.set_cons_succ]
            refine wpAnyH_ready (rs := [18]) (by kernel_rfl) (by simp) ?_
            refine AllReadyH.cons (o := { dst := some 173, op := Op.buildSlice 35 1 #[(0, Operand.tmp 172)], type := 35, pos := "ref.go:85", after := #[{ on := 17, ground := Ground.data }], guard := none }) rfl (fun K hK => ?_) ?_
            ·
              go_simp
              refine hK.out _ _ (HSS.out _ (HB1.out.alloc HB1.out.size _)) (fun hHeld2 => ?_)
              clear hK K
              try simp only [Act.put, List.setIfInBounds_toArray, List.set_cons_zero, List.set_cons_succ]
              refine wpAnyH_ready (rs := [19]) (by kernel_rfl) (by simp) ?_
              refine AllReadyH.cons (o := { dst := some 174, op := Op.call { callee := Callee.builtin Builtin.append, args := #[Operand.tmp 155, Operand.tmp 173], argTypes := #[35, 35] }, type := 35, pos := "ref.go:85", after := #[{ on := 0, ground := Ground.data }, { on := 18, ground := Ground.data }, { on := 2, ground := Ground.chain }], guard := none }) rfl (fun K hK => ?_) ?_
              ·
                obtain ⟨a5, c5, w5, hrun, o5⟩ := (HI.out.next HB1.out).push E9 (by have := HI.out.own.len; rw [List.length_map] at this; have h2 := HKL.out; omega)
                have HRUN := hide hrun
                have HO5 := hide o5
                clear hrun o5
                rw [if_pos (by rfl)]
                refine Lib.wp_append_run _ _ _ _ _ rfl _ _ rfl rfl _ _ HRUN.out ?_
                refine hK.out _ _ (HS5.out _ HO5.out) (fun hHeld3 => ?_)
                clear hK K
                try simp only [Act.put, List.setIfInBounds_toArray, List.set_cons_zero, List.set_cons_succ]
                refine wpAnyH_take (i := 20) (oi := { dst := some 5, op := Op.assign (Operand.tmp 174), type := 35, pos := "ref.go:85", after := #[{ on := 19, ground := Ground.data }, { on := 19, ground := Ground.chain }, { on := 0, ground := Ground.phase }, { on := 1, ground := Ground.phase }, { on := 2, ground := Ground.phase }, { on := 3, ground := Ground.phase }, { on := 4, ground := Ground.phase }, { on := 5, ground := Ground.phase }, { on := 6, ground := Ground.phase }, { on := 7, ground := Ground.phase }, { on := 8, ground := Ground.phase }, { on := 9, ground := Ground.phase }, { on := 10, ground := Ground.phase }, { on := 11, ground := Ground.phase }, { on := 12, ground := Ground.phase }, { on := 13, ground := Ground.phase }, { on := 14, ground := Ground.phase }, { on := 15, ground := Ground.phase }, { on := 16, ground := Ground.phase }, { on := 17, ground := Ground.phase }, { on := 18, ground := Ground.phase }, { on := 19, ground := Ground.phase }], guard := none }) (v := ?_) rfl (by kernel_rfl) (by kernel_rfl) (by kernel_rfl) (fun _ _ _ h => h) (Or.inl ⟨by rfl, ?_⟩) (by assumption) ?_
                rotate_left
                · intro wS hSw
                  try dsimp only at hSw
                  go_simp
                  try with_reducible rfl
                try simp only [Act.put, List.setIfInBounds_toArray, List.set_cons_zero, List.set_cons_succ]
                refine wpAnyH_done (by kernel_rfl) ?_ _
                have HF := hide (show RI w w2 w5 w.heap.size r a5 (m + 1) c5 ((((namesL o).take (k + 1)).filter (sel st)).map (ansL PP) |>.map bt) from by rw [HTY.out, List.map_append, List.map_singleton, HE9.out]; exact HO5.out)
                clear HO5 HRUN
                go_wp2_with fail
                exact ⟨⟨k + 1, m + 1, a5, c5, by omega, rfl, by go_num, HF⟩, by simp [intOf]; omega⟩
              exact AllReadyH.nil
            exact AllReadyH.nil
          exact AllReadyH.nil
        | false =>
        have z5 : ¬ ST.toList = n1 := beq_eq_false_iff_ne.1 z3
        cases s2 with
        | true =>
          have HTY := hide (HTY.out HSEL.out)
          clear HSEL HTN
          obtain ⟨e1, he1⟩ : ∃ l, [72, 84, 84, 80, 47, 49, 46, 49, 32, 50, 48, 48, 32, 79, 75, 13, 10, 67, 65, 67, 72, 69, 45, 67, 79, 78, 84, 82, 79, 76, 58, 32, 109, 97, 120, 45, 97, 103, 101, 61, 49, 56, 48, 48, 13, 10, 69, 88, 84, 58, 13, 10] ++ (PP ++ cr) = l := ⟨_, rfl⟩
          obtain ⟨e2, he2⟩ : ∃ l, e1 ++ [83, 69, 82, 86, 69, 82, 58, 32, 104, 101, 97, 114, 116, 104, 47, 49, 32, 85, 80, 110, 80, 47, 49, 46, 49, 32, 104, 101, 97, 114, 116, 104, 47, 49, 13, 10] = l := ⟨_, rfl⟩
          obtain ⟨e3, he3⟩ : ∃ l, e2 ++ [83, 84, 58, 32] = l := ⟨_, rfl⟩
          obtain ⟨e4, he4⟩ : ∃ l, e3 ++ n1 = l := ⟨_, rfl⟩
          obtain ⟨e5, he5⟩ : ∃ l, e4 ++ [13, 10, 85, 83, 78, 58, 32] = l := ⟨_, rfl⟩
          obtain ⟨e6, he6⟩ : ∃ l, e5 ++ n2 = l := ⟨_, rfl⟩
          obtain ⟨e9, he9⟩ : ∃ l, e6 ++ [13, 10, 13, 10] = l := ⟨_, rfl⟩
          have HFX := hide (show ansL PP (n1, n2) = e9 from by rw [← he9, ← he6, ← he5, ← he4, ← he3, ← he2, ← he1]; simp [ansL, msgL, Lib.join, List.intercalate, List.intersperse, tOk, tMax, tExt, tSrv, tSt, tUsn, cr])
          have le1 : e1.length ≤ 354 := by rw [← he1]; have := HPP.out; simp only [List.length_append, List.length_cons, List.length_nil, cr]; omega
          have le2 : e2.length ≤ 390 := by rw [← he2]; have := HPP.out; simp only [List.length_append, List.length_cons, List.length_nil, cr]; omega
          have le3 : e3.length ≤ 394 := by rw [← he3]; have := HPP.out; simp only [List.length_append, List.length_cons, List.length_nil, cr]; omega
          have le4 : e4.length ≤ 1394 := by rw [← he4]; have := HPP.out; simp only [List.length_append, List.length_cons, List.length_nil, cr]; omega
          have le5 : e5.length ≤ 1401 := by rw [← he5]; have := HPP.out; simp only [List.length_append, List.length_cons, List.length_nil, cr]; omega
          have le6 : e6.length ≤ 3403 := by rw [← he6]; have := HPP.out; simp only [List.length_append, List.length_cons, List.length_nil, cr]; omega
          have le9 : e9.length ≤ 3407 := by rw [← he9]; have := HPP.out; simp only [List.length_append, List.length_cons, List.length_nil, cr]; omega
          have f10 : ∀ V : World, (Op.stringOp .add ⟨#[72, 84, 84, 80, 47, 49, 46, 49, 32, 50, 48, 48, 32, 79, 75, 13, 10, 67, 65, 67, 72, 69, 45, 67, 79, 78, 84, 82, 79, 76, 58, 32, 109, 97, 120, 45, 97, 103, 101, 61, 49, 56, 48, 48, 13, 10, 69, 88, 84, 58, 13, 10]⟩ (bt (PP ++ cr))).run Tryz.prog V = .ok (.string (bt e1)) V := fun V => by rw [← he1]; exact run_string_add_lists V ([72, 84, 84, 80, 47, 49, 46, 49, 32, 50, 48, 48, 32, 79, 75, 13, 10, 67, 65, 67, 72, 69, 45, 67, 79, 78, 84, 82, 79, 76, 58, 32, 109, 97, 120, 45, 97, 103, 101, 61, 49, 56, 48, 48, 13, 10, 69, 88, 84, 58, 13, 10]) ((PP ++ cr)) (by decide) (by have := HPP.out; simp only [List.length_append, cr, List.length_cons, List.length_nil]; omega)
          have f11 : ∀ V : World, (Op.stringOp .add ⟨(([72, 84, 84, 80, 47, 49, 46, 49, 32, 50, 48, 48, 32, 79, 75, 13, 10, 67, 65, 67, 72, 69, 45, 67, 79, 78, 84, 82, 79, 76, 58, 32, 109, 97, 120, 45, 97, 103, 101, 61] : List UInt8).append [49, 56, 48, 48, 13, 10, 69, 88, 84, 58, 13, 10]).toArray⟩ (bt (PP ++ cr))).run Tryz.prog V = .ok (.string (bt e1)) V := fun V => by rw [← he1]; exact run_string_add_lists V ([72, 84, 84, 80, 47, 49, 46, 49, 32, 50, 48, 48, 32, 79, 75, 13, 10, 67, 65, 67, 72, 69, 45, 67, 79, 78, 84, 82, 79, 76, 58, 32, 109, 97, 120, 45, 97, 103, 101, 61, 49, 56, 48, 48, 13, 10, 69, 88, 84, 58, 13, 10]) ((PP ++ cr)) (by decide) (by have := HPP.out; simp only [List.length_append, cr, List.length_cons, List.length_nil]; omega)
          have f12 : ∀ V : World, (Op.stringOp .add ⟨(([72, 84, 84, 80, 47, 49, 46, 49, 32, 50, 48, 48, 32, 79, 75, 13, 10, 67, 65, 67, 72, 69, 45, 67, 79, 78, 84, 82, 79, 76, 58, 32, 109, 97, 120, 45, 97, 103, 101, 61] : List UInt8) ++ [49, 56, 48, 48, 13, 10, 69, 88, 84, 58, 13, 10]).toArray⟩ (bt (PP ++ cr))).run Tryz.prog V = .ok (.string (bt e1)) V := fun V => by rw [← he1]; exact run_string_add_lists V ([72, 84, 84, 80, 47, 49, 46, 49, 32, 50, 48, 48, 32, 79, 75, 13, 10, 67, 65, 67, 72, 69, 45, 67, 79, 78, 84, 82, 79, 76, 58, 32, 109, 97, 120, 45, 97, 103, 101, 61, 49, 56, 48, 48, 13, 10, 69, 88, 84, 58, 13, 10]) ((PP ++ cr)) (by decide) (by have := HPP.out; simp only [List.length_append, cr, List.length_cons, List.length_nil]; omega)
          have f20 : ∀ V : World, (Op.stringOp .add (bt e1) ⟨#[83, 69, 82, 86, 69, 82, 58, 32, 104, 101, 97, 114, 116, 104, 47, 49, 32, 85, 80, 110, 80, 47, 49, 46, 49, 32, 104, 101, 97, 114, 116, 104, 47, 49, 13, 10]⟩).run Tryz.prog V = .ok (.string (bt e2)) V := fun V => by rw [← he2]; exact run_string_add_lists V (e1) ([83, 69, 82, 86, 69, 82, 58, 32, 104, 101, 97, 114, 116, 104, 47, 49, 32, 85, 80, 110, 80, 47, 49, 46, 49, 32, 104, 101, 97, 114, 116, 104, 47, 49, 13, 10]) (by omega) (by decide)
          have f30 : ∀ V : World, (Op.stringOp .add (bt e2) ⟨#[83, 84, 58, 32]⟩).run Tryz.prog V = .ok (.string (bt e3)) V := fun V => by rw [← he3]; exact run_string_add_lists V (e2) ([83, 84, 58, 32]) (by omega) (by decide)
          have f40 : ∀ V : World, (Op.stringOp .add (bt e3) (bt n1)).run Tryz.prog V = .ok (.string (bt e4)) V := fun V => by rw [← he4]; exact run_string_add_lists V (e3) (n1) (by omega) (by omega)
          have f50 : ∀ V : World, (Op.stringOp .add (bt e4) ⟨#[13, 10, 85, 83, 78, 58, 32]⟩).run Tryz.prog V = .ok (.string (bt e5)) V := fun V => by rw [← he5]; exact run_string_add_lists V (e4) ([13, 10, 85, 83, 78, 58, 32]) (by omega) (by decide)
          have f60 : ∀ V : World, (Op.stringOp .add (bt e5) (bt n2)).run Tryz.prog V = .ok (.string (bt e6)) V := fun V => by rw [← he6]; exact run_string_add_lists V (e5) (n2) (by omega) (by omega)
          have f90 : ∀ V : World, (Op.stringOp .add (bt e6) ⟨#[13, 10, 13, 10]⟩).run Tryz.prog V = .ok (.string (bt e9)) V := fun V => by rw [← he9]; exact run_string_add_lists V (e6) ([13, 10, 13, 10]) (by omega) (by decide)
          have HE9 := hide (show bt (ansL PP (n1, n2)) = bt e9 from by rw [HFX.out])
          clear he1 he2 he3 he4 he5 he6 he9 le1 le2 le3 le4 le5 le6 le9
          generalize bt e1 = E1 at *
          generalize bt e2 = E2 at *
          generalize bt e3 = E3 at *
          generalize bt e4 = E4 at *
          generalize bt e5 = E5 at *
          generalize bt e6 = E6 at *
          generalize bt e9 = E9 at *
          generalize bt (PP ++ cr) = BP at *
          generalize bt n1 = N1 at *
          generalize bt n2 = N2 at *
          have HW0 := hide (below_drew wr)
          clear cn2
          go_wp2_with fail
          clear cn1 z1 z3 z4
          refine wp_region_held_drew (S := fun w' => w'.rangeAt CC 0 cs.toList ∧ (w'.cell? ⟨ga, k, none⟩ = some (.string N1) ∧ w'.cell? ⟨gb, k, none⟩ = some (.string N2))) (by kernel_rfl) (by exact HSS.out _ HW0.out) (fun hHeld => ?_)
          generalize wr.drew = z0 at *
          refine wpAnyH_take (i := 0) (oi := { dst := some 155, op := Op.move (Operand.tmp 5), type := 35, pos := "ref.go:85", after := #[], guard := none }) (v := ?_) rfl (by kernel_rfl) (by kernel_rfl) (by kernel_rfl) (fun _ _ _ h => h) (Or.inl ⟨by rfl, ?_⟩) (by assumption) ?_
          rotate_left
          · intro wS hSw
            try dsimp only at hSw
            go_simp
            try with_reducible rfl
          try simp only [Act.put, List.setIfInBounds_toArray, List.set_cons_zero, List.set_cons_succ]
          refine wpAnyH_take (i := 1) (oi := { dst := some 156, op := Op.load 28 (Operand.tmp 2), type := 28, pos := "ref.go:85", after := #[], guard := none }) (v := .agg cs) rfl (by kernel_rfl) (by kernel_rfl) (by kernel_rfl) (fun _ _ _ h => h) (yl_cfg (by rfl) _ rfl CC rfl cs (fun w h => h.1) HSZ.out) (by assumption) ?_
          try simp only [Act.put, List.setIfInBounds_toArray, List.set_cons_zero, List.set_cons_succ]
          refine wpAnyH_take (i := 6) (oi := { dst := some 161, op := Op.move (Operand.tmp 24), type := 35, pos := "ref.go:85", after := #[], guard := none }) (v := ?_) rfl (by kernel_rfl) (by kernel_rfl) (by kernel_rfl) (fun _ _ _ h => h) (Or.inl ⟨by rfl, ?_⟩) (by assumption) ?_
          rotate_left
          · intro wS hSw
            try dsimp only at hSw
            go_simp
            try with_reducible rfl
          try simp only [Act.put, List.setIfInBounds_toArray, List.set_cons_zero, List.set_cons_succ]
          refine wpAnyH_take (i := 7) (oi := { dst := some 162, op := Op.move (Operand.tmp 26), type := 3, pos := "ref.go:85", after := #[], guard := none }) (v := ?_) rfl (by kernel_rfl) (by kernel_rfl) (by kernel_rfl) (fun _ _ _ h => h) (Or.inl ⟨by rfl, ?_⟩) (by assumption) ?_
          rotate_left
          · intro wS hSw
            try dsimp only at hSw
            go_simp
            try with_reducible rfl
          try simp only [Act.put, List.setIfInBounds_toArray, List.set_cons_zero, List.set_cons_succ]
          refine wpAnyH_take (i := 8) (oi := { dst := some 163, op := Op.indexAddr 35 (Operand.tmp 161) (Operand.tmp 162), type := 0, pos := "ref.go:85", after := #[{ on := 6, ground := Ground.data }, { on := 7, ground := Ground.data }], guard := none }) (v := ?_) rfl (by kernel_rfl) (by kernel_rfl) (by kernel_rfl) (fun _ _ _ h => h) (Or.inl ⟨by rfl, ?_⟩) (by assumption) ?_
          rotate_left
          · intro wS hSw
            try dsimp only at hSw
            go_simp
            try with_reducible rfl
          try simp only [Act.put, List.setIfInBounds_toArray, List.set_cons_zero, List.set_cons_succ]
          refine wpAnyH_take (i := 9) (oi := { dst := some 164, op := Op.load 9 (Operand.tmp 163), type := 9, pos := "ref.go:85", after := #[{ on := 8, ground := Ground.data }], guard := none }) (v := ?_) rfl (by kernel_rfl) (by kernel_rfl) (by kernel_rfl) (fun _ _ _ h => h) (Or.inl ⟨by rfl, ?_⟩) (by assumption) ?_
          rotate_left
          · intro wS hSw
            try dsimp only at hSw
            go_simp
            try with_reducible rfl
          try simp only [Act.put, List.setIfInBounds_toArray, List.set_cons_zero, List.set_cons_succ]
          refine wpAnyH_take (i := 12) (oi := { dst := some 167, op := Op.move (Operand.tmp 25), type := 35, pos := "ref.go:85", after := #[], guard := none }) (v := ?_) rfl (by kernel_rfl) (by kernel_rfl) (by kernel_rfl) (fun _ _ _ h => h) (Or.inl ⟨by rfl, ?_⟩) (by assumption) ?_
          rotate_left
          · intro wS hSw
            try dsimp only at hSw
            go_simp
            try with_reducible rfl
          try simp only [Act.put, List.setIfInBounds_toArray, List.set_cons_zero, List.set_cons_succ]
          refine wpAnyH_take (i := 13) (oi := { dst := some 168, op := Op.move (Operand.tmp 26), type := 3, pos := "ref.go:85", after := #[], guard := none }) (v := ?_) rfl (by kernel_rfl) (by kernel_rfl) (by kernel_rfl) (fun _ _ _ h => h) (Or.inl ⟨by rfl, ?_⟩) (by assumption) ?_
          rotate_left
          · intro wS hSw
            try dsimp only at hSw
            go_simp
            try with_reducible rfl
          try simp only [Act.put, List.setIfInBounds_toArray, List.set_cons_zero, List.set_cons_succ]
          refine wpAnyH_take (i := 14) (oi := { dst := some 169, op := Op.indexAddr 35 (Operand.tmp 167) (Operand.tmp 168), type := 0, pos := "ref.go:85", after := #[{ on := 12, ground := Ground.data }, { on := 13, ground := Ground.data }], guard := none }) (v := ?_) rfl (by kernel_rfl) (by kernel_rfl) (by kernel_rfl) (fun _ _ _ h => h) (Or.inl ⟨by rfl, ?_⟩) (by assumption) ?_
          rotate_left
          · intro wS hSw
            try dsimp only at hSw
            go_simp
            try with_reducible rfl
          try simp only [Act.put, List.setIfInBounds_toArray, List.set_cons_zero, List.set_cons_succ]
          refine wpAnyH_take (i := 15) (oi := { dst := some 170, op := Op.load 9 (Operand.tmp 169), type := 9, pos := "ref.go:85", after := #[{ on := 14, ground := Ground.data }], guard := none }) (v := ?_) rfl (by kernel_rfl) (by kernel_rfl) (by kernel_rfl) (fun _ _ _ h => h) (Or.inl ⟨by rfl, ?_⟩) (by assumption) ?_
          rotate_left
          · intro wS hSw
            try dsimp only at hSw
            go_simp
            try with_reducible rfl
          try simp only [Act.put, List.setIfInBounds_toArray, List.set_cons_zero, List.set_cons_succ]
          refine wpAnyH_ready (rs := [2]) (by kernel_rfl) (by simp) ?_
          refine AllReadyH.cons (o := { dst := some 157, op := Op.call { callee := Callee.value (Operand.func 30), args := #[Operand.tmp 156], argTypes := #[28] }, type := 9, pos := "ref.go:85", after := #[{ on := 1, ground := Ground.data }], guard := none }) rfl (fun K hK => ?_) ?_
          ·
            go_simp
            go_at_call 30
            refine (HPL.out z0).mono ?_
            rintro e z1 ⟨rfl, b9⟩
            have HB1 := hide (HW0.out.trans (b9.mono HW0.out.size))
            clear b9
            refine hK.out _ _ (HSS.out _ HB1.out) (fun hHeld1 => ?_)
            clear hK K
            try simp only [Act.put, List.setIfInBounds_toArray, List.set_cons_zero, List.set_cons_succ]
            refine wpAnyH_take (i := 3) (oi := { dst := some 158, op := Op.binOp BinOp.add 9 (Operand.const (Value.string { data := #[72, 84, 84, 80, 47, 49, 46, 49, 32, 50, 48, 48, 32, 79, 75, 13, 10, 67, 65, 67, 72, 69, 45, 67, 79, 78, 84, 82, 79, 76, 58, 32, 109, 97, 120, 45, 97, 103, 101, 61, 49, 56, 48, 48, 13, 10, 69, 88, 84, 58, 13, 10] })) (Operand.tmp 157) 9, type := 9, pos := "ref.go:85", after := #[{ on := 2, ground := Ground.data }], guard := none }) (v := ?_) rfl (by kernel_rfl) (by kernel_rfl) (by kernel_rfl) (fun _ _ _ h => h) (Or.inl ⟨by rfl, ?_⟩) (by assumption) ?_
            rotate_left
            · intro wS hSw
              try dsimp only at hSw
              go_simp
              try with_reducible rfl
            try simp only [Act.put, List.setIfInBounds_toArray, List.set_cons_zero, List.set_cons_succ]
            refine wpAnyH_take (i := 4) (oi := { dst := some 159, op := Op.binOp BinOp.add 9 (Operand.tmp 158) (Operand.const (Value.string { data := #[83, 69, 82, 86, 69, 82, 58, 32, 104, 101, 97, 114, 116, 104, 47, 49, 32, 85, 80, 110, 80, 47, 49, 46, 49, 32, 104, 101, 97, 114, 116, 104, 47, 49, 13, 10] })) 9, type := 9, pos := "ref.go:85", after := #[{ on := 3, ground := Ground.data }], guard := none }) (v := ?_) rfl (by kernel_rfl) (by kernel_rfl) (by kernel_rfl) (fun _ _ _ h => h) (Or.inl ⟨by rfl, ?_⟩) (by assumption) ?_
            rotate_left
            · intro wS hSw
              try dsimp only at hSw
              go_simp
              try with_reducible rfl
            try simp only [Act.put, List.setIfInBounds_toArray, List.set_cons_zero, List.set_cons_succ]
            refine wpAnyH_take (i := 5) (oi := { dst := some 160, op := Op.binOp BinOp.add 9 (Operand.tmp 159) (Operand.const (Value.string { data := #[83, 84, 58, 32] })) 9, type := 9, pos := "ref.go:85", after := #[{ on := 4, ground := Ground.data }], guard := none }) (v := ?_) rfl (by kernel_rfl) (by kernel_rfl) (by kernel_rfl) (fun _ _ _ h => h) (Or.inl ⟨by rfl, ?_⟩) (by assumption) ?_
            rotate_left
            · intro wS hSw
              try dsimp only at hSw
              go_simp
              try with_reducible rfl
            try simp only [Act.put, List.setIfInBounds_toArray, List.set_cons_zero, List.set_cons_succ]
            refine wpAnyH_take (i := 10) (oi := { dst := some 165, op := Op.binOp BinOp.add 9 (Operand.tmp 160) (Operand.tmp 164) 9, type := 9, pos := "ref.go:85", after := #[{ on := 5, ground := Ground.data }, { on := 9, ground := Ground.data }], guard := none }) (v := ?_) rfl (by kernel_rfl) (by kernel_rfl) (by kernel_rfl) (fun _ _ _ h => h) (Or.inl ⟨by rfl, ?_⟩) (by assumption) ?_
            rotate_left
            · intro wS hSw
              try dsimp only at hSw
              go_simp
              try with_reducible rfl
            try simp only [Act.put, List.setIfInBounds_toArray, List.set_cons_zero, List.set_cons_succ]
            refine wpAnyH_take (i := 11) (oi := { dst := some 166, op := Op.binOp BinOp.add 9 (Operand.tmp 165) (Operand.const (Value.string { data := #[13, 10, 85, 83, 78, 58, 32] })) 9, type := 9, pos := "ref.go:85", after := #[{ on := 10, ground := Ground.data }], guard := none }) (v := ?_) rfl (by kernel_rfl) (by kernel_rfl) (by kernel_rfl) (fun _ _ _ h => h) (Or.inl ⟨by rfl, ?_⟩) (by assumption) ?_
            rotate_left
            · intro wS hSw
              try dsimp only at hSw
              go_simp
              try with_reducible rfl
            try simp only [Act.put, List.setIfInBounds_toArray, List.set_cons_zero, List.set_cons_succ]
            refine wpAnyH_take (i := 16) (oi := { dst := some 171, op := Op.binOp BinOp.add 9 (Operand.tmp 166) (Operand.tmp 170) 9, type := 9, pos := "ref.go:85", after := #[{ on := 11, ground := Ground.data }, { on := 15, ground := Ground.data }], guard := none }) (v := ?_) rfl (by kernel_rfl) (by kernel_rfl) (by kernel_rfl) (fun _ _ _ h => h) (Or.inl ⟨by rfl, ?_⟩) (by assumption) ?_
            rotate_left
            · intro wS hSw
              try dsimp only at hSw
              go_simp
              try with_reducible rfl
            try simp only [Act.put, List.setIfInBounds_toArray, List.set_cons_zero, List.set_cons_succ]
            refine wpAnyH_take (i := 17) (oi := { dst := some 172, op := Op.binOp BinOp.add 9 (Operand.tmp 171) (Operand.const (Value.string { data := #[13, 10, 13, 10] })) 9, type := 9, pos := "ref.go:85", after := #[{ on := 16, ground := Ground.data }], guard := none }) (v := ?_) rfl (by kernel_rfl) (by kernel_rfl) (by kernel_rfl) (fun _ _ _ h => h) (Or.inl ⟨by rfl, ?_⟩) (by assumption) ?_
            rotate_left
            · intro wS hSw
              try dsimp only at hSw
              go_simp
              try with_reducible rfl
            try simp only [Act.put, List.setIfInBounds_toArray, List.set_cons_zero, List.set_cons_succ]
            refine wpAnyH_ready (rs := [18]) (by kernel_rfl) (by simp) ?_
            refine AllReadyH.cons (o := { dst := some 173, op := Op.buildSlice 35 1 #[(0, Operand.tmp 172)], type := 35, pos := "ref.go:85", after := #[{ on := 17, ground := Ground.data }], guard := none }) rfl (fun K hK => ?_) ?_
            ·
              go_simp
              refine hK.out _ _ (HSS.out _ (HB1.out.alloc HB1.out.size _)) (fun hHeld2 => ?_)
              clear hK K
              try simp only [Act.put, List.setIfInBounds_toArray, List.set_cons_zero, List.set_cons_succ]
              refine wpAnyH_ready (rs := [19]) (by kernel_rfl) (by simp) ?_
              refine AllReadyH.cons (o := { dst := some 174, op := Op.call { callee := Callee.builtin Builtin.append, args := #[Operand.tmp 155, Operand.tmp 173], argTypes := #[35, 35] }, type := 35, pos := "ref.go:85", after := #[{ on := 0, ground := Ground.data }, { on := 18, ground := Ground.data }, { on := 2, ground := Ground.chain }], guard := none }) rfl (fun K hK => ?_) ?_
              ·
                obtain ⟨a5, c5, w5, hrun, o5⟩ := (HI.out.next HB1.out).push E9 (by have := HI.out.own.len; rw [List.length_map] at this; have h2 := HKL.out; omega)
                have HRUN := hide hrun
                have HO5 := hide o5
                clear hrun o5
                rw [if_pos (by rfl)]
                refine Lib.wp_append_run _ _ _ _ _ rfl _ _ rfl rfl _ _ HRUN.out ?_
                refine hK.out _ _ (HS5.out _ HO5.out) (fun hHeld3 => ?_)
                clear hK K
                try simp only [Act.put, List.setIfInBounds_toArray, List.set_cons_zero, List.set_cons_succ]
                refine wpAnyH_take (i := 20) (oi := { dst := some 5, op := Op.assign (Operand.tmp 174), type := 35, pos := "ref.go:85", after := #[{ on := 19, ground := Ground.data }, { on := 19, ground := Ground.chain }, { on := 0, ground := Ground.phase }, { on := 1, ground := Ground.phase }, { on := 2, ground := Ground.phase }, { on := 3, ground := Ground.phase }, { on := 4, ground := Ground.phase }, { on := 5, ground := Ground.phase }, { on := 6, ground := Ground.phase }, { on := 7, ground := Ground.phase }, { on := 8, ground := Ground.phase }, { on := 9, ground := Ground.phase }, { on := 10, ground := Ground.phase }, { on := 11, ground := Ground.phase }, { on := 12, ground := Ground.phase }, { on := 13, ground := Ground.phase }, { on := 14, ground := Ground.phase }, { on := 15, ground := Ground.phase }, { on := 16, ground := Ground.phase }, { on := 17, ground := Ground.phase }, { on := 18, ground := Ground.phase }, { on := 19, ground := Ground.phase }], guard := none }) (v := ?_) rfl (by kernel_rfl) (by kernel_rfl) (by kernel_rfl) (fun _ _ _ h => h) (Or.inl ⟨by rfl, ?_⟩) (by assumption) ?_
                rotate_left
                · intro wS hSw
                  try dsimp only at hSw
                  go_simp
                  try with_reducible rfl
                try simp only [Act.put, List.setIfInBounds_toArray, List.set_cons_zero, List.set_cons_succ]
                refine wpAnyH_done (by kernel_rfl) ?_ _
                have HF := hide (show RI w w2 w5 w.heap.size r a5 (m + 1) c5 ((((namesL o).take (k + 1)).filter (sel st)).map (ansL PP) |>.map bt) from by rw [HTY.out, List.map_append, List.map_singleton, HE9.out]; exact HO5.out)
                clear HO5 HRUN
                go_wp2_with fail
                exact ⟨⟨k + 1, m + 1, a5, c5, by omega, rfl, by go_num, HF⟩, by simp [intOf]; omega⟩
              exact AllReadyH.nil
            exact AllReadyH.nil
          exact AllReadyH.nil
        | false =>
          have HTN := hide (HTN.out HSEL.out)
          have HF := hide (show RI w w2 wr w.heap.size r a m c ((((((namesL o).take (k + 1)).filter (sel st)).map (ansL PP))).map bt) from by rw [HTN.out]; exact HI.out)
          clear HSEL HTY HI
          go_wp2_with fail
          exact ⟨⟨k + 1, m, a, c, by omega, rfl, by go_num, HF⟩, by simp [intOf]; omega⟩
      · have d1 : decide ((k : Int) < 6) = false := by simp; omega
        obtain rfl : k = 6 := by omega
        have HF := hide (show RowS wr a m (searchL PP o st) ∧ Below w.heap.size w wr from ⟨rowS_of (by
          have h := HI.out.own
          rw [List.take_of_length_le (by rw [namesL_len]; omega)] at h
          exact h), HI.out.below⟩)
        have HYES := hide HYES.out
        clear HI
        go_wp2_with fail
        go_ret
        exact ⟨a, m, c, rfl, by rw [HYES.out]; exact HF.out.1, HF.out.2⟩
end Go.Proofs.YtonoaopioifedaaGreatDoor
