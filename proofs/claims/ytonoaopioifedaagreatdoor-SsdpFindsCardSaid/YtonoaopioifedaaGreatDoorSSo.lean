/- Ssdp: what is searched for. -/
import Derived.Test.YtonoaopioifedaaGreatDoorSFo
import Derived.Test.YtonoaopioifedaaGreatDoorHPub
import Derived.Test.YtonoaopioifedaaGreatDoorHMem
namespace Go.Proofs.YtonoaopioifedaaGreatDoor.H
open Go.RowKit Go.Deep
set_option linter.unusedVariables false
set_option linter.unusedSimpArgs false
set_option maxRecDepth 100000
def getP (fs : List (List UInt8 × List UInt8)) (name : List UInt8) : List (List UInt8) := (fs.filter fun f => decide (f.1 = name)).map (·.2)
theorem getL_P (name : List UInt8) : ∀ fs : List (List UInt8 × List UInt8), getL (fs.map mkF) (bs name) = (getP fs name).map bs
  | [] => rfl
  | f :: r => by
    have ih := getL_P name r
    unfold getL getP at ih ⊢
    have e : isN (bs name) (mkF f) = decide (f.1 = name) := by
      unfold isN mkF
      rw [Lib.toList_data (bs name), data_bs]
      exact eqb f.1 name
    rw [List.map_cons, List.filter_cons, List.filter_cons, e]
    by_cases h : f.1 = name
    · rw [decide_eq_true h, if_pos rfl, if_pos rfl, List.map_cons, List.map_cons, List.map_cons, ih]; rfl
    · rw [decide_eq_false h, if_neg (by decide), if_neg (by decide), ih]
/-- The value of a name that is there just once. -/
def onlyL (fs : List (List UInt8 × List UInt8)) (name : List UInt8) : List UInt8 := match getP fs name with
  | [v] => v
  | _ => []
theorem onlyL_no (fs : List (List UInt8 × List UInt8)) (name : List UInt8) (h : (getP fs name).length ≠ 1) : onlyL fs name = [] := by
  unfold onlyL
  match hg : getP fs name with
  | [] => rfl
  | [v] => rw [hg] at h; exact absurd rfl h
  | _ :: _ :: _ => rfl
set_option maxHeartbeats 1000000 in
theorem only_any (w : World) (fv : Value) (fs : List (List UInt8 × List UInt8)) (name : List UInt8) (hF : FV w fv fs) (hn : fs.length ≤ 2000) :
    Calls Tryz.prog 39 #[fv, .string (bs name)] w fun e w' => e = .returned (.string (bs (onlyL fs name))) ∧ Below w.heap.size w w' := by
  obtain ⟨a, c, rfl, hf⟩ := hF
  have HG := hide (get_any w a (fs.map mkF) fs.length c (bs name) hf (List.length_map _) hn)
  rw [getL_P] at HG
  obtain ⟨P, hP⟩ : ∃ P, getP fs name = P := ⟨_, rfl⟩
  rw [hP] at HG
  have HO1 := hide (show ∀ v, P = [v] → onlyL fs name = v from fun v hv => by unfold onlyL; rw [hP, hv])
  have HO2 := hide (show P.length ≠ 1 → onlyL fs name = [] from fun h => onlyL_no fs name (by rw [hP]; exact h))
  have HPL := hide (show P.length ≤ 2000 from by
    rw [← hP]; unfold getP; rw [List.length_map]
    exact Nat.le_trans (List.length_filter_le _ _) hn)
  generalize bs name = NM at *
  obtain ⟨n, hnn⟩ : ∃ n, fs.length = n := ⟨_, rfl⟩
  rw [hnn] at HG ⊢
  clear hP hnn hf hn
  go_enter Tryz.func39, Tryz.ntmps39
  go_wp2_with fail
  refine HG.out.mono ?_
  rintro e w1 ⟨oa, oc, k, hk, rfl, ho, b1⟩
  rw [List.length_map] at hk
  have hk9 : (k : Int) ≤ 2000 := by have := HPL.out; omega
  have hk8 : (0 : Int) ≤ (k : Int) := by omega
  have HB := hide b1
  by_cases h1 : k = 1
  · subst h1
    match P, hk, ho, HO1, HO2, HPL with
    | [v], _, ho, HO1, _, _ =>
      obtain ⟨g, rfl, hc⟩ := ho.at (i := 0) (y := bs v) rfl
      have HV := hide (HO1.out v rfl)
      clear ho b1 HG HO1
      go_wp2_with fail
      go_ret
      exact ⟨by rw [HV.out]; rfl, HB.out⟩
  · have h2 : ((k : Int) != 1) = true := by
      rw [bne_iff_ne]; omega
    have h3 : ((k : Int) == 1) = false := by rw [beq_eq_false_iff_ne]; omega
    have HV := hide (HO2.out (by omega))
    clear ho b1 HG HO1 HO2 hk
    go_wp2_with fail
    go_ret
    exact ⟨by rw [HV.out]; rfl, HB.out⟩
def sMan : List UInt8 := [109, 97, 110]
def sMx : List UInt8 := [109, 120]
def sSt : List UInt8 := [115, 116]
def sDisc : List UInt8 := [34, 115, 115, 100, 112, 58, 100, 105, 115, 99, 111, 118, 101, 114, 34]
/-- The name that a text searches for. -/
def soughtF (fs : List (List UInt8 × List UInt8)) : List UInt8 := if onlyL fs sMan = sDisc ∧ (numberL (onlyL fs sMx) 10 9999999).getD 0 ≠ 0 then onlyL fs sSt else []
def soughtL (l : List UInt8) : List UInt8 := if 1024 < l.length then [] else soughtF ((fieldsO l).getD [])
theorem fieldsL_len : ∀ (xs : List (List UInt8)), ((fieldsL xs).getD []).length ≤ xs.length
  | xs => by
    cases h : fieldsL xs with
    | none => exact Nat.zero_le _
    | some fs => exact Nat.le_of_eq (fields_len xs fs h)
theorem fieldsO_len (l : List UInt8) (hl : l.length ≤ 1024) : ((fieldsO l).getD []).length ≤ 2000 := by
  unfold fieldsO linesO
  by_cases hs : Lib.hasSuffix l [13, 10, 13, 10] = true
  · rw [if_pos hs]
    have h1 := crl_count (Lib.trimSuffix l [13, 10, 13, 10])
    have h2 := Lib.countB_le ⟨#[13, 10]⟩ (by decide) _ (bs (Lib.trimSuffix l [13, 10, 13, 10])) (Nat.le_refl _)
    rw [bs_len] at h2
    have h3 := trimSuf_le l [13, 10, 13, 10]
    obtain ⟨p, ps, e⟩ := crl_cons (Lib.trimSuffix l [13, 10, 13, 10])
    rw [e] at h1 ⊢
    rw [List.length_cons] at h1
    dsimp only
    split
    · have := fieldsL_len ps; omega
    · exact Nat.zero_le _
  · rw [if_neg hs]; exact Nat.zero_le _
set_option maxHeartbeats 4000000 in
theorem sought_any (l : List UInt8) (g c n : Nat) (w : World) (hE : Env w) (hn : l.length = n) (hn9 : n ≤ 100000) (hT : ∀ (j : Nat) (b : UInt8), l[j]? = some b → w.cell? ⟨g, j, none⟩ = some (byV b)) :
    Calls Tryz.prog 22 #[.slice (some ⟨g, 0, none⟩) n c] w fun e w' => e = .returned (.string (bs (soughtL l))) ∧ Below w.heap.size w w' := by
  have hn4 : (0 : Int) ≤ (n : Int) := by omega
  have hn5 : (n : Int) ≤ 100000 := by omega
  by_cases hlong : 1024 < l.length
  · have d1 : decide ((1024 : Int) < (n : Int)) = true := by simp; omega
    have HR := hide (show soughtL l = [] from by unfold soughtL; rw [if_pos hlong])
    clear hT hE hn
    go_enter Tryz.func22, Tryz.ntmps22
    go_wp2_with fail
    go_ret
    exact ⟨by rw [HR.out]; rfl, Below.refl _ _⟩
  · have d1 : decide ((1024 : Int) < (n : Int)) = false := by simp; omega
    have hcv : (convert 29 9 (.slice (some ⟨g, 0, none⟩) n c)).run Tryz.prog w = .ok (.string (bs l)) w := by
      rw [← hn]
      exact run_convert_bytes_back w 29 9 5 ⟨g, 0, none⟩ c l Tryz.underlying29 Tryz.underlying5 Tryz.underlying9 (fun j hj => by
        rw [add0]
        exact hT j _ (List.getElem?_eq_getElem hj))
    have HFO := hide (fieldsOf_any l w hE (by omega))
    have HFL := hide (fieldsO_len l (by omega))
    have HSO := hide (show soughtL l = soughtF ((fieldsO l).getD []) from by unfold soughtL; rw [if_neg hlong])
    have HE := hide hE
    generalize (fieldsO l).getD [] = fs at *
    generalize bs l = BL at *
    clear hT hE hn hlong
    obtain ⟨mx, hmx⟩ : ∃ m, onlyL fs sMx = m := ⟨_, rfl⟩
    obtain ⟨k, hk⟩ : ∃ k, (numberL mx 10 9999999).getD 0 = k := ⟨_, rfl⟩
    obtain ⟨vk, hvk⟩ : ∃ v, (numberL mx 10 9999999).isSome = v := ⟨_, rfl⟩
    have hnv : numberV (numberL mx 10 9999999) = .tuple #[.int .i64 (k : Int), .bool vk] := by
      rw [← hk, ← hvk]
      cases numberL mx 10 9999999 <;> rfl
    obtain ⟨mn, hmn⟩ : ∃ m, onlyL fs sMan = m := ⟨_, rfl⟩
    have HSF := hide (show soughtF fs = if mn = sDisc ∧ k ≠ 0 then onlyL fs sSt else [] from by unfold soughtF; rw [hmx, hk, hmn])
    have HK := hide (And.intro hk (And.intro hvk (And.intro hmx hmn)))
    have HNV := hide hnv
    clear hk hvk hmx hmn hnv
    go_enter Tryz.func22, Tryz.ntmps22
    go_wp2_with fail
    refine HFO.out.mono ?_
    rintro e w1 ⟨fv, rfl, hfv, b1⟩
    have HF1 := hide hfv
    have HB1 := hide b1
    have HE1 := hide (HE.out.below b1 (Nat.le_refl _))
    clear hfv b1 HFO HE hcv
    have HO1 := hide (only_any w1 fv fs sMx HF1.out HFL.out)
    rw [HK.out.2.2.1] at HO1
    go_wp2_with fail
    refine HO1.out.mono ?_
    rintro e w2 ⟨rfl, b2⟩
    have HB2 := hide (HB1.out.trans (b2.mono HB1.out.size))
    have HF2 := hide (HF1.out.below b2)
    have HE2 := hide (HE1.out.below b2 (Nat.le_refl _))
    clear b2 HO1 HF1 HB1 HE1
    have HNU := hide (show Calls Tryz.prog 38 #[.string (bs mx), .int .i64 10, .int .i64 9999999] w2 fun e w' => e = .returned (.tuple #[.int .i64 (k : Int), .bool vk]) ∧ Below w2.heap.size w2 w' from by
      have := number_any (bs mx) 10 9999999 w2 HE2.out
      rw [data_bs, HNV.out] at this
      exact this)
    go_wp2_with fail
    refine HNU.out.mono ?_
    rintro e w3 ⟨rfl, b3⟩
    have HB3 := hide (HB2.out.trans (b3.mono HB2.out.size))
    have HF3 := hide (HF2.out.below b3)
    have HE3 := hide (HE2.out.below b3 (Nat.le_refl _))
    clear b3 HNU HF2 HB2 HE2
    have HO2 := hide (only_any w3 fv fs sMan HF3.out HFL.out)
    rw [HK.out.2.2.2] at HO2
    have e1 := eqb mn [34, 115, 115, 100, 112, 58, 100, 105, 115, 99, 111, 118, 101, 114, 34]
    obtain ⟨q1, hq1⟩ : ∃ b, decide (mn = [34, 115, 115, 100, 112, 58, 100, 105, 115, 99, 111, 118, 101, 114, 34]) = b := ⟨_, rfl⟩
    rw [hq1] at e1
    obtain ⟨q2, hq2⟩ : ∃ b, ((k : Int) == 0) = b := ⟨_, rfl⟩
    obtain ⟨BM, hBM⟩ : ∃ b, bs mn = b := ⟨_, rfl⟩
    rw [hBM] at HO2 e1
    have HQ1 := hide hq1
    have HQ2 := hide hq2
    have hq3 : ((k : Int) != 0) = !q2 := by rw [← hq2]; rfl
    clear hq1 hBM
    go_wp2_with fail
    refine HO2.out.mono ?_
    rintro e w4 ⟨rfl, b4⟩
    have HB4 := hide (HB3.out.trans (b4.mono HB3.out.size))
    have HF4 := hide (HF3.out.below b4)
    clear b4 HO2 HF3 HB3 HE3
    cases q1 with
    | false =>
      have HR := hide (show soughtL l = [] from by rw [HSO.out, HSF.out, if_neg (fun h => of_decide_eq_false HQ1.out h.1)])
      go_wp2_with fail
      go_ret
      exact ⟨by rw [HR.out]; rfl, HB4.out⟩
    | true =>
    cases q2 with
    | true =>
      have HR := hide (show soughtL l = [] from by rw [HSO.out, HSF.out, if_neg (fun h => by have := beq_iff_eq.1 HQ2.out; exact h.2 (by omega))])
      go_wp2_with fail
      go_ret
      exact ⟨by rw [HR.out]; rfl, HB4.out⟩
    | false =>
      have HR := hide (show soughtL l = onlyL fs sSt from by rw [HSO.out, HSF.out, if_pos ⟨of_decide_eq_true HQ1.out, fun h => by have := HQ2.out; rw [h] at this; cases this⟩])
      have HO4 := hide (only_any w4 fv fs sSt HF4.out HFL.out)
      go_wp2_with fail
      refine HO4.out.mono ?_
      rintro e w5 ⟨rfl, b5⟩
      have HB5 := hide (HB4.out.trans (b5.mono HB4.out.size))
      clear b5 HO4
      go_wp2_with fail
      go_ret
      exact ⟨by rw [HR.out]; rfl, HB5.out⟩
end Go.Proofs.YtonoaopioifedaaGreatDoor.H
