/- Ssdp: a name's only value, by the document; when nothing is searched for. -/
import Derived.Test.YtonoaopioifedaaGreatDoorSSo
import Derived.Test.YtonoaopioifedaaGreatDoorHRline
import Derived.Test.YtonoaopioifedaaGreatDoorHRnum
namespace Go.Proofs.YtonoaopioifedaaGreatDoor.H
open Go.RowKit Go.Deep
set_option linter.unusedVariables false
set_option linter.unusedSimpArgs false
set_option maxRecDepth 100000
set_option maxHeartbeats 1000000 in
theorem rone_any (w : World) (fv : Value) (fs : List (List UInt8 × List UInt8)) (name : List UInt8) (hF : FV w fv fs) (hn : fs.length ≤ 2000) :
    Calls Tryz.prog 28 #[fv, .string (bs name)] w fun e w' => e = .returned (.tuple #[.string (bs (onlyL fs name)), .bool (decide ((getP fs name).length = 1))]) ∧ Below w.heap.size w w' := by
  obtain ⟨a, c, rfl, hf⟩ := hF
  have HG := hide (rget_any w a (fs.map mkF) fs.length c (bs name) hf (List.length_map _) hn)
  rw [getL_P] at HG
  obtain ⟨P, hP⟩ : ∃ P, getP fs name = P := ⟨_, rfl⟩
  rw [hP] at HG ⊢
  have HO1 := hide (show ∀ v, P = [v] → onlyL fs name = v from fun v hv => by unfold onlyL; rw [hP, hv])
  have HO2 := hide (show P.length ≠ 1 → onlyL fs name = [] from fun h => onlyL_no fs name (by rw [hP]; exact h))
  have HPL := hide (show P.length ≤ 2000 from by
    rw [← hP]; unfold getP; rw [List.length_map]
    exact Nat.le_trans (List.length_filter_le _ _) hn)
  generalize bs name = NM at *
  obtain ⟨n, hnn⟩ : ∃ n, fs.length = n := ⟨_, rfl⟩
  obtain ⟨z, hz⟩ : ∃ z, decide (P.length = 1) = z := ⟨_, rfl⟩
  rw [hz]
  rw [hnn] at HG ⊢
  have HZ := hide hz
  clear hP hnn hf hn hz
  go_enter Tryz.func28, Tryz.ntmps28
  go_wp2_with fail
  refine HG.out.mono ?_
  rintro e w1 ⟨oa, oc, k, hk, rfl, ho, b1⟩
  rw [List.length_map] at hk
  have hk9 : (k : Int) ≤ 2000 := by have := HPL.out; omega
  have hk8 : (0 : Int) ≤ (k : Int) := by omega
  have HB := hide b1
  by_cases h1 : k = 1
  · subst h1
    match P, hk, ho, HO1, HO2, HPL, HZ with
    | [v], _, ho, HO1, _, _, HZ =>
      obtain ⟨g, rfl, hc⟩ := ho.at (i := 0) (y := bs v) rfl
      have HV := hide (HO1.out v rfl)
      have HZ2 := hide (show z = true from HZ.out.symm)
      clear ho b1 HG HO1 HZ
      go_wp2_with fail
      go_ret2
      exact ⟨by rw [HV.out, HZ2.out]; rfl, HB.out⟩
  · have h2 : ((k : Int) != 1) = true := by
      rw [bne_iff_ne]; omega
    have h3 : ((k : Int) == 1) = false := by rw [beq_eq_false_iff_ne]; omega
    have HV := hide (HO2.out (by omega))
    have HZ2 := hide (show z = false from by rw [← HZ.out]; exact decide_eq_false (by omega))
    clear ho b1 HG HO1 HO2 hk HZ
    go_wp2_with fail
    go_ret2
    exact ⟨by rw [HV.out, HZ2.out]; rfl, HB.out⟩
theorem line_nil : lineL [] = none := by decide
theorem head_nil : headOK [] = false := by decide
theorem fields_nil : ∀ (xs : List (List UInt8)), (∃ x ∈ xs, x = []) → fieldsL xs = none
  | [], h => by obtain ⟨x, hx, _⟩ := h; cases hx
  | y :: r, h => by
    obtain ⟨x, hx, e⟩ := h
    rw [fieldsL]
    rcases List.mem_cons.1 hx with h2 | h2
    · rw [← h2, e, line_nil]; rfl
    · rw [fields_nil r ⟨x, h2, e⟩]
      cases lineL y <;> rfl
theorem fieldsO_bad (l : List UInt8) (h : linesO l = none ∨ ∃ q, linesO l = some q ∧ ∃ x ∈ q, x = []) : fieldsO l = none := by
  unfold fieldsO
  rcases h with h | ⟨q, h, x, hx, e⟩
  · rw [h]
  · rw [h]
    cases q with
    | nil => rfl
    | cons p ps =>
      dsimp only
      rcases List.mem_cons.1 hx with h2 | h2
      · rw [← h2, e, head_nil]; rfl
      · rw [fields_nil ps ⟨x, h2, e⟩]; split <;> rfl
theorem soughtF_nil : soughtF [] = [] := by decide
theorem sought_bad (l : List UInt8) (h : fieldsO l = none) : soughtL l = [] := by
  unfold soughtL
  split
  · rfl
  · rw [h]; exact soughtF_nil
theorem sought_some (l : List UInt8) (hl : l.length ≤ 1024) (fs : List (List UInt8 × List UInt8)) (h : fieldsO l = some fs) : soughtL l = soughtF fs := by
  unfold soughtL
  rw [if_neg (by omega), h]; rfl
theorem number_nil : numberL [] 10 9999999 = none := by decide
/-- When the tests of the document find that nothing is searched for. -/
theorem soughtF_is (fs : List (List UInt8 × List UInt8)) (qa qb qd vk q1 q2 : Bool) (ha : decide ((getP fs sMan).length = 1) = qa) (hb : decide ((getP fs sSt).length = 1) = qb) (hd : decide ((getP fs sMx).length = 1) = qd)
    (hv : (numberL (onlyL fs sMx) 10 9999999).isSome = vk) (h1 : decide (onlyL fs sMan = sDisc) = q1) (h2 : decide ((numberL (onlyL fs sMx) 10 9999999).getD 0 = 0) = q2) :
    soughtF fs = if (qa && qb && qd && vk && q1 && !q2) = true then onlyL fs sSt else [] := by
  have na : qa = false → onlyL fs sMan = [] := fun h => onlyL_no fs sMan (by rw [h] at ha; exact of_decide_eq_false ha)
  have nb : qb = false → onlyL fs sSt = [] := fun h => onlyL_no fs sSt (by rw [h] at hb; exact of_decide_eq_false hb)
  have nd : qd = false → onlyL fs sMx = [] := fun h => onlyL_no fs sMx (by rw [h] at hd; exact of_decide_eq_false hd)
  unfold soughtF
  by_cases hc : onlyL fs sMan = sDisc ∧ (numberL (onlyL fs sMx) 10 9999999).getD 0 ≠ 0
  · rw [if_pos hc]
    have eq1 : q1 = true := by rw [← h1]; exact decide_eq_true hc.1
    have eq2 : q2 = false := by rw [← h2]; exact decide_eq_false hc.2
    have ea : qa = true := by
      cases qa with
      | true => rfl
      | false => exact absurd (hc.1.symm.trans (na rfl)) (by decide)
    have ed : qd = true := by
      cases qd with
      | true => rfl
      | false => exact absurd (by rw [nd rfl, number_nil]; rfl) hc.2
    have ev : vk = true := by
      cases vk with
      | true => rfl
      | false =>
        have : numberL (onlyL fs sMx) 10 9999999 = none := by
          cases hn : numberL (onlyL fs sMx) 10 9999999 with
          | none => rfl
          | some n => rw [hn] at hv; cases hv
        exact absurd (by rw [this]; rfl) hc.2
    subst eq1 eq2 ea ed ev
    cases qb with
    | true => rfl
    | false => rw [nb rfl]; simp
  · rw [if_neg hc, if_neg]
    intro h
    simp only [Bool.and_eq_true, Bool.not_eq_true'] at h
    exact hc ⟨of_decide_eq_true (by rw [h1]; exact h.1.2), of_decide_eq_false (by rw [h2]; exact h.2)⟩
end Go.Proofs.YtonoaopioifedaaGreatDoor.H
