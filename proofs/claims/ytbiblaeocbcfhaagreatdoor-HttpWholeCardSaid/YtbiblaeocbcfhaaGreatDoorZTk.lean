/- http: a byte of a head. -/
import Derived.Test.YtbiblaeocbcfhaaGreatDoorZReq
import Derived.Lib.CountLaws
namespace Go.Proofs.YtbiblaeocbcfhaaGreatDoor
open Go.RowKit Go.Deep
set_option linter.unusedVariables false
set_option linter.unusedSimpArgs false
set_option maxRecDepth 100000
theorem Left.after {B : Nat} {tv fv bv tv1 fv1 bv1 : Value} {w w1 w2 : World} {p' : PM} (ho : OnlyS (Own B tv bv) w w1) (ft : Fresh w tv tv1) (ff : Fresh w fv fv1) (fb : Fresh w bv bv1) (h : Left B tv1 fv1 bv1 w1 p' w2) : Left B tv fv bv w p' w2 := by
  obtain ⟨tv2, fv2, bv2, hA, ho2, ft2, ff2, fb2⟩ := h
  refine ⟨tv2, fv2, bv2, hA, ho.trans ho2 (fun i hi hy => ?_), ft.trans ft2 ho.size, ff.trans ff2 ho.size, fb.trans fb2 ho.size⟩
  rcases hy with e | e | e
  · exact .inl e
  · rcases ft i e with h1 | h1
    · exact .inr (.inl h1)
    · omega
  · rcases fb i e with h1 | h1
    · exact .inr (.inr h1)
    · omega
def Lo (B : Nat) (tv bv : Value) : Prop := 2 ≤ B ∧ (∀ k, tv.ownBlock = some k → 2 ≤ k) ∧ ∀ k, bv.ownBlock = some k → 2 ≤ k
theorem Lo.own {B : Nat} {tv bv : Value} (h : Lo B tv bv) : ∀ k, Own B tv bv k → 2 ≤ k := fun k hk => by
  rcases hk with rfl | e | e
  · exact h.1
  · exact h.2.1 k e
  · exact h.2.2 k e
theorem Env.two {w : World} (h : Env w) : 2 ≤ w.heap.size := by
  obtain ⟨ev, he, _⟩ := h.e
  have h1 := World.block_lt_of_cell? _ _ he
  have h2 : (1 : Nat) < w.heap.size := h1
  omega
theorem Lo.fresh {B : Nat} {tv bv tv' bv' : Value} {w : World} (h : Lo B tv bv) (ft : Fresh w tv tv') (fb : Fresh w bv bv') (h2 : 2 ≤ w.heap.size) : Lo B tv' bv' :=
  ⟨h.1, fun k hk => by rcases ft k hk with e | e; exact h.2.1 k e; omega, fun k hk => by rcases fb k hk with e | e; exact h.2.2 k e; omega⟩
theorem Env.only {X : Nat → Prop} {w w' : World} (h : Env w) (ho : OnlyS X w w') (hx : ∀ k, X k → 2 ≤ k) : Env w' := by
  obtain ⟨m, hm⟩ := h.m
  obtain ⟨ev, he, hv⟩ := h.e
  exact ⟨⟨m, (ho.cell (p := ⟨0, 0, none⟩) (World.block_lt_of_cell? w _ hm) (fun e => by have : 2 ≤ 0 := hx _ e; omega)).trans hm⟩, ⟨ev, (ho.cell (p := ⟨1, 0, none⟩) (World.block_lt_of_cell? w _ he) (fun e => by have : 2 ≤ 1 := hx _ e; omega)).trans he, hv⟩⟩
theorem pieces_two (t : List UInt8) (h : (10 : UInt8) ∈ t) : 2 ≤ (piecesR (t ++ [10])).length := by
  rw [pieces_len]
  have h1 : Lib.trimSuffix (t ++ [10]) [10] = t := by
    unfold Lib.trimSuffix Lib.hasSuffix
    rw [if_pos (by simp)]; simp
  rw [h1]
  have h2 : 0 ≤ Lib.indexB (bs t) ⟨#[10]⟩ := by
    show 0 ≤ Lib.index (bs t).data.toList [10]
    rw [bs_data, Lib.index_one]
    rcases Int.lt_or_le (Lib.indexByte t 10) 0 with h3 | h3
    · have h4 := Lib.index_ge t [10]
      rw [Lib.index_one] at h4
      have h5 : Lib.indexByte t 10 = -1 := by omega
      obtain ⟨i, hi⟩ := List.mem_iff_getElem?.1 h
      exact absurd hi (Lib.indexByte_none h5 i)
    · exact h3
  obtain ⟨i, hi⟩ := Int.eq_ofNat_of_zero_le h2
  rw [Lib.countB_hit _ _ i (by decide) hi]
  omega
/-- What a reader must keep to. -/
structure Bd (p : PM) : Prop where
  line : p.line ≤ p.text.length
  text : p.text.length ≤ 4095
  lf : p.line ≠ 0 → p.text[p.line - 1]? = some 10
  body : p.now.body.length ≤ 8192
  left : p.waits = 1 ∨ p.waits = 3 → 1 ≤ p.left ∧ p.left + p.now.body.length ≤ 8192
  waits : p.waits ≤ 7
theorem add_text (p : PM) (c : UInt8) : (addM p c).1.text = p.text ++ [c] := by unfold addM; split <;> rfl
theorem add_empty (p : PM) (c : UInt8) (h : (addM p c).2 = true) : c = 10 := by
  unfold addM at h
  split at h
  · cases h
  · rename_i hc; exact Decidable.not_not.1 hc
theorem add_passed (p : PM) (c : UInt8) : (addM p c).1.passed = p.passed := by unfold addM; split <;> rfl
set_option maxHeartbeats 4000000 in
theorem head_any (B : Nat) (p : PM) (tv fv bv : Value) (c : UInt8) (w : World) (hA : At w B p tv fv bv) (hE : Env w) (hL : Lo B tv bv) (hB : Bd p) :
    Calls Tryz.prog 13 #[.pointer (some ⟨B, 0, none⟩), .int .u8 (c.toNat : Int)] w fun e w' => e = .returned (resV (headM p c).2) ∧ Left B tv fv bv w (headM p c).1 w' := by
  have hadd := add_any B p tv fv bv c w hA hB.line (by have := hB.text; omega)
  have hM : headM p c = if (addM p c).2 = true ∧ p.line ≠ 0 then requestM (clearM (addM p c).1) (addM p c).1.text
      else if (addM p c).2 = true ∧ (addM p c).1.passed = false ∧ (addM p c).1.text.length = 2 then ({ clearM (addM p c).1 with passed := true }, none)
      else if 4096 ≤ (addM p c).1.text.length then ((addM p c).1, some 431) else ((addM p c).1, none) := by
    unfold headM
    rcases addM p c with ⟨a, b⟩
    rfl
  have htwo : (addM p c).2 = true → p.line ≠ 0 → 2 ≤ (piecesR (addM p c).1.text).length := fun h1 h2 => by
    rw [add_text, add_empty p c h1]
    exact pieces_two _ (List.mem_of_getElem? (hB.lf h2))
  have hlen : (addM p c).1.text.length ≤ 4096 := by rw [add_text, List.length_append]; have := hB.text; simp; omega
  obtain ⟨q, hq⟩ : ∃ q, (addM p c).1 = q := ⟨_, rfl⟩
  obtain ⟨e1, he1⟩ : ∃ q, (addM p c).2 = q := ⟨_, rfl⟩
  rw [hq, he1] at hadd hM htwo
  rw [hq] at hlen
  obtain ⟨Q, hQ⟩ : ∃ Q, headM p c = Q := ⟨_, rfl⟩
  rw [hQ] at hM ⊢
  obtain ⟨ln, hln⟩ : ∃ n, p.line = n := ⟨_, rfl⟩
  have z2 : w.cell? ⟨B, 2, none⟩ = some (.int .i64 (ln : Int)) := by rw [← hln]; exact cell_at hA.blk 2 rfl
  have zf := free_at hA.blk
  rw [hln] at hM htwo
  have HADD := hide hadd
  have HM := hide hM
  have HX := hide (And.intro hE (And.intro hL (And.intro htwo hlen)))
  obtain ⟨t0, ht0⟩ : ∃ t, ((ln : Int) == 0) = t := ⟨_, rfl⟩
  have e0' : t0 = decide (ln = 0) := by
    rw [← ht0]
    by_cases h : ln = 0
    · subst h; rfl
    · rw [decide_eq_false h, beq_eq_false_iff_ne]; omega
  have HT0 := hide e0'
  clear hadd hM htwo hlen hq he1 hQ hln hA hE hL hB e0'
  go_enter Tryz.func13, Tryz.ntmps13
  go_wp2_with fail
  refine HADD.out.mono ?_
  rintro e w1 ⟨rfl, tv1, hA1, ho1, ft1⟩
  have HA1 := hide hA1
  have HO1 := hide (And.intro ho1 ft1)
  have z1 := cell_at hA1.blk 1 rfl
  have zf1 := free_at hA1.blk
  have hcl := clear_any B q tv1 fv bv w1 hA1
  have HCL := hide hcl
  obtain ⟨ta, tc, htf⟩ := hA1.tx.form
  have HTF := hide htf
  obtain ⟨n, hn⟩ : ∃ n, q.text.length = n := ⟨_, rfl⟩
  have HN := hide hn
  obtain ⟨pp, hpp⟩ : ∃ b, q.passed = b := ⟨_, rfl⟩
  have z3 : w1.cell? ⟨B, 3, none⟩ = some (.bool pp) := by rw [← hpp]; exact cell_at hA1.blk 3 rfl
  have HPP := hide hpp
  have hM2 := HM.out
  rw [hn, hpp] at hM2
  have HM2 := hide hM2
  rw [hn] at htf
  subst htf
  clear hA1 ho1 ft1 hcl hn hpp hM2 HADD z2 zf HTF
  have hE1 := HX.out.1.only HO1.out.1 HX.out.2.1.own
  have HE1 := hide hE1
  clear hE1
  by_cases hc1 : e1 = true ∧ ln ≠ 0
  · obtain ⟨rfl, hne⟩ := hc1
    have ht : t0 = false := by rw [HT0.out, decide_eq_false hne]
    subst ht
    have HV := hide (show Q = requestM (clearM q) q.text by rw [HM2.out, if_pos ⟨rfl, hne⟩])
    have HTW := hide (HX.out.2.2.1 rfl hne)
    clear hne
    go_wp2_with fail
    refine HCL.out.mono ?_
    rintro e w2 ⟨rfl, hA2, ho2⟩
    have HO2 := hide ho2
    have HR := hide (request_any B (clearM q) (.slice none 0 0) fv bv q.text w2 hA2 (HE1.out.only ho2 (HX.out.2.1.fresh HO1.out.2 (Fresh.refl _ _) HX.out.1.two).own) (by have := HX.out.2.2.2; omega) HTW.out)
    clear HCL hA2 ho2
    obtain ⟨o, ho⟩ : ∃ o, (requestM (clearM q) q.text).2 = o := ⟨_, rfl⟩
    rw [ho] at HR
    go_wp2_with fail
    refine HR.out.mono ?_
    rintro e w3 ⟨rfl, hl3⟩
    have HL3 := hide hl3
    have HOO := hide ho
    clear HR hl3 ho
    cases o
    all_goals
      unfold resV
      go_wp2_with fail
      go_ret2
      exact ⟨by rw [HV.out, HOO.out]; rfl, by rw [HV.out]; exact Left.after HO1.out.1 HO1.out.2 (Fresh.refl _ _) (Fresh.refl _ _) (Left.after HO2.out (Fresh.nil _ _) (Fresh.refl _ _) (Fresh.refl _ _) HL3.out)⟩
  · have hb1 : (e1 && !t0) = false := by
      rw [HT0.out]
      cases e1
      · rfl
      · have : ln = 0 := Decidable.not_not.1 fun h => hc1 ⟨rfl, h⟩
        rw [decide_eq_true this]; rfl
    have hM3 := HM2.out
    rw [if_neg hc1] at hM3
    have HM3 := hide hM3
    have hn4 : (n : Int) ≤ 4096 := by have := HX.out.2.2.2; have := HN.out; omega
    clear hM3 hc1 HM2 HM HT0
    by_cases hc2 : e1 = true ∧ pp = false ∧ n = 2
    · obtain ⟨rfl, rfl, rfl⟩ := hc2
      have ht : t0 = true := by cases t0; cases hb1; rfl
      subst ht
      have HV := hide (show Q = ({ clearM q with passed := true }, none) by rw [HM3.out, if_pos ⟨rfl, rfl, rfl⟩])
      clear hb1
      go_wp2_with fail
      refine HCL.out.mono ?_
      rintro e w2 ⟨rfl, hA2, ho2⟩
      have hy3 := cell_at hA2.blk 3 rfl
      have hyf := free_at hA2.blk
      have HF := hide (hA2.set (p' := { clearM q with passed := true }) 3 (.bool true) rfl rfl rfl rfl)
      have HO2 := hide (ho2.setCell B 3 (.bool true) (.inl (.inl rfl)))
      clear HCL hA2 ho2
      go_wp2_with fail
      go_ret2
      exact ⟨by rw [HV.out]; rfl, by rw [HV.out]; exact Left.after HO1.out.1 HO1.out.2 (Fresh.refl _ _) (Fresh.refl _ _) ⟨_, fv, bv, HF.out, HO2.out, Fresh.nil _ _, Fresh.refl _ _, Fresh.refl _ _⟩⟩
    · have hM4 := HM3.out
      rw [if_neg hc2] at hM4
      have HM4 := hide hM4
      obtain ⟨t2, ht2⟩ : ∃ t, ((n : Int) == 2) = t := ⟨_, rfl⟩
      have e2' : t2 = decide (n = 2) := by
        rw [← ht2]
        by_cases h : n = 2
        · subst h; rfl
        · rw [decide_eq_false h, beq_eq_false_iff_ne]; omega
      have hb2 : (e1 && (!pp && t2)) = false := by
        rw [e2']
        cases e1
        · rfl
        · cases pp
          · have : ¬ n = 2 := fun h => hc2 ⟨rfl, rfl, h⟩
            rw [decide_eq_false this]; rfl
          · rfl
      clear hM4 hc2 HM3 e2'
      by_cases h4 : 4096 ≤ n
      · have d4 : decide ((4096 : Int) ≤ (n : Int)) = true := by simp; omega
        have HV := hide (show Q = (q, some 431) by rw [HM4.out, if_pos h4])
        clear h4 HCL hn4
        cases e1 <;> cases t0 <;> cases pp <;> cases t2 <;> first | (exfalso; revert hb1; decide) | (exfalso; revert hb2; decide) | skip
        all_goals
          clear hb1 hb2
          go_wp2_with fail
          go_ret2
          exact ⟨by rw [HV.out]; rfl, by rw [HV.out]; exact ⟨_, fv, bv, HA1.out, HO1.out.1, HO1.out.2, Fresh.refl _ _, Fresh.refl _ _⟩⟩
      · have d4 : decide ((4096 : Int) ≤ (n : Int)) = false := by simp; omega
        have HV := hide (show Q = (q, none) by rw [HM4.out, if_neg h4])
        clear h4 HCL hn4
        cases e1 <;> cases t0 <;> cases pp <;> cases t2 <;> first | (exfalso; revert hb1; decide) | (exfalso; revert hb2; decide) | skip
        all_goals
          clear hb1 hb2
          go_wp2_with fail
          go_ret2
          exact ⟨by rw [HV.out]; rfl, by rw [HV.out]; exact ⟨_, fv, bv, HA1.out, HO1.out.1, HO1.out.2, Fresh.refl _ _, Fresh.refl _ _⟩⟩
end Go.Proofs.YtbiblaeocbcfhaaGreatDoor
