/- http: the reader's small steps: a byte behind the lines, behind the body, and so on. -/
import Derived.Test.YtbiblaeocbcfhaaGreatDoorZPar
import Derived.Deep.RegionWith
import Derived.OwnWalk
namespace Go.Proofs.YtbiblaeocbcfhaaGreatDoor
open Go.RowKit Go.Deep
set_option linter.unusedVariables false
set_option linter.unusedSimpArgs false
set_option maxRecDepth 100000
/-- What a step leaves: the reader, and nothing but its own blocks turned. -/
def Left (B : Nat) (tv fv bv : Value) (w : World) (p' : PM) (w' : World) : Prop := ∃ tv' fv' bv', At w' B p' tv' fv' bv' ∧ OnlyS (Own B tv bv) w w' ∧ Fresh w tv tv' ∧ Fresh w fv fv' ∧ Fresh w bv bv'
theorem u8cell {w : World} {g n c : Nat} {l : List UInt8} (h : U8 w (.slice (some ⟨g, 0, none⟩) n c) l) (j : Nat) (b : UInt8) (hj : l[j]? = some b) : w.cell? ⟨g, j, none⟩ = some (.int .u8 (b.toNat : Int)) := by
  obtain ⟨a, c2, e⟩ := h.form
  have e2 : n = l.length := by injection e
  subst e2
  have hlt := (List.getElem?_eq_some_iff.1 hj).1
  rw [World.ownsRow.cellAt h j (by omega)]
  unfold u8V
  rw [List.getElem?_map, hj]; rfl
set_option maxHeartbeats 2000000 in
theorem add_any (B : Nat) (p : PM) (tv fv bv : Value) (c : UInt8) (w : World) (hA : At w B p tv fv bv) (hl : p.line ≤ p.text.length) (ht : p.text.length ≤ 100000) :
    Calls Tryz.prog 18 #[.pointer (some ⟨B, 0, none⟩), .int .u8 (c.toNat : Int)] w fun e w' => e = .returned (.bool (addM p c).2) ∧ ∃ tv', At w' B (addM p c).1 tv' fv bv ∧ OnlyS (Own B tv bv) w w' ∧ Fresh w tv tv' := by
  obtain ⟨a, cp, rfl⟩ := hA.tx.form
  obtain ⟨n, hn⟩ : ∃ n, p.text.length = n := ⟨_, rfl⟩
  rw [hn] at hA hl ht ⊢
  obtain ⟨a', c', w1, hrun, o1, b1, f1⟩ := pushU w a n cp p.text hA.tx hn (c.toNat : Int) c rfl (by omega)
  obtain ⟨hA2, hO2⟩ := hA.text (p' := { p with text := p.text ++ [c] }) b1 o1 f1 rfl rfl rfl
  have z1 := cell_at hA.blk 1 rfl
  have hb1 := b1.heap hA.blk (fun e => hA.tB e)
  have y1 := cell_at hb1 1 rfl
  have yf := free_at hb1
  have HRUN := hide hrun
  have HA2 := hide hA2
  have HO2 := hide hO2
  have HF1 := hide f1
  have HL := hide (And.intro hn (And.intro hl ht))
  have HO1 := hide o1
  have hcl := c.toNat_lt
  have hci : c.toNat = 10 ↔ c = 10 := ⟨fun h => UInt8.toNat_inj.1 h, fun h => by rw [h]; rfl⟩
  by_cases hc : c = 10
  rotate_left
  · have hE : addM p c = ({ p with text := p.text ++ [c] }, false) := by unfold addM; rw [if_pos hc]
    rw [hE]
    obtain ⟨x, hx⟩ : ∃ x, c.toNat = x := ⟨_, rfl⟩
    rw [hx] at hci hcl HRUN ⊢
    have d1 : ((x : Int) != 10) = true := by have : x ≠ 10 := fun h => hc (hci.1 h); simp; omega
    clear hE hc hci hA hA2 hO2 hrun o1 b1 f1 hn hl ht hx hcl
    go_enter Tryz.func18, Tryz.ntmps18
    go_wp2_with (at_builtin; refine Lib.wpList_append_run _ rfl _ _ _ _ rfl _ _ rfl rfl _ _ HRUN.out ?_)
    go_ret
    exact ⟨rfl, _, HA2.out, HO2.out, HF1.out⟩
  · subst hc
    obtain ⟨g, cap, he, _, hg⟩ := World.ownsRow.form o1 (by simp)
    obtain ⟨rfl, -, rfl⟩ : a' = some ⟨g, 0, none⟩ ∧ n = p.text.length ∧ c' = cap := by simpa using he
    have hcap : n + 1 ≤ c' := by
      rcases o1.2 with ⟨h, _⟩ | ⟨g2, cap2, cur, h, _, _, h4, _⟩
      · cases h
      · have : c' = cap2 := by injection h
        simp at h4; omega
    obtain ⟨k, hk⟩ : ∃ k, p.line = k := ⟨_, rfl⟩
    obtain ⟨tl, htl⟩ : ∃ tl, p.text ++ [10] = tl := ⟨_, rfl⟩
    have htn : tl.length = n + 1 := by rw [← htl, List.length_append, hn]; rfl
    have hE : addM p 10 = ({ p with text := tl, line := n + 1 }, decide (n + 1 - k = 1) || (decide (n + 1 - k = 2) && (tl.drop k).head? == some 13)) := by
      unfold addM
      rw [if_neg (by decide), htl, htn, hk, List.length_drop, htn]
    rw [hE]
    rw [htl] at HO1 HA2
    rw [hk] at hl
    have HK := hide (And.intro hk (And.intro htn (And.intro hcap hl)))
    clear hn ht
    obtain ⟨m, hm⟩ : ∃ m, n + 1 - k = m := ⟨_, rfl⟩
    rw [hm]
    have HM := hide hm
    obtain ⟨R, hR⟩ : ∃ R, (decide (m = 1) || (decide (m = 2) && (tl.drop k).head? == some 13)) = R := ⟨_, rfl⟩
    rw [hR]
    have HR := hide hR
    clear hR
    have z2 : (pcs { p with text := p.text ++ [10] } (.slice (some ⟨g, 0, none⟩) (n + 1) c') fv bv)[2]? = some (.int .i64 (k : Int)) := by rw [← hk]; rfl
    clear hE hci hA hO2 hrun o1 b1 f1 he hg
    go_enter Tryz.func18, Tryz.ntmps18
    go_wp2_with (at_builtin; refine Lib.wpList_append_run _ rfl _ _ _ _ rfl _ _ rfl rfl _ _ HRUN.out ?_)
    have x1 : (w1.setCell ⟨B, 1, none⟩ (.slice (some ⟨g, 0, none⟩) (n + 1) c')).cell? ⟨B, 1, none⟩ = some (.slice (some ⟨g, 0, none⟩) (n + 1) c') := cell_at hA2.blk 1 rfl
    have x2 := cell_at hA2.blk 2 z2
    have xf := free_at hA2.blk
    have hO1 := HO1.out.only ((OnlyS.refl (fun k => k = B) w1).setCell B 1 (.slice (some ⟨g, 0, none⟩) (n + 1) c') (.inl rfl)) (fun k' hk' e => HA2.out.tB (e ▸ hk'))
    obtain ⟨w2, hw2⟩ : ∃ W, w1.setCell ⟨B, 1, none⟩ (.slice (some ⟨g, 0, none⟩) (n + 1) c') = W := ⟨_, rfl⟩
    have HA3 := HA2.out
    have HO3 := HO2.out
    rw [hw2] at x1 x2 xf hO1 HA3 HO3 ⊢
    have hA5 := (HA3.below (Below.refl w2.heap.size w2).drew).set (p' := { p with text := tl, line := n + 1 }) 2 (.int .i64 ((n + 1 : Nat) : Int)) rfl rfl rfl rfl
    have hO5 : OnlyS (Own B (.slice a n cp) bv) w (w2.drew.setCell ⟨B, 2, none⟩ (.int .i64 ((n + 1 : Nat) : Int))) := HO3.drew.setCell B 2 _ (.inl (.inl rfl))
    have hU5 := (hO1.only (OnlyS.refl (fun _ => False) w2).drew (fun _ _ h => h)).only ((OnlyS.refl (fun k => k = B) w2.drew).setCell B 2 (.int .i64 ((n + 1 : Nat) : Int)) (.inl rfl)) (fun k' hk' e => HA3.tB (e ▸ hk'))
    rw [Int.natCast_add, Int.natCast_one] at hA5 hO5 hU5
    have HA5 := hide hA5
    have HO5 := hide hO5
    have HU5 := hide hU5
    have hk4 : (0 : Int) ≤ (k : Int) := by omega
    have hk5 : (k : Int) ≤ (n : Int) := by omega
    have hn5 : (n : Int) ≤ 100000 := by have := HL.out.2.2; omega
    have hc5 : (n : Int) + 1 ≤ (c' : Int) := by omega
    have hm1 : 1 ≤ m := by omega
    clear hw2 HA2 HO2 hA2 HA3 HO3 hO1 z1 hb1 y1 yf z2 hl hcap hk htl htn HO1 hA5 hO5 hU5
    by_cases h1 : m = 1
    · have e1 : ((m : Int) == 1) = true := by simp; omega
      have HV := hide (show R = true by rw [← HR.out, decide_eq_true h1]; rfl)
      clear h1 hm1
      go_region_with fail
      all_goals
        go_wp2_with fail
        go_ret
        exact ⟨by rw [HV.out]; rfl, _, HA5.out, HO5.out, HF1.out⟩
    · have e1 : ((m : Int) == 1) = false := by simp; omega
      have hR2 := HR.out
      rw [decide_eq_false h1, Bool.false_or] at hR2
      by_cases h2 : m = 2
      · have e2 : ((m : Int) == 2) = true := by simp; omega
        rw [decide_eq_true h2, Bool.true_and] at hR2
        obtain ⟨b, hb⟩ : ∃ b, tl[k]? = some b := ⟨_, List.getElem?_eq_getElem (by have := HK.out; omega)⟩
        have hd : ((tl.drop k).head? == some 13) = (b == 13) := by rw [List.head?_drop, hb]; rfl
        rw [hd] at hR2
        have hcell := u8cell HU5.out k b hb
        have hbb : (b == 13) = ((b.toNat : Int) == 13) := by
          by_cases h : b = 13
          · subst h; rfl
          · rw [beq_eq_false_iff_ne.2 h]; symm; rw [beq_eq_false_iff_ne]; intro e; exact h (UInt8.toNat_inj.1 (by have : b.toNat = 13 := by omega
                                                                                                                  rw [this]; rfl))
        rw [hbb] at hR2
        obtain ⟨x, hx⟩ : ∃ x, b.toNat = x := ⟨_, rfl⟩
        rw [hx] at hcell hR2
        have hcell2 : (w2.setCell ⟨B, 2, none⟩ (.int .i64 ((n : Int) + 1))).cell? ⟨g, k, none⟩ = some (.int .u8 (x : Int)) := hcell
        clear hcell
        have HV := hide hR2.symm
        clear hR2
        obtain ⟨q, hq⟩ : ∃ q, ((x : Int) == 13) = q := ⟨_, rfl⟩
        rw [hq] at HV
        have hm5 : (0 : Int) < (m : Int) := by omega
        clear h1 h2 hm1 hb hd hbb hx
        go_region_with fail
        all_goals
          go_wp2_with fail
          go_ret
          exact ⟨by rw [HV.out]; rfl, _, HA5.out, HO5.out, HF1.out⟩
      · have e2 : ((m : Int) == 2) = false := by simp; omega
        rw [decide_eq_false h2, Bool.false_and] at hR2
        have HV := hide hR2.symm
        clear hR2
        clear h1 h2 hm1
        go_region_with fail
        all_goals
          go_wp2_with fail
          go_ret
          exact ⟨by rw [HV.out]; rfl, _, HA5.out, HO5.out, HF1.out⟩
end Go.Proofs.YtbiblaeocbcfhaaGreatDoor
