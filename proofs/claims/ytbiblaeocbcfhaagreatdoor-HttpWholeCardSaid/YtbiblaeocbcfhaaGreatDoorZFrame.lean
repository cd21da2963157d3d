/- http: how a body comes. -/
import Derived.Test.YtbiblaeocbcfhaaGreatDoorZFr
import Derived.Deep.RegionWith
namespace Go.Proofs.YtbiblaeocbcfhaaGreatDoor
open Go.RowKit Go.Deep
set_option linter.unusedVariables false
set_option linter.unusedSimpArgs false
set_option maxRecDepth 100000
/-- The two values that are asked for first. -/
structure Two (W : World) (r : Rq) (w : World) (a1 a2 : Option Addr) : Prop where
  b : Below W.heap.size W w
  c : TxtAt w a1 (getP r.fs codeN)
  l : TxtAt w a2 (getP r.fs lenN)
set_option maxHeartbeats 4000000 in
theorem frame_any (r : Rq) (fv bv : Value) (w : World) (hE : Env w) (hF : FV w fv r.fs) (hn : r.fs.length ≤ 200) (hs : Small r.fs) :
    Calls Tryz.prog 24 #[.agg (rqc r fv bv)] w fun e w' => e = .returned (.tuple #[.bool (frameR r).1, .int .i64 ((frameR r).2.1 : Int), .int .i64 ((frameR r).2.2 : Int)]) ∧ Below w.heap.size w w' := by
  have hal := (Below.refl w.heap.size w).alloc (Nat.le_refl _) (.cells (rqc r fv bv) 31)
  have hnew := heap_alloc_new w (.cells (rqc r fv bv) 31)
  have hG := fun (name : List UInt8) (V : World) (hV : Below w.heap.size w V) => get_txt V fv r.fs name (hF.only (X := fun _ => False) (OnlyS.of hV) (fun _ _ h => h)) hn
  have hgc := hG codeN
  have hgl := hG lenN
  rw [lit_codeN] at hgc
  rw [lit_lenN] at hgl
  have sc := getP_small r.fs codeN hs
  have sl := getP_small r.fs lenN hs
  have hcod := fun (x : List UInt8) (cl ll : List (List UInt8)) (a1 a2 : Option Addr) (n1 n2 c1 c2 : Nat) (V : World) (h1 : TxtAt V a1 (x :: cl)) (h2 : cl.length + 1 = n1) (h3 : ll.length = n2) (h4 : x.length ≤ 5000) => coding_any r fv bv x cl ll a1 a2 n1 n2 c1 c2 V h1 h2 h3 h4
  have hHE := fun (V : World) (hV : Below w.heap.size w V) => hE.below hV (Nat.le_refl _)
  have HCOD := hide hcod
  obtain ⟨me, hme⟩ : ∃ me, bs r.me = me := ⟨_, rfl⟩
  have hpost := eqb r.me POST
  rw [hme] at hpost
  obtain ⟨cs, hcs⟩ : ∃ cs, rqc r fv bv = cs := ⟨_, rfl⟩
  have hlt0 : 0 < cs.size := by rw [← hcs]; show 0 < 6; omega
  have hlt3 : 3 < cs.size := by rw [← hcs]; show 3 < 6; omega
  have hc0 : cs[0]'hlt0 = .string me := by simp only [← hcs, ← hme]; rfl
  have hc3 : cs[3]'hlt3 = fv := by simp only [← hcs]; rfl
  have hsz : cs.size = 6 := by rw [← hcs]; rfl
  rw [hcs] at hal hnew HCOD ⊢
  obtain ⟨S, hS⟩ : ∃ S, w.heap.size = S := ⟨_, rfl⟩
  obtain ⟨W, hW⟩ : ∃ W, w.alloc (.cells cs 31) = W := ⟨_, rfl⟩
  rw [hW] at hal hnew
  rw [hS] at hnew
  have HGC := hide (fun (V : World) (hV : Below W.heap.size W V) => hgc V (hal.trans (hV.mono hal.size)))
  have HGL := hide (fun (V : World) (hV : Below W.heap.size W V) => hgl V (hal.trans (hV.mono hal.size)))
  have HHE := hide (fun (V : World) (hV : Below W.heap.size W V) => hHE V (hal.trans (hV.mono hal.size)))
  have z0 := cell_at hnew 0 (by rw [Array.getElem?_eq_getElem hlt0, hc0])
  have z3 := cell_at hnew 3 (by rw [Array.getElem?_eq_getElem hlt3, hc3])
  have zf := free_at hnew
  have HW := hide (And.intro hW (And.intro hS (And.intro hal hnew)))
  have HX := hide (And.intro sc (And.intro sl hpost))
  have hR : frameR r = if 0 < (getP r.fs codeN).length then (true, 0, codingS r.minor (getP r.fs codeN) (getP r.fs lenN)) else if 0 < (getP r.fs lenN).length then (false, (lengthS (getP r.fs lenN)).1, (lengthS (getP r.fs lenN)).2) else if r.me = POST then (false, 0, 411) else (false, 0, 0) := rfl
  have HR := hide hR
  obtain ⟨R, hRR⟩ : ∃ R, frameR r = R := ⟨_, rfl⟩
  rw [hRR] at HR ⊢
  obtain ⟨nc, hnc⟩ : ∃ n, (getP r.fs codeN).length = n := ⟨_, rfl⟩
  obtain ⟨nl, hnl⟩ : ∃ n, (getP r.fs lenN).length = n := ⟨_, rfl⟩
  rw [hnc] at HGC HR
  rw [hnl] at HGL HR
  have HNN := hide (And.intro hnc hnl)
  clear hG hgc hgl sc sl hcod hE hF hn hs hme hcs hW hS hnc hnl hHE hR hRR hpost hal hnew
  go_enter Tryz.func24, Tryz.ntmps24
  go_wp2_with fail
  rw [HW.out.1, HW.out.2.1]
  have HQ0 := hide (Below.refl W.heap.size W)
  go_region_with (go_at_call 31; first
    | ((with_reducible refine (HGC.out _ HQ1).mono ?_); rintro e wc ⟨a1, c1, rfl, tc, _, bc⟩; have HQ2 := HQ1.trans (bc.mono HQ1.size); have HT := hide (show Two W r wc a1 a2 from ⟨HQ2, tc, tl.below bc⟩))
    | ((with_reducible refine (HGL.out _ HQ1).mono ?_); rintro e wl ⟨a2, c2, rfl, tl, _, bl⟩; have HQ2 := HQ1.trans (bl.mono HQ1.size); have HT := hide (show Two W r wl a1 a2 from ⟨HQ2, tc.below bl, tl⟩))
    | ((with_reducible refine (HGC.out _ HQ0.out.drew).mono ?_); rintro e wc ⟨a1, c1, rfl, tc, _, bc⟩; have HQ1 := HQ0.out.drew.trans (bc.mono HQ0.out.drew.size); have y3 := (bc.cell (p := ⟨S, 3, none⟩) (lt_of_block HW.out.2.2.2)).trans z3)
    | ((with_reducible refine (HGL.out _ HQ0.out.drew).mono ?_); rintro e wl ⟨a2, c2, rfl, tl, _, bl⟩; have HQ1 := HQ0.out.drew.trans (bl.mono HQ0.out.drew.size); have y3 := (bl.cell (p := ⟨S, 3, none⟩) (lt_of_block HW.out.2.2.2)).trans z3))
  all_goals
    have HSB := hide (below_block HT.out.b HW.out.2.2.2 (Nat.le_refl _))
    have x0 := cell_at HSB.out 0 (by rw [Array.getElem?_eq_getElem hlt0, hc0])
    have xf := free_at HSB.out
    have HBW := hide (HW.out.2.2.1.trans (HT.out.b.mono HW.out.2.2.1.size))
    have HHE2 := hide (HHE.out _ HT.out.b)
    clear HGC HGL HQ0 HQ1 HQ2 HHE z0 z3 y3
    rcases hcl : getP r.fs codeN with _ | ⟨x, cl⟩
    · have hnc : nc = 0 := by rw [← HNN.out.1, hcl]; rfl
      have d1 : decide (0 < nc) = false := by simp; omega
      rcases hll : getP r.fs lenN with _ | ⟨y, ll⟩
      · have hnl : nl = 0 := by rw [← HNN.out.2, hll]; rfl
        have d2 : decide (0 < nl) = false := by simp; omega
        obtain ⟨pb, hpb⟩ : ∃ b, (me.toList == [80, 79, 83, 84]) = b := ⟨_, rfl⟩
        have HV := hide (show R = (false, 0, if pb then 411 else 0) by
          rw [HR.out, if_neg (by omega), if_neg (by omega)]
          have h := HX.out.2.2
          rw [show POST = [80, 79, 83, 84] from rfl, hpb] at h
          rw [show POST = [80, 79, 83, 84] from rfl]
          by_cases hp : r.me = [80, 79, 83, 84]
          · rw [if_pos hp, h, decide_eq_true hp]; rfl
          · rw [if_neg hp, h, decide_eq_false hp]; rfl)
        clear hcl hll hnc hnl
        cases pb
        all_goals
          go_wp2_with fail
          go_ret3
          exact ⟨by rw [HV.out]; rfl, HBW.out⟩
      · have HL := hide (fun c1 => length_any y ll _ nl c1 _ HHE2.out (by have h := HT.out.l; rw [hll] at h; exact h) (by rw [← HNN.out.2, hll]; rfl) (HX.out.2.1 y (by rw [hll]; simp)))
        have d2 : decide (0 < nl) = true := by have := HNN.out.2; rw [hll] at this; simp at this; simp; omega
        have HV := hide (show R = (false, (lengthS (y :: ll)).1, (lengthS (y :: ll)).2) by rw [HR.out, if_neg (by omega), if_pos (of_decide_eq_true d2), hll])
        obtain ⟨q1, hq1⟩ : ∃ q, (lengthS (y :: ll)).1 = q := ⟨_, rfl⟩
        obtain ⟨q2, hq2⟩ : ∃ q, (lengthS (y :: ll)).2 = q := ⟨_, rfl⟩
        rw [hq1, hq2] at HL HV
        clear hcl hll hnc hq1 hq2
        go_wp2_with fail
        refine (HL.out _).mono ?_
        rintro e w5 ⟨rfl, b5⟩
        have HB5 := hide (HBW.out.trans (b5.mono HBW.out.size))
        clear b5 HL
        go_wp2_with fail
        go_ret3
        exact ⟨by rw [HV.out]; rfl, HB5.out⟩
    · have d1 : decide (0 < nc) = true := by have := HNN.out.1; rw [hcl] at this; simp at this; simp; omega
      have HL := hide (fun a2' c1 c2 => HCOD.out x cl (getP r.fs lenN) _ a2' nc nl c1 c2 _ (by have h := HT.out.c; rw [hcl] at h; exact h) (by rw [← HNN.out.1, hcl]; rfl) HNN.out.2 (HX.out.1 x (by rw [hcl]; simp)))
      have HV := hide (show R = (true, 0, codingS r.minor (x :: cl) (getP r.fs lenN)) by rw [HR.out, if_pos (of_decide_eq_true d1), hcl])
      obtain ⟨q1, hq1⟩ : ∃ q, codingS r.minor (x :: cl) (getP r.fs lenN) = q := ⟨_, rfl⟩
      rw [hq1] at HL HV
      clear hcl hq1
      go_wp2_with (refine ld_whole (o := ⟨some 17, _, _, _, _, _⟩) 31 (.tmp 1) rfl (by rfl) S rfl cs 31 HSB.out Tryz.underlying31 (by rw [hsz]; kernel_rfl) ?_; try simp only [Act.put, List.setIfInBounds_toArray, List.set_cons_zero, List.set_cons_succ])
      refine (HL.out _ _ _).mono ?_
      rintro e w5 ⟨rfl, b5⟩
      have HB5 := hide (HBW.out.trans (b5.mono HBW.out.size))
      clear b5 HL
      go_wp2_with fail
      go_ret3
      exact ⟨by rw [HV.out]; rfl, HB5.out⟩
end Go.Proofs.YtbiblaeocbcfhaaGreatDoor
