/- http: the values of a name; does the connection stay? -/
import Derived.Test.YtbiblaeocbcfhaaGreatDoorZKeep
namespace Go.Proofs.YtbiblaeocbcfhaaGreatDoor
open Go.RowKit Go.Deep
set_option linter.unusedVariables false
set_option linter.unusedSimpArgs false
set_option maxRecDepth 100000
theorem lit_hostN : bs hostN = ⟨#[104, 111, 115, 116]⟩ := by kernel_rfl
theorem lit_connN : bs connN = ⟨#[99, 111, 110, 110, 101, 99, 116, 105, 111, 110]⟩ := by kernel_rfl
theorem lit_closeN : bs closeN = ⟨#[99, 108, 111, 115, 101]⟩ := by kernel_rfl
theorem lit_aliveN : bs aliveN = ⟨#[107, 101, 101, 112, 45, 97, 108, 105, 118, 101]⟩ := by kernel_rfl
theorem lit_codeN : bs codeN = ⟨#[116, 114, 97, 110, 115, 102, 101, 114, 45, 101, 110, 99, 111, 100, 105, 110, 103]⟩ := by kernel_rfl
theorem lit_lenN : bs lenN = ⟨#[99, 111, 110, 116, 101, 110, 116, 45, 108, 101, 110, 103, 116, 104]⟩ := by kernel_rfl
theorem lit_chunkN : bs chunkN = ⟨#[99, 104, 117, 110, 107, 101, 100]⟩ := by kernel_rfl
theorem getP_map (fs : List (List UInt8 × List UInt8)) (name : List UInt8) : getL (fs.map mkF) (bs name) = (getP fs name).map bs := by
  unfold getL getP
  induction fs with
  | nil => rfl
  | cons f r ih =>
    rw [List.map_cons, List.filter_cons, List.filter_cons]
    have h : isN (bs name) (mkF f) = (f.1 == name) := by unfold isN mkF; exact bsbs _ _
    rw [h]
    cases f.1 == name with
    | true => simp only [if_true, List.map_cons]; rw [ih]; rfl
    | false => simp only [Bool.false_eq_true, if_false]; exact ih
def Small (fs : List (List UInt8 × List UInt8)) : Prop := ∀ f ∈ fs, f.1.length ≤ 5000 ∧ f.2.length ≤ 5000
theorem getP_small (fs : List (List UInt8 × List UInt8)) (name : List UInt8) (h : Small fs) : ∀ x ∈ getP fs name, x.length ≤ 5000 := by
  intro x hx
  unfold getP at hx
  obtain ⟨f, hf, rfl⟩ := List.mem_map.1 hx
  exact (h f (List.mem_filter.1 hf).1).2
theorem getP_len (fs : List (List UInt8 × List UInt8)) (name : List UInt8) : (getP fs name).length ≤ fs.length := by
  unfold getP; rw [List.length_map]; exact List.length_filter_le _ _
theorem get_txt (w : World) (v : Value) (fs : List (List UInt8 × List UInt8)) (name : List UInt8) (hF : FV w v fs) (hn : fs.length ≤ 200) :
    Calls Tryz.prog 31 #[v, .string (bs name)] w fun e w' => ∃ a c, e = .returned (.slice a (getP fs name).length c) ∧ TxtAt w' a (getP fs name) ∧ (∀ k, (Value.slice a (getP fs name).length c).ownBlock = some k → w.heap.size ≤ k) ∧ Below w.heap.size w w' := by
  obtain ⟨a, c, rfl, hf⟩ := hF
  refine (get_any w a (fs.map mkF) fs.length c (bs name) hf (by simp) hn).mono ?_
  rintro e w' ⟨oa, oc, k, hk, rfl, ho, hb⟩
  rw [getP_map] at hk ho
  rw [List.length_map] at hk
  subst hk
  exact ⟨oa, oc, rfl, OwnS.txt ho, fun k hk => (World.ownsRow.lt ho k hk).1, hb⟩
set_option maxHeartbeats 1000000 in
theorem contains_any (l : List (List UInt8)) (a : Option Addr) (n c g : Nat) (wd : List UInt8) (w : World) (hx : TxtAt w a l) (hn : l.length = n) (hn2 : n ≤ 200) (hs : ∀ x ∈ l, x.length ≤ 5000) (hw : wd.length ≤ 5000) (hg : g < w.heap.size) (hc : w.cell? ⟨g, 0, none⟩ = some (.string (bs wd))) :
    Calls Tryz.prog 43 #[.slice a n c, .func (.func 44) #[] #[.pointer (some ⟨g, 0, none⟩)]] w fun e w' => e = .returned (.bool (l.any fun v => sameP v wd)) ∧ Below w.heap.size w w' := by
  have H := hide (index_any l a n c g wd w hx hn hn2 hs hw hg hc)
  obtain ⟨b, hb⟩ : ∃ b, (l.any fun v => sameP v wd) = b := ⟨_, rfl⟩
  rw [hb] at H ⊢
  clear hx hn hn2 hs hw hg hc hb
  go_enter Tryz.func43, Tryz.ntmps43
  go_wp2_with fail
  refine H.out.mono ?_
  rintro e w1 ⟨r, rfl, hr, b1⟩
  have HB := hide b1
  clear b1 H
  go_wp2_with fail
  go_ret
  exact ⟨rfl, HB.out⟩
set_option maxHeartbeats 1000000 in
theorem says_any (l : List (List UInt8)) (a : Option Addr) (n c h : Nat) (wd : List UInt8) (w : World) (hx : TxtAt w a l) (hn : l.length = n) (hn2 : n ≤ 200) (hs : ∀ x ∈ l, x.length ≤ 5000) (hw : wd.length ≤ 5000) (hh : h < w.heap.size) (hc : w.cell? ⟨h, 0, none⟩ = some (.slice a n c)) :
    Calls Tryz.prog 42 #[.string (bs wd), .pointer (some ⟨h, 0, none⟩)] w fun e w' => e = .returned (.bool (l.any fun v => sameP v wd)) ∧ Below w.heap.size w w' := by
  have hal := (Below.refl w.heap.size w).alloc (Nat.le_refl _) (.cells #[.string (bs wd)] 9)
  have hnew : (w.alloc (.cells #[.string (bs wd)] 9)).cell? ⟨w.heap.size, 0, none⟩ = some (.string (bs wd)) := cell_at (heap_alloc_new w _) 0 rfl
  have H := hide (contains_any l a n c w.heap.size wd (w.alloc (.cells #[.string (bs wd)] 9)) (hx.below hal) hn hn2 hs hw (by simp) hnew)
  have hc2 := (hal.cell (p := ⟨h, 0, none⟩) hh).trans hc
  have HA := hide hal
  obtain ⟨b, hb⟩ : ∃ b, (l.any fun v => sameP v wd) = b := ⟨_, rfl⟩
  obtain ⟨W, hW⟩ : ∃ W, bs wd = W := ⟨_, rfl⟩
  rw [hb] at H ⊢
  rw [hW] at H HA hc2 ⊢
  clear hx hn hn2 hs hw hh hb hW hal hnew
  go_enter Tryz.func42, Tryz.ntmps42
  go_wp2_with fail
  refine H.out.mono ?_
  rintro e w1 ⟨rfl, b1⟩
  have HB := hide (HA.out.trans (b1.mono HA.out.size))
  clear b1 H
  go_wp2_with fail
  go_ret
  exact ⟨rfl, HB.out⟩
set_option maxHeartbeats 2000000 in
theorem keeps_any (r : Rq) (fv bv : Value) (w : World) (hF : FV w fv r.fs) (hn : r.fs.length ≤ 200) (hs : Small r.fs) :
    Calls Tryz.prog 32 #[.agg (rqc r fv bv)] w fun e w' => e = .returned (.bool (keepsP r.minor r.fs)) ∧ Below w.heap.size w w' := by
  have hal := (Below.refl w.heap.size w).alloc (Nat.le_refl _) (.cells (rqc r fv bv) 31)
  have hnew := heap_alloc_new w (.cells (rqc r fv bv) 31)
  have HF1 := hF.only (X := fun _ => False) (OnlyS.of hal) (fun _ _ h => h)
  have hG := get_txt (w.alloc (.cells (rqc r fv bv) 31)) fv r.fs connN HF1 hn
  rw [lit_connN] at hG
  have HG := hide hG
  have HAL := hide (And.intro hal hnew)
  have HS := hide (getP_small r.fs connN hs)
  have HL := hide (Nat.le_trans (getP_len r.fs connN) hn)
  have hE : keepsP r.minor r.fs = (!(getP r.fs connN).any (fun v => sameP v closeN) && (r.minor == 1 || (getP r.fs connN).any (fun v => sameP v aliveN))) := rfl
  rw [hE]
  have z2 := cell_at hnew 2 (show (rqc r fv bv)[2]? = some (.int .i64 (r.minor : Int)) from rfl)
  have z3 := cell_at hnew 3 (show (rqc r fv bv)[3]? = some fv from rfl)
  have hmi : (r.minor == 1) = ((r.minor : Int) == 1) := by
    by_cases h : r.minor = 1
    · rw [h]; rfl
    · rw [beq_eq_false_iff_ne.2 h]; symm; rw [beq_eq_false_iff_ne]; omega
  rw [hmi]
  clear hmi hE hF HF1 hG hn hs
  obtain ⟨mi, hmi'⟩ : ∃ x : Int, (r.minor : Int) = x := ⟨_, rfl⟩
  rw [hmi'] at z2 ⊢
  obtain ⟨l, hl⟩ : ∃ l, getP r.fs connN = l := ⟨_, rfl⟩
  rw [hl] at HG HS HL ⊢
  clear hl
  obtain ⟨cs, hcs⟩ : ∃ cs, rqc r fv bv = cs := ⟨_, rfl⟩
  have hz1 : cs.size = 6 := by rw [← hcs]; rfl
  rw [hcs] at hal hnew HG HAL z2 z3 ⊢
  obtain ⟨b1, hb1⟩ : ∃ b, (l.any fun v => sameP v closeN) = b := ⟨_, rfl⟩
  obtain ⟨b2, hb2⟩ : ∃ b, (l.any fun v => sameP v aliveN) = b := ⟨_, rfl⟩
  rw [hb1, hb2]
  obtain ⟨b3, hb3⟩ : ∃ b, (mi == 1) = b := ⟨_, rfl⟩
  rw [hb3]
  have HB12 := hide (And.intro hb1 hb2)
  obtain ⟨S, hS⟩ : ∃ S, w.heap.size = S := ⟨_, rfl⟩
  rw [hS] at z2 z3
  have HSZ := hide hS
  obtain ⟨W, hW⟩ : ∃ W, w.alloc (.cells cs 31) = W := ⟨_, rfl⟩
  rw [hW] at hal hnew HG HAL z2 z3
  have HW := hide hW
  have hnew2 : W.heap[S]? = some (.cells cs 31 (0, 0)) := by rw [← hS]; exact hnew
  have HN := hide hnew2
  have HC2 := hide (And.intro (show cs[2]? = some (.int .i64 mi) from by rw [← hcs, ← hmi']; rfl) hz1)
  have hc3 : ∀ h : 3 < cs.size, cs[3]'h = fv := by rw [← hcs]; intro h; rfl
  have HC3 := hide hc3
  clear hb1 hb2 hal hnew hnew2 hS hW hcs hmi' hc3
  go_enter Tryz.func32, Tryz.ntmps32
  go_wp2_with fail
  rw [HW.out]
  rw [HSZ.out]
  rw [HC3.out]
  refine HG.out.mono ?_
  rintro e w1 ⟨a, c, rfl, ht, _, b1'⟩
  have hB1 := HAL.out.1.trans (b1'.mono HAL.out.1.size)
  have hn1 := below_block b1' HN.out (Nat.le_refl _)
  have hal2 := (Below.refl w1.heap.size w1).alloc (Nat.le_refl _) (.cells #[.slice a l.length c] 58)
  have hnew2 : (w1.alloc (.cells #[.slice a l.length c] 58)).cell? ⟨w1.heap.size, 0, none⟩ = some (.slice a l.length c) := cell_at (heap_alloc_new w1 _) 0 rfl
  have y2 : (w1.alloc (.cells #[.slice a l.length c] 58)).cell? ⟨S, 2, none⟩ = some (.int .i64 mi) := (hal2.cell (p := ⟨S, 2, none⟩) (lt_of_block hn1)).trans (cell_at hn1 2 HC2.out.1)
  have HS1 := hide (fun (wd : List UInt8) (hw : wd.length ≤ 5000) (V : World) (hV : Below (w1.alloc (.cells #[.slice a l.length c] 58)).heap.size (w1.alloc (.cells #[.slice a l.length c] 58)) V) => says_any l a l.length c w1.heap.size wd V ((ht.below hal2).below hV) rfl HL.out HS.out hw (Nat.lt_of_lt_of_le (by simp) hV.size) ((hV.cell (p := ⟨w1.heap.size, 0, none⟩) (by simp)).trans hnew2))
  have HSc := hide (HS1.out closeN (by decide))
  have HSa := hide (HS1.out aliveN (by decide))
  rw [lit_closeN] at HSc
  rw [lit_aliveN] at HSa
  have HB2 := hide (hB1.alloc hB1.size (.cells #[.slice a l.length c] 58))
  clear HS1 HG b1' hB1 ht hn1 hal2 hnew2 z2 z3
  go_wp2_with fail
  refine (HSc.out _ (Below.refl _ _)).mono ?_
  rintro e w3 ⟨rfl, b3'⟩
  have HB3 := hide (HB2.out.trans (b3'.mono HB2.out.size))
  rw [HB12.out.1]
  have x2 := (b3'.cell (p := ⟨S, 2, none⟩) (World.block_lt_of_cell? _ _ y2)).trans y2
  have HK := hide b3'
  clear b3' y2
  cases b1 with
  | true =>
    go_wp2_with fail
    go_ret
    exact ⟨rfl, HB3.out⟩
  | false =>
    cases b3 with
    | true =>
      go_wp2_with fail
      go_ret
      exact ⟨rfl, HB3.out⟩
    | false =>
      go_wp2_with fail
      refine (HSa.out _ HK.out).mono ?_
      rintro e w4 ⟨rfl, b4⟩
      have HB4 := hide (HB3.out.trans (b4.mono HB3.out.size))
      rw [HB12.out.2]
      clear b4
      go_wp2_with fail
      go_ret
      exact ⟨rfl, HB4.out⟩
end Go.Proofs.YtbiblaeocbcfhaaGreatDoor
