/- neigh: NeighAnswers, its cases. -/
import Derived.Test.YtbibobjkclgogaaNSp
import Derived.Test.YtbibobjkclgogaaCCheckR
import Derived.Test.YtbibobjkclgogaaNEq
namespace Go.Proofs.Ytbibobjkclgogaa
open Go.RowKit Go.Deep
set_option linter.unusedVariables false
set_option linter.unusedSimpArgs false
set_option maxRecDepth 100000
set_option maxHeartbeats 4000000 in
theorem na_yf (cs : Array Value) (c : Cfg) (a : Option Addr) (n cap : Nat) (fs : List Fwd) (g : Nat → Int) (x : AR) (w : World) (hca : CfA cs c a n cap) (hcn : CfN cs c.lan c.nb g) (hco : CfOk c) (hfw : FwAt w a fs) (hfl : fs.length = n) (hff : ∀ f ∈ fs, FwOk f) (hfn : n ≤ 9223372036854775807) (hfm : n ≤ cap) (hx : AROk x) (hb : n ≤ 40) (hck : checkB c fs = true) (hbel : belB c.lan c.nb x = true) (hp : (x.op == 1) = true) (hq : ((x.d : Int) == (c.lan : Int)) = false) :
    Calls Try.prog 5 #[.agg cs, .agg #[.int .u16 x.op, .int .u8 (x.f0 : Int), .int .u8 x.f1, .int .u8 x.f2, .int .u8 x.f3, .int .u8 x.f4, .int .u8 x.f5, .int .u8 x.t0, .int .u8 x.t1, .int .u8 x.t2, .int .u8 x.t3, .int .u8 x.t4, .int .u8 x.t5, .int .u32 (x.s : Int), .int .u32 (x.d : Int)]] w fun e w' => e = .returned (.bool true) ∧ Below w.heap.size w w' := by
  have hho : hostB c.lan c.nb x.s = true ∧ x.f0 % 2 = 0 := by unfold belB at hbel; simpa using hbel
  have hz : bits .and .u8 (x.f0 : Int) 1 = 0 := by rw [and1_u8 _ hx.f0, hho.2]; rfl
  replace hho := hho.1
  have hask : askB c.lan x = false := by unfold askB; rw [hp, hq]; rfl
  obtain ⟨W1, hW1⟩ : ∃ W, w.alloc (.cells cs 28) = W := ⟨_, rfl⟩
  have q1 : W1.heap[w.heap.size]? = some (.cells cs 28 (0, 0)) := by rw [← hW1]; exact heap_alloc_new _ _
  have b1 : Below w.heap.size w W1 := by rw [← hW1]; exact (Below.refl _ _).alloc (Nat.le_refl _) _
  have z1 : W1.heap.size = w.heap.size + 1 := by rw [← hW1]; simp
  obtain ⟨W, hW⟩ : ∃ W, W1.alloc (.cells #[.int .u16 x.op, .int .u8 (x.f0 : Int), .int .u8 x.f1, .int .u8 x.f2, .int .u8 x.f3, .int .u8 x.f4, .int .u8 x.f5, .int .u8 x.t0, .int .u8 x.t1, .int .u8 x.t2, .int .u8 x.t3, .int .u8 x.t4, .int .u8 x.t5, .int .u32 (x.s : Int), .int .u32 (x.d : Int)] 41) = W := ⟨_, rfl⟩
  have b2 : Below W1.heap.size W1 W := by rw [← hW]; exact (Below.refl _ _).alloc (Nat.le_refl _) _
  have q2 : W.heap[W1.heap.size]? = some (.cells #[.int .u16 x.op, .int .u8 (x.f0 : Int), .int .u8 x.f1, .int .u8 x.f2, .int .u8 x.f3, .int .u8 x.f4, .int .u8 x.f5, .int .u8 x.t0, .int .u8 x.t1, .int .u8 x.t2, .int .u8 x.t3, .int .u8 x.t4, .int .u8 x.t5, .int .u32 (x.s : Int), .int .u32 (x.d : Int)] 41 (0, 0)) := by rw [← hW]; exact heap_alloc_new _ _
  have q3 := below_block b2 q1 (Nat.le_refl _)
  have bW := b1.trans (b2.mono (by rw [z1]; omega))
  rw [← hW1] at hW
  rw [z1] at q2
  obtain ⟨B, hB⟩ : ∃ P, w.heap.size = P := ⟨_, rfl⟩
  obtain ⟨A, hA⟩ : ∃ N, w.heap.size + 1 = N := ⟨_, rfl⟩
  rw [hA] at q2
  rw [hB] at q3
  have HE := hide (And.intro hW (And.intro hA hB))
  have HB := hide bW
  have HC := hide q3
  have HA := hide q2
  have HSZ := hide hca.size
  have HSP := hide (speaks_any W)
  have HCF := hide hcn
  have HXO := hide hx
  have HLN := hide hco.lan
  have HCK := hide (fun (V : World) (hV : Below w.heap.size w V) => checkR_any cs c a fs n cap V hca hco (hfw.below hV (Nat.le_refl _)) hfl hff hfn hfm)
  have HFW := hide (fun (z : World) (hz : z.heap[B]? = some (.cells cs 28 (0, 0))) => (show z.cell? ⟨B, 25, none⟩ = some (.slice a n cap) from (cells_all hz 25).trans hca.fw))
  have HCC := hide (fun (z : World) (hz : z.heap[B]? = some (.cells cs 28 (0, 0))) => (show z.cell? ⟨B, 0, none⟩ = some (.int .u8 (g 0)) ∧ z.cell? ⟨B, 1, none⟩ = some (.int .u8 (g 1)) ∧ z.cell? ⟨B, 2, none⟩ = some (.int .u8 (g 2)) ∧ z.cell? ⟨B, 3, none⟩ = some (.int .u8 (g 3)) ∧ z.cell? ⟨B, 4, none⟩ = some (.int .u8 (g 4)) ∧ z.cell? ⟨B, 5, none⟩ = some (.int .u8 (g 5)) ∧ z.cell? ⟨B, 18, none⟩ = some (.int .u32 (c.lan : Int)) from
    ⟨(cells_all hz 0).trans HCF.out.g0, (cells_all hz 1).trans HCF.out.g1, (cells_all hz 2).trans HCF.out.g2, (cells_all hz 3).trans HCF.out.g3, (cells_all hz 4).trans HCF.out.g4, (cells_all hz 5).trans HCF.out.g5, (cells_all hz 18).trans HCF.out.h.lan⟩))
  clear hW1 q1 b1 z1 hW b2 q2 q3 bW hB hA hca hcn hco hfw hff hx
  go_enter Try.func5, Try.ntmps5
  go_upto_region 1 with (fail)
  rw [HE.out.1]
  rw [HE.out.2.1]
  rw [HE.out.2.2]
  go_wp2_with fail
  refine HSP.out.mono ?_
  rintro e w3 ⟨rfl, b3⟩
  have HW3 := hide (HB.out.trans (b3.mono HB.out.size))
  have HCX := hide (below_block b3 HC.out (Nat.le_refl _))
  have HAX := hide (below_block b3 HA.out (Nat.le_refl _))
  clear b3 HSP HC HA HB
  have f0 := HFW.out w3 HCX.out
  have d1 : decide ((40 : Int) < (n : Int)) = false := by simp; omega
  have HCK3 := hide (HCK.out w3 HW3.out)
  rw [hck] at HCK3
  have HCK4 := hide (show Calls Try.prog 15 #[.agg cs] w3 fun e w' => e = .returned (.int .i64 0) ∧ Below w3.heap.size w3 w' from HCK3.out)
  clear HCK HCK3 hck
  go_wp2_with ((refine ld_cfg (o := ⟨some 21, _, _, _, _, _⟩) (.tmp 2) rfl (by rfl) B rfl cs HCX.out HSZ.out ?_; try simp only [Act.put, List.setIfInBounds_toArray, List.set_cons_zero, List.set_cons_succ]))
  refine HCK4.out.mono ?_
  rintro e w4 ⟨rfl, b4⟩
  have HW4 := hide (HW3.out.trans (b4.mono HW3.out.size))
  have HCY := hide (below_block b4 HCX.out (Nat.le_refl _))
  have HAY := hide (below_block b4 HAX.out (Nat.le_refl _))
  clear b4 HCK4 HW3 HCX HAX f0
  have HNW := hide (new_any w4)
  go_wp2_with fail
  refine HNW.out.mono ?_
  rintro e w5 ⟨k, rfl, hcat, b5⟩
  have HCT := hide hcat
  have HK5 := hide (HW4.out.trans (b5.mono HW4.out.size))
  have HSI := hide b5.size
  have HCX := hide (below_block b5 HCY.out (Nat.le_refl _))
  have HAX := hide (below_block b5 HAY.out (Nat.le_refl _))
  have HHE := hide (show Calls Try.prog 16 #[.pointer (some ⟨k, 0, none⟩), .agg cs, .agg #[.int .u16 x.op, .int .u8 (x.f0 : Int), .int .u8 x.f1, .int .u8 x.f2, .int .u8 x.f3, .int .u8 x.f4, .int .u8 x.f5, .int .u8 x.t0, .int .u8 x.t1, .int .u8 x.t2, .int .u8 x.t3, .int .u8 x.t4, .int .u8 x.t5, .int .u32 (x.s : Int), .int .u32 (x.d : Int)], .int .u64 5] w5 fun e w' => ∃ a' c', e = .returned (.tuple #[.agg #[.int .u16 0, .int .u8 0, .int .u8 0, .int .u8 0, .int .u8 0, .int .u8 0, .int .u8 0, .int .u8 0, .int .u8 0, .int .u8 0, .int .u8 0, .int .u8 0, .int .u8 0, .int .u32 0, .int .u32 0], .bool false, .slice a' 0 c']) ∧ CAt w' w4.heap.size k (insL id (x.s : Int) { (arNH x) with e := laterI 5 } []) [] ∧ Below w4.heap.size w5 w' ∧ KO w5 w' from
    (hear_any w4.heap.size k [] _ _ cs c.lan c.nb g x 5 w5 hcat b5.size HCF.out HLN.out HXO.out (fun V hV hKV => learn_room w4.heap.size k [] [] (x.s : Int) (arNH x) 5 V hV hKV (by simp) (by decide) (by decide) (by decide) (.inr (by decide)))).mono fun e w' h => by
      rcases h with ⟨h1, h2, h3, h4, h5⟩ | ⟨h1, a', n', c', h2, a4, n4, c4, h3, h4, _, h6, _, h8, h9⟩
      · rw [hbel] at h1; cases h1
      · rw [hask] at h2
        injection h3 with h3
        injection h3 with _ h3 _
        refine ⟨a', c', ?_, h6, h8, h9⟩
        rw [h2, h3, h4]
        rfl)
  clear hcat b5 HNW HCY HAY
  obtain ⟨a0, a1, a2, a3, a4, a5, a6, a7, a8, a9, a10, a11, a12, a13, a14, af⟩ := cells15 HAX.out
  go_wp2_with ((refine ld_cfg (o := ⟨some 30, _, _, _, _, _⟩) (.tmp 2) rfl (by rfl) B rfl cs HCX.out HSZ.out ?_; try simp only [Act.put, List.setIfInBounds_toArray, List.set_cons_zero, List.set_cons_succ]))
  refine HHE.out.mono ?_
  rintro e w6 ⟨ha, hc, rfl, hct, b6, k6⟩
  have HCT6 := hide hct
  have HCZ := hide (k6 _ _ _ _ (by decide) HCX.out)
  have HAZ := hide (k6 _ _ _ _ (by decide) HAX.out)
  have HW6 := hide (HK5.out.trans (b6.mono HW4.out.size))
  have HX6 := hide (heap_alloc_new w6 (.cells #[.int .u16 0, .int .u8 0, .int .u8 0, .int .u8 0, .int .u8 0, .int .u8 0, .int .u8 0, .int .u8 0, .int .u8 0, .int .u8 0, .int .u8 0, .int .u8 0, .int .u8 0, .int .u32 0, .int .u32 0] 41))
  have hal := (Below.refl w6.heap.size w6).alloc (Nat.le_refl _) (.cells #[.int .u16 0, .int .u8 0, .int .u8 0, .int .u8 0, .int .u8 0, .int .u8 0, .int .u8 0, .int .u8 0, .int .u8 0, .int .u8 0, .int .u8 0, .int .u8 0, .int .u8 0, .int .u32 0, .int .u32 0] 41)
  have HFI := hide (find2_any w4.heap.size k (insL id (x.s : Int) { (arNH x) with e := laterI 5 } []) [] (x.s : Int) 304 _ (hct.below hal))
  rw [show fnd (insL id (x.s : Int) { (arNH x) with e := laterI 5 } []) (x.s : Int) 304 = some { (arNH x) with e := laterI 5 } from by unfold fnd; rw [get_ins List.Pairwise.nil]; rfl] at HFI
  unfold MV at HFI
  have HW7 := hide (HW6.out.trans (hal.mono HW6.out.size))
  have HCZ7 := hide (below_block hal HCZ.out (Nat.le_refl _))
  have HAZ7 := hide (below_block hal HAZ.out (Nat.le_refl _))
  have HCT7 := hide (hct.below hal)
  clear hct b6 k6 hal HHE HCX HAX HCT a0 a1 a2 a3 a4 a5 a6 a7 a8 a9 a10 a11 a12 a13 a14 af
  obtain ⟨a0, a1, a2, a3, a4, a5, a6, a7, a8, a9, a10, a11, a12, a13, a14, af⟩ := cells15 HAZ.out
  have lA := lt_of_block HAZ.out
  go_wp2_with fail
  refine HFI.out.mono ?_
  rintro e w7 ⟨rfl, b7⟩
  have HX7 := hide (below_block b7 HX6.out (Nat.le_refl _))
  have hal := (Below.refl w7.heap.size w7).alloc (Nat.le_refl _) (.cells #[.int .u8 (x.f0 : Int), .int .u8 x.f1, .int .u8 x.f2, .int .u8 x.f3, .int .u8 x.f4, .int .u8 x.f5] 23)
  have HM8 := hide (heap_alloc_new w7 (.cells #[.int .u8 (x.f0 : Int), .int .u8 x.f1, .int .u8 x.f2, .int .u8 x.f3, .int .u8 x.f4, .int .u8 x.f5] 23))
  have HX8 := hide (below_block hal HX7.out (Nat.le_refl _))
  have HCX := hide (below_block hal (below_block b7 HCZ7.out (Nat.le_refl _)) (Nat.le_refl _))
  have HAX := hide (below_block hal (below_block b7 HAZ7.out (Nat.le_refl _)) (Nat.le_refl _))
  have hb8 := (HW7.out.trans (b7.mono HW7.out.size)).trans (hal.mono (HW7.out.trans (b7.mono HW7.out.size)).size)
  have HW8 := hide hb8
  have HCT8 := hide ((HCT7.out.below b7).below hal)
  have HHO := hide (hostR_any cs c.lan c.nb x.s (w7.alloc (.cells #[.int .u8 (x.f0 : Int), .int .u8 x.f1, .int .u8 x.f2, .int .u8 x.f3, .int .u8 x.f4, .int .u8 x.f5] 23)) HCF.out.h HLN.out HXO.out.s)
  have hA7 := below_block b7 HAZ7.out (Nat.le_refl _)
  have HA7 := hide hA7
  clear b7 hal hb8 HFI HX6 HX7 HCZ7 HAZ7 HW7 HCT7 hA7 a0 a1 a2 a3 a4 a5 a6 a7 a8 a9 a10 a11 a12 a13 a14 af lA HCZ HAZ
  obtain ⟨a0, a1, a2, a3, a4, a5, a6, a7, a8, a9, a10, a11, a12, a13, a14, af⟩ := cells15 HA7.out
  have lA := lt_of_block HA7.out
  have hm1 : ∀ W, Sem.run Try.prog (Op.equalIn 10000 23 (.agg #[.int .u8 (x.f0 : Int), .int .u8 x.f1, .int .u8 x.f2, .int .u8 x.f3, .int .u8 x.f4, .int .u8 x.f5]) (.agg #[.int .u8 (x.f0 : Int), .int .u8 x.f1, .int .u8 x.f2, .int .u8 x.f3, .int .u8 x.f4, .int .u8 x.f5])) W = .ok true W := fun W => mac_self _ _ _ _ _ _ W
  rw [hho] at HHO
  go_upto_region 10 with (fail)
  go_cut [11] from 14 (fun v wx => v = .bool true ∧ Hid (Below w.heap.size w wx) ∧ Hid (wx.heap[B]? = some (.cells cs 28 (0, 0))) ∧ Hid (wx.heap[A]? = some (.cells #[.int .u16 x.op, .int .u8 (x.f0 : Int), .int .u8 x.f1, .int .u8 x.f2, .int .u8 x.f3, .int .u8 x.f4, .int .u8 x.f5, .int .u8 x.t0, .int .u8 x.t1, .int .u8 x.t2, .int .u8 x.t3, .int .u8 x.t4, .int .u8 x.t5, .int .u32 (x.s : Int), .int .u32 (x.d : Int)] 41 (0, 0))) ∧ Hid (wx.heap[w7.heap.size]? = some (.cells #[.int .u8 (x.f0 : Int), .int .u8 x.f1, .int .u8 x.f2, .int .u8 x.f3, .int .u8 x.f4, .int .u8 x.f5] 23 (0, 0))) ∧ Hid (wx.heap[w6.heap.size]? = some (.cells #[.int .u16 0, .int .u8 0, .int .u8 0, .int .u8 0, .int .u8 0, .int .u8 0, .int .u8 0, .int .u8 0, .int .u8 0, .int .u8 0, .int .u8 0, .int .u8 0, .int .u8 0, .int .u32 0, .int .u32 0] 41 (0, 0))) ∧ Hid (CAt wx w4.heap.size k (insL id (x.s : Int) { (arNH x) with e := laterI 5 } []) []))
  case first =>
    go_wp2_with (first | (refine ld_cfg (o := ⟨some 43, _, _, _, _, _⟩) (.tmp 2) rfl (by rfl) B rfl cs HCX.out HSZ.out ?_; try simp only [Act.put, List.setIfInBounds_toArray, List.set_cons_zero, List.set_cons_succ]) | (go_at_call 17; refine HHO.out.mono ?_; clear HHO; rintro e w8 ⟨rfl, b8⟩; have HW9 := hide (HW8.out.trans (b8.mono HW8.out.size)); have HCY := hide (below_block b8 HCX.out (Nat.le_refl _)); have HAY := hide (below_block b8 HAX.out (Nat.le_refl _)); have HM9 := hide (below_block b8 HM8.out (Nat.le_refl _)); have HX9 := hide (below_block b8 HX8.out (Nat.le_refl _)); have HCT9 := hide (HCT8.out.below b8); clear b8 HCX HAX HM8 HX8 HCT8 a0 a1 a2 a3 a4 a5 a6 a7 a8 a9 a10 a11 a12 a13 a14 af lA; obtain ⟨a0, a1, a2, a3, a4, a5, a6, a7, a8, a9, a10, a11, a12, a13, a14, af⟩ := cells15 HAY.out))
    go_meet
    exact ⟨rfl, HW9, HCY, HAY, HM9, HX9, HCT9⟩
  case rest =>
    obtain ⟨rfl, HW9, HCY, HAY, HM9, HX9, HCT9⟩ := hcut
    clear a0 a1 a2 a3 a4 a5 a6 a7 a8 a9 a10 a11 a12 a13 a14 af lA HCX HAX HM8 HX8 HCT8 HHO HW8
    obtain ⟨a0, a1, a2, a3, a4, a5, a6, _, _, _, _, _, _, a13, a14, _⟩ := cells15 HAY.out
    obtain ⟨m0, m1, m2, m3, m4, m5, _⟩ := cells6 HM9.out
    obtain ⟨k0, k1, k2, k3, k4, k5, k18⟩ := HCC.out _ HCY.out
    go_upto_region 13 with (fail)
    have HF5 := hide (find2_any w4.heap.size k (insL id (x.s : Int) { (arNH x) with e := laterI 5 } []) [] (x.s : Int) 305 _ HCT9.out)
    rw [show fnd (insL id (x.s : Int) { (arNH x) with e := laterI 5 } []) (x.s : Int) 305 = none from by unfold fnd; rw [get_ins List.Pairwise.nil]; rfl] at HF5
    unfold MV at HF5
    clear m0 m1 m2 m3 m4 m5 k0 k1 k2 k3 k4 k5 k18 a0 a1 a2 a3 a4 a5 a6 a14
    go_wp2_with fail
    refine HF5.out.mono ?_
    rintro e w9 ⟨rfl, b9⟩
    have HWZ := hide (HW9.out.trans (b9.mono HW9.out.size))
    have HAY2 := hide (below_block b9 HAY.out (Nat.le_refl _))
    have HCY2 := hide (below_block b9 HCY.out (Nat.le_refl _))
    have HX92 := hide (below_block b9 HX9.out (Nat.le_refl _))
    clear b9 HF5 HAY HCY HX9 HM9 HCT9 a13
    go_wp2_with fail
    go_ret
    exact ⟨rfl, HWZ.out.trans (((Below.refl _ _).alloc (Nat.le_refl _) _).mono HWZ.out.size)⟩
end Go.Proofs.Ytbibobjkclgogaa
