/- neigh: NeighAnswers, its cases. -/
import Derived.Test.YtbibobjkclgogaaNSp
import Derived.Test.YtbibobjkclgogaaCCheckR
import Derived.Test.YtbibobjkclgogaaNEq
namespace Go.Proofs.Ytbibobjkclgogaa
open Go.RowKit Go.Deep
set_option linter.unusedVariables false
set_option linter.unusedSimpArgs false
set_option maxRecDepth 100000
set_option maxHeartbeats 4000000 in
theorem na_big (cs : Array Value) (c : Cfg) (a : Option Addr) (n cap : Nat) (fs : List Fwd) (g : Nat → Int) (x : AR) (w : World) (hca : CfA cs c a n cap) (hcn : CfN cs c.lan c.nb g) (hco : CfOk c) (hfw : FwAt w a fs) (hfl : fs.length = n) (hff : ∀ f ∈ fs, FwOk f) (hfn : n ≤ 9223372036854775807) (hfm : n ≤ cap) (hx : AROk x) (hb : 40 < n) :
    Calls Try.prog 5 #[.agg cs, .agg #[.int .u16 x.op, .int .u8 (x.f0 : Int), .int .u8 x.f1, .int .u8 x.f2, .int .u8 x.f3, .int .u8 x.f4, .int .u8 x.f5, .int .u8 x.t0, .int .u8 x.t1, .int .u8 x.t2, .int .u8 x.t3, .int .u8 x.t4, .int .u8 x.t5, .int .u32 (x.s : Int), .int .u32 (x.d : Int)]] w fun e w' => e = .returned (.bool true) ∧ Below w.heap.size w w' := by
  obtain ⟨W1, hW1⟩ : ∃ W, w.alloc (.cells cs 28) = W := ⟨_, rfl⟩
  have q1 : W1.heap[w.heap.size]? = some (.cells cs 28 (0, 0)) := by rw [← hW1]; exact heap_alloc_new _ _
  have b1 : Below w.heap.size w W1 := by rw [← hW1]; exact (Below.refl _ _).alloc (Nat.le_refl _) _
  have z1 : W1.heap.size = w.heap.size + 1 := by rw [← hW1]; simp
  obtain ⟨W, hW⟩ : ∃ W, W1.alloc (.cells #[.int .u16 x.op, .int .u8 (x.f0 : Int), .int .u8 x.f1, .int .u8 x.f2, .int .u8 x.f3, .int .u8 x.f4, .int .u8 x.f5, .int .u8 x.t0, .int .u8 x.t1, .int .u8 x.t2, .int .u8 x.t3, .int .u8 x.t4, .int .u8 x.t5, .int .u32 (x.s : Int), .int .u32 (x.d : Int)] 41) = W := ⟨_, rfl⟩
  have b2 : Below W1.heap.size W1 W := by rw [← hW]; exact (Below.refl _ _).alloc (Nat.le_refl _) _
  have q2 : W.heap[W1.heap.size]? = some (.cells #[.int .u16 x.op, .int .u8 (x.f0 : Int), .int .u8 x.f1, .int .u8 x.f2, .int .u8 x.f3, .int .u8 x.f4, .int .u8 x.f5, .int .u8 x.t0, .int .u8 x.t1, .int .u8 x.t2, .int .u8 x.t3, .int .u8 x.t4, .int .u8 x.t5, .int .u32 (x.s : Int), .int .u32 (x.d : Int)] 41 (0, 0)) := by rw [← hW]; exact heap_alloc_new _ _
  have q3 := below_block b2 q1 (Nat.le_refl _)
  have bW := b1.trans (b2.mono (by rw [z1]; omega))
  rw [← hW1] at hW
  rw [z1] at q2
  obtain ⟨B, hB⟩ : ∃ P, w.heap.size = P := ⟨_, rfl⟩
  obtain ⟨A, hA⟩ : ∃ N, w.heap.size + 1 = N := ⟨_, rfl⟩
  rw [hA] at q2
  rw [hB] at q3
  have HE := hide (And.intro hW (And.intro hA hB))
  have HB := hide bW
  have HC := hide q3
  have HA := hide q2
  have HSZ := hide hca.size
  have HSP := hide (speaks_any W)
  have HCF := hide hcn
  have HXO := hide hx
  have HLN := hide hco.lan
  have HCK := hide (fun (V : World) (hV : Below w.heap.size w V) => checkR_any cs c a fs n cap V hca hco (hfw.below hV (Nat.le_refl _)) hfl hff hfn hfm)
  have HFW := hide (fun (z : World) (hz : z.heap[B]? = some (.cells cs 28 (0, 0))) => (show z.cell? ⟨B, 25, none⟩ = some (.slice a n cap) from (cells_all hz 25).trans hca.fw))
  have HCC := hide (fun (z : World) (hz : z.heap[B]? = some (.cells cs 28 (0, 0))) => (show z.cell? ⟨B, 0, none⟩ = some (.int .u8 (g 0)) ∧ z.cell? ⟨B, 1, none⟩ = some (.int .u8 (g 1)) ∧ z.cell? ⟨B, 2, none⟩ = some (.int .u8 (g 2)) ∧ z.cell? ⟨B, 3, none⟩ = some (.int .u8 (g 3)) ∧ z.cell? ⟨B, 4, none⟩ = some (.int .u8 (g 4)) ∧ z.cell? ⟨B, 5, none⟩ = some (.int .u8 (g 5)) ∧ z.cell? ⟨B, 18, none⟩ = some (.int .u32 (c.lan : Int)) from
    ⟨(cells_all hz 0).trans HCF.out.g0, (cells_all hz 1).trans HCF.out.g1, (cells_all hz 2).trans HCF.out.g2, (cells_all hz 3).trans HCF.out.g3, (cells_all hz 4).trans HCF.out.g4, (cells_all hz 5).trans HCF.out.g5, (cells_all hz 18).trans HCF.out.h.lan⟩))
  clear hW1 q1 b1 z1 hW b2 q2 q3 bW hB hA hca hcn hco hfw hff hx
  go_enter Try.func5, Try.ntmps5
  go_upto_region 1 with (fail)
  rw [HE.out.1]
  rw [HE.out.2.1]
  rw [HE.out.2.2]
  go_wp2_with fail
  refine HSP.out.mono ?_
  rintro e w3 ⟨rfl, b3⟩
  have HW3 := hide (HB.out.trans (b3.mono HB.out.size))
  have HCX := hide (below_block b3 HC.out (Nat.le_refl _))
  have HAX := hide (below_block b3 HA.out (Nat.le_refl _))
  clear b3 HSP HC HA HB
  have f0 := HFW.out w3 HCX.out
  have d1 : decide ((40 : Int) < (n : Int)) = true := by simp; omega
  go_wp2_with fail
  go_ret
  exact ⟨rfl, HW3.out⟩
set_option maxHeartbeats 4000000 in
theorem na_bad (cs : Array Value) (c : Cfg) (a : Option Addr) (n cap : Nat) (fs : List Fwd) (g : Nat → Int) (x : AR) (w : World) (hca : CfA cs c a n cap) (hcn : CfN cs c.lan c.nb g) (hco : CfOk c) (hfw : FwAt w a fs) (hfl : fs.length = n) (hff : ∀ f ∈ fs, FwOk f) (hfn : n ≤ 9223372036854775807) (hfm : n ≤ cap) (hx : AROk x) (hb : n ≤ 40) (hck : checkB c fs = false) :
    Calls Try.prog 5 #[.agg cs, .agg #[.int .u16 x.op, .int .u8 (x.f0 : Int), .int .u8 x.f1, .int .u8 x.f2, .int .u8 x.f3, .int .u8 x.f4, .int .u8 x.f5, .int .u8 x.t0, .int .u8 x.t1, .int .u8 x.t2, .int .u8 x.t3, .int .u8 x.t4, .int .u8 x.t5, .int .u32 (x.s : Int), .int .u32 (x.d : Int)]] w fun e w' => e = .returned (.bool true) ∧ Below w.heap.size w w' := by
  obtain ⟨W1, hW1⟩ : ∃ W, w.alloc (.cells cs 28) = W := ⟨_, rfl⟩
  have q1 : W1.heap[w.heap.size]? = some (.cells cs 28 (0, 0)) := by rw [← hW1]; exact heap_alloc_new _ _
  have b1 : Below w.heap.size w W1 := by rw [← hW1]; exact (Below.refl _ _).alloc (Nat.le_refl _) _
  have z1 : W1.heap.size = w.heap.size + 1 := by rw [← hW1]; simp
  obtain ⟨W, hW⟩ : ∃ W, W1.alloc (.cells #[.int .u16 x.op, .int .u8 (x.f0 : Int), .int .u8 x.f1, .int .u8 x.f2, .int .u8 x.f3, .int .u8 x.f4, .int .u8 x.f5, .int .u8 x.t0, .int .u8 x.t1, .int .u8 x.t2, .int .u8 x.t3, .int .u8 x.t4, .int .u8 x.t5, .int .u32 (x.s : Int), .int .u32 (x.d : Int)] 41) = W := ⟨_, rfl⟩
  have b2 : Below W1.heap.size W1 W := by rw [← hW]; exact (Below.refl _ _).alloc (Nat.le_refl _) _
  have q2 : W.heap[W1.heap.size]? = some (.cells #[.int .u16 x.op, .int .u8 (x.f0 : Int), .int .u8 x.f1, .int .u8 x.f2, .int .u8 x.f3, .int .u8 x.f4, .int .u8 x.f5, .int .u8 x.t0, .int .u8 x.t1, .int .u8 x.t2, .int .u8 x.t3, .int .u8 x.t4, .int .u8 x.t5, .int .u32 (x.s : Int), .int .u32 (x.d : Int)] 41 (0, 0)) := by rw [← hW]; exact heap_alloc_new _ _
  have q3 := below_block b2 q1 (Nat.le_refl _)
  have bW := b1.trans (b2.mono (by rw [z1]; omega))
  rw [← hW1] at hW
  rw [z1] at q2
  obtain ⟨B, hB⟩ : ∃ P, w.heap.size = P := ⟨_, rfl⟩
  obtain ⟨A, hA⟩ : ∃ N, w.heap.size + 1 = N := ⟨_, rfl⟩
  rw [hA] at q2
  rw [hB] at q3
  have HE := hide (And.intro hW (And.intro hA hB))
  have HB := hide bW
  have HC := hide q3
  have HA := hide q2
  have HSZ := hide hca.size
  have HSP := hide (speaks_any W)
  have HCF := hide hcn
  have HXO := hide hx
  have HLN := hide hco.lan
  have HCK := hide (fun (V : World) (hV : Below w.heap.size w V) => checkR_any cs c a fs n cap V hca hco (hfw.below hV (Nat.le_refl _)) hfl hff hfn hfm)
  have HFW := hide (fun (z : World) (hz : z.heap[B]? = some (.cells cs 28 (0, 0))) => (show z.cell? ⟨B, 25, none⟩ = some (.slice a n cap) from (cells_all hz 25).trans hca.fw))
  have HCC := hide (fun (z : World) (hz : z.heap[B]? = some (.cells cs 28 (0, 0))) => (show z.cell? ⟨B, 0, none⟩ = some (.int .u8 (g 0)) ∧ z.cell? ⟨B, 1, none⟩ = some (.int .u8 (g 1)) ∧ z.cell? ⟨B, 2, none⟩ = some (.int .u8 (g 2)) ∧ z.cell? ⟨B, 3, none⟩ = some (.int .u8 (g 3)) ∧ z.cell? ⟨B, 4, none⟩ = some (.int .u8 (g 4)) ∧ z.cell? ⟨B, 5, none⟩ = some (.int .u8 (g 5)) ∧ z.cell? ⟨B, 18, none⟩ = some (.int .u32 (c.lan : Int)) from
    ⟨(cells_all hz 0).trans HCF.out.g0, (cells_all hz 1).trans HCF.out.g1, (cells_all hz 2).trans HCF.out.g2, (cells_all hz 3).trans HCF.out.g3, (cells_all hz 4).trans HCF.out.g4, (cells_all hz 5).trans HCF.out.g5, (cells_all hz 18).trans HCF.out.h.lan⟩))
  clear hW1 q1 b1 z1 hW b2 q2 q3 bW hB hA hca hcn hco hfw hff hx
  go_enter Try.func5, Try.ntmps5
  go_upto_region 1 with (fail)
  rw [HE.out.1]
  rw [HE.out.2.1]
  rw [HE.out.2.2]
  go_wp2_with fail
  refine HSP.out.mono ?_
  rintro e w3 ⟨rfl, b3⟩
  have HW3 := hide (HB.out.trans (b3.mono HB.out.size))
  have HCX := hide (below_block b3 HC.out (Nat.le_refl _))
  have HAX := hide (below_block b3 HA.out (Nat.le_refl _))
  clear b3 HSP HC HA HB
  have f0 := HFW.out w3 HCX.out
  have d1 : decide ((40 : Int) < (n : Int)) = false := by simp; omega
  have HCK3 := hide (HCK.out w3 HW3.out)
  rw [hck] at HCK3
  have HCK4 := hide (show Calls Try.prog 15 #[.agg cs] w3 fun e w' => e = .returned (.int .i64 40) ∧ Below w3.heap.size w3 w' from HCK3.out)
  clear HCK HCK3 hck
  go_wp2_with ((refine ld_cfg (o := ⟨some 21, _, _, _, _, _⟩) (.tmp 2) rfl (by rfl) B rfl cs HCX.out HSZ.out ?_; try simp only [Act.put, List.setIfInBounds_toArray, List.set_cons_zero, List.set_cons_succ]))
  refine HCK4.out.mono ?_
  rintro e w4 ⟨rfl, b4⟩
  have HW4 := hide (HW3.out.trans (b4.mono HW3.out.size))
  have HCY := hide (below_block b4 HCX.out (Nat.le_refl _))
  have HAY := hide (below_block b4 HAX.out (Nat.le_refl _))
  clear b4 HCK4 HW3 HCX HAX f0
  go_wp2_with fail
  go_ret
  exact ⟨rfl, HW4.out⟩
end Go.Proofs.Ytbibobjkclgogaa
