/- neigh: who is believed. -/
import Derived.Test.YtbibobjkclgogaaNPut
import Derived.Test.YtbibobjkclgogaaCHost
namespace Go.Proofs.Ytbibobjkclgogaa
open Go.RowKit Go.Deep
set_option linter.unusedVariables false
set_option linter.unusedSimpArgs false
set_option maxRecDepth 100000
/-- An ARP packet. -/
structure AR where
  op : Int
  f0 : Nat
  f1 : Int
  f2 : Int
  f3 : Int
  f4 : Int
  f5 : Int
  t0 : Int
  t1 : Int
  t2 : Int
  t3 : Int
  t4 : Int
  t5 : Int
  s : Nat
  d : Nat
structure AROk (x : AR) : Prop where
  f0 : x.f0 ≤ 255
  s : x.s ≤ 4294967295
  d : x.d ≤ 4294967295
def belB (lan : Nat) (nb : Int) (x : AR) : Bool := hostB lan nb x.s && decide (x.f0 % 2 = 0)
theorem and1_u8 (x : Nat) (h : x ≤ 255) : bits .and .u8 (x : Int) 1 = ((x % 2 : Nat) : Int) := by
  rw [show (1 : Int) = ((1 : Nat) : Int) from rfl, u8_and_nat _ _ (by omega) (by omega), Nat.and_one_is_mod]
set_option maxHeartbeats 1600000 in
theorem believed_any (cs : Array Value) (lan : Nat) (nb : Int) (x : AR) (w : World) (hc : CfH cs lan nb) (hl : lan ≤ 4294967295) (hx : AROk x) :
    Calls Try.prog 42 #[.agg cs, .agg #[.int .u16 x.op, .int .u8 x.f0, .int .u8 x.f1, .int .u8 x.f2, .int .u8 x.f3, .int .u8 x.f4, .int .u8 x.f5, .int .u8 x.t0, .int .u8 x.t1, .int .u8 x.t2, .int .u8 x.t3, .int .u8 x.t4, .int .u8 x.t5, .int .u32 (x.s : Int), .int .u32 (x.d : Int)]] w fun e w' => e = .returned (.bool (belB lan nb x)) ∧ Below w.heap.size w w' := by
  obtain ⟨W1, hW1⟩ : ∃ W, w.alloc (.cells cs 28) = W := ⟨_, rfl⟩
  have q1 : W1.heap[w.heap.size]? = some (.cells cs 28 (0, 0)) := by rw [← hW1]; exact heap_alloc_new _ _
  have b1 : Below w.heap.size w W1 := by rw [← hW1]; exact (Below.refl _ _).alloc (Nat.le_refl _) _
  have z1 : W1.heap.size = w.heap.size + 1 := by rw [← hW1]; simp
  obtain ⟨W, hW⟩ : ∃ W, W1.alloc (.cells #[.int .u16 x.op, .int .u8 x.f0, .int .u8 x.f1, .int .u8 x.f2, .int .u8 x.f3, .int .u8 x.f4, .int .u8 x.f5, .int .u8 x.t0, .int .u8 x.t1, .int .u8 x.t2, .int .u8 x.t3, .int .u8 x.t4, .int .u8 x.t5, .int .u32 (x.s : Int), .int .u32 (x.d : Int)] 41) = W := ⟨_, rfl⟩
  have b2 : Below W1.heap.size W1 W := by rw [← hW]; exact (Below.refl _ _).alloc (Nat.le_refl _) _
  have q2 : W.heap[W1.heap.size]? = some (.cells #[.int .u16 x.op, .int .u8 x.f0, .int .u8 x.f1, .int .u8 x.f2, .int .u8 x.f3, .int .u8 x.f4, .int .u8 x.f5, .int .u8 x.t0, .int .u8 x.t1, .int .u8 x.t2, .int .u8 x.t3, .int .u8 x.t4, .int .u8 x.t5, .int .u32 (x.s : Int), .int .u32 (x.d : Int)] 41 (0, 0)) := by rw [← hW]; exact heap_alloc_new _ _
  have q3 := below_block b2 q1 (Nat.le_refl _)
  have bW := b1.trans (b2.mono (by rw [z1]; omega))
  rw [← hW1] at hW
  rw [z1] at q2
  obtain ⟨B, hB⟩ : ∃ P, w.heap.size = P := ⟨_, rfl⟩
  obtain ⟨A, hA⟩ : ∃ N, w.heap.size + 1 = N := ⟨_, rfl⟩
  rw [hA] at q2
  rw [hB] at q3
  have HE := hide (And.intro hW (And.intro hA hB))
  have HB := hide bW
  have HC := hide q3
  have HA := hide q2
  have HS := hide hc.size
  have HHB := hide (fun (V : World) => host_any cs lan nb x.s V hc hl hx.s)
  obtain ⟨r, hr⟩ : ∃ r, hostB lan nb x.s = r := ⟨_, rfl⟩
  rw [hr] at HHB
  have ha := and1_u8 x.f0 hx.f0
  obtain ⟨m, hm⟩ : ∃ m, x.f0 % 2 = m := ⟨_, rfl⟩
  rw [hm] at ha
  have hbel : belB lan nb x = (r && decide (m = 0)) := by unfold belB; rw [hr, hm]
  rw [hbel]
  clear hW1 q1 b1 z1 hW b2 q2 q3 bW hB hA hc hr hm hbel hx hl
  obtain ⟨a0, a1, a2, a3, a4, a5, a6, a7, a8, a9, a10, a11, a12, a13, a14, af⟩ := cells15 HA.out
  cases r <;> (by_cases hz : m = 0) <;>
  · have hz2 : ((m : Int) == 0) = decide (m = 0) := by
      by_cases h : m = 0
      · subst h; rfl
      · rw [decide_eq_false h]; exact beq_eq_false_iff_ne.2 (by omega)
    rw [show decide (m = 0) = _ from (by first | exact decide_eq_true hz | exact decide_eq_false hz)] at hz2 ⊢
    go_enter Try.func42, Try.ntmps42
    go_upto_region 1 with (fail)
    rw [HE.out.1]
    try rw [HE.out.2.1]
    try rw [HE.out.2.2]
    go_wp2_with (first | (refine ld_cfg (o := ⟨some 5, _, _, _, _, _⟩) (.tmp 2) rfl (by rfl) B rfl cs HC.out HS.out ?_; try simp only [Act.put, List.setIfInBounds_toArray, List.set_cons_zero, List.set_cons_succ]) | (go_at_call 57; refine (HHB.out _).mono ?_; rintro e w1 ⟨rfl, b1⟩; have HB1 := hide (HB.out.trans (b1.mono HB.out.size)); obtain ⟨d0, d1, d2, d3, d4, d5, d6, d7, d8, d9, d10, d11, d12, d13, d14, df⟩ := cells15 (below_block b1 HA.out (Nat.le_refl _)); clear b1 a0 a1 a2 a3 a4 a5 a6 a7 a8 a9 a10 a11 a12 a13 a14 af))
    go_ret
    exact ⟨rfl, HB1.out⟩
end Go.Proofs.Ytbibobjkclgogaa
