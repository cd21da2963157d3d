/- neigh: Hear, its cases. -/
import Derived.Test.YtbibobjkclgogaaNHb
namespace Go.Proofs.Ytbibobjkclgogaa
open Go.RowKit Go.Deep
set_option linter.unusedVariables false
set_option linter.unusedSimpArgs false
set_option maxRecDepth 100000
set_option maxHeartbeats 4000000 in
theorem hear_yt (K c : Nat) (L L' : List D.KV) (H : List HV) (cs : Array Value) (lan : Nat) (nb : Int) (g : Nat → Int) (x : AR) (now : Int) (w : World) (h : CAt w K c L H) (hK : K ≤ w.heap.size) (hc : CfN cs lan nb g) (hl : lan ≤ 4294967295) (hx : AROk x)
    (hln : ∀ V, CAt V K c L H → K ≤ V.heap.size → Calls Try.prog 14 #[.pointer (some ⟨c, 0, none⟩), .int .u32 (x.s : Int), .agg #[.int .u8 (x.f0 : Int), .int .u8 x.f1, .int .u8 x.f2, .int .u8 x.f3, .int .u8 x.f4, .int .u8 x.f5], .int .u64 now] V (GiveAns K c L' H (x.s : Int) V)) (hbel : belB lan nb x = true) (hp : (x.op == 1) = true) (hq : ((x.d : Int) == (lan : Int)) = true) :
    Calls Try.prog 16 #[.pointer (some ⟨c, 0, none⟩), .agg cs, .agg #[.int .u16 x.op, .int .u8 (x.f0 : Int), .int .u8 x.f1, .int .u8 x.f2, .int .u8 x.f3, .int .u8 x.f4, .int .u8 x.f5, .int .u8 x.t0, .int .u8 x.t1, .int .u8 x.t2, .int .u8 x.t3, .int .u8 x.t4, .int .u8 x.t5, .int .u32 (x.s : Int), .int .u32 (x.d : Int)], .int .u64 now] w (HearAns K c L L' H lan nb g x w) := by
  have HAS := hide (show askB lan x = true by unfold askB; rw [hp, hq]; rfl)
  obtain ⟨W1, hW1⟩ : ∃ W, w.alloc (.cells cs 28) = W := ⟨_, rfl⟩
  have q1 : W1.heap[w.heap.size]? = some (.cells cs 28 (0, 0)) := by rw [← hW1]; exact heap_alloc_new _ _
  have b1 : Below w.heap.size w W1 := by rw [← hW1]; exact (Below.refl _ _).alloc (Nat.le_refl _) _
  have z1 : W1.heap.size = w.heap.size + 1 := by rw [← hW1]; simp
  obtain ⟨W2, hW2⟩ : ∃ W, W1.alloc (.cells #[.int .u16 x.op, .int .u8 (x.f0 : Int), .int .u8 x.f1, .int .u8 x.f2, .int .u8 x.f3, .int .u8 x.f4, .int .u8 x.f5, .int .u8 x.t0, .int .u8 x.t1, .int .u8 x.t2, .int .u8 x.t3, .int .u8 x.t4, .int .u8 x.t5, .int .u32 (x.s : Int), .int .u32 (x.d : Int)] 41) = W := ⟨_, rfl⟩
  have b2 : Below W1.heap.size W1 W2 := by rw [← hW2]; exact (Below.refl _ _).alloc (Nat.le_refl _) _
  have q2 : W2.heap[W1.heap.size]? = some (.cells #[.int .u16 x.op, .int .u8 (x.f0 : Int), .int .u8 x.f1, .int .u8 x.f2, .int .u8 x.f3, .int .u8 x.f4, .int .u8 x.f5, .int .u8 x.t0, .int .u8 x.t1, .int .u8 x.t2, .int .u8 x.t3, .int .u8 x.t4, .int .u8 x.t5, .int .u32 (x.s : Int), .int .u32 (x.d : Int)] 41 (0, 0)) := by rw [← hW2]; exact heap_alloc_new _ _
  have z2 : W2.heap.size = w.heap.size + 2 := by rw [← hW2, World.size_alloc, z1]
  obtain ⟨W, hW⟩ : ∃ W, W2.alloc (.cells #[.int .u16 0, .int .u8 0, .int .u8 0, .int .u8 0, .int .u8 0, .int .u8 0, .int .u8 0, .int .u8 0, .int .u8 0, .int .u8 0, .int .u8 0, .int .u8 0, .int .u8 0, .int .u32 0, .int .u32 0] 41) = W := ⟨_, rfl⟩
  have b3 : Below W2.heap.size W2 W := by rw [← hW]; exact (Below.refl _ _).alloc (Nat.le_refl _) _
  have q3 : W.heap[W2.heap.size]? = some (.cells #[.int .u16 0, .int .u8 0, .int .u8 0, .int .u8 0, .int .u8 0, .int .u8 0, .int .u8 0, .int .u8 0, .int .u8 0, .int .u8 0, .int .u8 0, .int .u8 0, .int .u8 0, .int .u32 0, .int .u32 0] 41 (0, 0)) := by rw [← hW]; exact heap_alloc_new _ _
  have q2 := below_block b3 q2 (Nat.le_refl _)
  have q1 := below_block b3 (below_block b2 q1 (Nat.le_refl _)) (Nat.le_refl _)
  have bW := (b1.trans (b2.mono (by rw [z1]; omega))).trans (b3.mono (by rw [z2]; omega))
  rw [← hW2, ← hW1] at hW
  rw [z1] at q2
  rw [z2] at q3
  obtain ⟨B, hB⟩ : ∃ P, w.heap.size = P := ⟨_, rfl⟩
  obtain ⟨A, hA⟩ : ∃ N, w.heap.size + 1 = N := ⟨_, rfl⟩
  obtain ⟨R, hR⟩ : ∃ N, w.heap.size + 2 = N := ⟨_, rfl⟩
  rw [hA] at q2
  rw [hB] at q1
  rw [hR] at q3
  have HE := hide (And.intro hW (And.intro hR (And.intro hA hB)))
  have HB := hide bW
  have HC := hide q1
  have HA := hide q2
  have HR := hide q3
  have HS := hide hc.h.size
  have HCf := hide hc
  have HX0 := hide h
  have HX := hide (h.below bW)
  have HK := hide hK
  have HLN := hide hln
  have HBV := hide (fun (V : World) => believed_any cs lan nb x V hc.h hl hx)
  have hr := hbel
  clear hbel
  rw [hr] at HBV
  have HRB := hide hr
  clear hW1 q1 b1 z1 hW2 z2 hW b2 q2 q3 b3 bW hB hA hR hc hr hx hl h hK hln
  have H0 := hide (fun (z : World) (hz : z.heap[B]? = some (.cells cs 28 (0, 0))) => (show z.cell? ⟨B, 0, none⟩ = some (.int .u8 (g 0)) ∧ z.cell? ⟨B, 1, none⟩ = some (.int .u8 (g 1)) ∧ z.cell? ⟨B, 2, none⟩ = some (.int .u8 (g 2)) ∧ z.cell? ⟨B, 3, none⟩ = some (.int .u8 (g 3)) ∧ z.cell? ⟨B, 4, none⟩ = some (.int .u8 (g 4)) ∧ z.cell? ⟨B, 5, none⟩ = some (.int .u8 (g 5)) ∧ z.cell? ⟨B, 18, none⟩ = some (.int .u32 (lan : Int)) from
    ⟨(cells_all hz 0).trans HCf.out.g0, (cells_all hz 1).trans HCf.out.g1, (cells_all hz 2).trans HCf.out.g2, (cells_all hz 3).trans HCf.out.g3, (cells_all hz 4).trans HCf.out.g4, (cells_all hz 5).trans HCf.out.g5, (cells_all hz 18).trans HCf.out.h.lan⟩))
  go_enter Try.func16, Try.ntmps16
  go_upto_region 1 with (fail)
  rw [HE.out.1]
  rw [HE.out.2.1]
  rw [HE.out.2.2.1]
  rw [HE.out.2.2.2]
  obtain ⟨a0, a1, a2, a3, a4, a5, a6, a7, a8, a9, a10, a11, a12, a13, a14, af⟩ := cells15 HA.out
  go_wp2_with (first | (refine ld_cfg (o := ⟨some 11, _, _, _, _, _⟩) (.tmp 5) rfl (by rfl) B rfl cs HC.out HS.out ?_; try simp only [Act.put, List.setIfInBounds_toArray, List.set_cons_zero, List.set_cons_succ]) | (go_at_call 42; refine (HBV.out _).mono ?_; rintro e w1 ⟨rfl, b1⟩; have HB1 := hide (HB.out.trans (b1.mono HB.out.size)); have HX1 := hide (HX.out.below b1); have HR1 := hide (below_block b1 HR.out (Nat.le_refl _)); have HA1 := hide (below_block b1 HA.out (Nat.le_refl _)); have HC1 := hide (below_block b1 HC.out (Nat.le_refl _)); clear b1 a0 a1 a2 a3 a4 a5 a6 a7 a8 a9 a10 a11 a12 a13 a14 af; obtain ⟨a0, a1, a2, a3, a4, a5, a6, a7, a8, a9, a10, a11, a12, a13, a14, af⟩ := cells15 HA1.out))
  refine (HLN.out _ HX1.out (Nat.le_trans HK.out HB1.out.size)).mono ?_
  rintro e w2 ⟨a', n', c', rfl, g1, g2, g3, g4, g5, g6⟩
  have HG := hide (show GiveAns K c L' H (x.s : Int) w (.returned (.slice a' n' c')) w2 from ⟨a', n', c', rfl, g1, owns_mono g2 HB1.out.size, g3, g4, (HB1.out.mono HK.out).trans g5, (KO.of HB1.out).trans g6⟩)
  have HR2 := hide (g6 _ _ _ _ (by decide) HR1.out)
  have HA2 := hide (g6 _ _ _ _ (by decide) HA1.out)
  have HC2 := hide (g6 _ _ _ _ (by decide) HC1.out)
  clear g1 g2 g3 g4 g5 g6 a0 a1 a2 a3 a4 a5 a6 a7 a8 a9 a10 a11 a12 a13 a14 af
  obtain ⟨a0, a1, a2, a3, a4, a5, a6, a7, a8, a9, a10, a11, a12, a13, a14, af⟩ := cells15 HA2.out
  obtain ⟨r0, r1, r2, r3, r4, r5, r6, r7, r8, r9, r10, r11, r12, r13, r14, rf⟩ := cells15 HR2.out
  obtain ⟨k0, k1, k2, k3, k4, k5, k18⟩ := H0.out w2 HC2.out
  have lR := lt_of_block HR2.out
  clear HB HX HX0 HC HA HR HLN HBV HX1 HR1 HA1 HC1 H0 HCf HS
  go_upto_region 7 with (fail)
  generalize hV : World.setCell _ _ _ = V
  obtain ⟨q, oq⟩ := put15o HR2.out hV
  clear r0 r1 r2 r3 r4 r5 r6 r7 r8 r9 r10 r11 r12 r13 r14 rf lR hV
  obtain ⟨r0, r1, r2, r3, r4, r5, r6, r7, r8, r9, r10, r11, r12, r13, r14, rf⟩ := cells15 q
  go_wp2_with fail
  generalize hV : World.setCell _ _ _ = V2
  obtain ⟨q2, oq2⟩ := put15o q hV
  replace oq := oq.tr oq2
  clear r0 r1 r2 r3 r4 r5 r6 r7 r8 r9 r10 r11 r12 r13 r14 rf q oq2
  have q := q2
  clear q2
  obtain ⟨u0, u1, u2, u3, u4, u5, u6, u7, u8, u9, u10, u11, u12, u13, u14, uf⟩ := cells15 q
  have HGV := hide (HG.out.box oq ⟨_, _, HR2.out⟩ (by have := HE.out.2; omega) HK.out)
  clear hV q oq  a0 a1 a2 a3 a4 a5 a6 a7 a8 a9 a10 a11 a12 a13 a14 af k0 k1 k2 k3 k4 k5 k18 HR2 HA2 HC2 HG HE 
  exact bodyPost_ret (v := .tuple #[.agg #[.int .u16 2, .int .u8 (g 0), .int .u8 (g 1), .int .u8 (g 2), .int .u8 (g 3), .int .u8 (g 4), .int .u8 (g 5), .int .u8 (x.f0 : Int), .int .u8 x.f1, .int .u8 x.f2, .int .u8 x.f3, .int .u8 x.f4, .int .u8 x.f5, .int .u32 (lan : Int), .int .u32 (x.s : Int)], .bool true, .slice a' n' c']) (by simp [results, Try.results16, go_sem, *]) rfl (.inr ⟨HRB.out, a', n', c', by rw [HAS.out]; rfl, HGV.out⟩)
end Go.Proofs.Ytbibobjkclgogaa
