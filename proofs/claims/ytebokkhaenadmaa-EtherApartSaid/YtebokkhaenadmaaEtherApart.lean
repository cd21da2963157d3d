/- The law that unlike frames have unlike bytes, and unlike ARP packets too, walked. -/
import Derived.Test.YtebokkhaenadmaaEEq
import Derived.Deep.DeepCutAuto
import Derived.Deep.RegionHeld3
namespace Go.Proofs.Ytebokkhaenadmaa
open Go.RowKit
set_option linter.unusedVariables false
set_option linter.unusedSimpArgs false
def Four (W : World) (B0 B1 B2 B3 : Nat) (F G A B : Array Value) : Prop :=
  W.heap[B0]? = some (.cells F 29 (0, 0)) ∧ W.heap[B1]? = some (.cells G 29 (0, 0)) ∧ W.heap[B2]? = some (.cells A 45 (0, 0)) ∧ W.heap[B3]? = some (.cells B 45 (0, 0))
theorem Four.below {V V' : World} {B0 B1 B2 B3 : Nat} {F G A B : Array Value} (h : Four V B0 B1 B2 B3 F G A B) (hb : Below V.heap.size V V') : Four V' B0 B1 B2 B3 F G A B :=
  ⟨(hb.block B0 (lt_of_block h.1)).trans h.1, (hb.block B1 (lt_of_block h.2.1)).trans h.2.1, (hb.block B2 (lt_of_block h.2.2.1)).trans h.2.2.1, (hb.block B3 (lt_of_block h.2.2.2)).trans h.2.2.2⟩
set_option maxRecDepth 100000 in
set_option maxHeartbeats 6400000 in
theorem etherApart_main (w : World) (d s : Nat → UInt8) (k : Nat) (ba : Option Addr) (xs : List Int) (n bc : Nat) (e t : Nat → UInt8) (l : Nat) (bb : Option Addr) (ys : List Int) (m bd : Nat) (o : Nat) (f g : Nat → UInt8) (x y : Nat) (p : Nat) (h j : Nat → UInt8) (z u : Nat)
    (hr1 : Row .u8 w ba xs) (hb1 : ∀ x ∈ xs, 0 ≤ x ∧ x ≤ 255) (hn1 : ba = none → bc = 0) (hl1 : xs.length = n) (hk1 : k ≤ 65535) (hr2 : Row .u8 w bb ys) (hb2 : ∀ x ∈ ys, 0 ≤ x ∧ x ≤ 255) (hn2 : bb = none → bd = 0) (hl2 : ys.length = m) (hk2 : l ≤ 65535)
    (ho : o ≤ 65535) (hx : x ≤ 4294967295) (hy : y ≤ 4294967295) (hp : p ≤ 65535) (hz : z ≤ 4294967295) (hu : u ≤ 4294967295) (h1 : n ≤ 2000) (h2 : m ≤ 2000) :
    Calls Try.prog 7 #[.agg #[.int .u8 ((d 0).toNat : Int), .int .u8 ((d 1).toNat : Int), .int .u8 ((d 2).toNat : Int), .int .u8 ((d 3).toNat : Int), .int .u8 ((d 4).toNat : Int), .int .u8 ((d 5).toNat : Int), .int .u8 ((s 0).toNat : Int), .int .u8 ((s 1).toNat : Int), .int .u8 ((s 2).toNat : Int), .int .u8 ((s 3).toNat : Int), .int .u8 ((s 4).toNat : Int), .int .u8 ((s 5).toNat : Int), .int .u16 (k : Int), .slice ba n bc], .agg #[.int .u8 ((e 0).toNat : Int), .int .u8 ((e 1).toNat : Int), .int .u8 ((e 2).toNat : Int), .int .u8 ((e 3).toNat : Int), .int .u8 ((e 4).toNat : Int), .int .u8 ((e 5).toNat : Int), .int .u8 ((t 0).toNat : Int), .int .u8 ((t 1).toNat : Int), .int .u8 ((t 2).toNat : Int), .int .u8 ((t 3).toNat : Int), .int .u8 ((t 4).toNat : Int), .int .u8 ((t 5).toNat : Int), .int .u16 (l : Int), .slice bb m bd], .agg #[.int .u16 (o : Int), .int .u8 ((f 0).toNat : Int), .int .u8 ((f 1).toNat : Int), .int .u8 ((f 2).toNat : Int), .int .u8 ((f 3).toNat : Int), .int .u8 ((f 4).toNat : Int), .int .u8 ((f 5).toNat : Int), .int .u8 ((g 0).toNat : Int), .int .u8 ((g 1).toNat : Int), .int .u8 ((g 2).toNat : Int), .int .u8 ((g 3).toNat : Int), .int .u8 ((g 4).toNat : Int), .int .u8 ((g 5).toNat : Int), .int .u32 (x : Int), .int .u32 (y : Int)], .agg #[.int .u16 (p : Int), .int .u8 ((h 0).toNat : Int), .int .u8 ((h 1).toNat : Int), .int .u8 ((h 2).toNat : Int), .int .u8 ((h 3).toNat : Int), .int .u8 ((h 4).toNat : Int), .int .u8 ((h 5).toNat : Int), .int .u8 ((j 0).toNat : Int), .int .u8 ((j 1).toNat : Int), .int .u8 ((j 2).toNat : Int), .int .u8 ((j 3).toNat : Int), .int .u8 ((j 4).toNat : Int), .int .u8 ((j 5).toNat : Int), .int .u32 (z : Int), .int .u32 (u : Int)]] w fun r w' => r = .returned (.bool true) ∧ Below w.heap.size w w' := by
  have R1 := hide hr1
  have R2 := hide hr2
  have N1 := hide hn1
  have N2 := hide hn2
  have L1 := hide hl1
  have L2 := hide hl2
  have Q1 := hide hb1
  have Q2 := hide hb2
  clear hr1 hr2 hn1 hn2 hl1 hl2 hb1 hb2
  go_enter Try.func7, Try.ntmps7
  go_wp2_with fail
  obtain ⟨B0, B1, B2, B3, wq, e0, e1, e2, e3, hq, hbel, hfour⟩ : ∃ B0 B1 B2 B3 wq, w.heap.size = B0 ∧ w.heap.size + 1 = B1 ∧ w.heap.size + 1 + 1 = B2 ∧ w.heap.size + 1 + 1 + 1 = B3 ∧ (((w.alloc (.cells #[.int .u8 ((d 0).toNat : Int), .int .u8 ((d 1).toNat : Int), .int .u8 ((d 2).toNat : Int), .int .u8 ((d 3).toNat : Int), .int .u8 ((d 4).toNat : Int), .int .u8 ((d 5).toNat : Int), .int .u8 ((s 0).toNat : Int), .int .u8 ((s 1).toNat : Int), .int .u8 ((s 2).toNat : Int), .int .u8 ((s 3).toNat : Int), .int .u8 ((s 4).toNat : Int), .int .u8 ((s 5).toNat : Int), .int .u16 (k : Int), .slice ba n bc] 29)).alloc (.cells #[.int .u8 ((e 0).toNat : Int), .int .u8 ((e 1).toNat : Int), .int .u8 ((e 2).toNat : Int), .int .u8 ((e 3).toNat : Int), .int .u8 ((e 4).toNat : Int), .int .u8 ((e 5).toNat : Int), .int .u8 ((t 0).toNat : Int), .int .u8 ((t 1).toNat : Int), .int .u8 ((t 2).toNat : Int), .int .u8 ((t 3).toNat : Int), .int .u8 ((t 4).toNat : Int), .int .u8 ((t 5).toNat : Int), .int .u16 (l : Int), .slice bb m bd] 29)).alloc (.cells #[.int .u16 (o : Int), .int .u8 ((f 0).toNat : Int), .int .u8 ((f 1).toNat : Int), .int .u8 ((f 2).toNat : Int), .int .u8 ((f 3).toNat : Int), .int .u8 ((f 4).toNat : Int), .int .u8 ((f 5).toNat : Int), .int .u8 ((g 0).toNat : Int), .int .u8 ((g 1).toNat : Int), .int .u8 ((g 2).toNat : Int), .int .u8 ((g 3).toNat : Int), .int .u8 ((g 4).toNat : Int), .int .u8 ((g 5).toNat : Int), .int .u32 (x : Int), .int .u32 (y : Int)] 45)).alloc (.cells #[.int .u16 (p : Int), .int .u8 ((h 0).toNat : Int), .int .u8 ((h 1).toNat : Int), .int .u8 ((h 2).toNat : Int), .int .u8 ((h 3).toNat : Int), .int .u8 ((h 4).toNat : Int), .int .u8 ((h 5).toNat : Int), .int .u8 ((j 0).toNat : Int), .int .u8 ((j 1).toNat : Int), .int .u8 ((j 2).toNat : Int), .int .u8 ((j 3).toNat : Int), .int .u8 ((j 4).toNat : Int), .int .u8 ((j 5).toNat : Int), .int .u32 (z : Int), .int .u32 (u : Int)] 45) = wq ∧ Below w.heap.size w wq ∧
      Four wq B0 B1 B2 B3 #[.int .u8 ((d 0).toNat : Int), .int .u8 ((d 1).toNat : Int), .int .u8 ((d 2).toNat : Int), .int .u8 ((d 3).toNat : Int), .int .u8 ((d 4).toNat : Int), .int .u8 ((d 5).toNat : Int), .int .u8 ((s 0).toNat : Int), .int .u8 ((s 1).toNat : Int), .int .u8 ((s 2).toNat : Int), .int .u8 ((s 3).toNat : Int), .int .u8 ((s 4).toNat : Int), .int .u8 ((s 5).toNat : Int), .int .u16 (k : Int), .slice ba n bc] #[.int .u8 ((e 0).toNat : Int), .int .u8 ((e 1).toNat : Int), .int .u8 ((e 2).toNat : Int), .int .u8 ((e 3).toNat : Int), .int .u8 ((e 4).toNat : Int), .int .u8 ((e 5).toNat : Int), .int .u8 ((t 0).toNat : Int), .int .u8 ((t 1).toNat : Int), .int .u8 ((t 2).toNat : Int), .int .u8 ((t 3).toNat : Int), .int .u8 ((t 4).toNat : Int), .int .u8 ((t 5).toNat : Int), .int .u16 (l : Int), .slice bb m bd] #[.int .u16 (o : Int), .int .u8 ((f 0).toNat : Int), .int .u8 ((f 1).toNat : Int), .int .u8 ((f 2).toNat : Int), .int .u8 ((f 3).toNat : Int), .int .u8 ((f 4).toNat : Int), .int .u8 ((f 5).toNat : Int), .int .u8 ((g 0).toNat : Int), .int .u8 ((g 1).toNat : Int), .int .u8 ((g 2).toNat : Int), .int .u8 ((g 3).toNat : Int), .int .u8 ((g 4).toNat : Int), .int .u8 ((g 5).toNat : Int), .int .u32 (x : Int), .int .u32 (y : Int)] #[.int .u16 (p : Int), .int .u8 ((h 0).toNat : Int), .int .u8 ((h 1).toNat : Int), .int .u8 ((h 2).toNat : Int), .int .u8 ((h 3).toNat : Int), .int .u8 ((h 4).toNat : Int), .int .u8 ((h 5).toNat : Int), .int .u8 ((j 0).toNat : Int), .int .u8 ((j 1).toNat : Int), .int .u8 ((j 2).toNat : Int), .int .u8 ((j 3).toNat : Int), .int .u8 ((j 4).toNat : Int), .int .u8 ((j 5).toNat : Int), .int .u32 (z : Int), .int .u32 (u : Int)] := by
    refine ⟨_, _, _, _, _, rfl, rfl, rfl, rfl, rfl, ((((Below.refl _ _).alloc (Nat.le_refl _) _).alloc (by simp) _).alloc (by simp <;> omega) _).alloc (by simp <;> omega) _, ?_, ?_, ?_, ?_⟩
    · exact (Below.heap_alloc _ _ _ (by simp <;> omega)).trans ((Below.heap_alloc _ _ _ (by simp <;> omega)).trans ((Below.heap_alloc _ _ _ (by simp)).trans (heap_alloc_new w _)))
    · have q := heap_alloc_new (w.alloc (.cells #[.int .u8 ((d 0).toNat : Int), .int .u8 ((d 1).toNat : Int), .int .u8 ((d 2).toNat : Int), .int .u8 ((d 3).toNat : Int), .int .u8 ((d 4).toNat : Int), .int .u8 ((d 5).toNat : Int), .int .u8 ((s 0).toNat : Int), .int .u8 ((s 1).toNat : Int), .int .u8 ((s 2).toNat : Int), .int .u8 ((s 3).toNat : Int), .int .u8 ((s 4).toNat : Int), .int .u8 ((s 5).toNat : Int), .int .u16 (k : Int), .slice ba n bc] 29)) (.cells #[.int .u8 ((e 0).toNat : Int), .int .u8 ((e 1).toNat : Int), .int .u8 ((e 2).toNat : Int), .int .u8 ((e 3).toNat : Int), .int .u8 ((e 4).toNat : Int), .int .u8 ((e 5).toNat : Int), .int .u8 ((t 0).toNat : Int), .int .u8 ((t 1).toNat : Int), .int .u8 ((t 2).toNat : Int), .int .u8 ((t 3).toNat : Int), .int .u8 ((t 4).toNat : Int), .int .u8 ((t 5).toNat : Int), .int .u16 (l : Int), .slice bb m bd] 29)
      rw [World.size_alloc] at q
      exact (Below.heap_alloc _ _ _ (by simp <;> omega)).trans ((Below.heap_alloc _ _ _ (by simp)).trans q)
    · have q := heap_alloc_new ((w.alloc (.cells #[.int .u8 ((d 0).toNat : Int), .int .u8 ((d 1).toNat : Int), .int .u8 ((d 2).toNat : Int), .int .u8 ((d 3).toNat : Int), .int .u8 ((d 4).toNat : Int), .int .u8 ((d 5).toNat : Int), .int .u8 ((s 0).toNat : Int), .int .u8 ((s 1).toNat : Int), .int .u8 ((s 2).toNat : Int), .int .u8 ((s 3).toNat : Int), .int .u8 ((s 4).toNat : Int), .int .u8 ((s 5).toNat : Int), .int .u16 (k : Int), .slice ba n bc] 29)).alloc (.cells #[.int .u8 ((e 0).toNat : Int), .int .u8 ((e 1).toNat : Int), .int .u8 ((e 2).toNat : Int), .int .u8 ((e 3).toNat : Int), .int .u8 ((e 4).toNat : Int), .int .u8 ((e 5).toNat : Int), .int .u8 ((t 0).toNat : Int), .int .u8 ((t 1).toNat : Int), .int .u8 ((t 2).toNat : Int), .int .u8 ((t 3).toNat : Int), .int .u8 ((t 4).toNat : Int), .int .u8 ((t 5).toNat : Int), .int .u16 (l : Int), .slice bb m bd] 29)) (.cells #[.int .u16 (o : Int), .int .u8 ((f 0).toNat : Int), .int .u8 ((f 1).toNat : Int), .int .u8 ((f 2).toNat : Int), .int .u8 ((f 3).toNat : Int), .int .u8 ((f 4).toNat : Int), .int .u8 ((f 5).toNat : Int), .int .u8 ((g 0).toNat : Int), .int .u8 ((g 1).toNat : Int), .int .u8 ((g 2).toNat : Int), .int .u8 ((g 3).toNat : Int), .int .u8 ((g 4).toNat : Int), .int .u8 ((g 5).toNat : Int), .int .u32 (x : Int), .int .u32 (y : Int)] 45)
      rw [World.size_alloc, World.size_alloc] at q
      exact (Below.heap_alloc _ _ _ (by simp)).trans q
    · have q := heap_alloc_new (((w.alloc (.cells #[.int .u8 ((d 0).toNat : Int), .int .u8 ((d 1).toNat : Int), .int .u8 ((d 2).toNat : Int), .int .u8 ((d 3).toNat : Int), .int .u8 ((d 4).toNat : Int), .int .u8 ((d 5).toNat : Int), .int .u8 ((s 0).toNat : Int), .int .u8 ((s 1).toNat : Int), .int .u8 ((s 2).toNat : Int), .int .u8 ((s 3).toNat : Int), .int .u8 ((s 4).toNat : Int), .int .u8 ((s 5).toNat : Int), .int .u16 (k : Int), .slice ba n bc] 29)).alloc (.cells #[.int .u8 ((e 0).toNat : Int), .int .u8 ((e 1).toNat : Int), .int .u8 ((e 2).toNat : Int), .int .u8 ((e 3).toNat : Int), .int .u8 ((e 4).toNat : Int), .int .u8 ((e 5).toNat : Int), .int .u8 ((t 0).toNat : Int), .int .u8 ((t 1).toNat : Int), .int .u8 ((t 2).toNat : Int), .int .u8 ((t 3).toNat : Int), .int .u8 ((t 4).toNat : Int), .int .u8 ((t 5).toNat : Int), .int .u16 (l : Int), .slice bb m bd] 29)).alloc (.cells #[.int .u16 (o : Int), .int .u8 ((f 0).toNat : Int), .int .u8 ((f 1).toNat : Int), .int .u8 ((f 2).toNat : Int), .int .u8 ((f 3).toNat : Int), .int .u8 ((f 4).toNat : Int), .int .u8 ((f 5).toNat : Int), .int .u8 ((g 0).toNat : Int), .int .u8 ((g 1).toNat : Int), .int .u8 ((g 2).toNat : Int), .int .u8 ((g 3).toNat : Int), .int .u8 ((g 4).toNat : Int), .int .u8 ((g 5).toNat : Int), .int .u32 (x : Int), .int .u32 (y : Int)] 45)) (.cells #[.int .u16 (p : Int), .int .u8 ((h 0).toNat : Int), .int .u8 ((h 1).toNat : Int), .int .u8 ((h 2).toNat : Int), .int .u8 ((h 3).toNat : Int), .int .u8 ((h 4).toNat : Int), .int .u8 ((h 5).toNat : Int), .int .u8 ((j 0).toNat : Int), .int .u8 ((j 1).toNat : Int), .int .u8 ((j 2).toNat : Int), .int .u8 ((j 3).toNat : Int), .int .u8 ((j 4).toNat : Int), .int .u8 ((j 5).toNat : Int), .int .u32 (z : Int), .int .u32 (u : Int)] 45)
      rw [World.size_alloc, World.size_alloc, World.size_alloc] at q
      exact q
  rw [hq]
  rw [e3, e2, e1, e0]
  have E0 := hide e0
  clear hq e0 e1 e2 e3
  refine (speaks3_any _).mono ?_
  rintro r w1 ⟨rfl, hv1⟩
  have V1 := hide (hbel.trans (hv1.mono hbel.size))
  have F1 := hide (hfour.below hv1)
  clear hfour hv1 hbel
  obtain ⟨X1, m1, E1, XL1, XE1, XR1, C1⟩ := ewrite_all w1 d s k ba xs n bc (R1.out.below V1.out (Nat.le_refl _)) Q1.out N1.out L1.out hk1
  have CC1 := hide C1
  obtain ⟨fa0, fa1, fa2, fa3, fa4, fa5, fa6, fa7, fa8, fa9, fa10, fa11, fa12, fa13⟩ := frame_cells F1.out.1
  obtain ⟨fb0, fb1, fb2, fb3, fb4, fb5, fb6, fb7, fb8, fb9, fb10, fb11, fb12, fb13⟩ := frame_cells F1.out.2.1
  clear C1
  go_wp2_with fail
  refine CC1.out.mono ?_
  rintro r w2 ⟨a1, c1, rfl, row1, hv2⟩
  have V2 := hide (V1.out.trans (hv2.mono V1.out.size))
  have F2 := hide (F1.out.below hv2)
  have W1 := hide row1
  clear hv2 row1 fa0 fa1 fa2 fa3 fa4 fa5 fa6 fa7 fa8 fa9 fa10 fa11 fa12 fa13 fb0 fb1 fb2 fb3 fb4 fb5 fb6 fb7 fb8 fb9 fb10 fb11 fb12 fb13
  obtain ⟨X2, m2, E2, XL2, XE2, XR2, C2⟩ := ewrite_all w2 e t l bb ys m bd (R2.out.below V2.out (Nat.le_refl _)) Q2.out N2.out L2.out hk2
  have CC2 := hide C2
  obtain ⟨fb0, fb1, fb2, fb3, fb4, fb5, fb6, fb7, fb8, fb9, fb10, fb11, fb12, fb13⟩ := frame_cells F2.out.2.1
  clear C2
  go_wp2_with fail
  refine CC2.out.mono ?_
  rintro r w3 ⟨a2, c2, rfl, row2, hv3⟩
  have V3 := hide (V2.out.trans (hv3.mono V2.out.size))
  have F3 := hide (F2.out.below hv3)
  have W1b := hide (W1.out.below hv3 (Nat.le_refl _))
  have W2 := hide row2
  clear hv3 row2 fb0 fb1 fb2 fb3 fb4 fb5 fb6 fb7 fb8 fb9 fb10 fb11 fb12 fb13
  obtain ⟨X3, m3, E3, XL3, XE3, XR3, C3⟩ := earp_all w3 o f g x y hx hy
  have CC3 := hide C3
  obtain ⟨fb0, fb1, fb2, fb3, fb4, fb5, fb6, fb7, fb8, fb9, fb10, fb11, fb12, fb13, fb14⟩ := arp_cells F3.out.2.2.1
  clear C3
  go_wp2_with fail
  refine CC3.out.mono ?_
  rintro r w4 ⟨a3, c3, rfl, row3, hv4⟩
  have V4 := hide (V3.out.trans (hv4.mono V3.out.size))
  have F4 := hide (F3.out.below hv4)
  have W1c := hide (W1b.out.below hv4 (Nat.le_refl _))
  have W2c := hide (W2.out.below hv4 (Nat.le_refl _))
  have W3 := hide row3
  clear hv4 row3 fb0 fb1 fb2 fb3 fb4 fb5 fb6 fb7 fb8 fb9 fb10 fb11 fb12 fb13 fb14
  obtain ⟨X4, m4, E4, XL4, XE4, XR4, C4⟩ := earp_all w4 p h j z u hz hu
  have CC4 := hide C4
  obtain ⟨fb0, fb1, fb2, fb3, fb4, fb5, fb6, fb7, fb8, fb9, fb10, fb11, fb12, fb13, fb14⟩ := arp_cells F4.out.2.2.2
  clear C4
  go_wp2_with fail
  refine CC4.out.mono ?_
  rintro r w5 ⟨a4, c4, rfl, row4, hv5⟩
  have V5 := hide (V4.out.trans (hv5.mono V4.out.size))
  have F5 := hide (F4.out.below hv5)
  have W1d := hide (W1c.out.below hv5 (Nat.le_refl _))
  have W2d := hide (W2c.out.below hv5 (Nat.le_refl _))
  have W3d := hide (W3.out.below hv5 (Nat.le_refl _))
  have W4 := hide row4
  have K1 := hide XL1
  have K2 := hide XL2
  have K3 := hide XL3
  have K4 := hide XL4
  have T1 := hide XE1
  have T2 := hide XE2
  have T3 := hide XE3
  have T4 := hide XE4
  have Y1 := hide XR1
  have Y2 := hide XR2
  have Y3 := hide XR3
  have Y4 := hide XR4
  clear hv5 row4 fb0 fb1 fb2 fb3 fb4 fb5 fb6 fb7 fb8 fb9 fb10 fb11 fb12 fb13 fb14 XL1 XL2 XL3 XL4 XE1 XE2 XE3 XE4 XR1 XR2 XR3 XR4
  go_wp2_with fail
  go_cut [65] (fun c wx => c = .bool false ∧ Hid (Below w.heap.size w wx) ∧ Hid (Below w5.heap.size w5 wx))
  case first =>
    by_cases q1 : E1 = 0
    · by_cases q2 : E2 = 0
      · have z1 := T1.out q1
        have z2 := T2.out q2
        subst q1 q2 z1 z2
        have hcv : ∀ V, Below w5.heap.size w5 V → (convert 27 9 (.slice a1 m1 c1)).run Try.prog V = .ok (.string (strOfNums (frL d s k xs))) V ∧ (convert 27 9 (.slice a2 m2 c2)).run Try.prog V = .ok (.string (strOfNums (frL e t l ys))) V := fun V hV => by
          have q1 := conv_any a1 (frL d s k xs) c1 V (W1d.out.below hV (Nat.le_refl _))
          have q2 := conv_any a2 (frL e t l ys) c2 V (W2d.out.below hV (Nat.le_refl _))
          rw [K1.out] at q1
          rw [K2.out] at q2
          exact ⟨q1, q2⟩
        have hst := str_eq (frL d s k xs) (frL e t l ys) Y1.out Y2.out
        rw [frL_eqb d s e t k l xs ys hk1 hk2] at hst
        have hsm : ∀ V, Below w5.heap.size w5 V → Calls Try.prog 12 #[.agg #[.int .u8 ((d 0).toNat : Int), .int .u8 ((d 1).toNat : Int), .int .u8 ((d 2).toNat : Int), .int .u8 ((d 3).toNat : Int), .int .u8 ((d 4).toNat : Int), .int .u8 ((d 5).toNat : Int), .int .u8 ((s 0).toNat : Int), .int .u8 ((s 1).toNat : Int), .int .u8 ((s 2).toNat : Int), .int .u8 ((s 3).toNat : Int), .int .u8 ((s 4).toNat : Int), .int .u8 ((s 5).toNat : Int), .int .u16 (k : Int), .slice ba n bc], .agg #[.int .u8 ((e 0).toNat : Int), .int .u8 ((e 1).toNat : Int), .int .u8 ((e 2).toNat : Int), .int .u8 ((e 3).toNat : Int), .int .u8 ((e 4).toNat : Int), .int .u8 ((e 5).toNat : Int), .int .u8 ((t 0).toNat : Int), .int .u8 ((t 1).toNat : Int), .int .u8 ((t 2).toNat : Int), .int .u8 ((t 3).toNat : Int), .int .u8 ((t 4).toNat : Int), .int .u8 ((t 5).toNat : Int), .int .u16 (l : Int), .slice bb m bd]] V fun r w' => r = .returned (.bool ((([d 0, d 1, d 2, d 3, d 4, d 5] == [e 0, e 1, e 2, e 3, e 4, e 5]) && ([s 0, s 1, s 2, s 3, s 4, s 5] == [t 0, t 1, t 2, t 3, t 4, t 5])) && ((k : Int) == (l : Int)) && (xs == ys))) ∧ Below V.heap.size V w' := fun V hV =>
          same_any V d s e t k l ba bb xs ys n m bc bd ((R1.out.below V5.out (Nat.le_refl _)).below hV (Nat.le_refl _)) ((R2.out.below V5.out (Nat.le_refl _)).below hV (Nat.le_refl _)) L1.out L2.out Q1.out Q2.out
        generalize ((([d 0, d 1, d 2, d 3, d 4, d 5] == [e 0, e 1, e 2, e 3, e 4, e 5]) && ([s 0, s 1, s 2, s 3, s 4, s 5] == [t 0, t 1, t 2, t 3, t 4, t 5])) && ((k : Int) == (l : Int)) && (xs == ys)) = bq at *
        generalize strOfNums (frL d s k xs) = S1 at *
        generalize strOfNums (frL e t l ys) = S2 at *
        have HSM := hide hsm
        have HCV := hide hcv
        obtain ⟨hu1, hu2⟩ := hcv w5 (Below.refl _ _)
        obtain ⟨hv1, hv2⟩ := hcv w5.drew (Below.refl _ _).drew
        clear hcv
        obtain ⟨fa0, fa1, fa2, fa3, fa4, fa5, fa6, fa7, fa8, fa9, fa10, fa11, fa12, fa13⟩ := frame_cells F5.out.1
        obtain ⟨fb0, fb1, fb2, fb3, fb4, fb5, fb6, fb7, fb8, fb9, fb10, fb11, fb12, fb13⟩ := frame_cells F5.out.2.1
        clear hsm
        go_region_held3 (fun w' => w'.cell? ⟨B0, 0, none⟩ = some (.int .u8 ((d 0).toNat : Int)) ∧ w'.cell? ⟨B0, 1, none⟩ = some (.int .u8 ((d 1).toNat : Int)) ∧ w'.cell? ⟨B0, 2, none⟩ = some (.int .u8 ((d 2).toNat : Int)) ∧ w'.cell? ⟨B0, 3, none⟩ = some (.int .u8 ((d 3).toNat : Int)) ∧ w'.cell? ⟨B0, 4, none⟩ = some (.int .u8 ((d 4).toNat : Int)) ∧ w'.cell? ⟨B0, 5, none⟩ = some (.int .u8 ((d 5).toNat : Int)) ∧ w'.cell? ⟨B0, 6, none⟩ = some (.int .u8 ((s 0).toNat : Int)) ∧ w'.cell? ⟨B0, 7, none⟩ = some (.int .u8 ((s 1).toNat : Int)) ∧ w'.cell? ⟨B0, 8, none⟩ = some (.int .u8 ((s 2).toNat : Int)) ∧ w'.cell? ⟨B0, 9, none⟩ = some (.int .u8 ((s 3).toNat : Int)) ∧ w'.cell? ⟨B0, 10, none⟩ = some (.int .u8 ((s 4).toNat : Int)) ∧ w'.cell? ⟨B0, 11, none⟩ = some (.int .u8 ((s 5).toNat : Int)) ∧ w'.cell? ⟨B0, 12, none⟩ = some (.int .u16 (k : Int)) ∧ w'.cell? ⟨B0, 13, none⟩ = some (.slice ba n bc) ∧ w'.cell? ⟨B1, 0, none⟩ = some (.int .u8 ((e 0).toNat : Int)) ∧ w'.cell? ⟨B1, 1, none⟩ = some (.int .u8 ((e 1).toNat : Int)) ∧ w'.cell? ⟨B1, 2, none⟩ = some (.int .u8 ((e 2).toNat : Int)) ∧ w'.cell? ⟨B1, 3, none⟩ = some (.int .u8 ((e 3).toNat : Int)) ∧ w'.cell? ⟨B1, 4, none⟩ = some (.int .u8 ((e 4).toNat : Int)) ∧ w'.cell? ⟨B1, 5, none⟩ = some (.int .u8 ((e 5).toNat : Int)) ∧ w'.cell? ⟨B1, 6, none⟩ = some (.int .u8 ((t 0).toNat : Int)) ∧ w'.cell? ⟨B1, 7, none⟩ = some (.int .u8 ((t 1).toNat : Int)) ∧ w'.cell? ⟨B1, 8, none⟩ = some (.int .u8 ((t 2).toNat : Int)) ∧ w'.cell? ⟨B1, 9, none⟩ = some (.int .u8 ((t 3).toNat : Int)) ∧ w'.cell? ⟨B1, 10, none⟩ = some (.int .u8 ((t 4).toNat : Int)) ∧ w'.cell? ⟨B1, 11, none⟩ = some (.int .u8 ((t 5).toNat : Int)) ∧ w'.cell? ⟨B1, 12, none⟩ = some (.int .u16 (l : Int)) ∧ w'.cell? ⟨B1, 13, none⟩ = some (.slice bb m bd) ∧ (convert 27 9 (.slice a1 m1 c1)).run Try.prog w' = .ok (.string S1) w' ∧ (convert 27 9 (.slice a2 m2 c2)).run Try.prog w' = .ok (.string S2) w') (first | exact ⟨fa0, fa1, fa2, fa3, fa4, fa5, fa6, fa7, fa8, fa9, fa10, fa11, fa12, fa13, fb0, fb1, fb2, fb3, fb4, fb5, fb6, fb7, fb8, fb9, fb10, fb11, fb12, fb13, hu1, hu2⟩ | exact ⟨fa0, fa1, fa2, fa3, fa4, fa5, fa6, fa7, fa8, fa9, fa10, fa11, fa12, fa13, fb0, fb1, fb2, fb3, fb4, fb5, fb6, fb7, fb8, fb9, fb10, fb11, fb12, fb13, hv1, hv2⟩ | exact ⟨ga0, ga1, ga2, ga3, ga4, ga5, ga6, ga7, ga8, ga9, ga10, ga11, ga12, ga13, gb0, gb1, gb2, gb3, gb4, gb5, gb6, gb7, gb8, gb9, gb10, gb11, gb12, gb13, hy1, hy2⟩) (first
          | (go_at_call 12; (with_reducible refine (HSM.out _ ?_).mono ?_); (focus first | exact Below.refl _ _ | exact (Below.refl _ _).drew); rintro r w6 ⟨rfl, hv6⟩; have hv6' : Below w5.heap.size w5 w6 := (Below.refl w5.heap.size w5).drew.trans hv6; obtain ⟨ga0, ga1, ga2, ga3, ga4, ga5, ga6, ga7, ga8, ga9, ga10, ga11, ga12, ga13⟩ := frame_cells (F5.out.below hv6').1; obtain ⟨gb0, gb1, gb2, gb3, gb4, gb5, gb6, gb7, gb8, gb9, gb10, gb11, gb12, gb13⟩ := frame_cells (F5.out.below hv6').2.1; obtain ⟨hy1, hy2⟩ := HCV.out w6 hv6'; have V6 := hide hv6'; clear hv6 hv6'))
        go_wp2_with fail
        go_meet
        exact ⟨by simp, hide (V5.out.trans (V6.out.mono V5.out.size)), V6⟩
      · have hb : (E2 == 0) = false := by simpa using q2
        subst q1
        clear q2
        go_quiet (fail)
        go_wp2_with fail
        go_meet
        exact ⟨rfl, hide (bdrewN V5.out _), hide (bdrewN (Below.refl _ _) _)⟩
    · have hb : (E1 == 0) = false := by simpa using q1
      clear q1
      go_quiet (fail)
      go_wp2_with fail
      go_meet
      exact ⟨rfl, hide (bdrewN V5.out _), hide (bdrewN (Below.refl _ _) _)⟩
  case rest =>
    obtain ⟨rfl, VX, VY⟩ := hcut
    have F6 := hide (F5.out.below VY.out)
    have hb6 := VX.out
    have B6 := hide hb6
    clear hb6
    obtain ⟨fa0, fa1, fa2, fa3, fa4, fa5, fa6, fa7, fa8, fa9, fa10, fa11, fa12, fa13, fa14⟩ := arp_cells F6.out.2.2.1
    obtain ⟨fb0, fb1, fb2, fb3, fb4, fb5, fb6, fb7, fb8, fb9, fb10, fb11, fb12, fb13, fb14⟩ := arp_cells F6.out.2.2.2
    by_cases q1 : E3 = 0
    · by_cases q2 : E4 = 0
      · have z1 := T3.out q1
        have z2 := T4.out q2
        subst q1 q2 z1 z2
        have hcv : ∀ V, Below w5.heap.size w5 V → (convert 27 9 (.slice a3 m3 c3)).run Try.prog V = .ok (.string (strOfNums (arpL o f g x y))) V ∧ (convert 27 9 (.slice a4 m4 c4)).run Try.prog V = .ok (.string (strOfNums (arpL p h j z u))) V := fun V hV => by
          have q1 := conv_any a3 (arpL o f g x y) c3 V (W3d.out.below hV (Nat.le_refl _))
          have q2 := conv_any a4 (arpL p h j z u) c4 V (W4.out.below hV (Nat.le_refl _))
          rw [K3.out] at q1
          rw [K4.out] at q2
          exact ⟨q1, q2⟩
        have hst := str_eq (arpL o f g x y) (arpL p h j z u) Y3.out Y4.out
        rw [arpL_eqb o p f g h j x y z u ho hp hx hy hz hu] at hst
        have heq := arp_eql o p f g h j x y z u
        generalize ((((((o : Int) == (p : Int)) && ([f 0, f 1, f 2, f 3, f 4, f 5] == [h 0, h 1, h 2, h 3, h 4, h 5])) && ([g 0, g 1, g 2, g 3, g 4, g 5] == [j 0, j 1, j 2, j 3, j 4, j 5])) && ((x : Int) == (z : Int))) && ((y : Int) == (u : Int))) = bq at *
        generalize strOfNums (arpL o f g x y) = S1 at *
        generalize strOfNums (arpL p h j z u) = S2 at *
        have hy2 : ∀ nq, (convert 27 9 (.slice a3 m3 c3)).run Try.prog (wc.drewN nq) = .ok (.string S1) (wc.drewN nq) := fun nq => (hcv _ (bdrewN VY.out _)).1
        have hy3 : ∀ nq, (convert 27 9 (.slice a4 m4 c4)).run Try.prog (wc.drewN nq) = .ok (.string S2) (wc.drewN nq) := fun nq => (hcv _ (bdrewN VY.out _)).2
        clear hcv
        go_wp2_with fail
        go_quiet (fail)
        go_wp2
        go_ret
        exact ⟨by simp, bdrewN B6.out _⟩
      · have hb : (E4 != 0) = true := by simpa using q2
        subst q1
        clear q2
        go_wp2_with fail
        go_quiet (fail)
        go_wp2
        go_ret
        exact ⟨by simp, bdrewN B6.out _⟩
    · have hb : (E3 != 0) = true := by simpa using q1
      clear q1
      go_wp2_with fail
      go_quiet (fail)
      go_wp2
      go_ret
      exact ⟨by simp, bdrewN B6.out _⟩
end Go.Proofs.Ytebokkhaenadmaa
