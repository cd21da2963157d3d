/- The law that frames are put into bytes exactly, and read as they were, walked. -/
import Derived.Test.YtebokkhaenadmaaRWrite
import Derived.Test.YtebokkhaenadmaaERead
import Derived.Test.YtebokkhaenadmaaEtherWrites
namespace Go.Proofs.Ytebokkhaenadmaa
open Go.RowKit
set_option linter.unusedVariables false
set_option linter.unusedSimpArgs false
set_option maxRecDepth 100000 in
set_option maxHeartbeats 3200000 in
theorem etherWrites_long (w : World) (d s : Nat → UInt8) (k : Nat) (ba : Option Addr) (body : List Int) (n bc : Nat) (hr : Row .u8 w ba body) (hb : ∀ x ∈ body, 0 ≤ x ∧ x ≤ 255) (hn : ba = none → bc = 0) (hbl : body.length = n) (h3 : k ≤ 65535) (h1 : n ≤ 3000) (hlong : 1500 < n) :
    Calls Try.prog 4 #[.agg #[.int .u8 ((d 0).toNat : Int), .int .u8 ((d 1).toNat : Int), .int .u8 ((d 2).toNat : Int), .int .u8 ((d 3).toNat : Int), .int .u8 ((d 4).toNat : Int), .int .u8 ((d 5).toNat : Int), .int .u8 ((s 0).toNat : Int), .int .u8 ((s 1).toNat : Int), .int .u8 ((s 2).toNat : Int), .int .u8 ((s 3).toNat : Int), .int .u8 ((s 4).toNat : Int), .int .u8 ((s 5).toNat : Int), .int .u16 (k : Int), .slice ba n bc]] w fun e w' => e = .returned (.bool true) ∧ Below w.heap.size w w' := by
  have HR := hide hr
  have HN := hide hn
  have HL := hide hbl
  have HBB := hide hb
  clear hr hn hbl hb
  go_enter Try.func4, Try.ntmps4
  go_wp2_with fail
  obtain ⟨B0, wq, hB, hq, hlt, hbel, hheap⟩ : ∃ B0 wq, w.heap.size = B0 ∧ w.alloc (.cells #[.int .u8 ((d 0).toNat : Int), .int .u8 ((d 1).toNat : Int), .int .u8 ((d 2).toNat : Int), .int .u8 ((d 3).toNat : Int), .int .u8 ((d 4).toNat : Int), .int .u8 ((d 5).toNat : Int), .int .u8 ((s 0).toNat : Int), .int .u8 ((s 1).toNat : Int), .int .u8 ((s 2).toNat : Int), .int .u8 ((s 3).toNat : Int), .int .u8 ((s 4).toNat : Int), .int .u8 ((s 5).toNat : Int), .int .u16 (k : Int), .slice ba n bc] 29) = wq ∧ B0 < wq.heap.size ∧ Below w.heap.size w wq ∧
      wq.heap[B0]? = some (.cells #[.int .u8 ((d 0).toNat : Int), .int .u8 ((d 1).toNat : Int), .int .u8 ((d 2).toNat : Int), .int .u8 ((d 3).toNat : Int), .int .u8 ((d 4).toNat : Int), .int .u8 ((d 5).toNat : Int), .int .u8 ((s 0).toNat : Int), .int .u8 ((s 1).toNat : Int), .int .u8 ((s 2).toNat : Int), .int .u8 ((s 3).toNat : Int), .int .u8 ((s 4).toNat : Int), .int .u8 ((s 5).toNat : Int), .int .u16 (k : Int), .slice ba n bc] 29 (0, 0)) := ⟨_, _, rfl, rfl, by simp, (Below.refl _ _).alloc (Nat.le_refl _) _, heap_alloc_new _ _⟩
  rw [hq, hB]
  have HB := hide hB
  have HH := hide hheap
  clear hq hB hheap
  refine (speaks3_any _).mono ?_
  rintro e w1 ⟨rfl, hb1⟩
  have HH1 := hide ((hb1.block B0 hlt).trans HH.out)
  have hbw1 : Below w.heap.size w w1 := hbel.trans (hb1.mono hbel.size)
  have hlt1 : B0 < w1.heap.size := Nat.lt_of_lt_of_le hlt hb1.size
  obtain ⟨b0, b1, b2, b3, b4, b5, b6, b7, b8, b9, b10, b11, b12, b13⟩ := frame_cells HH1.out
  clear hb1 hlt hbel HH
  have hne1 : ¬ B0 = w1.heap.size := by omega
  have hne2 : ¬ w1.heap.size = B0 := by omega
  obtain ⟨va, wa, hrun, hown, hbl⟩ := app_own ((w1.alloc (.cells #[.int .u8 ((d 0).toNat : Int), .int .u8 ((d 1).toNat : Int), .int .u8 ((d 2).toNat : Int), .int .u8 ((d 3).toNat : Int), .int .u8 ((d 4).toNat : Int), .int .u8 ((d 5).toNat : Int), .int .u8 ((s 0).toNat : Int), .int .u8 ((s 1).toNat : Int), .int .u8 ((s 2).toNat : Int), .int .u8 ((s 3).toNat : Int), .int .u8 ((s 4).toNat : Int), .int .u8 ((s 5).toNat : Int), .int .u16 (k : Int), .slice ba n bc] 29)).alloc (.cells #[] 5)) (w1.heap.size + 1) (.slice (some ⟨w1.heap.size + 1, 0, none⟩) 0 0) 0 []
    (by have := World.ownsRow_lit (base := w1.heap.size + 1) (e := 5) (size := 1) (w1.alloc (.cells #[.int .u8 ((d 0).toNat : Int), .int .u8 ((d 1).toNat : Int), .int .u8 ((d 2).toNat : Int), .int .u8 ((d 3).toNat : Int), .int .u8 ((d 4).toNat : Int), .int .u8 ((d 5).toNat : Int), .int .u8 ((s 0).toNat : Int), .int .u8 ((s 1).toNat : Int), .int .u8 ((s 2).toNat : Int), .int .u8 ((s 3).toNat : Int), .int .u8 ((s 4).toNat : Int), .int .u8 ((s 5).toNat : Int), .int .u16 (k : Int), .slice ba n bc] 29)) #[] 0 (by simp) (by unfold maxLen; omega) rfl; simpa using this)
    ba body n bc (HR.out.below (hbw1.trans (((Below.refl w1.heap.size w1).alloc (Nat.le_refl _) _).alloc (by simp) _ |>.mono hbw1.size)) (Nat.le_refl _)) HL.out HN.out (by omega) (by simp)
  obtain ⟨ga, ca, rfl⟩ := slice_form hown
  rw [Nat.zero_add] at hrun hown
  rw [List.nil_append] at hown
  have hF0 : ((w1.alloc (.cells #[.int .u8 ((d 0).toNat : Int), .int .u8 ((d 1).toNat : Int), .int .u8 ((d 2).toNat : Int), .int .u8 ((d 3).toNat : Int), .int .u8 ((d 4).toNat : Int), .int .u8 ((d 5).toNat : Int), .int .u8 ((s 0).toNat : Int), .int .u8 ((s 1).toNat : Int), .int .u8 ((s 2).toNat : Int), .int .u8 ((s 3).toNat : Int), .int .u8 ((s 4).toNat : Int), .int .u8 ((s 5).toNat : Int), .int .u16 (k : Int), .slice ba n bc] 29)).alloc (.cells #[] 5)).heap[w1.heap.size]? = some (.cells #[.int .u8 ((d 0).toNat : Int), .int .u8 ((d 1).toNat : Int), .int .u8 ((d 2).toNat : Int), .int .u8 ((d 3).toNat : Int), .int .u8 ((d 4).toNat : Int), .int .u8 ((d 5).toNat : Int), .int .u8 ((s 0).toNat : Int), .int .u8 ((s 1).toNat : Int), .int .u8 ((s 2).toNat : Int), .int .u8 ((s 3).toNat : Int), .int .u8 ((s 4).toNat : Int), .int .u8 ((s 5).toNat : Int), .int .u16 (k : Int), .slice ba n bc] 29 (0, 0)) := (Below.heap_alloc _ _ _ (by simp)).trans (heap_alloc_new w1 _)
  have hFa : wa.heap[w1.heap.size]? = some (.cells #[.int .u8 ((d 0).toNat : Int), .int .u8 ((d 1).toNat : Int), .int .u8 ((d 2).toNat : Int), .int .u8 ((d 3).toNat : Int), .int .u8 ((d 4).toNat : Int), .int .u8 ((d 5).toNat : Int), .int .u8 ((s 0).toNat : Int), .int .u8 ((s 1).toNat : Int), .int .u8 ((s 2).toNat : Int), .int .u8 ((s 3).toNat : Int), .int .u8 ((s 4).toNat : Int), .int .u8 ((s 5).toNat : Int), .int .u16 (k : Int), .slice ba n bc] 29 (0, 0)) := (hbl.block _ (by omega)).trans hF0
  have hBa : wa.heap[B0]? = some (.cells #[.int .u8 ((d 0).toNat : Int), .int .u8 ((d 1).toNat : Int), .int .u8 ((d 2).toNat : Int), .int .u8 ((d 3).toNat : Int), .int .u8 ((d 4).toNat : Int), .int .u8 ((d 5).toNat : Int), .int .u8 ((s 0).toNat : Int), .int .u8 ((s 1).toNat : Int), .int .u8 ((s 2).toNat : Int), .int .u8 ((s 3).toNat : Int), .int .u8 ((s 4).toNat : Int), .int .u8 ((s 5).toNat : Int), .int .u16 (k : Int), .slice ba n bc] 29 (0, 0)) := (hbl.block _ (by omega)).trans ((Below.heap_alloc _ _ _ (by simp; omega)).trans ((Below.heap_alloc _ _ _ hlt1).trans HH1.out))
  obtain ⟨m0, m1, m2, m3, m4, m5, m6, m7, m8, m9, m10, m11, m12, m13⟩ := frame_cells hFa
  have mf : wa.frozen? ⟨w1.heap.size, 13, none⟩ = false := by simp [World.frozen?, hFa]
  have hwa : Below w.heap.size w wa := (hbw1.trans (((Below.refl w1.heap.size w1).alloc (Nat.le_refl _) _).alloc (by simp) _ |>.mono hbw1.size)).trans (hbl.mono (by have := hbw1.size; omega))
  have hsa := hbl.size
  simp only [World.size_alloc] at hsa
  have HFa := hide hFa
  have HBa := hide hBa
  have HRUN := hide hrun
  have HOWN := hide hown
  have HWA := hide hwa
  have hw11 := hbw1.size
  clear hrun hown hbl hF0 hFa hBa hwa hbw1
  go_wp2_with (at_builtin; refine Lib.wpList_append_run _ rfl _ _ _ _ rfl _ _ rfl rfl _ _ HRUN.out ?_)
  go_wp2_with fail
  obtain ⟨F, wb, hF, hwb, hFb, hBb, hob, hwbb, hsb⟩ : ∃ F wb, w1.heap.size = F ∧ wa.setCell ⟨w1.heap.size, 13, none⟩ (.slice ga n ca) = wb ∧ wb.heap[w1.heap.size]? = some (.cells #[.int .u8 ((d 0).toNat : Int), .int .u8 ((d 1).toNat : Int), .int .u8 ((d 2).toNat : Int), .int .u8 ((d 3).toNat : Int), .int .u8 ((d 4).toNat : Int), .int .u8 ((d 5).toNat : Int), .int .u8 ((s 0).toNat : Int), .int .u8 ((s 1).toNat : Int), .int .u8 ((s 2).toNat : Int), .int .u8 ((s 3).toNat : Int), .int .u8 ((s 4).toNat : Int), .int .u8 ((s 5).toNat : Int), .int .u16 (k : Int), .slice ga n ca] 29 (0, 0)) ∧ wb.heap[B0]? = some (.cells #[.int .u8 ((d 0).toNat : Int), .int .u8 ((d 1).toNat : Int), .int .u8 ((d 2).toNat : Int), .int .u8 ((d 3).toNat : Int), .int .u8 ((d 4).toNat : Int), .int .u8 ((d 5).toNat : Int), .int .u8 ((s 0).toNat : Int), .int .u8 ((s 1).toNat : Int), .int .u8 ((s 2).toNat : Int), .int .u8 ((s 3).toNat : Int), .int .u8 ((s 4).toNat : Int), .int .u8 ((s 5).toNat : Int), .int .u16 (k : Int), .slice ba n bc] 29 (0, 0)) ∧
      Hid (wb.ownsRow (w1.heap.size + 1) 5 1 (.slice ga n ca) n (body.map (Value.int .u8))) ∧ Hid (Below w.heap.size w wb) ∧ wb.heap.size = wa.heap.size := by
    refine ⟨_, _, rfl, rfl, ?_, (Below.heap_setCell _ _ _ _ (by simp; omega)).trans HBa.out, owns_set HOWN.out (by omega), Below.setCell HWA.out (by simp; omega) _, by simp⟩
    have hlt := lt_of_block HFa.out
    have h' : wa.heap[w1.heap.size] = .cells #[.int .u8 ((d 0).toNat : Int), .int .u8 ((d 1).toNat : Int), .int .u8 ((d 2).toNat : Int), .int .u8 ((d 3).toNat : Int), .int .u8 ((d 4).toNat : Int), .int .u8 ((d 5).toNat : Int), .int .u8 ((s 0).toNat : Int), .int .u8 ((s 1).toNat : Int), .int .u8 ((s 2).toNat : Int), .int .u8 ((s 3).toNat : Int), .int .u8 ((s 4).toNat : Int), .int .u8 ((s 5).toNat : Int), .int .u16 (k : Int), .slice ba n bc] 29 (0, 0) := by simpa [Array.getElem?_eq_getElem hlt] using HFa.out
    show (wa.heap.modify w1.heap.size _)[w1.heap.size]? = _
    rw [Array.getElem?_eq_getElem (by simpa using hlt), Array.getElem_modify_self, h']
    rfl
  rw [hwb, hF]
  rw [hF] at hFb hob hsa
  obtain ⟨p0, p1, p2, p3, p4, p5, p6, p7, p8, p9, p10, p11, p12, p13⟩ := frame_cells hFb
  obtain ⟨q0, q1, q2, q3, q4, q5, q6, q7, q8, q9, q10, q11, q12, q13⟩ := frame_cells hBb
  have hFl : F < wb.heap.size := by omega
  have hBl : B0 < wb.heap.size := by omega
  have HFb := hide hFb
  have HBb := hide hBb
  clear b0 b1 b2 b3 b4 b5 b6 b7 b8 b9 b10 b11 b12 b13 m0 m1 m2 m3 m4 m5 m6 m7 m8 m9 m10 m11 m12 m13 mf hwb hF hFb hBb
  have rR := fun (V : World) (hV : Below wb.heap.size wb V) => hide (HR.out.below (hwbb.out.trans (hV.mono hwbb.out.size)) (Nat.le_refl _))
  have rO := fun (V : World) (hV : Below wb.heap.size wb V) => hide (Row.of_owns (owns_below hob.out hV (Nat.le_refl _)))
  have RR := hide rR
  have RO := hide rO
  clear rR rO
  refine (ewrite_long wb d s (k : Int) ga n ca hlong).mono ?_
  rintro e w3 ⟨rfl, hb3⟩
  have B3 := hide hb3
  have HF3 := hide ((hb3.block F hFl).trans HFb.out)
  have HB3 := hide ((hb3.block B0 hBl).trans HBb.out)
  obtain ⟨t0, t1, t2, t3, t4, t5, t6, t7, t8, t9, t10, t11, t12, t13⟩ := frame_cells HB3.out
  clear hb3 p0 p1 p2 p3 p4 p5 p6 p7 p8 p9 p10 p11 p12 p13 q0 q1 q2 q3 q4 q5 q6 q7 q8 q9 q10 q11 q12 q13
  go_wp2_with fail
  refine (rwrite_long w3 d s (k : Int) ba n bc hlong).mono ?_
  rintro e w4 ⟨g4, rfl, hb4⟩
  have B4 := hide (B3.out.trans (hb4.mono B3.out.size))
  have hF3 := Nat.lt_of_lt_of_le hFl B3.out.size
  have hB3 := Nat.lt_of_lt_of_le hBl B3.out.size
  have HF4 := hide ((hb4.block F hF3).trans HF3.out)
  have HB4 := hide ((hb4.block B0 hB3).trans HB3.out)
  obtain ⟨x0, x1, x2, x3, x4, x5, x6, x7, x8, x9, x10, x11, x12, x13⟩ := frame_cells HF4.out
  obtain ⟨y0, y1, y2, y3, y4, y5, y6, y7, y8, y9, y10, y11, y12, y13⟩ := frame_cells HB4.out
  clear hb4 t0 t1 t2 t3 t4 t5 t6 t7 t8 t9 t10 t11 t12 t13
  have hc1 := conv_any none [] 0 w4 (fun h => absurd rfl h)
  have hc2 := conv_any (some ⟨g4, 0, none⟩) [] 0 w4 (fun h => absurd rfl h)
  rw [List.length_nil] at hc1 hc2
  have hss : ((strOfNums []).toList == (strOfNums []).toList) = true := by simp
  have hsn : ((strOfNums []).toList != (strOfNums []).toList) = false := by simp
  generalize strOfNums [] = S at *
  have hsame := same_any w4 d s d s k k ga ba body body n n ca bc (RO.out w4 B4.out).out (RR.out w4 B4.out).out HL.out HL.out HBB.out HBB.out
  rw [show ((([d 0, d 1, d 2, d 3, d 4, d 5] == [d 0, d 1, d 2, d 3, d 4, d 5]) && ([s 0, s 1, s 2, s 3, s 4, s 5] == [s 0, s 1, s 2, s 3, s 4, s 5])) && ((k : Int) == (k : Int)) && (body == body)) = true by simp] at hsame
  have HSAME := hide hsame
  clear hsame
  go_wp2_with fail
  refine HSAME.out.mono ?_
  rintro e w5 ⟨rfl, hb5⟩
  have hfin : Below w.heap.size w w5 := by
    have h6 := hwbb.out.trans (B4.out.mono hwbb.out.size)
    exact h6.trans (hb5.mono h6.size)
  have HFIN := hide hfin
  clear hb5 hfin hc1 hc2 hss hsn x0 x1 x2 x3 x4 x5 x6 x7 x8 x9 x10 x11 x12 x13 y0 y1 y2 y3 y4 y5 y6 y7 y8 y9 y10 y11 y12 y13
  go_wp2
  go_ret
  exact ⟨rfl, HFIN.out⟩
set_option maxRecDepth 100000 in
set_option maxHeartbeats 3200000 in
theorem etherWrites_arg (w : World) (d s : Nat → UInt8) (k : Nat) (ba : Option Addr) (body : List Int) (n bc : Nat) (hr : Row .u8 w ba body) (hb : ∀ x ∈ body, 0 ≤ x ∧ x ≤ 255) (hn : ba = none → bc = 0) (hbl : body.length = n) (h3 : k ≤ 65535) (h1 : n ≤ 1500) (hk : (k : Int) < 1536) :
    Calls Try.prog 4 #[.agg #[.int .u8 ((d 0).toNat : Int), .int .u8 ((d 1).toNat : Int), .int .u8 ((d 2).toNat : Int), .int .u8 ((d 3).toNat : Int), .int .u8 ((d 4).toNat : Int), .int .u8 ((d 5).toNat : Int), .int .u8 ((s 0).toNat : Int), .int .u8 ((s 1).toNat : Int), .int .u8 ((s 2).toNat : Int), .int .u8 ((s 3).toNat : Int), .int .u8 ((s 4).toNat : Int), .int .u8 ((s 5).toNat : Int), .int .u16 (k : Int), .slice ba n bc]] w fun e w' => e = .returned (.bool true) ∧ Below w.heap.size w w' := by
  have HR := hide hr
  have HN := hide hn
  have HL := hide hbl
  have HBB := hide hb
  clear hr hn hbl hb
  go_enter Try.func4, Try.ntmps4
  go_wp2_with fail
  obtain ⟨B0, wq, hB, hq, hlt, hbel, hheap⟩ : ∃ B0 wq, w.heap.size = B0 ∧ w.alloc (.cells #[.int .u8 ((d 0).toNat : Int), .int .u8 ((d 1).toNat : Int), .int .u8 ((d 2).toNat : Int), .int .u8 ((d 3).toNat : Int), .int .u8 ((d 4).toNat : Int), .int .u8 ((d 5).toNat : Int), .int .u8 ((s 0).toNat : Int), .int .u8 ((s 1).toNat : Int), .int .u8 ((s 2).toNat : Int), .int .u8 ((s 3).toNat : Int), .int .u8 ((s 4).toNat : Int), .int .u8 ((s 5).toNat : Int), .int .u16 (k : Int), .slice ba n bc] 29) = wq ∧ B0 < wq.heap.size ∧ Below w.heap.size w wq ∧
      wq.heap[B0]? = some (.cells #[.int .u8 ((d 0).toNat : Int), .int .u8 ((d 1).toNat : Int), .int .u8 ((d 2).toNat : Int), .int .u8 ((d 3).toNat : Int), .int .u8 ((d 4).toNat : Int), .int .u8 ((d 5).toNat : Int), .int .u8 ((s 0).toNat : Int), .int .u8 ((s 1).toNat : Int), .int .u8 ((s 2).toNat : Int), .int .u8 ((s 3).toNat : Int), .int .u8 ((s 4).toNat : Int), .int .u8 ((s 5).toNat : Int), .int .u16 (k : Int), .slice ba n bc] 29 (0, 0)) := ⟨_, _, rfl, rfl, by simp, (Below.refl _ _).alloc (Nat.le_refl _) _, heap_alloc_new _ _⟩
  rw [hq, hB]
  have HB := hide hB
  have HH := hide hheap
  clear hq hB hheap
  refine (speaks3_any _).mono ?_
  rintro e w1 ⟨rfl, hb1⟩
  have HH1 := hide ((hb1.block B0 hlt).trans HH.out)
  have hbw1 : Below w.heap.size w w1 := hbel.trans (hb1.mono hbel.size)
  have hlt1 : B0 < w1.heap.size := Nat.lt_of_lt_of_le hlt hb1.size
  obtain ⟨b0, b1, b2, b3, b4, b5, b6, b7, b8, b9, b10, b11, b12, b13⟩ := frame_cells HH1.out
  clear hb1 hlt hbel HH
  have hne1 : ¬ B0 = w1.heap.size := by omega
  have hne2 : ¬ w1.heap.size = B0 := by omega
  obtain ⟨va, wa, hrun, hown, hbl⟩ := app_own ((w1.alloc (.cells #[.int .u8 ((d 0).toNat : Int), .int .u8 ((d 1).toNat : Int), .int .u8 ((d 2).toNat : Int), .int .u8 ((d 3).toNat : Int), .int .u8 ((d 4).toNat : Int), .int .u8 ((d 5).toNat : Int), .int .u8 ((s 0).toNat : Int), .int .u8 ((s 1).toNat : Int), .int .u8 ((s 2).toNat : Int), .int .u8 ((s 3).toNat : Int), .int .u8 ((s 4).toNat : Int), .int .u8 ((s 5).toNat : Int), .int .u16 (k : Int), .slice ba n bc] 29)).alloc (.cells #[] 5)) (w1.heap.size + 1) (.slice (some ⟨w1.heap.size + 1, 0, none⟩) 0 0) 0 []
    (by have := World.ownsRow_lit (base := w1.heap.size + 1) (e := 5) (size := 1) (w1.alloc (.cells #[.int .u8 ((d 0).toNat : Int), .int .u8 ((d 1).toNat : Int), .int .u8 ((d 2).toNat : Int), .int .u8 ((d 3).toNat : Int), .int .u8 ((d 4).toNat : Int), .int .u8 ((d 5).toNat : Int), .int .u8 ((s 0).toNat : Int), .int .u8 ((s 1).toNat : Int), .int .u8 ((s 2).toNat : Int), .int .u8 ((s 3).toNat : Int), .int .u8 ((s 4).toNat : Int), .int .u8 ((s 5).toNat : Int), .int .u16 (k : Int), .slice ba n bc] 29)) #[] 0 (by simp) (by unfold maxLen; omega) rfl; simpa using this)
    ba body n bc (HR.out.below (hbw1.trans (((Below.refl w1.heap.size w1).alloc (Nat.le_refl _) _).alloc (by simp) _ |>.mono hbw1.size)) (Nat.le_refl _)) HL.out HN.out (by omega) (by simp)
  obtain ⟨ga, ca, rfl⟩ := slice_form hown
  rw [Nat.zero_add] at hrun hown
  rw [List.nil_append] at hown
  have hF0 : ((w1.alloc (.cells #[.int .u8 ((d 0).toNat : Int), .int .u8 ((d 1).toNat : Int), .int .u8 ((d 2).toNat : Int), .int .u8 ((d 3).toNat : Int), .int .u8 ((d 4).toNat : Int), .int .u8 ((d 5).toNat : Int), .int .u8 ((s 0).toNat : Int), .int .u8 ((s 1).toNat : Int), .int .u8 ((s 2).toNat : Int), .int .u8 ((s 3).toNat : Int), .int .u8 ((s 4).toNat : Int), .int .u8 ((s 5).toNat : Int), .int .u16 (k : Int), .slice ba n bc] 29)).alloc (.cells #[] 5)).heap[w1.heap.size]? = some (.cells #[.int .u8 ((d 0).toNat : Int), .int .u8 ((d 1).toNat : Int), .int .u8 ((d 2).toNat : Int), .int .u8 ((d 3).toNat : Int), .int .u8 ((d 4).toNat : Int), .int .u8 ((d 5).toNat : Int), .int .u8 ((s 0).toNat : Int), .int .u8 ((s 1).toNat : Int), .int .u8 ((s 2).toNat : Int), .int .u8 ((s 3).toNat : Int), .int .u8 ((s 4).toNat : Int), .int .u8 ((s 5).toNat : Int), .int .u16 (k : Int), .slice ba n bc] 29 (0, 0)) := (Below.heap_alloc _ _ _ (by simp)).trans (heap_alloc_new w1 _)
  have hFa : wa.heap[w1.heap.size]? = some (.cells #[.int .u8 ((d 0).toNat : Int), .int .u8 ((d 1).toNat : Int), .int .u8 ((d 2).toNat : Int), .int .u8 ((d 3).toNat : Int), .int .u8 ((d 4).toNat : Int), .int .u8 ((d 5).toNat : Int), .int .u8 ((s 0).toNat : Int), .int .u8 ((s 1).toNat : Int), .int .u8 ((s 2).toNat : Int), .int .u8 ((s 3).toNat : Int), .int .u8 ((s 4).toNat : Int), .int .u8 ((s 5).toNat : Int), .int .u16 (k : Int), .slice ba n bc] 29 (0, 0)) := (hbl.block _ (by omega)).trans hF0
  have hBa : wa.heap[B0]? = some (.cells #[.int .u8 ((d 0).toNat : Int), .int .u8 ((d 1).toNat : Int), .int .u8 ((d 2).toNat : Int), .int .u8 ((d 3).toNat : Int), .int .u8 ((d 4).toNat : Int), .int .u8 ((d 5).toNat : Int), .int .u8 ((s 0).toNat : Int), .int .u8 ((s 1).toNat : Int), .int .u8 ((s 2).toNat : Int), .int .u8 ((s 3).toNat : Int), .int .u8 ((s 4).toNat : Int), .int .u8 ((s 5).toNat : Int), .int .u16 (k : Int), .slice ba n bc] 29 (0, 0)) := (hbl.block _ (by omega)).trans ((Below.heap_alloc _ _ _ (by simp; omega)).trans ((Below.heap_alloc _ _ _ hlt1).trans HH1.out))
  obtain ⟨m0, m1, m2, m3, m4, m5, m6, m7, m8, m9, m10, m11, m12, m13⟩ := frame_cells hFa
  have mf : wa.frozen? ⟨w1.heap.size, 13, none⟩ = false := by simp [World.frozen?, hFa]
  have hwa : Below w.heap.size w wa := (hbw1.trans (((Below.refl w1.heap.size w1).alloc (Nat.le_refl _) _).alloc (by simp) _ |>.mono hbw1.size)).trans (hbl.mono (by have := hbw1.size; omega))
  have hsa := hbl.size
  simp only [World.size_alloc] at hsa
  have HFa := hide hFa
  have HBa := hide hBa
  have HRUN := hide hrun
  have HOWN := hide hown
  have HWA := hide hwa
  have hw11 := hbw1.size
  clear hrun hown hbl hF0 hFa hBa hwa hbw1
  go_wp2_with (at_builtin; refine Lib.wpList_append_run _ rfl _ _ _ _ rfl _ _ rfl rfl _ _ HRUN.out ?_)
  go_wp2_with fail
  obtain ⟨F, wb, hF, hwb, hFb, hBb, hob, hwbb, hsb⟩ : ∃ F wb, w1.heap.size = F ∧ wa.setCell ⟨w1.heap.size, 13, none⟩ (.slice ga n ca) = wb ∧ wb.heap[w1.heap.size]? = some (.cells #[.int .u8 ((d 0).toNat : Int), .int .u8 ((d 1).toNat : Int), .int .u8 ((d 2).toNat : Int), .int .u8 ((d 3).toNat : Int), .int .u8 ((d 4).toNat : Int), .int .u8 ((d 5).toNat : Int), .int .u8 ((s 0).toNat : Int), .int .u8 ((s 1).toNat : Int), .int .u8 ((s 2).toNat : Int), .int .u8 ((s 3).toNat : Int), .int .u8 ((s 4).toNat : Int), .int .u8 ((s 5).toNat : Int), .int .u16 (k : Int), .slice ga n ca] 29 (0, 0)) ∧ wb.heap[B0]? = some (.cells #[.int .u8 ((d 0).toNat : Int), .int .u8 ((d 1).toNat : Int), .int .u8 ((d 2).toNat : Int), .int .u8 ((d 3).toNat : Int), .int .u8 ((d 4).toNat : Int), .int .u8 ((d 5).toNat : Int), .int .u8 ((s 0).toNat : Int), .int .u8 ((s 1).toNat : Int), .int .u8 ((s 2).toNat : Int), .int .u8 ((s 3).toNat : Int), .int .u8 ((s 4).toNat : Int), .int .u8 ((s 5).toNat : Int), .int .u16 (k : Int), .slice ba n bc] 29 (0, 0)) ∧
      Hid (wb.ownsRow (w1.heap.size + 1) 5 1 (.slice ga n ca) n (body.map (Value.int .u8))) ∧ Hid (Below w.heap.size w wb) ∧ wb.heap.size = wa.heap.size := by
    refine ⟨_, _, rfl, rfl, ?_, (Below.heap_setCell _ _ _ _ (by simp; omega)).trans HBa.out, owns_set HOWN.out (by omega), Below.setCell HWA.out (by simp; omega) _, by simp⟩
    have hlt := lt_of_block HFa.out
    have h' : wa.heap[w1.heap.size] = .cells #[.int .u8 ((d 0).toNat : Int), .int .u8 ((d 1).toNat : Int), .int .u8 ((d 2).toNat : Int), .int .u8 ((d 3).toNat : Int), .int .u8 ((d 4).toNat : Int), .int .u8 ((d 5).toNat : Int), .int .u8 ((s 0).toNat : Int), .int .u8 ((s 1).toNat : Int), .int .u8 ((s 2).toNat : Int), .int .u8 ((s 3).toNat : Int), .int .u8 ((s 4).toNat : Int), .int .u8 ((s 5).toNat : Int), .int .u16 (k : Int), .slice ba n bc] 29 (0, 0) := by simpa [Array.getElem?_eq_getElem hlt] using HFa.out
    show (wa.heap.modify w1.heap.size _)[w1.heap.size]? = _
    rw [Array.getElem?_eq_getElem (by simpa using hlt), Array.getElem_modify_self, h']
    rfl
  rw [hwb, hF]
  rw [hF] at hFb hob hsa
  obtain ⟨p0, p1, p2, p3, p4, p5, p6, p7, p8, p9, p10, p11, p12, p13⟩ := frame_cells hFb
  obtain ⟨q0, q1, q2, q3, q4, q5, q6, q7, q8, q9, q10, q11, q12, q13⟩ := frame_cells hBb
  have hFl : F < wb.heap.size := by omega
  have hBl : B0 < wb.heap.size := by omega
  have HFb := hide hFb
  have HBb := hide hBb
  clear b0 b1 b2 b3 b4 b5 b6 b7 b8 b9 b10 b11 b12 b13 m0 m1 m2 m3 m4 m5 m6 m7 m8 m9 m10 m11 m12 m13 mf hwb hF hFb hBb
  have rR := fun (V : World) (hV : Below wb.heap.size wb V) => hide (HR.out.below (hwbb.out.trans (hV.mono hwbb.out.size)) (Nat.le_refl _))
  have rO := fun (V : World) (hV : Below wb.heap.size wb V) => hide (Row.of_owns (owns_below hob.out hV (Nat.le_refl _)))
  have RR := hide rR
  have RO := hide rO
  clear rR rO
  refine (ewrite_arg wb d s (k : Int) ga n ca h1 hk).mono ?_
  rintro e w3 ⟨rfl, hb3⟩
  have B3 := hide hb3
  have HF3 := hide ((hb3.block F hFl).trans HFb.out)
  have HB3 := hide ((hb3.block B0 hBl).trans HBb.out)
  obtain ⟨t0, t1, t2, t3, t4, t5, t6, t7, t8, t9, t10, t11, t12, t13⟩ := frame_cells HB3.out
  clear hb3 p0 p1 p2 p3 p4 p5 p6 p7 p8 p9 p10 p11 p12 p13 q0 q1 q2 q3 q4 q5 q6 q7 q8 q9 q10 q11 q12 q13
  go_wp2_with fail
  refine (rwrite_arg w3 d s (k : Int) ba n bc h1 hk).mono ?_
  rintro e w4 ⟨g4, rfl, hb4⟩
  have B4 := hide (B3.out.trans (hb4.mono B3.out.size))
  have hF3 := Nat.lt_of_lt_of_le hFl B3.out.size
  have hB3 := Nat.lt_of_lt_of_le hBl B3.out.size
  have HF4 := hide ((hb4.block F hF3).trans HF3.out)
  have HB4 := hide ((hb4.block B0 hB3).trans HB3.out)
  obtain ⟨x0, x1, x2, x3, x4, x5, x6, x7, x8, x9, x10, x11, x12, x13⟩ := frame_cells HF4.out
  obtain ⟨y0, y1, y2, y3, y4, y5, y6, y7, y8, y9, y10, y11, y12, y13⟩ := frame_cells HB4.out
  clear hb4 t0 t1 t2 t3 t4 t5 t6 t7 t8 t9 t10 t11 t12 t13
  have hc1 := conv_any none [] 0 w4 (fun h => absurd rfl h)
  have hc2 := conv_any (some ⟨g4, 0, none⟩) [] 0 w4 (fun h => absurd rfl h)
  rw [List.length_nil] at hc1 hc2
  have hss : ((strOfNums []).toList == (strOfNums []).toList) = true := by simp
  have hsn : ((strOfNums []).toList != (strOfNums []).toList) = false := by simp
  generalize strOfNums [] = S at *
  have hsame := same_any w4 d s d s k k ga ba body body n n ca bc (RO.out w4 B4.out).out (RR.out w4 B4.out).out HL.out HL.out HBB.out HBB.out
  rw [show ((([d 0, d 1, d 2, d 3, d 4, d 5] == [d 0, d 1, d 2, d 3, d 4, d 5]) && ([s 0, s 1, s 2, s 3, s 4, s 5] == [s 0, s 1, s 2, s 3, s 4, s 5])) && ((k : Int) == (k : Int)) && (body == body)) = true by simp] at hsame
  have HSAME := hide hsame
  clear hsame
  go_wp2_with fail
  refine HSAME.out.mono ?_
  rintro e w5 ⟨rfl, hb5⟩
  have hfin : Below w.heap.size w w5 := by
    have h6 := hwbb.out.trans (B4.out.mono hwbb.out.size)
    exact h6.trans (hb5.mono h6.size)
  have HFIN := hide hfin
  clear hb5 hfin hc1 hc2 hss hsn x0 x1 x2 x3 x4 x5 x6 x7 x8 x9 x10 x11 x12 x13 y0 y1 y2 y3 y4 y5 y6 y7 y8 y9 y10 y11 y12 y13
  go_wp2
  go_ret
  exact ⟨rfl, HFIN.out⟩
set_option maxRecDepth 100000 in
set_option maxHeartbeats 800000 in
theorem etherWrites_far (w : World) (d s : Nat → UInt8) (k : Nat) (ba : Option Addr) (n bc : Nat) (h1 : 3000 < n) :
    Calls Try.prog 4 #[.agg #[.int .u8 ((d 0).toNat : Int), .int .u8 ((d 1).toNat : Int), .int .u8 ((d 2).toNat : Int), .int .u8 ((d 3).toNat : Int), .int .u8 ((d 4).toNat : Int), .int .u8 ((d 5).toNat : Int), .int .u8 ((s 0).toNat : Int), .int .u8 ((s 1).toNat : Int), .int .u8 ((s 2).toNat : Int), .int .u8 ((s 3).toNat : Int), .int .u8 ((s 4).toNat : Int), .int .u8 ((s 5).toNat : Int), .int .u16 (k : Int), .slice ba n bc]] w fun e w' => e = .returned (.bool true) ∧ Below w.heap.size w w' := by
  go_enter Try.func4, Try.ntmps4
  go_wp2_with fail
  obtain ⟨B0, wq, hB, hq, hlt, hbel, hheap⟩ : ∃ B0 wq, w.heap.size = B0 ∧ w.alloc (.cells #[.int .u8 ((d 0).toNat : Int), .int .u8 ((d 1).toNat : Int), .int .u8 ((d 2).toNat : Int), .int .u8 ((d 3).toNat : Int), .int .u8 ((d 4).toNat : Int), .int .u8 ((d 5).toNat : Int), .int .u8 ((s 0).toNat : Int), .int .u8 ((s 1).toNat : Int), .int .u8 ((s 2).toNat : Int), .int .u8 ((s 3).toNat : Int), .int .u8 ((s 4).toNat : Int), .int .u8 ((s 5).toNat : Int), .int .u16 (k : Int), .slice ba n bc] 29) = wq ∧ B0 < wq.heap.size ∧ Below w.heap.size w wq ∧
      wq.heap[B0]? = some (.cells #[.int .u8 ((d 0).toNat : Int), .int .u8 ((d 1).toNat : Int), .int .u8 ((d 2).toNat : Int), .int .u8 ((d 3).toNat : Int), .int .u8 ((d 4).toNat : Int), .int .u8 ((d 5).toNat : Int), .int .u8 ((s 0).toNat : Int), .int .u8 ((s 1).toNat : Int), .int .u8 ((s 2).toNat : Int), .int .u8 ((s 3).toNat : Int), .int .u8 ((s 4).toNat : Int), .int .u8 ((s 5).toNat : Int), .int .u16 (k : Int), .slice ba n bc] 29 (0, 0)) := ⟨_, _, rfl, rfl, by simp, (Below.refl _ _).alloc (Nat.le_refl _) _, heap_alloc_new _ _⟩
  rw [hq, hB]
  have HB := hide hB
  have HH := hide hheap
  clear hq hB hheap
  refine (speaks3_any _).mono ?_
  rintro e w1 ⟨rfl, hb1⟩
  have HH1 := hide ((hb1.block B0 hlt).trans HH.out)
  have hbw1 : Below w.heap.size w w1 := hbel.trans (hb1.mono hbel.size)
  obtain ⟨b0, b1, b2, b3, b4, b5, b6, b7, b8, b9, b10, b11, b12, b13⟩ := frame_cells HH1.out
  go_wp2
  go_ret
  exact ⟨rfl, hbw1⟩
theorem etherWrites_any (w : World) (d s : Nat → UInt8) (k : Nat) (ba : Option Addr) (body : List Int) (n bc : Nat) (hr : Row .u8 w ba body) (hb : ∀ x ∈ body, 0 ≤ x ∧ x ≤ 255) (hn : ba = none → bc = 0) (hbl : body.length = n) (h3 : k ≤ 65535) :
    Calls Try.prog 4 #[.agg #[.int .u8 ((d 0).toNat : Int), .int .u8 ((d 1).toNat : Int), .int .u8 ((d 2).toNat : Int), .int .u8 ((d 3).toNat : Int), .int .u8 ((d 4).toNat : Int), .int .u8 ((d 5).toNat : Int), .int .u8 ((s 0).toNat : Int), .int .u8 ((s 1).toNat : Int), .int .u8 ((s 2).toNat : Int), .int .u8 ((s 3).toNat : Int), .int .u8 ((s 4).toNat : Int), .int .u8 ((s 5).toNat : Int), .int .u16 (k : Int), .slice ba n bc]] w fun e w' => e = .returned (.bool true) ∧ Below w.heap.size w w' := by
  by_cases h1 : 3000 < n
  · exact etherWrites_far w d s k ba n bc h1
  · by_cases h2 : 1500 < n
    · exact etherWrites_long w d s k ba body n bc hr hb hn hbl h3 (by omega) h2
    · by_cases h4 : 1536 ≤ k
      · exact etherWrites_main w d s k ba body n bc hr hb hn hbl h3 (by omega) h4
      · exact etherWrites_arg w d s k ba body n bc hr hb hn hbl h3 (by omega) (by omega)
end Go.Proofs.Ytebokkhaenadmaa
