/- The law that frames are put into bytes exactly, and read as they were, walked. -/
import Derived.Test.YtebokkhaenadmaaRWrite
import Derived.Test.YtebokkhaenadmaaERead
import Derived.Test.YtebokkhaenadmaaPlainNums
namespace Go.Proofs.Ytebokkhaenadmaa
open Go.RowKit
set_option linter.unusedVariables false
set_option linter.unusedSimpArgs false
/-- A frame's bytes. -/
def frL (d s : Nat → UInt8) (k : Nat) (body : List Int) : List Int := [((d 0).toNat : Int), ((d 1).toNat : Int), ((d 2).toNat : Int), ((d 3).toNat : Int), ((d 4).toNat : Int), ((d 5).toNat : Int)] ++ [((s 0).toNat : Int), ((s 1).toNat : Int), ((s 2).toNat : Int), ((s 3).toNat : Int), ((s 4).toNat : Int), ((s 5).toNat : Int)] ++ numB 2 k ++ body
theorem frL_len (d s : Nat → UInt8) (k : Nat) (body : List Int) : (frL d s k body).length = 14 + body.length := by
  simp [frL, numB_len]; omega
theorem frL_rng (d s : Nat → UInt8) (k : Nat) (body : List Int) (hb : ∀ x ∈ body, 0 ≤ x ∧ x ≤ 255) : ∀ x ∈ frL d s k body, 0 ≤ x ∧ x ≤ 255 := by
  have h8 : ∀ u : UInt8, 0 ≤ ((u.toNat : Nat) : Int) ∧ ((u.toNat : Nat) : Int) ≤ 255 := fun u => by have := u.toNat_lt; omega
  intro x hx
  simp only [frL, List.mem_append, List.mem_cons, List.not_mem_nil, or_false] at hx
  rcases hx with ((hx | hx) | hx) | hx
  · rcases hx with rfl | rfl | rfl | rfl | rfl | rfl <;> exact h8 _
  · rcases hx with rfl | rfl | rfl | rfl | rfl | rfl <;> exact h8 _
  · exact numB_rng _ _ x hx
  · exact hb x hx
theorem frL_val (d s : Nat → UInt8) (k : Nat) (body : List Int) (hk : k ≤ 65535) : valB (((frL d s k body).drop 12).take 2) = (k : Int) := by
  have h : ((frL d s k body).drop 12).take 2 = numB 2 k := rfl
  rw [h, valB_numB]
  rw [Nat.mod_eq_of_lt (by omega)]
theorem frame_cells {W : World} {B0 : Nat} {t : TypeId} {d s : Nat → UInt8} {k : Nat} {BV : Value} (h : W.heap[B0]? = some (.cells #[.int .u8 ((d 0).toNat : Int), .int .u8 ((d 1).toNat : Int), .int .u8 ((d 2).toNat : Int), .int .u8 ((d 3).toNat : Int), .int .u8 ((d 4).toNat : Int), .int .u8 ((d 5).toNat : Int), .int .u8 ((s 0).toNat : Int), .int .u8 ((s 1).toNat : Int), .int .u8 ((s 2).toNat : Int), .int .u8 ((s 3).toNat : Int), .int .u8 ((s 4).toNat : Int), .int .u8 ((s 5).toNat : Int), .int .u16 (k : Int), BV] t (0, 0))) :
    W.cell? ⟨B0, 0, none⟩ = some (.int .u8 ((d 0).toNat : Int)) ∧ W.cell? ⟨B0, 1, none⟩ = some (.int .u8 ((d 1).toNat : Int)) ∧ W.cell? ⟨B0, 2, none⟩ = some (.int .u8 ((d 2).toNat : Int)) ∧ W.cell? ⟨B0, 3, none⟩ = some (.int .u8 ((d 3).toNat : Int)) ∧ W.cell? ⟨B0, 4, none⟩ = some (.int .u8 ((d 4).toNat : Int)) ∧ W.cell? ⟨B0, 5, none⟩ = some (.int .u8 ((d 5).toNat : Int)) ∧ W.cell? ⟨B0, 6, none⟩ = some (.int .u8 ((s 0).toNat : Int)) ∧ W.cell? ⟨B0, 7, none⟩ = some (.int .u8 ((s 1).toNat : Int)) ∧ W.cell? ⟨B0, 8, none⟩ = some (.int .u8 ((s 2).toNat : Int)) ∧ W.cell? ⟨B0, 9, none⟩ = some (.int .u8 ((s 3).toNat : Int)) ∧ W.cell? ⟨B0, 10, none⟩ = some (.int .u8 ((s 4).toNat : Int)) ∧ W.cell? ⟨B0, 11, none⟩ = some (.int .u8 ((s 5).toNat : Int)) ∧ W.cell? ⟨B0, 12, none⟩ = some (.int .u16 (k : Int)) ∧ W.cell? ⟨B0, 13, none⟩ = some (BV) := by simp [World.cell?, h]
theorem rule_below {W V V' : World} {S : Nat} (h : ∀ b o, b < S → V.cell? ⟨b, o, none⟩ = W.cell? ⟨b, o, none⟩) (hb : Below V.heap.size V V') (hS : S ≤ V.heap.size) : ∀ b o, b < S → V'.cell? ⟨b, o, none⟩ = W.cell? ⟨b, o, none⟩ :=
  fun b o hs => (hb.cell (p := ⟨b, o, none⟩) (show b < V.heap.size by omega)).trans (h b o hs)
set_option maxRecDepth 100000 in
set_option maxHeartbeats 3200000 in
theorem etherWrites_main (w : World) (d s : Nat → UInt8) (k : Nat) (ba : Option Addr) (body : List Int) (n bc : Nat) (hr : Row .u8 w ba body) (hb : ∀ x ∈ body, 0 ≤ x ∧ x ≤ 255) (hn : ba = none → bc = 0) (hbl : body.length = n) (h3 : k ≤ 65535) (h1 : n ≤ 1500) (h2 : 1536 ≤ k) :
    Calls Try.prog 4 #[.agg #[.int .u8 ((d 0).toNat : Int), .int .u8 ((d 1).toNat : Int), .int .u8 ((d 2).toNat : Int), .int .u8 ((d 3).toNat : Int), .int .u8 ((d 4).toNat : Int), .int .u8 ((d 5).toNat : Int), .int .u8 ((s 0).toNat : Int), .int .u8 ((s 1).toNat : Int), .int .u8 ((s 2).toNat : Int), .int .u8 ((s 3).toNat : Int), .int .u8 ((s 4).toNat : Int), .int .u8 ((s 5).toNat : Int), .int .u16 (k : Int), .slice ba n bc]] w fun e w' => e = .returned (.bool true) ∧ Below w.heap.size w w' := by
  have HR := hide hr
  have HN := hide hn
  have HL := hide hbl
  have HBB := hide hb
  clear hr hn hbl hb
  go_enter Try.func4, Try.ntmps4
  go_wp2_with fail
  obtain ⟨B0, wq, hB, hq, hlt, hbel, hheap⟩ : ∃ B0 wq, w.heap.size = B0 ∧ w.alloc (.cells #[.int .u8 ((d 0).toNat : Int), .int .u8 ((d 1).toNat : Int), .int .u8 ((d 2).toNat : Int), .int .u8 ((d 3).toNat : Int), .int .u8 ((d 4).toNat : Int), .int .u8 ((d 5).toNat : Int), .int .u8 ((s 0).toNat : Int), .int .u8 ((s 1).toNat : Int), .int .u8 ((s 2).toNat : Int), .int .u8 ((s 3).toNat : Int), .int .u8 ((s 4).toNat : Int), .int .u8 ((s 5).toNat : Int), .int .u16 (k : Int), .slice ba n bc] 29) = wq ∧ B0 < wq.heap.size ∧ Below w.heap.size w wq ∧
      wq.heap[B0]? = some (.cells #[.int .u8 ((d 0).toNat : Int), .int .u8 ((d 1).toNat : Int), .int .u8 ((d 2).toNat : Int), .int .u8 ((d 3).toNat : Int), .int .u8 ((d 4).toNat : Int), .int .u8 ((d 5).toNat : Int), .int .u8 ((s 0).toNat : Int), .int .u8 ((s 1).toNat : Int), .int .u8 ((s 2).toNat : Int), .int .u8 ((s 3).toNat : Int), .int .u8 ((s 4).toNat : Int), .int .u8 ((s 5).toNat : Int), .int .u16 (k : Int), .slice ba n bc] 29 (0, 0)) := ⟨_, _, rfl, rfl, by simp, (Below.refl _ _).alloc (Nat.le_refl _) _, heap_alloc_new _ _⟩
  rw [hq, hB]
  have HB := hide hB
  have HH := hide hheap
  clear hq hB hheap
  refine (speaks3_any _).mono ?_
  rintro e w1 ⟨rfl, hb1⟩
  have HH1 := hide ((hb1.block B0 hlt).trans HH.out)
  have hbw1 : Below w.heap.size w w1 := hbel.trans (hb1.mono hbel.size)
  have hlt1 : B0 < w1.heap.size := Nat.lt_of_lt_of_le hlt hb1.size
  obtain ⟨b0, b1, b2, b3, b4, b5, b6, b7, b8, b9, b10, b11, b12, b13⟩ := frame_cells HH1.out
  clear hb1 hlt hbel HH
  have hne1 : ¬ B0 = w1.heap.size := by omega
  have hne2 : ¬ w1.heap.size = B0 := by omega
  obtain ⟨va, wa, hrun, hown, hbl⟩ := app_own ((w1.alloc (.cells #[.int .u8 ((d 0).toNat : Int), .int .u8 ((d 1).toNat : Int), .int .u8 ((d 2).toNat : Int), .int .u8 ((d 3).toNat : Int), .int .u8 ((d 4).toNat : Int), .int .u8 ((d 5).toNat : Int), .int .u8 ((s 0).toNat : Int), .int .u8 ((s 1).toNat : Int), .int .u8 ((s 2).toNat : Int), .int .u8 ((s 3).toNat : Int), .int .u8 ((s 4).toNat : Int), .int .u8 ((s 5).toNat : Int), .int .u16 (k : Int), .slice ba n bc] 29)).alloc (.cells #[] 5)) (w1.heap.size + 1) (.slice (some ⟨w1.heap.size + 1, 0, none⟩) 0 0) 0 []
    (by have := World.ownsRow_lit (base := w1.heap.size + 1) (e := 5) (size := 1) (w1.alloc (.cells #[.int .u8 ((d 0).toNat : Int), .int .u8 ((d 1).toNat : Int), .int .u8 ((d 2).toNat : Int), .int .u8 ((d 3).toNat : Int), .int .u8 ((d 4).toNat : Int), .int .u8 ((d 5).toNat : Int), .int .u8 ((s 0).toNat : Int), .int .u8 ((s 1).toNat : Int), .int .u8 ((s 2).toNat : Int), .int .u8 ((s 3).toNat : Int), .int .u8 ((s 4).toNat : Int), .int .u8 ((s 5).toNat : Int), .int .u16 (k : Int), .slice ba n bc] 29)) #[] 0 (by simp) (by unfold maxLen; omega) rfl; simpa using this)
    ba body n bc (HR.out.below (hbw1.trans (((Below.refl w1.heap.size w1).alloc (Nat.le_refl _) _).alloc (by simp) _ |>.mono hbw1.size)) (Nat.le_refl _)) HL.out HN.out (by omega) (by simp)
  obtain ⟨ga, ca, rfl⟩ := slice_form hown
  rw [Nat.zero_add] at hrun hown
  rw [List.nil_append] at hown
  have hF0 : ((w1.alloc (.cells #[.int .u8 ((d 0).toNat : Int), .int .u8 ((d 1).toNat : Int), .int .u8 ((d 2).toNat : Int), .int .u8 ((d 3).toNat : Int), .int .u8 ((d 4).toNat : Int), .int .u8 ((d 5).toNat : Int), .int .u8 ((s 0).toNat : Int), .int .u8 ((s 1).toNat : Int), .int .u8 ((s 2).toNat : Int), .int .u8 ((s 3).toNat : Int), .int .u8 ((s 4).toNat : Int), .int .u8 ((s 5).toNat : Int), .int .u16 (k : Int), .slice ba n bc] 29)).alloc (.cells #[] 5)).heap[w1.heap.size]? = some (.cells #[.int .u8 ((d 0).toNat : Int), .int .u8 ((d 1).toNat : Int), .int .u8 ((d 2).toNat : Int), .int .u8 ((d 3).toNat : Int), .int .u8 ((d 4).toNat : Int), .int .u8 ((d 5).toNat : Int), .int .u8 ((s 0).toNat : Int), .int .u8 ((s 1).toNat : Int), .int .u8 ((s 2).toNat : Int), .int .u8 ((s 3).toNat : Int), .int .u8 ((s 4).toNat : Int), .int .u8 ((s 5).toNat : Int), .int .u16 (k : Int), .slice ba n bc] 29 (0, 0)) := (Below.heap_alloc _ _ _ (by simp)).trans (heap_alloc_new w1 _)
  have hFa : wa.heap[w1.heap.size]? = some (.cells #[.int .u8 ((d 0).toNat : Int), .int .u8 ((d 1).toNat : Int), .int .u8 ((d 2).toNat : Int), .int .u8 ((d 3).toNat : Int), .int .u8 ((d 4).toNat : Int), .int .u8 ((d 5).toNat : Int), .int .u8 ((s 0).toNat : Int), .int .u8 ((s 1).toNat : Int), .int .u8 ((s 2).toNat : Int), .int .u8 ((s 3).toNat : Int), .int .u8 ((s 4).toNat : Int), .int .u8 ((s 5).toNat : Int), .int .u16 (k : Int), .slice ba n bc] 29 (0, 0)) := (hbl.block _ (by omega)).trans hF0
  have hBa : wa.heap[B0]? = some (.cells #[.int .u8 ((d 0).toNat : Int), .int .u8 ((d 1).toNat : Int), .int .u8 ((d 2).toNat : Int), .int .u8 ((d 3).toNat : Int), .int .u8 ((d 4).toNat : Int), .int .u8 ((d 5).toNat : Int), .int .u8 ((s 0).toNat : Int), .int .u8 ((s 1).toNat : Int), .int .u8 ((s 2).toNat : Int), .int .u8 ((s 3).toNat : Int), .int .u8 ((s 4).toNat : Int), .int .u8 ((s 5).toNat : Int), .int .u16 (k : Int), .slice ba n bc] 29 (0, 0)) := (hbl.block _ (by omega)).trans ((Below.heap_alloc _ _ _ (by simp; omega)).trans ((Below.heap_alloc _ _ _ hlt1).trans HH1.out))
  obtain ⟨m0, m1, m2, m3, m4, m5, m6, m7, m8, m9, m10, m11, m12, m13⟩ := frame_cells hFa
  have mf : wa.frozen? ⟨w1.heap.size, 13, none⟩ = false := by simp [World.frozen?, hFa]
  have hwa : Below w.heap.size w wa := (hbw1.trans (((Below.refl w1.heap.size w1).alloc (Nat.le_refl _) _).alloc (by simp) _ |>.mono hbw1.size)).trans (hbl.mono (by have := hbw1.size; omega))
  have hsa := hbl.size
  simp only [World.size_alloc] at hsa
  have HFa := hide hFa
  have HBa := hide hBa
  have HRUN := hide hrun
  have HOWN := hide hown
  have HWA := hide hwa
  have hw11 := hbw1.size
  clear hrun hown hbl hF0 hFa hBa hwa hbw1
  go_wp2_with (at_builtin; refine Lib.wpList_append_run _ rfl _ _ _ _ rfl _ _ rfl rfl _ _ HRUN.out ?_)
  go_wp2_with fail
  obtain ⟨F, wb, hF, hwb, hFb, hBb, hob, hwbb, hsb⟩ : ∃ F wb, w1.heap.size = F ∧ wa.setCell ⟨w1.heap.size, 13, none⟩ (.slice ga n ca) = wb ∧ wb.heap[w1.heap.size]? = some (.cells #[.int .u8 ((d 0).toNat : Int), .int .u8 ((d 1).toNat : Int), .int .u8 ((d 2).toNat : Int), .int .u8 ((d 3).toNat : Int), .int .u8 ((d 4).toNat : Int), .int .u8 ((d 5).toNat : Int), .int .u8 ((s 0).toNat : Int), .int .u8 ((s 1).toNat : Int), .int .u8 ((s 2).toNat : Int), .int .u8 ((s 3).toNat : Int), .int .u8 ((s 4).toNat : Int), .int .u8 ((s 5).toNat : Int), .int .u16 (k : Int), .slice ga n ca] 29 (0, 0)) ∧ wb.heap[B0]? = some (.cells #[.int .u8 ((d 0).toNat : Int), .int .u8 ((d 1).toNat : Int), .int .u8 ((d 2).toNat : Int), .int .u8 ((d 3).toNat : Int), .int .u8 ((d 4).toNat : Int), .int .u8 ((d 5).toNat : Int), .int .u8 ((s 0).toNat : Int), .int .u8 ((s 1).toNat : Int), .int .u8 ((s 2).toNat : Int), .int .u8 ((s 3).toNat : Int), .int .u8 ((s 4).toNat : Int), .int .u8 ((s 5).toNat : Int), .int .u16 (k : Int), .slice ba n bc] 29 (0, 0)) ∧
      Hid (wb.ownsRow (w1.heap.size + 1) 5 1 (.slice ga n ca) n (body.map (Value.int .u8))) ∧ Hid (Below w.heap.size w wb) ∧ wb.heap.size = wa.heap.size := by
    refine ⟨_, _, rfl, rfl, ?_, (Below.heap_setCell _ _ _ _ (by simp; omega)).trans HBa.out, owns_set HOWN.out (by omega), Below.setCell HWA.out (by simp; omega) _, by simp⟩
    have hlt := lt_of_block HFa.out
    have h' : wa.heap[w1.heap.size] = .cells #[.int .u8 ((d 0).toNat : Int), .int .u8 ((d 1).toNat : Int), .int .u8 ((d 2).toNat : Int), .int .u8 ((d 3).toNat : Int), .int .u8 ((d 4).toNat : Int), .int .u8 ((d 5).toNat : Int), .int .u8 ((s 0).toNat : Int), .int .u8 ((s 1).toNat : Int), .int .u8 ((s 2).toNat : Int), .int .u8 ((s 3).toNat : Int), .int .u8 ((s 4).toNat : Int), .int .u8 ((s 5).toNat : Int), .int .u16 (k : Int), .slice ba n bc] 29 (0, 0) := by simpa [Array.getElem?_eq_getElem hlt] using HFa.out
    show (wa.heap.modify w1.heap.size _)[w1.heap.size]? = _
    rw [Array.getElem?_eq_getElem (by simpa using hlt), Array.getElem_modify_self, h']
    rfl
  rw [hwb, hF]
  rw [hF] at hFb hob hsa
  obtain ⟨p0, p1, p2, p3, p4, p5, p6, p7, p8, p9, p10, p11, p12, p13⟩ := frame_cells hFb
  obtain ⟨q0, q1, q2, q3, q4, q5, q6, q7, q8, q9, q10, q11, q12, q13⟩ := frame_cells hBb
  have hFl : F < wb.heap.size := by omega
  have hBl : B0 < wb.heap.size := by omega
  have HFb := hide hFb
  have HBb := hide hBb
  clear b0 b1 b2 b3 b4 b5 b6 b7 b8 b9 b10 b11 b12 b13 m0 m1 m2 m3 m4 m5 m6 m7 m8 m9 m10 m11 m12 m13 mf hwb hF hFb hBb
  have rR := fun (V : World) (hV : Below wb.heap.size wb V) => hide (HR.out.below (hwbb.out.trans (hV.mono hwbb.out.size)) (Nat.le_refl _))
  have rO := fun (V : World) (hV : Below wb.heap.size wb V) => hide (Row.of_owns (owns_below hob.out hV (Nat.le_refl _)))
  have RR := hide rR
  have RO := hide rO
  clear rR rO
  refine (ewrite_ok wb ((d 0).toNat : Int) ((d 1).toNat : Int) ((d 2).toNat : Int) ((d 3).toNat : Int) ((d 4).toNat : Int) ((d 5).toNat : Int) ((s 0).toNat : Int) ((s 1).toNat : Int) ((s 2).toNat : Int) ((s 3).toNat : Int) ((s 4).toNat : Int) ((s 5).toNat : Int) k ga body n ca (RO.out wb (Below.refl _ _)).out (none_cap hob.out) HL.out h1 h2 h3).mono ?_
  rintro e w3 ⟨a3, c3, rfl, hown3, hb3⟩
  have O3 := hide hown3
  have B3 := hide hb3
  have HF3 := hide ((hb3.block F hFl).trans HFb.out)
  have HB3 := hide ((hb3.block B0 hBl).trans HBb.out)
  obtain ⟨t0, t1, t2, t3, t4, t5, t6, t7, t8, t9, t10, t11, t12, t13⟩ := frame_cells HB3.out
  clear hown3 hb3 p0 p1 p2 p3 p4 p5 p6 p7 p8 p9 p10 p11 p12 p13 q0 q1 q2 q3 q4 q5 q6 q7 q8 q9 q10 q11 q12 q13
  go_wp2_with fail
  refine (rwrite_ok w3 d s k ba body n bc (RR.out w3 B3.out).out HN.out HL.out h1 h2 h3).mono ?_
  rintro e w4 ⟨a4, c4, rfl, hown4, hb4⟩
  have B4 := hide (B3.out.trans (hb4.mono B3.out.size))
  have hF3 := Nat.lt_of_lt_of_le hFl B3.out.size
  have hB3 := Nat.lt_of_lt_of_le hBl B3.out.size
  have HF4 := hide ((hb4.block F hF3).trans HF3.out)
  have HB4 := hide ((hb4.block B0 hB3).trans HB3.out)
  have O4 := hide hown4
  have O34 := hide (owns_below O3.out hb4 (Nat.le_refl _))
  obtain ⟨x0, x1, x2, x3, x4, x5, x6, x7, x8, x9, x10, x11, x12, x13⟩ := frame_cells HF4.out
  obtain ⟨y0, y1, y2, y3, y4, y5, y6, y7, y8, y9, y10, y11, y12, y13⟩ := frame_cells HB4.out
  clear hown4 hb4 t0 t1 t2 t3 t4 t5 t6 t7 t8 t9 t10 t11 t12 t13
  have hc1 := conv_any a3 (frL d s k body) c3 w4 (Row.of_owns O34.out)
  have hc2 := conv_any a4 (frL d s k body) c4 w4 (Row.of_owns O4.out)
  rw [frL_len, HL.out] at hc1 hc2
  have hss : ((strOfNums (frL d s k body)).toList == (strOfNums (frL d s k body)).toList) = true := by simp
  have hsn : ((strOfNums (frL d s k body)).toList != (strOfNums (frL d s k body)).toList) = false := by simp
  generalize strOfNums (frL d s k body) = S at *
  have hsame := same_any w4 d s d s k k ga ba body body n n ca bc (RO.out w4 B4.out).out (RR.out w4 B4.out).out HL.out HL.out HBB.out HBB.out
  rw [show ((([d 0, d 1, d 2, d 3, d 4, d 5] == [d 0, d 1, d 2, d 3, d 4, d 5]) && ([s 0, s 1, s 2, s 3, s 4, s 5] == [s 0, s 1, s 2, s 3, s 4, s 5])) && ((k : Int) == (k : Int)) && (body == body)) = true by simp] at hsame
  have HSAME := hide hsame
  clear hsame
  go_wp2_with fail
  refine HSAME.out.mono ?_
  rintro e w5 ⟨rfl, hb5⟩
  have B5 := hide (B4.out.trans (hb5.mono B4.out.size))
  have HB5 := hide ((hb5.block B0 (Nat.lt_of_lt_of_le hBl B4.out.size)).trans HB4.out)
  have O5 := hide (owns_below O34.out hb5 (Nat.le_refl _))
  clear hb5 hc1 hc2 hss hsn x0 x1 x2 x3 x4 x5 x6 x7 x8 x9 x10 x11 x12 x13 y0 y1 y2 y3 y4 y5 y6 y7 y8 y9 y10 y11 y12 y13
  have hread := eread_main w5 a3 (frL d s k body) (14 + n) c3 d s k (Row.of_owns O5.out) (by rw [frL_len, HL.out]) (by omega) (by omega) (frL_rng d s k body HBB.out) rfl rfl (frL_val d s k body h3) h2 h3
  rw [show 14 + n - 14 = n by omega, show (frL d s k body).drop 14 = body from rfl] at hread
  have HREAD := hide hread
  clear hread
  go_wp2_with fail
  refine HREAD.out.mono ?_
  rintro e w6 ⟨a6, c6, rfl, hown6, hb6⟩
  have B6 := hide (B5.out.trans (hb6.mono B5.out.size))
  have HB6 := hide ((hb6.block B0 (Nat.lt_of_lt_of_le hBl B5.out.size)).trans HB5.out)
  have O6 := hide hown6
  obtain ⟨z0, z1, z2, z3, z4, z5, z6, z7, z8, z9, z10, z11, z12, z13⟩ := frame_cells HB6.out
  have hlt6 : B0 < w6.heap.size := Nat.lt_of_lt_of_le hBl B6.out.size
  have hn61 : ¬ B0 = w6.heap.size := by omega
  have hn62 : ¬ w6.heap.size = B0 := by omega
  clear hown6 hb6
  have hb7 : Below w6.heap.size w6 (w6.alloc (.cells #[.int .u8 ((d 0).toNat : Int), .int .u8 ((d 1).toNat : Int), .int .u8 ((d 2).toNat : Int), .int .u8 ((d 3).toNat : Int), .int .u8 ((d 4).toNat : Int), .int .u8 ((d 5).toNat : Int), .int .u8 ((s 0).toNat : Int), .int .u8 ((s 1).toNat : Int), .int .u8 ((s 2).toNat : Int), .int .u8 ((s 3).toNat : Int), .int .u8 ((s 4).toNat : Int), .int .u8 ((s 5).toNat : Int), .int .u16 (k : Int), .slice a6 n c6] 29)) := (Below.refl _ _).alloc (Nat.le_refl _) _
  have hsame2 := same_any (w6.alloc (.cells #[.int .u8 ((d 0).toNat : Int), .int .u8 ((d 1).toNat : Int), .int .u8 ((d 2).toNat : Int), .int .u8 ((d 3).toNat : Int), .int .u8 ((d 4).toNat : Int), .int .u8 ((d 5).toNat : Int), .int .u8 ((s 0).toNat : Int), .int .u8 ((s 1).toNat : Int), .int .u8 ((s 2).toNat : Int), .int .u8 ((s 3).toNat : Int), .int .u8 ((s 4).toNat : Int), .int .u8 ((s 5).toNat : Int), .int .u16 (k : Int), .slice a6 n c6] 29)) d s d s k k a6 ba body body n n c6 bc ((Row.of_owns O6.out).below hb7 (Nat.le_refl _)) ((RR.out w6 B6.out).out.below hb7 (Nat.le_refl _)) HL.out HL.out HBB.out HBB.out
  rw [show ((([d 0, d 1, d 2, d 3, d 4, d 5] == [d 0, d 1, d 2, d 3, d 4, d 5]) && ([s 0, s 1, s 2, s 3, s 4, s 5] == [s 0, s 1, s 2, s 3, s 4, s 5])) && ((k : Int) == (k : Int)) && (body == body)) = true by simp] at hsame2
  have HS2 := hide hsame2
  have HB7 := hide hb7
  clear hsame2 hb7
  go_wp2_with fail
  refine HS2.out.mono ?_
  rintro e w8 ⟨rfl, hb8⟩
  have hfin : Below w.heap.size w w8 := by
    have h6 := hwbb.out.trans (B6.out.mono hwbb.out.size)
    have h7 := h6.trans (HB7.out.mono h6.size)
    exact h7.trans (hb8.mono h7.size)
  have HFIN := hide hfin
  clear hb8 hfin
  go_wp2
  go_ret
  exact ⟨rfl, HFIN.out⟩
end Go.Proofs.Ytebokkhaenadmaa
