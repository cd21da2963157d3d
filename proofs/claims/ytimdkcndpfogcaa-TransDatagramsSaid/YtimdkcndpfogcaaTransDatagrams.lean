/- The law that datagrams are put into bytes and read back, walked. -/
import Derived.Test.YtimdkcndpfogcaaRUdp
import Derived.Test.YtimdkcndpfogcaaUdpR
import Derived.Test.YtimdkcndpfogcaaTSpeaks
import Derived.Test.YtimdkcndpfogcaaTransMessages
namespace Go.Proofs.Ytimdkcndpfogcaa
open Go.RowKit
set_option linter.unusedVariables false
set_option linter.unusedSimpArgs false
set_option maxRecDepth 100000
theorem fld_app (l r : List Int) (K k : Nat) (h : K + k ≤ l.length) : fld (l ++ r) K k = fld l K k := by
  unfold fld
  rw [List.drop_append_of_le_length (by omega), List.take_append_of_le_length (by rw [List.length_drop]; omega)]
theorem four_ne {w : World} {Z X i : Nat} {v0 v1 v2 v3 : Value} (h : ¬ X = Z) : ((((w.setCell ⟨Z, 0, none⟩ v0).setCell ⟨Z, 1, none⟩ v1).setCell ⟨Z, 2, none⟩ v2).setCell ⟨Z, 3, none⟩ v3).cell? ⟨X, i, none⟩ = w.cell? ⟨X, i, none⟩ := by
  rw [cell_set_ne _ _ _ _ h, cell_set_ne _ _ _ _ h, cell_set_ne _ _ _ _ h, cell_set_ne _ _ _ _ h]
theorem four_sets {w : World} {Z : Nat} {a b c d v0 v1 v2 v3 : Value} {t : TypeId} (h : w.heap[Z]? = some (.cells #[a, b, c, d] t (0, 0))) : ((((w.setCell ⟨Z, 0, none⟩ v0).setCell ⟨Z, 1, none⟩ v1).setCell ⟨Z, 2, none⟩ v2).setCell ⟨Z, 3, none⟩ v3).heap[Z]? = some (.cells #[v0, v1, v2, v3] t (0, 0)) := by
  have h1 : (w.setCell ⟨Z, 0, none⟩ v0).heap[Z]? = some (.cells #[v0, b, c, d] t (0, 0)) := four_set h
  have h2 : ((w.setCell ⟨Z, 0, none⟩ v0).setCell ⟨Z, 1, none⟩ v1).heap[Z]? = some (.cells #[v0, v1, c, d] t (0, 0)) := four_set h1
  have h3 : (((w.setCell ⟨Z, 0, none⟩ v0).setCell ⟨Z, 1, none⟩ v1).setCell ⟨Z, 2, none⟩ v2).heap[Z]? = some (.cells #[v0, v1, v2, d] t (0, 0)) := four_set h2
  exact four_set h3
theorem own_cap {w : World} {base n c : Nat} {a : Option Addr} {xs : List Value} (h : w.ownsRow base 5 1 (.slice a n c) n xs) (hn : 0 < n) : n ≤ c ∧ c ≤ 9223372036854775807 := by
  rcases h.2 with ⟨_, h0⟩ | ⟨g, c', cur, hv, hg, _, h3, h4, _⟩
  · omega
  · obtain ⟨rfl, rfl⟩ : a = some ⟨g, 0, none⟩ ∧ c = c' := by simpa using hv
    exact ⟨by omega, by unfold maxLen at h4; omega⟩
theorem cell2_0 {w : World} {b : Nat} {u v : Value} {t : TypeId} (h : w.heap[b]? = some (.cells #[u, v] t (0, 0))) : w.cell? ⟨b, 0, none⟩ = some u := two_cell0 h
theorem cell2_1 {w : World} {b : Nat} {u v : Value} {t : TypeId} (h : w.heap[b]? = some (.cells #[u, v] t (0, 0))) : w.cell? ⟨b, 1, none⟩ = some v := two_cell1 h

set_option maxHeartbeats 1600000 in
theorem td_big1 (w : World) (x0 y0 p q : Nat) (da : Option Addr) (xs : List Int) (n dc : Nat) (ma : Option Addr) (ms : List Int) (m mc : Nat) (hr : Row .u8 w da xs) (hn : da = none → dc = 0) (hl : xs.length = n) (hb : ∀ x ∈ xs, 0 ≤ x ∧ x ≤ 255) (hmr : Row .u8 w ma ms) (hmn : ma = none → mc = 0) (hml : ms.length = m) (hmb : ∀ x ∈ ms, 0 ≤ x ∧ x ≤ 255) (hx : x0 ≤ 4294967295) (hy : y0 ≤ 4294967295) (hp : p ≤ 65535) (hq : q ≤ 65535) (pl : Bool) (h4 : 3000 < n) (h5 : n < 9223372036854775808) :
    Calls Try.prog 4 #[.agg #[.int .u32 (x0 : Int), .int .u32 (y0 : Int)], .agg #[.int .u16 (p : Int), .int .u16 (q : Int), .bool pl, .slice da n dc], .slice ma m mc] w fun e w' => e = .returned (.bool true) ∧ Below w.heap.size w w' := by
  have HR := hide hr
  have HN := hide hn
  have HL := hide hl
  have HB := hide hb
  have HMR := hide hmr
  have HMN := hide hmn
  have HML := hide hml
  have HMB := hide hmb
  clear hr hn hl hb hmr hmn hml hmb
  go_enter Try.func4, Try.ntmps4
  go_wp2_with fail
  have bb1 := (Below.refl w.heap.size w).alloc (Nat.le_refl _) (.cells #[.int .u32 (x0 : Int), .int .u32 (y0 : Int)] 38)
  have bb2 := bb1.alloc bb1.size (.cells #[.int .u16 (p : Int), .int .u16 (q : Int), .bool pl, .slice da n dc] 40)
  obtain ⟨X, A, w0, hX, hA, hqq, hxh, hheap, hbel⟩ : ∃ X A wq, w.heap.size = X ∧ w.heap.size + 1 = A ∧ (w.alloc (.cells #[.int .u32 (x0 : Int), .int .u32 (y0 : Int)] 38)).alloc (.cells #[.int .u16 (p : Int), .int .u16 (q : Int), .bool pl, .slice da n dc] 40) = wq ∧ wq.heap[X]? = some (.cells #[.int .u32 (x0 : Int), .int .u32 (y0 : Int)] 38 (0, 0)) ∧ wq.heap[A]? = some (.cells #[.int .u16 (p : Int), .int .u16 (q : Int), .bool pl, .slice da n dc] 40 (0, 0)) ∧ Below w.heap.size w wq := by
    refine ⟨_, _, _, rfl, rfl, rfl, ?_, ?_, bb2⟩
    · rw [Below.heap_alloc _ _ _ (by simp)]; exact heap_alloc_new w _
    · have h := heap_alloc_new (w.alloc (.cells #[.int .u32 (x0 : Int), .int .u32 (y0 : Int)] 38)) (.cells #[.int .u16 (p : Int), .int .u16 (q : Int), .bool pl, .slice da n dc] 40); simpa using h
  rw [hqq, hA, hX]
  have hXw := hide (And.intro hX hA)
  have HR0 := hide (HR.out.below hbel (Nat.le_refl _))
  have HM0 := hide (HMR.out.below hbel (Nat.le_refl _))
  have HX0 := hide hxh
  have HH0 := hide hheap
  have HB0 := hide hbel
  clear hqq hA hX hbel hheap hxh bb1 bb2
  refine (speaks5_any w0).mono ?_
  rintro e w1 ⟨rfl, b1⟩
  have HX1 := hide (below_block b1 HX0.out (Nat.le_refl _))
  have HH1 := hide (below_block b1 HH0.out (Nat.le_refl _))
  have HR1 := hide (HR0.out.below b1 (Nat.le_refl _))
  have HM1 := hide (HM0.out.below b1 (Nat.le_refl _))
  have HB1 := hide (HB0.out.trans (b1.mono HB0.out.size))
  clear b1 HH0 HX0 HR0 HM0 HB0
  obtain ⟨a0, a1, a2, a3, af⟩ := four_cells HH1.out
  have hlA := lt_of_block HH1.out
  have hlX := lt_of_block HX1.out
  have x0c := cell2_0 HX1.out
  have x1c := cell2_1 HX1.out
  clear af
  go_wp2
  go_ret
  exact ⟨rfl, HB1.out⟩

set_option maxHeartbeats 1600000 in
theorem td_big2 (w : World) (x0 y0 p q : Nat) (da : Option Addr) (xs : List Int) (n dc : Nat) (ma : Option Addr) (ms : List Int) (m mc : Nat) (hr : Row .u8 w da xs) (hn : da = none → dc = 0) (hl : xs.length = n) (hb : ∀ x ∈ xs, 0 ≤ x ∧ x ≤ 255) (hmr : Row .u8 w ma ms) (hmn : ma = none → mc = 0) (hml : ms.length = m) (hmb : ∀ x ∈ ms, 0 ≤ x ∧ x ≤ 255) (hx : x0 ≤ 4294967295) (hy : y0 ≤ 4294967295) (hp : p ≤ 65535) (hq : q ≤ 65535) (pl : Bool) (h4 : n ≤ 3000) (h5 : 9 < m) (h6 : m < 9223372036854775808) :
    Calls Try.prog 4 #[.agg #[.int .u32 (x0 : Int), .int .u32 (y0 : Int)], .agg #[.int .u16 (p : Int), .int .u16 (q : Int), .bool pl, .slice da n dc], .slice ma m mc] w fun e w' => e = .returned (.bool true) ∧ Below w.heap.size w w' := by
  have HR := hide hr
  have HN := hide hn
  have HL := hide hl
  have HB := hide hb
  have HMR := hide hmr
  have HMN := hide hmn
  have HML := hide hml
  have HMB := hide hmb
  clear hr hn hl hb hmr hmn hml hmb
  go_enter Try.func4, Try.ntmps4
  go_wp2_with fail
  have bb1 := (Below.refl w.heap.size w).alloc (Nat.le_refl _) (.cells #[.int .u32 (x0 : Int), .int .u32 (y0 : Int)] 38)
  have bb2 := bb1.alloc bb1.size (.cells #[.int .u16 (p : Int), .int .u16 (q : Int), .bool pl, .slice da n dc] 40)
  obtain ⟨X, A, w0, hX, hA, hqq, hxh, hheap, hbel⟩ : ∃ X A wq, w.heap.size = X ∧ w.heap.size + 1 = A ∧ (w.alloc (.cells #[.int .u32 (x0 : Int), .int .u32 (y0 : Int)] 38)).alloc (.cells #[.int .u16 (p : Int), .int .u16 (q : Int), .bool pl, .slice da n dc] 40) = wq ∧ wq.heap[X]? = some (.cells #[.int .u32 (x0 : Int), .int .u32 (y0 : Int)] 38 (0, 0)) ∧ wq.heap[A]? = some (.cells #[.int .u16 (p : Int), .int .u16 (q : Int), .bool pl, .slice da n dc] 40 (0, 0)) ∧ Below w.heap.size w wq := by
    refine ⟨_, _, _, rfl, rfl, rfl, ?_, ?_, bb2⟩
    · rw [Below.heap_alloc _ _ _ (by simp)]; exact heap_alloc_new w _
    · have h := heap_alloc_new (w.alloc (.cells #[.int .u32 (x0 : Int), .int .u32 (y0 : Int)] 38)) (.cells #[.int .u16 (p : Int), .int .u16 (q : Int), .bool pl, .slice da n dc] 40); simpa using h
  rw [hqq, hA, hX]
  have hXw := hide (And.intro hX hA)
  have HR0 := hide (HR.out.below hbel (Nat.le_refl _))
  have HM0 := hide (HMR.out.below hbel (Nat.le_refl _))
  have HX0 := hide hxh
  have HH0 := hide hheap
  have HB0 := hide hbel
  clear hqq hA hX hbel hheap hxh bb1 bb2
  refine (speaks5_any w0).mono ?_
  rintro e w1 ⟨rfl, b1⟩
  have HX1 := hide (below_block b1 HX0.out (Nat.le_refl _))
  have HH1 := hide (below_block b1 HH0.out (Nat.le_refl _))
  have HR1 := hide (HR0.out.below b1 (Nat.le_refl _))
  have HM1 := hide (HM0.out.below b1 (Nat.le_refl _))
  have HB1 := hide (HB0.out.trans (b1.mono HB0.out.size))
  clear b1 HH0 HX0 HR0 HM0 HB0
  obtain ⟨a0, a1, a2, a3, af⟩ := four_cells HH1.out
  have hlA := lt_of_block HH1.out
  have hlX := lt_of_block HX1.out
  have x0c := cell2_0 HX1.out
  have x1c := cell2_1 HX1.out
  clear af
  have hd1 : decide ((3000 : Int) < (n : Int)) = false := by simp; omega
  go_wp2
  go_ret
  exact ⟨rfl, HB1.out⟩

set_option maxHeartbeats 1600000 in
theorem td_long (w : World) (x0 y0 p q : Nat) (da : Option Addr) (xs : List Int) (n dc : Nat) (ma : Option Addr) (ms : List Int) (m mc : Nat) (hr : Row .u8 w da xs) (hn : da = none → dc = 0) (hl : xs.length = n) (hb : ∀ x ∈ xs, 0 ≤ x ∧ x ≤ 255) (hmr : Row .u8 w ma ms) (hmn : ma = none → mc = 0) (hml : ms.length = m) (hmb : ∀ x ∈ ms, 0 ≤ x ∧ x ≤ 255) (hx : x0 ≤ 4294967295) (hy : y0 ≤ 4294967295) (hp : p ≤ 65535) (hq : q ≤ 65535) (pl : Bool) (h4 : 1472 < n) (h5 : n ≤ 3000) (h6 : m ≤ 9) :
    Calls Try.prog 4 #[.agg #[.int .u32 (x0 : Int), .int .u32 (y0 : Int)], .agg #[.int .u16 (p : Int), .int .u16 (q : Int), .bool pl, .slice da n dc], .slice ma m mc] w fun e w' => e = .returned (.bool true) ∧ Below w.heap.size w w' := by
  have HR := hide hr
  have HN := hide hn
  have HL := hide hl
  have HB := hide hb
  have HMR := hide hmr
  have HMN := hide hmn
  have HML := hide hml
  have HMB := hide hmb
  clear hr hn hl hb hmr hmn hml hmb
  go_enter Try.func4, Try.ntmps4
  go_wp2_with fail
  have bb1 := (Below.refl w.heap.size w).alloc (Nat.le_refl _) (.cells #[.int .u32 (x0 : Int), .int .u32 (y0 : Int)] 38)
  have bb2 := bb1.alloc bb1.size (.cells #[.int .u16 (p : Int), .int .u16 (q : Int), .bool pl, .slice da n dc] 40)
  obtain ⟨X, A, w0, hX, hA, hqq, hxh, hheap, hbel⟩ : ∃ X A wq, w.heap.size = X ∧ w.heap.size + 1 = A ∧ (w.alloc (.cells #[.int .u32 (x0 : Int), .int .u32 (y0 : Int)] 38)).alloc (.cells #[.int .u16 (p : Int), .int .u16 (q : Int), .bool pl, .slice da n dc] 40) = wq ∧ wq.heap[X]? = some (.cells #[.int .u32 (x0 : Int), .int .u32 (y0 : Int)] 38 (0, 0)) ∧ wq.heap[A]? = some (.cells #[.int .u16 (p : Int), .int .u16 (q : Int), .bool pl, .slice da n dc] 40 (0, 0)) ∧ Below w.heap.size w wq := by
    refine ⟨_, _, _, rfl, rfl, rfl, ?_, ?_, bb2⟩
    · rw [Below.heap_alloc _ _ _ (by simp)]; exact heap_alloc_new w _
    · have h := heap_alloc_new (w.alloc (.cells #[.int .u32 (x0 : Int), .int .u32 (y0 : Int)] 38)) (.cells #[.int .u16 (p : Int), .int .u16 (q : Int), .bool pl, .slice da n dc] 40); simpa using h
  rw [hqq, hA, hX]
  have hXw := hide (And.intro hX hA)
  have HR0 := hide (HR.out.below hbel (Nat.le_refl _))
  have HM0 := hide (HMR.out.below hbel (Nat.le_refl _))
  have HX0 := hide hxh
  have HH0 := hide hheap
  have HB0 := hide hbel
  clear hqq hA hX hbel hheap hxh bb1 bb2
  refine (speaks5_any w0).mono ?_
  rintro e w1 ⟨rfl, b1⟩
  have HX1 := hide (below_block b1 HX0.out (Nat.le_refl _))
  have HH1 := hide (below_block b1 HH0.out (Nat.le_refl _))
  have HR1 := hide (HR0.out.below b1 (Nat.le_refl _))
  have HM1 := hide (HM0.out.below b1 (Nat.le_refl _))
  have HB1 := hide (HB0.out.trans (b1.mono HB0.out.size))
  clear b1 HH0 HX0 HR0 HM0 HB0
  obtain ⟨a0, a1, a2, a3, af⟩ := four_cells HH1.out
  have hlA := lt_of_block HH1.out
  have hlX := lt_of_block HX1.out
  have x0c := cell2_0 HX1.out
  have x1c := cell2_1 HX1.out
  clear af
  have hd1 : decide ((3000 : Int) < (n : Int)) = false := by simp; omega
  have hd2 : decide ((9 : Int) < (m : Int)) = false := by simp; omega
  have hV0 : Below w1.heap.size w1 (w1.alloc (.cells #[.int .u16 (p : Int), .int .u16 (q : Int), .bool pl, .slice da n dc] 40)) := (Below.refl _ _).alloc (Nat.le_refl _) _
  obtain ⟨v3, w3, hrun3, o3, b3⟩ := app_own ((w1.alloc (.cells #[.int .u16 (p : Int), .int .u16 (q : Int), .bool pl, .slice da n dc] 40)).alloc (.cells #[] 5)) (w1.alloc (.cells #[.int .u16 (p : Int), .int .u16 (q : Int), .bool pl, .slice da n dc] 40)).heap.size (.slice (some ⟨(w1.alloc (.cells #[.int .u16 (p : Int), .int .u16 (q : Int), .bool pl, .slice da n dc] 40)).heap.size, 0, none⟩) 0 0) 0 [] (owns_nil (w := w1.alloc (.cells #[.int .u16 (p : Int), .int .u16 (q : Int), .bool pl, .slice da n dc] 40)) (base := 0) rfl) da xs n dc
    (HR1.out.below (hV0.alloc hV0.size _) (Nat.le_refl _)) HL.out HN.out (by omega) (by simp)
  obtain ⟨ca, cc, rfl⟩ := slice_form o3
  rw [Nat.zero_add, List.nil_append] at o3
  have hvb : Below w1.heap.size w1 w3 := (hV0.alloc hV0.size _).trans (b3.mono hV0.size)
  have hC3 : w3.heap[w1.heap.size]? = some (.cells #[.int .u16 (p : Int), .int .u16 (q : Int), .bool pl, .slice da n dc] 40 (0, 0)) := by
    have h0 := heap_alloc_new w1 (.cells #[.int .u16 (p : Int), .int .u16 (q : Int), .bool pl, .slice da n dc] 40)
    have h1 := (b3.block w1.heap.size (by simp)).trans ((Below.heap_alloc _ _ _ (by simp)).trans h0)
    exact h1
  rw [show (w1.alloc (.cells #[.int .u16 (p : Int), .int .u16 (q : Int), .bool pl, .slice da n dc] 40)).heap.size = w1.heap.size + 1 by simp] at hrun3 o3 b3
  simp only [Nat.zero_add] at hrun3
  have HRUN3 := hide hrun3
  obtain ⟨m0, m1, m2, m3, mf⟩ := four_cells hC3
  have hCf := mf 3
  obtain ⟨w4, hw4, hC4, hA4, hX4, o4, HB4, HR4, HM4⟩ : ∃ w4, w3.setCell ⟨w1.heap.size, 3, none⟩ (.slice ca n cc) = w4 ∧ w4.heap[w1.heap.size]? = some (.cells #[.int .u16 (p : Int), .int .u16 (q : Int), .bool pl, .slice ca n cc] 40 (0, 0)) ∧ w4.heap[A]? = some (.cells #[.int .u16 (p : Int), .int .u16 (q : Int), .bool pl, .slice da n dc] 40 (0, 0)) ∧ w4.heap[X]? = some (.cells #[.int .u32 (x0 : Int), .int .u32 (y0 : Int)] 38 (0, 0)) ∧ Hid (w4.ownsRow (w1.heap.size + 1) 5 1 (.slice ca n cc) n (xs.map (Value.int .u8))) ∧ Hid (Below w.heap.size w w4) ∧ Hid (Row .u8 w4 da xs) ∧ Hid (Row .u8 w4 ma ms) := by
    have hdr : ∀ (a : Option Addr) (zs : List Int), Row .u8 w1 a zs → Row .u8 w3 a zs → Row .u8 (w3.setCell ⟨w1.heap.size, 3, none⟩ (.slice ca n cc)) a zs := by
      intro a zs h1 h3 hz
      obtain ⟨b', off, e', hlt, _⟩ := h1 hz
      exact row_set h3 (fun b e => by rw [e] at e'; cases e'; simp; omega) hz
    refine ⟨_, rfl, four_set hC3, (Below.heap_setCell _ _ _ _ (by simp; omega)).trans (below_block hvb HH1.out (by omega)), (Below.heap_setCell _ _ _ _ (by simp; omega)).trans (below_block hvb HX1.out (by omega)), hide (owns_set o3 (by omega)), hide ((HB1.out.trans (hvb.mono (by have := HB1.out.size; omega))).setCell (by have := HB1.out.size; simp; omega) _), hide (hdr _ _ HR1.out (HR1.out.below hvb (by omega))), hide (hdr _ _ HM1.out (HM1.out.below hvb (by omega)))⟩
  clear o3 b3 hvb hC3 hV0 hrun3 mf
  have HW4 := hide hw4
  have HCC := hide hC4
  have HAA := hide hA4
  have HXX := hide hX4
  have hcx0 : w4.cell? ⟨X, 0, none⟩ = some (.int .u32 x0) := cell2_0 hX4
  have hcx1 : w4.cell? ⟨X, 1, none⟩ = some (.int .u32 y0) := cell2_1 hX4
  have hwx0 : w3.cell? ⟨X, 0, none⟩ = some (.int .u32 x0) := by rw [← hw4] at hcx0; rw [cell_set_ne _ _ _ _ (by simp; omega)] at hcx0; exact hcx0
  have hwx1 : w3.cell? ⟨X, 1, none⟩ = some (.int .u32 y0) := by rw [← hw4] at hcx1; rw [cell_set_ne _ _ _ _ (by simp; omega)] at hcx1; exact hcx1
  have hXne : X ≠ w1.heap.size := by omega
  clear hw4 hC4 hA4 hX4
  go_wp2_with (at_builtin; refine Lib.wpList_append_run _ rfl _ _ _ _ rfl _ _ rfl rfl _ _ HRUN3.out ?_)
  rw [HW4.out]
  clear m0 m1 m2 m3 hCf a0 a1 a2 a3 hwx0 hwx1 x0c x1c hcx0 hcx1
  have hnn := hide (none_cap o4.out)
  have HRC := hide (Row.of_owns o4.out)
  have B44 := hide (Below.refl w4.heap.size w4)
  have HXXz := hide HXX.out
  have HAAz := hide HAA.out
  have HR4z := hide HR4.out
  have HB4z := hide HB4.out
  refine (wudp_long w4 _ _ _ _ _ _ _ _ h4).mono ?_
  rintro e w5 ⟨rfl, b5⟩
  have HAA := hide (below_block b5 HAA.out (Nat.le_refl _))
  have HCC := hide (below_block b5 HCC.out (Nat.le_refl _))
  have HXX := hide (below_block b5 HXX.out (Nat.le_refl _))
  have HRC := hide (HRC.out.below b5 (Nat.le_refl _))
  have HR4 := hide (HR4.out.below b5 (Nat.le_refl _))
  have HM4 := hide (HM4.out.below b5 (Nat.le_refl _))
  have HB4 := hide (HB4.out.trans (b5.mono HB4.out.size))
  have B44 := hide (B44.out.trans (b5.mono B44.out.size))
  clear b5
  obtain ⟨m0, m1, m2, m3, mf⟩ := four_cells HCC.out
  obtain ⟨a0, a1, a2, a3, af⟩ := four_cells HAA.out
  have x0c := cell2_0 HXX.out
  have x1c := cell2_1 HXX.out
  clear mf af
  go_wp2_with fail
  refine (rwudp_long w5 _ _ _ _ _ _ _ _ h4).mono ?_
  rintro e w6 ⟨g6, rfl, b6⟩
  clear m0 m1 m2 m3 a0 a1 a2 a3 x0c x1c
  have HAA := hide (below_block b6 HAA.out (Nat.le_refl _))
  have HCC := hide (below_block b6 HCC.out (Nat.le_refl _))
  have HXX := hide (below_block b6 HXX.out (Nat.le_refl _))
  have HRC := hide (HRC.out.below b6 (Nat.le_refl _))
  have HR4 := hide (HR4.out.below b6 (Nat.le_refl _))
  have HM4 := hide (HM4.out.below b6 (Nat.le_refl _))
  have HB4 := hide (HB4.out.trans (b6.mono HB4.out.size))
  have B44 := hide (B44.out.trans (b6.mono B44.out.size))
  clear b6
  obtain ⟨m0, m1, m2, m3, mf⟩ := four_cells HCC.out
  obtain ⟨a0, a1, a2, a3, af⟩ := four_cells HAA.out
  have x0c := cell2_0 HXX.out
  have x1c := cell2_1 HXX.out
  clear mf af
  have hcv1 : (convert 25 9 (.slice none 0 0)).run Try.prog w6 = .ok (.string (strOfNums [])) w6 := conv_any none [] 0 w6 (fun h => absurd rfl h)
  have hcv2 : (convert 25 9 (.slice (some ⟨g6, 0, none⟩) 0 0)).run Try.prog w6 = .ok (.string (strOfNums [])) w6 := conv_any (some ⟨g6, 0, none⟩) [] 0 w6 (fun h => absurd rfl h)
  have HS := hide (sameUdp_any w6 p q pl ca da xs n cc dc HRC.out HR4.out HL.out)
  go_wp2_with fail
  refine HS.out.mono ?_
  rintro e w7 ⟨rfl, b7⟩
  have HB7 := hide (HB4.out.trans (b7.mono HB4.out.size))
  clear b7 m0 m1 m2 m3 a0 a1 a2 a3 x0c x1c hcv1 hcv2
  go_wp2
  go_ret
  exact ⟨rfl, HB7.out⟩

set_option maxHeartbeats 1600000 in
theorem td_over_plain (w : World) (x0 y0 p q : Nat) (da : Option Addr) (xs : List Int) (n dc : Nat) (ma : Option Addr) (ms : List Int) (m mc : Nat) (hr : Row .u8 w da xs) (hn : da = none → dc = 0) (hl : xs.length = n) (hb : ∀ x ∈ xs, 0 ≤ x ∧ x ≤ 255) (hmr : Row .u8 w ma ms) (hmn : ma = none → mc = 0) (hml : ms.length = m) (hmb : ∀ x ∈ ms, 0 ≤ x ∧ x ≤ 255) (hx : x0 ≤ 4294967295) (hy : y0 ≤ 4294967295) (hp : p ≤ 65535) (hq : q ≤ 65535) (h4 : n ≤ 1472) (h6 : m ≤ 9) (h7 : 1480 < 8 + n + m) :
    Calls Try.prog 4 #[.agg #[.int .u32 (x0 : Int), .int .u32 (y0 : Int)], .agg #[.int .u16 (p : Int), .int .u16 (q : Int), .bool true, .slice da n dc], .slice ma m mc] w fun e w' => e = .returned (.bool true) ∧ Below w.heap.size w w' := by
  have HR := hide hr
  have HN := hide hn
  have HL := hide hl
  have HB := hide hb
  have HMR := hide hmr
  have HMN := hide hmn
  have HML := hide hml
  have HMB := hide hmb
  clear hr hn hl hb hmr hmn hml hmb
  go_enter Try.func4, Try.ntmps4
  go_wp2_with fail
  have bb1 := (Below.refl w.heap.size w).alloc (Nat.le_refl _) (.cells #[.int .u32 (x0 : Int), .int .u32 (y0 : Int)] 38)
  have bb2 := bb1.alloc bb1.size (.cells #[.int .u16 (p : Int), .int .u16 (q : Int), .bool true, .slice da n dc] 40)
  obtain ⟨X, A, w0, hX, hA, hqq, hxh, hheap, hbel⟩ : ∃ X A wq, w.heap.size = X ∧ w.heap.size + 1 = A ∧ (w.alloc (.cells #[.int .u32 (x0 : Int), .int .u32 (y0 : Int)] 38)).alloc (.cells #[.int .u16 (p : Int), .int .u16 (q : Int), .bool true, .slice da n dc] 40) = wq ∧ wq.heap[X]? = some (.cells #[.int .u32 (x0 : Int), .int .u32 (y0 : Int)] 38 (0, 0)) ∧ wq.heap[A]? = some (.cells #[.int .u16 (p : Int), .int .u16 (q : Int), .bool true, .slice da n dc] 40 (0, 0)) ∧ Below w.heap.size w wq := by
    refine ⟨_, _, _, rfl, rfl, rfl, ?_, ?_, bb2⟩
    · rw [Below.heap_alloc _ _ _ (by simp)]; exact heap_alloc_new w _
    · have h := heap_alloc_new (w.alloc (.cells #[.int .u32 (x0 : Int), .int .u32 (y0 : Int)] 38)) (.cells #[.int .u16 (p : Int), .int .u16 (q : Int), .bool true, .slice da n dc] 40); simpa using h
  rw [hqq, hA, hX]
  have hXw := hide (And.intro hX hA)
  have HR0 := hide (HR.out.below hbel (Nat.le_refl _))
  have HM0 := hide (HMR.out.below hbel (Nat.le_refl _))
  have HX0 := hide hxh
  have HH0 := hide hheap
  have HB0 := hide hbel
  clear hqq hA hX hbel hheap hxh bb1 bb2
  refine (speaks5_any w0).mono ?_
  rintro e w1 ⟨rfl, b1⟩
  have HX1 := hide (below_block b1 HX0.out (Nat.le_refl _))
  have HH1 := hide (below_block b1 HH0.out (Nat.le_refl _))
  have HR1 := hide (HR0.out.below b1 (Nat.le_refl _))
  have HM1 := hide (HM0.out.below b1 (Nat.le_refl _))
  have HB1 := hide (HB0.out.trans (b1.mono HB0.out.size))
  clear b1 HH0 HX0 HR0 HM0 HB0
  obtain ⟨a0, a1, a2, a3, af⟩ := four_cells HH1.out
  have hlA := lt_of_block HH1.out
  have hlX := lt_of_block HX1.out
  have x0c := cell2_0 HX1.out
  have x1c := cell2_1 HX1.out
  clear af
  have hd1 : decide ((3000 : Int) < (n : Int)) = false := by simp; omega
  have hd2 : decide ((9 : Int) < (m : Int)) = false := by simp; omega
  have hV0 : Below w1.heap.size w1 (w1.alloc (.cells #[.int .u16 (p : Int), .int .u16 (q : Int), .bool true, .slice da n dc] 40)) := (Below.refl _ _).alloc (Nat.le_refl _) _
  obtain ⟨v3, w3, hrun3, o3, b3⟩ := app_own ((w1.alloc (.cells #[.int .u16 (p : Int), .int .u16 (q : Int), .bool true, .slice da n dc] 40)).alloc (.cells #[] 5)) (w1.alloc (.cells #[.int .u16 (p : Int), .int .u16 (q : Int), .bool true, .slice da n dc] 40)).heap.size (.slice (some ⟨(w1.alloc (.cells #[.int .u16 (p : Int), .int .u16 (q : Int), .bool true, .slice da n dc] 40)).heap.size, 0, none⟩) 0 0) 0 [] (owns_nil (w := w1.alloc (.cells #[.int .u16 (p : Int), .int .u16 (q : Int), .bool true, .slice da n dc] 40)) (base := 0) rfl) da xs n dc
    (HR1.out.below (hV0.alloc hV0.size _) (Nat.le_refl _)) HL.out HN.out (by omega) (by simp)
  obtain ⟨ca, cc, rfl⟩ := slice_form o3
  rw [Nat.zero_add, List.nil_append] at o3
  have hvb : Below w1.heap.size w1 w3 := (hV0.alloc hV0.size _).trans (b3.mono hV0.size)
  have hC3 : w3.heap[w1.heap.size]? = some (.cells #[.int .u16 (p : Int), .int .u16 (q : Int), .bool true, .slice da n dc] 40 (0, 0)) := by
    have h0 := heap_alloc_new w1 (.cells #[.int .u16 (p : Int), .int .u16 (q : Int), .bool true, .slice da n dc] 40)
    have h1 := (b3.block w1.heap.size (by simp)).trans ((Below.heap_alloc _ _ _ (by simp)).trans h0)
    exact h1
  rw [show (w1.alloc (.cells #[.int .u16 (p : Int), .int .u16 (q : Int), .bool true, .slice da n dc] 40)).heap.size = w1.heap.size + 1 by simp] at hrun3 o3 b3
  simp only [Nat.zero_add] at hrun3
  have HRUN3 := hide hrun3
  obtain ⟨m0, m1, m2, m3, mf⟩ := four_cells hC3
  have hCf := mf 3
  obtain ⟨w4, hw4, hC4, hA4, hX4, o4, HB4, HR4, HM4⟩ : ∃ w4, w3.setCell ⟨w1.heap.size, 3, none⟩ (.slice ca n cc) = w4 ∧ w4.heap[w1.heap.size]? = some (.cells #[.int .u16 (p : Int), .int .u16 (q : Int), .bool true, .slice ca n cc] 40 (0, 0)) ∧ w4.heap[A]? = some (.cells #[.int .u16 (p : Int), .int .u16 (q : Int), .bool true, .slice da n dc] 40 (0, 0)) ∧ w4.heap[X]? = some (.cells #[.int .u32 (x0 : Int), .int .u32 (y0 : Int)] 38 (0, 0)) ∧ Hid (w4.ownsRow (w1.heap.size + 1) 5 1 (.slice ca n cc) n (xs.map (Value.int .u8))) ∧ Hid (Below w.heap.size w w4) ∧ Hid (Row .u8 w4 da xs) ∧ Hid (Row .u8 w4 ma ms) := by
    have hdr : ∀ (a : Option Addr) (zs : List Int), Row .u8 w1 a zs → Row .u8 w3 a zs → Row .u8 (w3.setCell ⟨w1.heap.size, 3, none⟩ (.slice ca n cc)) a zs := by
      intro a zs h1 h3 hz
      obtain ⟨b', off, e', hlt, _⟩ := h1 hz
      exact row_set h3 (fun b e => by rw [e] at e'; cases e'; simp; omega) hz
    refine ⟨_, rfl, four_set hC3, (Below.heap_setCell _ _ _ _ (by simp; omega)).trans (below_block hvb HH1.out (by omega)), (Below.heap_setCell _ _ _ _ (by simp; omega)).trans (below_block hvb HX1.out (by omega)), hide (owns_set o3 (by omega)), hide ((HB1.out.trans (hvb.mono (by have := HB1.out.size; omega))).setCell (by have := HB1.out.size; simp; omega) _), hide (hdr _ _ HR1.out (HR1.out.below hvb (by omega))), hide (hdr _ _ HM1.out (HM1.out.below hvb (by omega)))⟩
  clear o3 b3 hvb hC3 hV0 hrun3 mf
  have HW4 := hide hw4
  have HCC := hide hC4
  have HAA := hide hA4
  have HXX := hide hX4
  have hcx0 : w4.cell? ⟨X, 0, none⟩ = some (.int .u32 x0) := cell2_0 hX4
  have hcx1 : w4.cell? ⟨X, 1, none⟩ = some (.int .u32 y0) := cell2_1 hX4
  have hwx0 : w3.cell? ⟨X, 0, none⟩ = some (.int .u32 x0) := by rw [← hw4] at hcx0; rw [cell_set_ne _ _ _ _ (by simp; omega)] at hcx0; exact hcx0
  have hwx1 : w3.cell? ⟨X, 1, none⟩ = some (.int .u32 y0) := by rw [← hw4] at hcx1; rw [cell_set_ne _ _ _ _ (by simp; omega)] at hcx1; exact hcx1
  have hXne : X ≠ w1.heap.size := by omega
  clear hw4 hC4 hA4 hX4
  go_wp2_with (at_builtin; refine Lib.wpList_append_run _ rfl _ _ _ _ rfl _ _ rfl rfl _ _ HRUN3.out ?_)
  rw [HW4.out]
  clear m0 m1 m2 m3 hCf a0 a1 a2 a3 hwx0 hwx1 x0c x1c hcx0 hcx1
  have hnn := hide (none_cap o4.out)
  have HRC := hide (Row.of_owns o4.out)
  have B44 := hide (Below.refl w4.heap.size w4)
  have HXXz := hide HXX.out
  have HAAz := hide HAA.out
  have HR4z := hide HR4.out
  have HB4z := hide HB4.out
  refine (wudp_plain w4 x0 y0 p q ca xs n cc HRC.out hnn.out HL.out h4 hx hy hp hq).mono ?_
  rintro e w5 ⟨a5, c5, rfl, o5, b5⟩
  have HO5 := hide o5
  have HAA := hide (below_block b5 HAA.out (Nat.le_refl _))
  have HCC := hide (below_block b5 HCC.out (Nat.le_refl _))
  have HXX := hide (below_block b5 HXX.out (Nat.le_refl _))
  have HRC := hide (HRC.out.below b5 (Nat.le_refl _))
  have HR4 := hide (HR4.out.below b5 (Nat.le_refl _))
  have HM4 := hide (HM4.out.below b5 (Nat.le_refl _))
  have HB4 := hide (HB4.out.trans (b5.mono HB4.out.size))
  have B44 := hide (B44.out.trans (b5.mono B44.out.size))
  clear b5 o5
  obtain ⟨m0, m1, m2, m3, mf⟩ := four_cells HCC.out
  obtain ⟨a0, a1, a2, a3, af⟩ := four_cells HAA.out
  have x0c := cell2_0 HXX.out
  have x1c := cell2_1 HXX.out
  clear mf af
  go_wp2_with fail
  refine (rwudp_plain w5 x0 y0 p q da xs n dc HR4.out HN.out HL.out h4 hx hy hp hq).mono ?_
  rintro e w6 ⟨a6, c6, rfl, o6, b6⟩
  have HO5 := hide (owns_below HO5.out b6 (Nat.le_refl _))
  clear m0 m1 m2 m3 a0 a1 a2 a3 x0c x1c
  have HAA := hide (below_block b6 HAA.out (Nat.le_refl _))
  have HCC := hide (below_block b6 HCC.out (Nat.le_refl _))
  have HXX := hide (below_block b6 HXX.out (Nat.le_refl _))
  have HRC := hide (HRC.out.below b6 (Nat.le_refl _))
  have HR4 := hide (HR4.out.below b6 (Nat.le_refl _))
  have HM4 := hide (HM4.out.below b6 (Nat.le_refl _))
  have HB4 := hide (HB4.out.trans (b6.mono HB4.out.size))
  have B44 := hide (B44.out.trans (b6.mono B44.out.size))
  clear b6
  have hyl : (udpZ p q xs).length = 8 + n := by rw [udpZ_G p q xs, udpG_len, HL.out]
  have hcv1 := conv_any a5 (udpZ p q xs) c5 w6 (Row.of_owns HO5.out)
  have hcv2 := conv_any a6 (udpZ p q xs) c6 w6 (Row.of_owns o6)
  rw [hyl] at hcv1 hcv2
  have HYG := hide (udpZ_G p q xs)
  have HYL := hide hyl
  have hzz : ∃ zs, strOfNums (udpZ p q xs) = zs := ⟨_, rfl⟩
  obtain ⟨zs, hzs⟩ := hzz
  rw [hzs] at hcv1 hcv2
  clear o6 hyl hzs
  obtain ⟨m0, m1, m2, m3, mf⟩ := four_cells HCC.out
  obtain ⟨a0, a1, a2, a3, af⟩ := four_cells HAA.out
  have x0c := cell2_0 HXX.out
  have x1c := cell2_1 HXX.out
  clear mf af
  have HS := hide (sameUdp_any w6 p q true ca da xs n cc dc HRC.out HR4.out HL.out)
  go_wp2_with fail
  refine HS.out.mono ?_
  rintro e w7 ⟨rfl, b7⟩
  have HO5 := hide (owns_below HO5.out b7 (Nat.le_refl _))
  clear m0 m1 m2 m3 a0 a1 a2 a3 x0c x1c hcv1 hcv2
  have HAA := hide (below_block b7 HAA.out (Nat.le_refl _))
  have HCC := hide (below_block b7 HCC.out (Nat.le_refl _))
  have HXX := hide (below_block b7 HXX.out (Nat.le_refl _))
  have HRC := hide (HRC.out.below b7 (Nat.le_refl _))
  have HR4 := hide (HR4.out.below b7 (Nat.le_refl _))
  have HM4 := hide (HM4.out.below b7 (Nat.le_refl _))
  have HB4 := hide (HB4.out.trans (b7.mono HB4.out.size))
  have B44 := hide (B44.out.trans (b7.mono B44.out.size))
  clear b7
  have hd3 : decide ((1480 : Int) < 8 + (n : Int) + (m : Int)) = true := by simp; omega
  go_wp2
  go_ret
  exact ⟨rfl, HB4.out⟩

set_option maxHeartbeats 1600000 in
theorem td_ok_plain (w : World) (x0 y0 p q : Nat) (da : Option Addr) (xs : List Int) (n dc : Nat) (ma : Option Addr) (ms : List Int) (m mc : Nat) (hr : Row .u8 w da xs) (hn : da = none → dc = 0) (hl : xs.length = n) (hb : ∀ x ∈ xs, 0 ≤ x ∧ x ≤ 255) (hmr : Row .u8 w ma ms) (hmn : ma = none → mc = 0) (hml : ms.length = m) (hmb : ∀ x ∈ ms, 0 ≤ x ∧ x ≤ 255) (hx : x0 ≤ 4294967295) (hy : y0 ≤ 4294967295) (hp : p ≤ 65535) (hq : q ≤ 65535) (h4 : n ≤ 1472) (h6 : m ≤ 9) (h7 : 8 + n + m ≤ 1480) :
    Calls Try.prog 4 #[.agg #[.int .u32 (x0 : Int), .int .u32 (y0 : Int)], .agg #[.int .u16 (p : Int), .int .u16 (q : Int), .bool true, .slice da n dc], .slice ma m mc] w fun e w' => e = .returned (.bool true) ∧ Below w.heap.size w w' := by
  have HR := hide hr
  have HN := hide hn
  have HL := hide hl
  have HB := hide hb
  have HMR := hide hmr
  have HMN := hide hmn
  have HML := hide hml
  have HMB := hide hmb
  clear hr hn hl hb hmr hmn hml hmb
  go_enter Try.func4, Try.ntmps4
  go_wp2_with fail
  have bb1 := (Below.refl w.heap.size w).alloc (Nat.le_refl _) (.cells #[.int .u32 (x0 : Int), .int .u32 (y0 : Int)] 38)
  have bb2 := bb1.alloc bb1.size (.cells #[.int .u16 (p : Int), .int .u16 (q : Int), .bool true, .slice da n dc] 40)
  obtain ⟨X, A, w0, hX, hA, hqq, hxh, hheap, hbel⟩ : ∃ X A wq, w.heap.size = X ∧ w.heap.size + 1 = A ∧ (w.alloc (.cells #[.int .u32 (x0 : Int), .int .u32 (y0 : Int)] 38)).alloc (.cells #[.int .u16 (p : Int), .int .u16 (q : Int), .bool true, .slice da n dc] 40) = wq ∧ wq.heap[X]? = some (.cells #[.int .u32 (x0 : Int), .int .u32 (y0 : Int)] 38 (0, 0)) ∧ wq.heap[A]? = some (.cells #[.int .u16 (p : Int), .int .u16 (q : Int), .bool true, .slice da n dc] 40 (0, 0)) ∧ Below w.heap.size w wq := by
    refine ⟨_, _, _, rfl, rfl, rfl, ?_, ?_, bb2⟩
    · rw [Below.heap_alloc _ _ _ (by simp)]; exact heap_alloc_new w _
    · have h := heap_alloc_new (w.alloc (.cells #[.int .u32 (x0 : Int), .int .u32 (y0 : Int)] 38)) (.cells #[.int .u16 (p : Int), .int .u16 (q : Int), .bool true, .slice da n dc] 40); simpa using h
  rw [hqq, hA, hX]
  have hXw := hide (And.intro hX hA)
  have HR0 := hide (HR.out.below hbel (Nat.le_refl _))
  have HM0 := hide (HMR.out.below hbel (Nat.le_refl _))
  have HX0 := hide hxh
  have HH0 := hide hheap
  have HB0 := hide hbel
  clear hqq hA hX hbel hheap hxh bb1 bb2
  refine (speaks5_any w0).mono ?_
  rintro e w1 ⟨rfl, b1⟩
  have HX1 := hide (below_block b1 HX0.out (Nat.le_refl _))
  have HH1 := hide (below_block b1 HH0.out (Nat.le_refl _))
  have HR1 := hide (HR0.out.below b1 (Nat.le_refl _))
  have HM1 := hide (HM0.out.below b1 (Nat.le_refl _))
  have HB1 := hide (HB0.out.trans (b1.mono HB0.out.size))
  clear b1 HH0 HX0 HR0 HM0 HB0
  obtain ⟨a0, a1, a2, a3, af⟩ := four_cells HH1.out
  have hlA := lt_of_block HH1.out
  have hlX := lt_of_block HX1.out
  have x0c := cell2_0 HX1.out
  have x1c := cell2_1 HX1.out
  clear af
  have hd1 : decide ((3000 : Int) < (n : Int)) = false := by simp; omega
  have hd2 : decide ((9 : Int) < (m : Int)) = false := by simp; omega
  have hV0 : Below w1.heap.size w1 (w1.alloc (.cells #[.int .u16 (p : Int), .int .u16 (q : Int), .bool true, .slice da n dc] 40)) := (Below.refl _ _).alloc (Nat.le_refl _) _
  obtain ⟨v3, w3, hrun3, o3, b3⟩ := app_own ((w1.alloc (.cells #[.int .u16 (p : Int), .int .u16 (q : Int), .bool true, .slice da n dc] 40)).alloc (.cells #[] 5)) (w1.alloc (.cells #[.int .u16 (p : Int), .int .u16 (q : Int), .bool true, .slice da n dc] 40)).heap.size (.slice (some ⟨(w1.alloc (.cells #[.int .u16 (p : Int), .int .u16 (q : Int), .bool true, .slice da n dc] 40)).heap.size, 0, none⟩) 0 0) 0 [] (owns_nil (w := w1.alloc (.cells #[.int .u16 (p : Int), .int .u16 (q : Int), .bool true, .slice da n dc] 40)) (base := 0) rfl) da xs n dc
    (HR1.out.below (hV0.alloc hV0.size _) (Nat.le_refl _)) HL.out HN.out (by omega) (by simp)
  obtain ⟨ca, cc, rfl⟩ := slice_form o3
  rw [Nat.zero_add, List.nil_append] at o3
  have hvb : Below w1.heap.size w1 w3 := (hV0.alloc hV0.size _).trans (b3.mono hV0.size)
  have hC3 : w3.heap[w1.heap.size]? = some (.cells #[.int .u16 (p : Int), .int .u16 (q : Int), .bool true, .slice da n dc] 40 (0, 0)) := by
    have h0 := heap_alloc_new w1 (.cells #[.int .u16 (p : Int), .int .u16 (q : Int), .bool true, .slice da n dc] 40)
    have h1 := (b3.block w1.heap.size (by simp)).trans ((Below.heap_alloc _ _ _ (by simp)).trans h0)
    exact h1
  rw [show (w1.alloc (.cells #[.int .u16 (p : Int), .int .u16 (q : Int), .bool true, .slice da n dc] 40)).heap.size = w1.heap.size + 1 by simp] at hrun3 o3 b3
  simp only [Nat.zero_add] at hrun3
  have HRUN3 := hide hrun3
  obtain ⟨m0, m1, m2, m3, mf⟩ := four_cells hC3
  have hCf := mf 3
  obtain ⟨w4, hw4, hC4, hA4, hX4, o4, HB4, HR4, HM4⟩ : ∃ w4, w3.setCell ⟨w1.heap.size, 3, none⟩ (.slice ca n cc) = w4 ∧ w4.heap[w1.heap.size]? = some (.cells #[.int .u16 (p : Int), .int .u16 (q : Int), .bool true, .slice ca n cc] 40 (0, 0)) ∧ w4.heap[A]? = some (.cells #[.int .u16 (p : Int), .int .u16 (q : Int), .bool true, .slice da n dc] 40 (0, 0)) ∧ w4.heap[X]? = some (.cells #[.int .u32 (x0 : Int), .int .u32 (y0 : Int)] 38 (0, 0)) ∧ Hid (w4.ownsRow (w1.heap.size + 1) 5 1 (.slice ca n cc) n (xs.map (Value.int .u8))) ∧ Hid (Below w.heap.size w w4) ∧ Hid (Row .u8 w4 da xs) ∧ Hid (Row .u8 w4 ma ms) := by
    have hdr : ∀ (a : Option Addr) (zs : List Int), Row .u8 w1 a zs → Row .u8 w3 a zs → Row .u8 (w3.setCell ⟨w1.heap.size, 3, none⟩ (.slice ca n cc)) a zs := by
      intro a zs h1 h3 hz
      obtain ⟨b', off, e', hlt, _⟩ := h1 hz
      exact row_set h3 (fun b e => by rw [e] at e'; cases e'; simp; omega) hz
    refine ⟨_, rfl, four_set hC3, (Below.heap_setCell _ _ _ _ (by simp; omega)).trans (below_block hvb HH1.out (by omega)), (Below.heap_setCell _ _ _ _ (by simp; omega)).trans (below_block hvb HX1.out (by omega)), hide (owns_set o3 (by omega)), hide ((HB1.out.trans (hvb.mono (by have := HB1.out.size; omega))).setCell (by have := HB1.out.size; simp; omega) _), hide (hdr _ _ HR1.out (HR1.out.below hvb (by omega))), hide (hdr _ _ HM1.out (HM1.out.below hvb (by omega)))⟩
  clear o3 b3 hvb hC3 hV0 hrun3 mf
  have HW4 := hide hw4
  have HCC := hide hC4
  have HAA := hide hA4
  have HXX := hide hX4
  have hcx0 : w4.cell? ⟨X, 0, none⟩ = some (.int .u32 x0) := cell2_0 hX4
  have hcx1 : w4.cell? ⟨X, 1, none⟩ = some (.int .u32 y0) := cell2_1 hX4
  have hwx0 : w3.cell? ⟨X, 0, none⟩ = some (.int .u32 x0) := by rw [← hw4] at hcx0; rw [cell_set_ne _ _ _ _ (by simp; omega)] at hcx0; exact hcx0
  have hwx1 : w3.cell? ⟨X, 1, none⟩ = some (.int .u32 y0) := by rw [← hw4] at hcx1; rw [cell_set_ne _ _ _ _ (by simp; omega)] at hcx1; exact hcx1
  have hXne : X ≠ w1.heap.size := by omega
  clear hw4 hC4 hA4 hX4
  go_wp2_with (at_builtin; refine Lib.wpList_append_run _ rfl _ _ _ _ rfl _ _ rfl rfl _ _ HRUN3.out ?_)
  rw [HW4.out]
  clear m0 m1 m2 m3 hCf a0 a1 a2 a3 hwx0 hwx1 x0c x1c hcx0 hcx1
  have hnn := hide (none_cap o4.out)
  have HRC := hide (Row.of_owns o4.out)
  have B44 := hide (Below.refl w4.heap.size w4)
  have HXXz := hide HXX.out
  have HAAz := hide HAA.out
  have HR4z := hide HR4.out
  have HB4z := hide HB4.out
  refine (wudp_plain w4 x0 y0 p q ca xs n cc HRC.out hnn.out HL.out h4 hx hy hp hq).mono ?_
  rintro e w5 ⟨a5, c5, rfl, o5, b5⟩
  have HO5 := hide o5
  have HAA := hide (below_block b5 HAA.out (Nat.le_refl _))
  have HCC := hide (below_block b5 HCC.out (Nat.le_refl _))
  have HXX := hide (below_block b5 HXX.out (Nat.le_refl _))
  have HRC := hide (HRC.out.below b5 (Nat.le_refl _))
  have HR4 := hide (HR4.out.below b5 (Nat.le_refl _))
  have HM4 := hide (HM4.out.below b5 (Nat.le_refl _))
  have HB4 := hide (HB4.out.trans (b5.mono HB4.out.size))
  have B44 := hide (B44.out.trans (b5.mono B44.out.size))
  clear b5 o5
  obtain ⟨m0, m1, m2, m3, mf⟩ := four_cells HCC.out
  obtain ⟨a0, a1, a2, a3, af⟩ := four_cells HAA.out
  have x0c := cell2_0 HXX.out
  have x1c := cell2_1 HXX.out
  clear mf af
  go_wp2_with fail
  refine (rwudp_plain w5 x0 y0 p q da xs n dc HR4.out HN.out HL.out h4 hx hy hp hq).mono ?_
  rintro e w6 ⟨a6, c6, rfl, o6, b6⟩
  have HO5 := hide (owns_below HO5.out b6 (Nat.le_refl _))
  clear m0 m1 m2 m3 a0 a1 a2 a3 x0c x1c
  have HAA := hide (below_block b6 HAA.out (Nat.le_refl _))
  have HCC := hide (below_block b6 HCC.out (Nat.le_refl _))
  have HXX := hide (below_block b6 HXX.out (Nat.le_refl _))
  have HRC := hide (HRC.out.below b6 (Nat.le_refl _))
  have HR4 := hide (HR4.out.below b6 (Nat.le_refl _))
  have HM4 := hide (HM4.out.below b6 (Nat.le_refl _))
  have HB4 := hide (HB4.out.trans (b6.mono HB4.out.size))
  have B44 := hide (B44.out.trans (b6.mono B44.out.size))
  clear b6
  have hyl : (udpZ p q xs).length = 8 + n := by rw [udpZ_G p q xs, udpG_len, HL.out]
  have hcv1 := conv_any a5 (udpZ p q xs) c5 w6 (Row.of_owns HO5.out)
  have hcv2 := conv_any a6 (udpZ p q xs) c6 w6 (Row.of_owns o6)
  rw [hyl] at hcv1 hcv2
  have HYG := hide (udpZ_G p q xs)
  have HYL := hide hyl
  have hzz : ∃ zs, strOfNums (udpZ p q xs) = zs := ⟨_, rfl⟩
  obtain ⟨zs, hzs⟩ := hzz
  rw [hzs] at hcv1 hcv2
  clear o6 hyl hzs
  obtain ⟨m0, m1, m2, m3, mf⟩ := four_cells HCC.out
  obtain ⟨a0, a1, a2, a3, af⟩ := four_cells HAA.out
  have x0c := cell2_0 HXX.out
  have x1c := cell2_1 HXX.out
  clear mf af
  have HS := hide (sameUdp_any w6 p q true ca da xs n cc dc HRC.out HR4.out HL.out)
  go_wp2_with fail
  refine HS.out.mono ?_
  rintro e w7 ⟨rfl, b7⟩
  have HO5 := hide (owns_below HO5.out b7 (Nat.le_refl _))
  clear m0 m1 m2 m3 a0 a1 a2 a3 x0c x1c hcv1 hcv2
  have HAA := hide (below_block b7 HAA.out (Nat.le_refl _))
  have HCC := hide (below_block b7 HCC.out (Nat.le_refl _))
  have HXX := hide (below_block b7 HXX.out (Nat.le_refl _))
  have HRC := hide (HRC.out.below b7 (Nat.le_refl _))
  have HR4 := hide (HR4.out.below b7 (Nat.le_refl _))
  have HM4 := hide (HM4.out.below b7 (Nat.le_refl _))
  have HB4 := hide (HB4.out.trans (b7.mono HB4.out.size))
  have B44 := hide (B44.out.trans (b7.mono B44.out.size))
  clear b7
  have hd3 : decide ((1480 : Int) < 8 + (n : Int) + (m : Int)) = false := by simp; omega
  have hbm : ∀ x ∈ udpZ p q xs ++ ms, 0 ≤ x ∧ x ≤ 255 := by
    intro x hx
    rcases List.mem_append.1 hx with h | h
    · rw [HYG.out] at h; exact udpG_rng _ _ _ _ HB.out x h
    · exact HMB.out x h
  have f0 : fld (udpZ p q xs ++ ms) 0 2 = p := by rw [fld_app _ _ _ _ (by rw [HYL.out]; omega), HYG.out]; exact udpG_0 p q xs _ hp
  have f2 : fld (udpZ p q xs ++ ms) 2 2 = q := by rw [fld_app _ _ _ _ (by rw [HYL.out]; omega), HYG.out]; exact udpG_2 p q xs _ hq
  have f4 : fld (udpZ p q xs ++ ms) 4 2 = 8 + n := by rw [fld_app _ _ _ _ (by rw [HYL.out]; omega), HYG.out, udpG_4 p q xs _ (by rw [HL.out]; omega), HL.out]
  have f6 : fld (udpZ p q xs ++ ms) 6 2 = 0 := by rw [fld_app _ _ _ _ (by rw [HYL.out]; omega), HYG.out]; exact udpG_6 p q xs _ (by omega)
  have f8 : (((udpZ p q xs ++ ms).drop 8).take n) = xs := by
    rw [List.drop_append_of_le_length (by rw [HYL.out]; omega), HYG.out, udpG_8, List.take_append_of_le_length (by rw [HL.out]; omega), List.take_of_length_le (by rw [HL.out]; omega)]
  have hrdg : ∀ (wa : World) (a9 : Option Addr) (c9 : Nat), wa.ownsRow w4.heap.size 5 1 (.slice a9 (8 + n + m) c9) (8 + n + m) ((udpZ p q xs ++ ms).map (Value.int .u8)) → Calls Try.prog 17 #[.int .u32 x0, .int .u32 y0, .slice a9 (8 + n + m) c9] wa fun e w' => ∃ a' c, e = .returned (.tuple #[.agg #[.int .u16 (p : Int), .int .u16 (q : Int), .bool true, (.slice a' n c)], .int .i64 0]) ∧ w'.ownsRow wa.heap.size 5 1 (.slice a' n c) n (xs.map (Value.int .u8)) ∧ Below wa.heap.size wa w' := fun wa a9 c9 O9h => by
    have O9 := hide O9h
    have h := rudp_plain wa x0 y0 a9 (udpZ p q xs ++ ms) (8 + n + m) c9 p q (8 + n) 0 (Row.of_owns O9.out) (by rw [List.length_append, HYL.out, HML.out]) (own_cap O9.out (by omega)).1 (own_cap O9.out (by omega)).2 hbm (by omega) (by omega) (hide f0) (hide f2) (hide f4) (hide f6) (by omega) (by omega) rfl
    rw [show 8 + n - 8 = n by omega, f8] at h
    exact h
  have HRDG := hide hrdg
  have hne7 : (Value.slice a5 (8 + n) c5).ownBlock ≠ some w7.heap.size := own_ne HO5.out (Nat.le_refl _)
  have hxx : ∀ W : World, (W = w7.drew ∨ W = w7.drew.alloc (.cells #[.int .u16 0, .int .u16 0, .bool false, .slice none 0 0] 40) ∨ W = (w7.alloc (.cells #[.int .u16 0, .int .u16 0, .bool false, .slice none 0 0] 40)).drew) → ∃ v' w', (Builtin.append_ #[25, 25] 25 #[.slice a5 (8 + n) c5, .slice ma m mc]).run Try.prog W = .ok v' w' ∧ (w'.ownsRow w4.heap.size 5 1 v' (8 + n + m) ((udpZ p q xs ++ ms).map (Value.int .u8)) ∧ Below w4.heap.size w4 w' ∧ (W ≠ w7.drew → w'.heap[w7.heap.size]? = some (.cells #[.int .u16 0, .int .u16 0, .bool false, .slice none 0 0] 40))) := by
    rintro W (rfl | rfl | rfl)
    · obtain ⟨v', w', h1, h2, h3, _⟩ := app_own2 w7.drew w4.heap.size _ (8 + n) _ HO5.out.drew ma ms m mc (show Row .u8 w7.drew ma ms from HM4.out) HML.out HMN.out (by omega) B44.out.size
      exact ⟨v', w', h1, h2, B44.out.drew.trans h3, fun e => absurd rfl e⟩
    · obtain ⟨v', w', h1, h2, h3, h4⟩ := app_own2 (w7.drew.alloc (.cells #[.int .u16 0, .int .u16 0, .bool false, .slice none 0 0] 40)) w4.heap.size _ (8 + n) _ (HO5.out.drew.alloc _) ma ms m mc (Row.below (show Row .u8 w7.drew ma ms from HM4.out) ((Below.refl _ _).alloc (Nat.le_refl _) _) (Nat.le_refl _)) HML.out HMN.out (by omega) (Nat.le_trans B44.out.size (by simp))
      exact ⟨v', w', h1, h2, (B44.out.drew.alloc B44.out.size _).trans h3, fun _ => h4 _ _ (heap_alloc_new w7.drew _) hne7⟩
    · obtain ⟨v', w', h1, h2, h3, h4⟩ := app_own2 (w7.alloc (.cells #[.int .u16 0, .int .u16 0, .bool false, .slice none 0 0] 40)).drew w4.heap.size _ (8 + n) _ (HO5.out.alloc _).drew ma ms m mc (show Row .u8 (w7.alloc (.cells #[.int .u16 0, .int .u16 0, .bool false, .slice none 0 0] 40)).drew ma ms from Row.below HM4.out (((Below.refl _ w7).alloc (Nat.le_refl _) _).drew) (Nat.le_refl _)) HML.out HMN.out (by omega) (Nat.le_trans B44.out.size (by simp))
      exact ⟨v', w', h1, h2, ((B44.out.alloc B44.out.size _).drew).trans h3, fun _ => h4 _ _ (heap_alloc_new w7 _) hne7⟩
  have HX := hide hxx
  clear hxx hne7
  have hX4 := lt_of_block HXXz.out
  have hX7 : X < w7.heap.size := Nat.lt_of_lt_of_le hX4 B44.out.size
  have xz0 : w4.cell? ⟨X, 0, none⟩ = some (.int .u32 x0) := cell2_0 HXXz.out
  have xz1 : w4.cell? ⟨X, 1, none⟩ = some (.int .u32 y0) := cell2_1 HXXz.out
  have x70 : w7.cell? ⟨X, 0, none⟩ = some (.int .u32 x0) := (bcell B44.out X 0 hX4).trans xz0
  have x71 : w7.cell? ⟨X, 1, none⟩ = some (.int .u32 y0) := (bcell B44.out X 1 hX4).trans xz1
  have hX7n : ¬ X = w7.heap.size := by omega
  have h47 := B44.out.size
  clear hrdg f0 f2 f4 f6 f8 hbm
  go_wp2_with fail
  go_cut [12, 13] (fun zz ff wx => ∃ Z ab cb, zz = .pointer (some ⟨Z, 0, none⟩) ∧ ff = .int .i64 0 ∧ Hid (wx.heap[Z]? = some (.cells #[.int .u16 (p : Int), .int .u16 (q : Int), .bool true, .slice ab n cb] 40 (0, 0))) ∧ Hid (Row .u8 wx ab xs) ∧ Hid (Below w4.heap.size w4 wx))
  case first =>
    go_region_held3 (fun w' => w'.cell? ⟨X, 0, none⟩ = some (.int .u32 x0) ∧ w'.cell? ⟨X, 1, none⟩ = some (.int .u32 y0)) (first | go_keep | (exact ⟨(four_ne (by assumption)).trans (by assumption), (four_ne (by assumption)).trans (by assumption)⟩)) (first
      | (go_at_call 17; (with_reducible refine (HRDG.out wa _ _ OA.out).mono ?_); rintro e wb ⟨ab, cb, rfl, ob, bb⟩; have BF : Below w4.heap.size w4 wb := BA.out.trans (bb.mono BA.out.size); have xb0 := (bcell BF X 0 hX4).trans xz0; have xb1 := (bcell BF X 1 hX4).trans xz1; have BB := hide BF; have OB := hide ob; have hXb : X < wb.heap.size := Nat.lt_of_lt_of_le hX4 BF.size; have hXbn : ¬ X = wb.heap.size := (by omega); (first | (have hzl := lt_of_block ZB.out; have ZB := hide (below_block bb ZB.out (Nat.le_refl _)); obtain ⟨z0, z1, z2, z3, zf⟩ := four_cells ZB.out) | skip); clear ob bb BF)
      | (go_at_call 17; (with_reducible refine (HRDG.out (wa.alloc (.cells #[.int .u16 0, .int .u16 0, .bool false, .slice none 0 0] 40)) _ _ (OA.out.alloc _)).mono ?_); rintro e wb ⟨ab, cb, rfl, ob, bb⟩; have BF : Below w4.heap.size w4 wb := BA.out.trans ((bel_lit bb).mono BA.out.size); have xb0 := (bcell BF X 0 hX4).trans xz0; have xb1 := (bcell BF X 1 hX4).trans xz1; have BB := hide BF; have OB := hide ob; have hXb : X < wb.heap.size := Nat.lt_of_lt_of_le hX4 BF.size; have hXbn : ¬ X = wb.heap.size := (by omega); have ZB := hide (litB bb); obtain ⟨z0, z1, z2, z3, zf⟩ := four_cells ZB.out; clear ob bb BF)
      | (refine step_append_ex rfl (.tmp 80) (.tmp 81) 25 25 rfl _ _ rfl rfl _ (HX.out _ (Or.inl ?_)) ?_; (with_reducible rfl); rintro v9 wa HP; obtain ⟨a9, c9, rfl⟩ := slice_form HP.1; have BF : Below w4.heap.size w4 wa := HP.2.1; have xa0 := (bcell BF X 0 hX4).trans xz0; have xa1 := (bcell BF X 1 hX4).trans xz1; have OA := hide HP.1; have BA := hide BF; have hXa : X < wa.heap.size := Nat.lt_of_lt_of_le hX4 BF.size; have hXan : ¬ X = wa.heap.size := (by omega); have h4a := BF.size; clear HP BF)
      | (refine step_append_ex rfl (.tmp 80) (.tmp 81) 25 25 rfl _ _ rfl rfl _ (HX.out _ (Or.inr (Or.inl ?_))) ?_; (with_reducible rfl); rintro v9 wa HP; obtain ⟨a9, c9, rfl⟩ := slice_form HP.1; have BF : Below w4.heap.size w4 wa := HP.2.1; have xa0 := (bcell BF X 0 hX4).trans xz0; have xa1 := (bcell BF X 1 hX4).trans xz1; have OA := hide HP.1; have BA := hide BF; have hXa : X < wa.heap.size := Nat.lt_of_lt_of_le hX4 BF.size; have hXan : ¬ X = wa.heap.size := (by omega); have h4a := BF.size; have hnw : (w7.drew.alloc (.cells #[.int .u16 0, .int .u16 0, .bool false, .slice none 0 0] 40)) ≠ w7.drew := (by intro e; have e2 := congrArg (fun x : World => x.heap.size) e; simp at e2); have ZB := hide (HP.2.2 hnw); clear HP BF)
      | (refine step_append_ex rfl (.tmp 80) (.tmp 81) 25 25 rfl _ _ rfl rfl _ (HX.out _ (Or.inr (Or.inr ?_))) ?_; (with_reducible rfl); rintro v9 wa HP; obtain ⟨a9, c9, rfl⟩ := slice_form HP.1; have BF : Below w4.heap.size w4 wa := HP.2.1; have xa0 := (bcell BF X 0 hX4).trans xz0; have xa1 := (bcell BF X 1 hX4).trans xz1; have OA := hide HP.1; have BA := hide BF; have hXa : X < wa.heap.size := Nat.lt_of_lt_of_le hX4 BF.size; have hXan : ¬ X = wa.heap.size := (by omega); have h4a := BF.size; have hnw : (w7.alloc (.cells #[.int .u16 0, .int .u16 0, .bool false, .slice none 0 0] 40)).drew ≠ w7.drew := (by intro e; have e2 := congrArg (fun x : World => x.heap.size) e; simp at e2); have ZB := hide (HP.2.2 hnw); clear HP BF)
      | fail)
    all_goals
      try go_wp2_with fail
      go_meet
      refine ⟨_, ab, cb, rfl, rfl, ?_, ?_, ?_⟩
      · first
          | (with_reducible exact hide (heap_alloc_new wb _))
          | exact hide (four_sets ZB.out)
      · first
          | (with_reducible exact hide (Row.of_owns (OB.out.alloc _)))
          | (with_reducible exact hide (Row.of_owns (owns_set (owns_set (owns_set (owns_set OB.out hzl) hzl) hzl) hzl)))
          | exact hide (Row.of_owns (owns_set (owns_set (owns_set (owns_set OB.out (by simp)) (by simp)) (by simp)) (by simp)))
      · first
          | (with_reducible exact hide (BB.out.alloc BB.out.size _))
          | (with_reducible exact hide ((((BB.out.setCell h47 _).setCell h47 _).setCell h47 _).setCell h47 _))
          | exact hide ((((BB.out.setCell h4a _).setCell h4a _).setCell h4a _).setCell h4a _)
  case rest =>
    obtain ⟨Z, ab, cb, rfl, rfl, HZ, HRab, BF⟩ := hcut
    have hAAf := below_block BF.out HAAz.out (Nat.le_refl _)
    obtain ⟨z0, z1, z2, z3, zf⟩ := four_cells HZ.out
    obtain ⟨a0, a1, a2, a3, af⟩ := four_cells hAAf
    have HS2 := hide (sameUdp_any wc p q true ab da xs n cb dc HRab.out (HR4z.out.below BF.out (Nat.le_refl _)) HL.out)
    have HBF := hide (HB4z.out.trans (BF.out.mono HB4z.out.size))
    clear zf af hAAf xz0 xz1 x70 x71
    go_wp2_with fail
    refine HS2.out.mono ?_
    rintro e wz ⟨rfl, bz⟩
    have HBZ := hide (HBF.out.trans (bz.mono HBF.out.size))
    clear bz z0 z1 z2 z3 a0 a1 a2 a3
    go_wp2
    go_ret
    exact ⟨rfl, HBZ.out⟩

set_option maxHeartbeats 1600000 in
theorem td_over_sum (w : World) (x0 y0 p q : Nat) (da : Option Addr) (xs : List Int) (n dc : Nat) (ma : Option Addr) (ms : List Int) (m mc : Nat) (hr : Row .u8 w da xs) (hn : da = none → dc = 0) (hl : xs.length = n) (hb : ∀ x ∈ xs, 0 ≤ x ∧ x ≤ 255) (hmr : Row .u8 w ma ms) (hmn : ma = none → mc = 0) (hml : ms.length = m) (hmb : ∀ x ∈ ms, 0 ≤ x ∧ x ≤ 255) (hx : x0 ≤ 4294967295) (hy : y0 ≤ 4294967295) (hp : p ≤ 65535) (hq : q ≤ 65535) (h4 : n ≤ 1472) (h6 : m ≤ 9) (h7 : 1480 < 8 + n + m) :
    Calls Try.prog 4 #[.agg #[.int .u32 (x0 : Int), .int .u32 (y0 : Int)], .agg #[.int .u16 (p : Int), .int .u16 (q : Int), .bool false, .slice da n dc], .slice ma m mc] w fun e w' => e = .returned (.bool true) ∧ Below w.heap.size w w' := by
  have HR := hide hr
  have HN := hide hn
  have HL := hide hl
  have HB := hide hb
  have HMR := hide hmr
  have HMN := hide hmn
  have HML := hide hml
  have HMB := hide hmb
  clear hr hn hl hb hmr hmn hml hmb
  go_enter Try.func4, Try.ntmps4
  go_wp2_with fail
  have bb1 := (Below.refl w.heap.size w).alloc (Nat.le_refl _) (.cells #[.int .u32 (x0 : Int), .int .u32 (y0 : Int)] 38)
  have bb2 := bb1.alloc bb1.size (.cells #[.int .u16 (p : Int), .int .u16 (q : Int), .bool false, .slice da n dc] 40)
  obtain ⟨X, A, w0, hX, hA, hqq, hxh, hheap, hbel⟩ : ∃ X A wq, w.heap.size = X ∧ w.heap.size + 1 = A ∧ (w.alloc (.cells #[.int .u32 (x0 : Int), .int .u32 (y0 : Int)] 38)).alloc (.cells #[.int .u16 (p : Int), .int .u16 (q : Int), .bool false, .slice da n dc] 40) = wq ∧ wq.heap[X]? = some (.cells #[.int .u32 (x0 : Int), .int .u32 (y0 : Int)] 38 (0, 0)) ∧ wq.heap[A]? = some (.cells #[.int .u16 (p : Int), .int .u16 (q : Int), .bool false, .slice da n dc] 40 (0, 0)) ∧ Below w.heap.size w wq := by
    refine ⟨_, _, _, rfl, rfl, rfl, ?_, ?_, bb2⟩
    · rw [Below.heap_alloc _ _ _ (by simp)]; exact heap_alloc_new w _
    · have h := heap_alloc_new (w.alloc (.cells #[.int .u32 (x0 : Int), .int .u32 (y0 : Int)] 38)) (.cells #[.int .u16 (p : Int), .int .u16 (q : Int), .bool false, .slice da n dc] 40); simpa using h
  rw [hqq, hA, hX]
  have hXw := hide (And.intro hX hA)
  have HR0 := hide (HR.out.below hbel (Nat.le_refl _))
  have HM0 := hide (HMR.out.below hbel (Nat.le_refl _))
  have HX0 := hide hxh
  have HH0 := hide hheap
  have HB0 := hide hbel
  clear hqq hA hX hbel hheap hxh bb1 bb2
  refine (speaks5_any w0).mono ?_
  rintro e w1 ⟨rfl, b1⟩
  have HX1 := hide (below_block b1 HX0.out (Nat.le_refl _))
  have HH1 := hide (below_block b1 HH0.out (Nat.le_refl _))
  have HR1 := hide (HR0.out.below b1 (Nat.le_refl _))
  have HM1 := hide (HM0.out.below b1 (Nat.le_refl _))
  have HB1 := hide (HB0.out.trans (b1.mono HB0.out.size))
  clear b1 HH0 HX0 HR0 HM0 HB0
  obtain ⟨a0, a1, a2, a3, af⟩ := four_cells HH1.out
  have hlA := lt_of_block HH1.out
  have hlX := lt_of_block HX1.out
  have x0c := cell2_0 HX1.out
  have x1c := cell2_1 HX1.out
  clear af
  have hd1 : decide ((3000 : Int) < (n : Int)) = false := by simp; omega
  have hd2 : decide ((9 : Int) < (m : Int)) = false := by simp; omega
  have hV0 : Below w1.heap.size w1 (w1.alloc (.cells #[.int .u16 (p : Int), .int .u16 (q : Int), .bool false, .slice da n dc] 40)) := (Below.refl _ _).alloc (Nat.le_refl _) _
  obtain ⟨v3, w3, hrun3, o3, b3⟩ := app_own ((w1.alloc (.cells #[.int .u16 (p : Int), .int .u16 (q : Int), .bool false, .slice da n dc] 40)).alloc (.cells #[] 5)) (w1.alloc (.cells #[.int .u16 (p : Int), .int .u16 (q : Int), .bool false, .slice da n dc] 40)).heap.size (.slice (some ⟨(w1.alloc (.cells #[.int .u16 (p : Int), .int .u16 (q : Int), .bool false, .slice da n dc] 40)).heap.size, 0, none⟩) 0 0) 0 [] (owns_nil (w := w1.alloc (.cells #[.int .u16 (p : Int), .int .u16 (q : Int), .bool false, .slice da n dc] 40)) (base := 0) rfl) da xs n dc
    (HR1.out.below (hV0.alloc hV0.size _) (Nat.le_refl _)) HL.out HN.out (by omega) (by simp)
  obtain ⟨ca, cc, rfl⟩ := slice_form o3
  rw [Nat.zero_add, List.nil_append] at o3
  have hvb : Below w1.heap.size w1 w3 := (hV0.alloc hV0.size _).trans (b3.mono hV0.size)
  have hC3 : w3.heap[w1.heap.size]? = some (.cells #[.int .u16 (p : Int), .int .u16 (q : Int), .bool false, .slice da n dc] 40 (0, 0)) := by
    have h0 := heap_alloc_new w1 (.cells #[.int .u16 (p : Int), .int .u16 (q : Int), .bool false, .slice da n dc] 40)
    have h1 := (b3.block w1.heap.size (by simp)).trans ((Below.heap_alloc _ _ _ (by simp)).trans h0)
    exact h1
  rw [show (w1.alloc (.cells #[.int .u16 (p : Int), .int .u16 (q : Int), .bool false, .slice da n dc] 40)).heap.size = w1.heap.size + 1 by simp] at hrun3 o3 b3
  simp only [Nat.zero_add] at hrun3
  have HRUN3 := hide hrun3
  obtain ⟨m0, m1, m2, m3, mf⟩ := four_cells hC3
  have hCf := mf 3
  obtain ⟨w4, hw4, hC4, hA4, hX4, o4, HB4, HR4, HM4⟩ : ∃ w4, w3.setCell ⟨w1.heap.size, 3, none⟩ (.slice ca n cc) = w4 ∧ w4.heap[w1.heap.size]? = some (.cells #[.int .u16 (p : Int), .int .u16 (q : Int), .bool false, .slice ca n cc] 40 (0, 0)) ∧ w4.heap[A]? = some (.cells #[.int .u16 (p : Int), .int .u16 (q : Int), .bool false, .slice da n dc] 40 (0, 0)) ∧ w4.heap[X]? = some (.cells #[.int .u32 (x0 : Int), .int .u32 (y0 : Int)] 38 (0, 0)) ∧ Hid (w4.ownsRow (w1.heap.size + 1) 5 1 (.slice ca n cc) n (xs.map (Value.int .u8))) ∧ Hid (Below w.heap.size w w4) ∧ Hid (Row .u8 w4 da xs) ∧ Hid (Row .u8 w4 ma ms) := by
    have hdr : ∀ (a : Option Addr) (zs : List Int), Row .u8 w1 a zs → Row .u8 w3 a zs → Row .u8 (w3.setCell ⟨w1.heap.size, 3, none⟩ (.slice ca n cc)) a zs := by
      intro a zs h1 h3 hz
      obtain ⟨b', off, e', hlt, _⟩ := h1 hz
      exact row_set h3 (fun b e => by rw [e] at e'; cases e'; simp; omega) hz
    refine ⟨_, rfl, four_set hC3, (Below.heap_setCell _ _ _ _ (by simp; omega)).trans (below_block hvb HH1.out (by omega)), (Below.heap_setCell _ _ _ _ (by simp; omega)).trans (below_block hvb HX1.out (by omega)), hide (owns_set o3 (by omega)), hide ((HB1.out.trans (hvb.mono (by have := HB1.out.size; omega))).setCell (by have := HB1.out.size; simp; omega) _), hide (hdr _ _ HR1.out (HR1.out.below hvb (by omega))), hide (hdr _ _ HM1.out (HM1.out.below hvb (by omega)))⟩
  clear o3 b3 hvb hC3 hV0 hrun3 mf
  have HW4 := hide hw4
  have HCC := hide hC4
  have HAA := hide hA4
  have HXX := hide hX4
  have hcx0 : w4.cell? ⟨X, 0, none⟩ = some (.int .u32 x0) := cell2_0 hX4
  have hcx1 : w4.cell? ⟨X, 1, none⟩ = some (.int .u32 y0) := cell2_1 hX4
  have hwx0 : w3.cell? ⟨X, 0, none⟩ = some (.int .u32 x0) := by rw [← hw4] at hcx0; rw [cell_set_ne _ _ _ _ (by simp; omega)] at hcx0; exact hcx0
  have hwx1 : w3.cell? ⟨X, 1, none⟩ = some (.int .u32 y0) := by rw [← hw4] at hcx1; rw [cell_set_ne _ _ _ _ (by simp; omega)] at hcx1; exact hcx1
  have hXne : X ≠ w1.heap.size := by omega
  clear hw4 hC4 hA4 hX4
  go_wp2_with (at_builtin; refine Lib.wpList_append_run _ rfl _ _ _ _ rfl _ _ rfl rfl _ _ HRUN3.out ?_)
  rw [HW4.out]
  clear m0 m1 m2 m3 hCf a0 a1 a2 a3 hwx0 hwx1 x0c x1c hcx0 hcx1
  have hnn := hide (none_cap o4.out)
  have HRC := hide (Row.of_owns o4.out)
  have B44 := hide (Below.refl w4.heap.size w4)
  have HXXz := hide HXX.out
  have HAAz := hide HAA.out
  have HR4z := hide HR4.out
  have HB4z := hide HB4.out
  refine (wudp_sum w4 x0 y0 p q ca xs n cc HRC.out hnn.out HL.out HB.out h4 hx hy hp hq).mono ?_
  rintro e w5 ⟨a5, c5, rfl, o5, b5⟩
  have HO5 := hide o5
  have HAA := hide (below_block b5 HAA.out (Nat.le_refl _))
  have HCC := hide (below_block b5 HCC.out (Nat.le_refl _))
  have HXX := hide (below_block b5 HXX.out (Nat.le_refl _))
  have HRC := hide (HRC.out.below b5 (Nat.le_refl _))
  have HR4 := hide (HR4.out.below b5 (Nat.le_refl _))
  have HM4 := hide (HM4.out.below b5 (Nat.le_refl _))
  have HB4 := hide (HB4.out.trans (b5.mono HB4.out.size))
  have B44 := hide (B44.out.trans (b5.mono B44.out.size))
  clear b5 o5
  obtain ⟨m0, m1, m2, m3, mf⟩ := four_cells HCC.out
  obtain ⟨a0, a1, a2, a3, af⟩ := four_cells HAA.out
  have x0c := cell2_0 HXX.out
  have x1c := cell2_1 HXX.out
  clear mf af
  go_wp2_with fail
  refine (rwudp_sum w5 x0 y0 p q da xs n dc HR4.out HN.out HL.out HB.out h4 hx hy hp hq).mono ?_
  rintro e w6 ⟨a6, c6, rfl, o6, b6⟩
  have HO5 := hide (owns_below HO5.out b6 (Nat.le_refl _))
  clear m0 m1 m2 m3 a0 a1 a2 a3 x0c x1c
  have HAA := hide (below_block b6 HAA.out (Nat.le_refl _))
  have HCC := hide (below_block b6 HCC.out (Nat.le_refl _))
  have HXX := hide (below_block b6 HXX.out (Nat.le_refl _))
  have HRC := hide (HRC.out.below b6 (Nat.le_refl _))
  have HR4 := hide (HR4.out.below b6 (Nat.le_refl _))
  have HM4 := hide (HM4.out.below b6 (Nat.le_refl _))
  have HB4 := hide (HB4.out.trans (b6.mono HB4.out.size))
  have B44 := hide (B44.out.trans (b6.mono B44.out.size))
  clear b6
  have hyl : (udpS x0 y0 p q xs).length = 8 + n := by rw [udpS_G x0 y0 p q xs, udpG_len, HL.out]
  have hcv1 := conv_any a5 (udpS x0 y0 p q xs) c5 w6 (Row.of_owns HO5.out)
  have hcv2 := conv_any a6 (udpS x0 y0 p q xs) c6 w6 (Row.of_owns o6)
  rw [hyl] at hcv1 hcv2
  have HYG := hide (udpS_G x0 y0 p q xs)
  have HYL := hide hyl
  have hzz : ∃ zs, strOfNums (udpS x0 y0 p q xs) = zs := ⟨_, rfl⟩
  obtain ⟨zs, hzs⟩ := hzz
  rw [hzs] at hcv1 hcv2
  clear o6 hyl hzs
  obtain ⟨m0, m1, m2, m3, mf⟩ := four_cells HCC.out
  obtain ⟨a0, a1, a2, a3, af⟩ := four_cells HAA.out
  have x0c := cell2_0 HXX.out
  have x1c := cell2_1 HXX.out
  clear mf af
  have HS := hide (sameUdp_any w6 p q false ca da xs n cc dc HRC.out HR4.out HL.out)
  go_wp2_with fail
  refine HS.out.mono ?_
  rintro e w7 ⟨rfl, b7⟩
  have HO5 := hide (owns_below HO5.out b7 (Nat.le_refl _))
  clear m0 m1 m2 m3 a0 a1 a2 a3 x0c x1c hcv1 hcv2
  have HAA := hide (below_block b7 HAA.out (Nat.le_refl _))
  have HCC := hide (below_block b7 HCC.out (Nat.le_refl _))
  have HXX := hide (below_block b7 HXX.out (Nat.le_refl _))
  have HRC := hide (HRC.out.below b7 (Nat.le_refl _))
  have HR4 := hide (HR4.out.below b7 (Nat.le_refl _))
  have HM4 := hide (HM4.out.below b7 (Nat.le_refl _))
  have HB4 := hide (HB4.out.trans (b7.mono HB4.out.size))
  have B44 := hide (B44.out.trans (b7.mono B44.out.size))
  clear b7
  have hd3 : decide ((1480 : Int) < 8 + (n : Int) + (m : Int)) = true := by simp; omega
  go_wp2
  go_ret
  exact ⟨rfl, HB4.out⟩

set_option maxHeartbeats 1600000 in
theorem td_ok_sum (w : World) (x0 y0 p q : Nat) (da : Option Addr) (xs : List Int) (n dc : Nat) (ma : Option Addr) (ms : List Int) (m mc : Nat) (hr : Row .u8 w da xs) (hn : da = none → dc = 0) (hl : xs.length = n) (hb : ∀ x ∈ xs, 0 ≤ x ∧ x ≤ 255) (hmr : Row .u8 w ma ms) (hmn : ma = none → mc = 0) (hml : ms.length = m) (hmb : ∀ x ∈ ms, 0 ≤ x ∧ x ≤ 255) (hx : x0 ≤ 4294967295) (hy : y0 ≤ 4294967295) (hp : p ≤ 65535) (hq : q ≤ 65535) (h4 : n ≤ 1472) (h6 : m ≤ 9) (h7 : 8 + n + m ≤ 1480) :
    Calls Try.prog 4 #[.agg #[.int .u32 (x0 : Int), .int .u32 (y0 : Int)], .agg #[.int .u16 (p : Int), .int .u16 (q : Int), .bool false, .slice da n dc], .slice ma m mc] w fun e w' => e = .returned (.bool true) ∧ Below w.heap.size w w' := by
  have HR := hide hr
  have HN := hide hn
  have HL := hide hl
  have HB := hide hb
  have HMR := hide hmr
  have HMN := hide hmn
  have HML := hide hml
  have HMB := hide hmb
  clear hr hn hl hb hmr hmn hml hmb
  go_enter Try.func4, Try.ntmps4
  go_wp2_with fail
  have bb1 := (Below.refl w.heap.size w).alloc (Nat.le_refl _) (.cells #[.int .u32 (x0 : Int), .int .u32 (y0 : Int)] 38)
  have bb2 := bb1.alloc bb1.size (.cells #[.int .u16 (p : Int), .int .u16 (q : Int), .bool false, .slice da n dc] 40)
  obtain ⟨X, A, w0, hX, hA, hqq, hxh, hheap, hbel⟩ : ∃ X A wq, w.heap.size = X ∧ w.heap.size + 1 = A ∧ (w.alloc (.cells #[.int .u32 (x0 : Int), .int .u32 (y0 : Int)] 38)).alloc (.cells #[.int .u16 (p : Int), .int .u16 (q : Int), .bool false, .slice da n dc] 40) = wq ∧ wq.heap[X]? = some (.cells #[.int .u32 (x0 : Int), .int .u32 (y0 : Int)] 38 (0, 0)) ∧ wq.heap[A]? = some (.cells #[.int .u16 (p : Int), .int .u16 (q : Int), .bool false, .slice da n dc] 40 (0, 0)) ∧ Below w.heap.size w wq := by
    refine ⟨_, _, _, rfl, rfl, rfl, ?_, ?_, bb2⟩
    · rw [Below.heap_alloc _ _ _ (by simp)]; exact heap_alloc_new w _
    · have h := heap_alloc_new (w.alloc (.cells #[.int .u32 (x0 : Int), .int .u32 (y0 : Int)] 38)) (.cells #[.int .u16 (p : Int), .int .u16 (q : Int), .bool false, .slice da n dc] 40); simpa using h
  rw [hqq, hA, hX]
  have hXw := hide (And.intro hX hA)
  have HR0 := hide (HR.out.below hbel (Nat.le_refl _))
  have HM0 := hide (HMR.out.below hbel (Nat.le_refl _))
  have HX0 := hide hxh
  have HH0 := hide hheap
  have HB0 := hide hbel
  clear hqq hA hX hbel hheap hxh bb1 bb2
  refine (speaks5_any w0).mono ?_
  rintro e w1 ⟨rfl, b1⟩
  have HX1 := hide (below_block b1 HX0.out (Nat.le_refl _))
  have HH1 := hide (below_block b1 HH0.out (Nat.le_refl _))
  have HR1 := hide (HR0.out.below b1 (Nat.le_refl _))
  have HM1 := hide (HM0.out.below b1 (Nat.le_refl _))
  have HB1 := hide (HB0.out.trans (b1.mono HB0.out.size))
  clear b1 HH0 HX0 HR0 HM0 HB0
  obtain ⟨a0, a1, a2, a3, af⟩ := four_cells HH1.out
  have hlA := lt_of_block HH1.out
  have hlX := lt_of_block HX1.out
  have x0c := cell2_0 HX1.out
  have x1c := cell2_1 HX1.out
  clear af
  have hd1 : decide ((3000 : Int) < (n : Int)) = false := by simp; omega
  have hd2 : decide ((9 : Int) < (m : Int)) = false := by simp; omega
  have hV0 : Below w1.heap.size w1 (w1.alloc (.cells #[.int .u16 (p : Int), .int .u16 (q : Int), .bool false, .slice da n dc] 40)) := (Below.refl _ _).alloc (Nat.le_refl _) _
  obtain ⟨v3, w3, hrun3, o3, b3⟩ := app_own ((w1.alloc (.cells #[.int .u16 (p : Int), .int .u16 (q : Int), .bool false, .slice da n dc] 40)).alloc (.cells #[] 5)) (w1.alloc (.cells #[.int .u16 (p : Int), .int .u16 (q : Int), .bool false, .slice da n dc] 40)).heap.size (.slice (some ⟨(w1.alloc (.cells #[.int .u16 (p : Int), .int .u16 (q : Int), .bool false, .slice da n dc] 40)).heap.size, 0, none⟩) 0 0) 0 [] (owns_nil (w := w1.alloc (.cells #[.int .u16 (p : Int), .int .u16 (q : Int), .bool false, .slice da n dc] 40)) (base := 0) rfl) da xs n dc
    (HR1.out.below (hV0.alloc hV0.size _) (Nat.le_refl _)) HL.out HN.out (by omega) (by simp)
  obtain ⟨ca, cc, rfl⟩ := slice_form o3
  rw [Nat.zero_add, List.nil_append] at o3
  have hvb : Below w1.heap.size w1 w3 := (hV0.alloc hV0.size _).trans (b3.mono hV0.size)
  have hC3 : w3.heap[w1.heap.size]? = some (.cells #[.int .u16 (p : Int), .int .u16 (q : Int), .bool false, .slice da n dc] 40 (0, 0)) := by
    have h0 := heap_alloc_new w1 (.cells #[.int .u16 (p : Int), .int .u16 (q : Int), .bool false, .slice da n dc] 40)
    have h1 := (b3.block w1.heap.size (by simp)).trans ((Below.heap_alloc _ _ _ (by simp)).trans h0)
    exact h1
  rw [show (w1.alloc (.cells #[.int .u16 (p : Int), .int .u16 (q : Int), .bool false, .slice da n dc] 40)).heap.size = w1.heap.size + 1 by simp] at hrun3 o3 b3
  simp only [Nat.zero_add] at hrun3
  have HRUN3 := hide hrun3
  obtain ⟨m0, m1, m2, m3, mf⟩ := four_cells hC3
  have hCf := mf 3
  obtain ⟨w4, hw4, hC4, hA4, hX4, o4, HB4, HR4, HM4⟩ : ∃ w4, w3.setCell ⟨w1.heap.size, 3, none⟩ (.slice ca n cc) = w4 ∧ w4.heap[w1.heap.size]? = some (.cells #[.int .u16 (p : Int), .int .u16 (q : Int), .bool false, .slice ca n cc] 40 (0, 0)) ∧ w4.heap[A]? = some (.cells #[.int .u16 (p : Int), .int .u16 (q : Int), .bool false, .slice da n dc] 40 (0, 0)) ∧ w4.heap[X]? = some (.cells #[.int .u32 (x0 : Int), .int .u32 (y0 : Int)] 38 (0, 0)) ∧ Hid (w4.ownsRow (w1.heap.size + 1) 5 1 (.slice ca n cc) n (xs.map (Value.int .u8))) ∧ Hid (Below w.heap.size w w4) ∧ Hid (Row .u8 w4 da xs) ∧ Hid (Row .u8 w4 ma ms) := by
    have hdr : ∀ (a : Option Addr) (zs : List Int), Row .u8 w1 a zs → Row .u8 w3 a zs → Row .u8 (w3.setCell ⟨w1.heap.size, 3, none⟩ (.slice ca n cc)) a zs := by
      intro a zs h1 h3 hz
      obtain ⟨b', off, e', hlt, _⟩ := h1 hz
      exact row_set h3 (fun b e => by rw [e] at e'; cases e'; simp; omega) hz
    refine ⟨_, rfl, four_set hC3, (Below.heap_setCell _ _ _ _ (by simp; omega)).trans (below_block hvb HH1.out (by omega)), (Below.heap_setCell _ _ _ _ (by simp; omega)).trans (below_block hvb HX1.out (by omega)), hide (owns_set o3 (by omega)), hide ((HB1.out.trans (hvb.mono (by have := HB1.out.size; omega))).setCell (by have := HB1.out.size; simp; omega) _), hide (hdr _ _ HR1.out (HR1.out.below hvb (by omega))), hide (hdr _ _ HM1.out (HM1.out.below hvb (by omega)))⟩
  clear o3 b3 hvb hC3 hV0 hrun3 mf
  have HW4 := hide hw4
  have HCC := hide hC4
  have HAA := hide hA4
  have HXX := hide hX4
  have hcx0 : w4.cell? ⟨X, 0, none⟩ = some (.int .u32 x0) := cell2_0 hX4
  have hcx1 : w4.cell? ⟨X, 1, none⟩ = some (.int .u32 y0) := cell2_1 hX4
  have hwx0 : w3.cell? ⟨X, 0, none⟩ = some (.int .u32 x0) := by rw [← hw4] at hcx0; rw [cell_set_ne _ _ _ _ (by simp; omega)] at hcx0; exact hcx0
  have hwx1 : w3.cell? ⟨X, 1, none⟩ = some (.int .u32 y0) := by rw [← hw4] at hcx1; rw [cell_set_ne _ _ _ _ (by simp; omega)] at hcx1; exact hcx1
  have hXne : X ≠ w1.heap.size := by omega
  clear hw4 hC4 hA4 hX4
  go_wp2_with (at_builtin; refine Lib.wpList_append_run _ rfl _ _ _ _ rfl _ _ rfl rfl _ _ HRUN3.out ?_)
  rw [HW4.out]
  clear m0 m1 m2 m3 hCf a0 a1 a2 a3 hwx0 hwx1 x0c x1c hcx0 hcx1
  have hnn := hide (none_cap o4.out)
  have HRC := hide (Row.of_owns o4.out)
  have B44 := hide (Below.refl w4.heap.size w4)
  have HXXz := hide HXX.out
  have HAAz := hide HAA.out
  have HR4z := hide HR4.out
  have HB4z := hide HB4.out
  refine (wudp_sum w4 x0 y0 p q ca xs n cc HRC.out hnn.out HL.out HB.out h4 hx hy hp hq).mono ?_
  rintro e w5 ⟨a5, c5, rfl, o5, b5⟩
  have HO5 := hide o5
  have HAA := hide (below_block b5 HAA.out (Nat.le_refl _))
  have HCC := hide (below_block b5 HCC.out (Nat.le_refl _))
  have HXX := hide (below_block b5 HXX.out (Nat.le_refl _))
  have HRC := hide (HRC.out.below b5 (Nat.le_refl _))
  have HR4 := hide (HR4.out.below b5 (Nat.le_refl _))
  have HM4 := hide (HM4.out.below b5 (Nat.le_refl _))
  have HB4 := hide (HB4.out.trans (b5.mono HB4.out.size))
  have B44 := hide (B44.out.trans (b5.mono B44.out.size))
  clear b5 o5
  obtain ⟨m0, m1, m2, m3, mf⟩ := four_cells HCC.out
  obtain ⟨a0, a1, a2, a3, af⟩ := four_cells HAA.out
  have x0c := cell2_0 HXX.out
  have x1c := cell2_1 HXX.out
  clear mf af
  go_wp2_with fail
  refine (rwudp_sum w5 x0 y0 p q da xs n dc HR4.out HN.out HL.out HB.out h4 hx hy hp hq).mono ?_
  rintro e w6 ⟨a6, c6, rfl, o6, b6⟩
  have HO5 := hide (owns_below HO5.out b6 (Nat.le_refl _))
  clear m0 m1 m2 m3 a0 a1 a2 a3 x0c x1c
  have HAA := hide (below_block b6 HAA.out (Nat.le_refl _))
  have HCC := hide (below_block b6 HCC.out (Nat.le_refl _))
  have HXX := hide (below_block b6 HXX.out (Nat.le_refl _))
  have HRC := hide (HRC.out.below b6 (Nat.le_refl _))
  have HR4 := hide (HR4.out.below b6 (Nat.le_refl _))
  have HM4 := hide (HM4.out.below b6 (Nat.le_refl _))
  have HB4 := hide (HB4.out.trans (b6.mono HB4.out.size))
  have B44 := hide (B44.out.trans (b6.mono B44.out.size))
  clear b6
  have hyl : (udpS x0 y0 p q xs).length = 8 + n := by rw [udpS_G x0 y0 p q xs, udpG_len, HL.out]
  have hcv1 := conv_any a5 (udpS x0 y0 p q xs) c5 w6 (Row.of_owns HO5.out)
  have hcv2 := conv_any a6 (udpS x0 y0 p q xs) c6 w6 (Row.of_owns o6)
  rw [hyl] at hcv1 hcv2
  have HYG := hide (udpS_G x0 y0 p q xs)
  have HYL := hide hyl
  have hzz : ∃ zs, strOfNums (udpS x0 y0 p q xs) = zs := ⟨_, rfl⟩
  obtain ⟨zs, hzs⟩ := hzz
  rw [hzs] at hcv1 hcv2
  clear o6 hyl hzs
  obtain ⟨m0, m1, m2, m3, mf⟩ := four_cells HCC.out
  obtain ⟨a0, a1, a2, a3, af⟩ := four_cells HAA.out
  have x0c := cell2_0 HXX.out
  have x1c := cell2_1 HXX.out
  clear mf af
  have HS := hide (sameUdp_any w6 p q false ca da xs n cc dc HRC.out HR4.out HL.out)
  go_wp2_with fail
  refine HS.out.mono ?_
  rintro e w7 ⟨rfl, b7⟩
  have HO5 := hide (owns_below HO5.out b7 (Nat.le_refl _))
  clear m0 m1 m2 m3 a0 a1 a2 a3 x0c x1c hcv1 hcv2
  have HAA := hide (below_block b7 HAA.out (Nat.le_refl _))
  have HCC := hide (below_block b7 HCC.out (Nat.le_refl _))
  have HXX := hide (below_block b7 HXX.out (Nat.le_refl _))
  have HRC := hide (HRC.out.below b7 (Nat.le_refl _))
  have HR4 := hide (HR4.out.below b7 (Nat.le_refl _))
  have HM4 := hide (HM4.out.below b7 (Nat.le_refl _))
  have HB4 := hide (HB4.out.trans (b7.mono HB4.out.size))
  have B44 := hide (B44.out.trans (b7.mono B44.out.size))
  clear b7
  have hd3 : decide ((1480 : Int) < 8 + (n : Int) + (m : Int)) = false := by simp; omega
  have hkr := udpK_rng x0 y0 p q xs
  have hkp := udpK_pos x0 y0 p q xs
  have hk0 : (udpK x0 y0 p q xs).toNat ≠ 0 := by omega
  have hk5 : (udpK x0 y0 p q xs).toNat ≤ 65535 := by omega
  have hcs : (csum (psB x0 y0 17 (8 + n) ++ (udpS x0 y0 p q xs ++ ms).take (8 + n)) == 0) = true := by
    rw [List.take_append_of_le_length (by rw [HYL.out]; omega), List.take_of_length_le (by rw [HYL.out]; omega)]
    have hiff := udpK_iff x0 y0 x0 y0 p q xs hx hy hx hy hp hq HB.out (by rw [HL.out]; omega)
    rw [HL.out] at hiff
    exact beq_iff_eq.2 (hiff.2 rfl)
  have hbm : ∀ x ∈ udpS x0 y0 p q xs ++ ms, 0 ≤ x ∧ x ≤ 255 := by
    intro x hx
    rcases List.mem_append.1 hx with h | h
    · rw [HYG.out] at h; exact udpG_rng _ _ _ _ HB.out x h
    · exact HMB.out x h
  have f0 : fld (udpS x0 y0 p q xs ++ ms) 0 2 = p := by rw [fld_app _ _ _ _ (by rw [HYL.out]; omega), HYG.out]; exact udpG_0 p q xs _ hp
  have f2 : fld (udpS x0 y0 p q xs ++ ms) 2 2 = q := by rw [fld_app _ _ _ _ (by rw [HYL.out]; omega), HYG.out]; exact udpG_2 p q xs _ hq
  have f4 : fld (udpS x0 y0 p q xs ++ ms) 4 2 = 8 + n := by rw [fld_app _ _ _ _ (by rw [HYL.out]; omega), HYG.out, udpG_4 p q xs _ (by rw [HL.out]; omega), HL.out]
  have f6 : fld (udpS x0 y0 p q xs ++ ms) 6 2 = (udpK x0 y0 p q xs).toNat := by rw [fld_app _ _ _ _ (by rw [HYL.out]; omega), HYG.out]; exact udpG_6 p q xs _ (by omega)
  have f8 : (((udpS x0 y0 p q xs ++ ms).drop 8).take n) = xs := by
    rw [List.drop_append_of_le_length (by rw [HYL.out]; omega), HYG.out, udpG_8, List.take_append_of_le_length (by rw [HL.out]; omega), List.take_of_length_le (by rw [HL.out]; omega)]
  have hrdg : ∀ (wa : World) (a9 : Option Addr) (c9 : Nat), wa.ownsRow w4.heap.size 5 1 (.slice a9 (8 + n + m) c9) (8 + n + m) ((udpS x0 y0 p q xs ++ ms).map (Value.int .u8)) → Calls Try.prog 17 #[.int .u32 x0, .int .u32 y0, .slice a9 (8 + n + m) c9] wa fun e w' => ∃ a' c, e = .returned (.tuple #[.agg #[.int .u16 (p : Int), .int .u16 (q : Int), .bool false, (.slice a' n c)], .int .i64 0]) ∧ w'.ownsRow wa.heap.size 5 1 (.slice a' n c) n (xs.map (Value.int .u8)) ∧ Below wa.heap.size wa w' := fun wa a9 c9 O9h => by
    have O9 := hide O9h
    have h := rudp_ok wa x0 y0 a9 (udpS x0 y0 p q xs ++ ms) (8 + n + m) c9 p q (8 + n) (udpK x0 y0 p q xs).toNat (Row.of_owns O9.out) (by rw [List.length_append, HYL.out, HML.out]) (own_cap O9.out (by omega)).1 (own_cap O9.out (by omega)).2 hbm (by omega) (by omega) (hide f0) (hide f2) (hide f4) (hide f6) (by omega) (by omega) hk0 hx hy (hide hcs)
    rw [show 8 + n - 8 = n by omega, f8] at h
    exact h
  have HRDG := hide hrdg
  have hne7 : (Value.slice a5 (8 + n) c5).ownBlock ≠ some w7.heap.size := own_ne HO5.out (Nat.le_refl _)
  have hxx : ∀ W : World, (W = w7.drew ∨ W = w7.drew.alloc (.cells #[.int .u16 0, .int .u16 0, .bool false, .slice none 0 0] 40) ∨ W = (w7.alloc (.cells #[.int .u16 0, .int .u16 0, .bool false, .slice none 0 0] 40)).drew) → ∃ v' w', (Builtin.append_ #[25, 25] 25 #[.slice a5 (8 + n) c5, .slice ma m mc]).run Try.prog W = .ok v' w' ∧ (w'.ownsRow w4.heap.size 5 1 v' (8 + n + m) ((udpS x0 y0 p q xs ++ ms).map (Value.int .u8)) ∧ Below w4.heap.size w4 w' ∧ (W ≠ w7.drew → w'.heap[w7.heap.size]? = some (.cells #[.int .u16 0, .int .u16 0, .bool false, .slice none 0 0] 40))) := by
    rintro W (rfl | rfl | rfl)
    · obtain ⟨v', w', h1, h2, h3, _⟩ := app_own2 w7.drew w4.heap.size _ (8 + n) _ HO5.out.drew ma ms m mc (show Row .u8 w7.drew ma ms from HM4.out) HML.out HMN.out (by omega) B44.out.size
      exact ⟨v', w', h1, h2, B44.out.drew.trans h3, fun e => absurd rfl e⟩
    · obtain ⟨v', w', h1, h2, h3, h4⟩ := app_own2 (w7.drew.alloc (.cells #[.int .u16 0, .int .u16 0, .bool false, .slice none 0 0] 40)) w4.heap.size _ (8 + n) _ (HO5.out.drew.alloc _) ma ms m mc (Row.below (show Row .u8 w7.drew ma ms from HM4.out) ((Below.refl _ _).alloc (Nat.le_refl _) _) (Nat.le_refl _)) HML.out HMN.out (by omega) (Nat.le_trans B44.out.size (by simp))
      exact ⟨v', w', h1, h2, (B44.out.drew.alloc B44.out.size _).trans h3, fun _ => h4 _ _ (heap_alloc_new w7.drew _) hne7⟩
    · obtain ⟨v', w', h1, h2, h3, h4⟩ := app_own2 (w7.alloc (.cells #[.int .u16 0, .int .u16 0, .bool false, .slice none 0 0] 40)).drew w4.heap.size _ (8 + n) _ (HO5.out.alloc _).drew ma ms m mc (show Row .u8 (w7.alloc (.cells #[.int .u16 0, .int .u16 0, .bool false, .slice none 0 0] 40)).drew ma ms from Row.below HM4.out (((Below.refl _ w7).alloc (Nat.le_refl _) _).drew) (Nat.le_refl _)) HML.out HMN.out (by omega) (Nat.le_trans B44.out.size (by simp))
      exact ⟨v', w', h1, h2, ((B44.out.alloc B44.out.size _).drew).trans h3, fun _ => h4 _ _ (heap_alloc_new w7 _) hne7⟩
  have HX := hide hxx
  clear hxx hne7
  have hX4 := lt_of_block HXXz.out
  have hX7 : X < w7.heap.size := Nat.lt_of_lt_of_le hX4 B44.out.size
  have xz0 : w4.cell? ⟨X, 0, none⟩ = some (.int .u32 x0) := cell2_0 HXXz.out
  have xz1 : w4.cell? ⟨X, 1, none⟩ = some (.int .u32 y0) := cell2_1 HXXz.out
  have x70 : w7.cell? ⟨X, 0, none⟩ = some (.int .u32 x0) := (bcell B44.out X 0 hX4).trans xz0
  have x71 : w7.cell? ⟨X, 1, none⟩ = some (.int .u32 y0) := (bcell B44.out X 1 hX4).trans xz1
  have hX7n : ¬ X = w7.heap.size := by omega
  have h47 := B44.out.size
  clear hrdg f0 f2 f4 f6 f8 hbm hk0 hk5 hcs hkr hkp
  go_wp2_with fail
  go_cut [12, 13] (fun zz ff wx => ∃ Z ab cb, zz = .pointer (some ⟨Z, 0, none⟩) ∧ ff = .int .i64 0 ∧ Hid (wx.heap[Z]? = some (.cells #[.int .u16 (p : Int), .int .u16 (q : Int), .bool false, .slice ab n cb] 40 (0, 0))) ∧ Hid (Row .u8 wx ab xs) ∧ Hid (Below w4.heap.size w4 wx))
  case first =>
    go_region_held3 (fun w' => w'.cell? ⟨X, 0, none⟩ = some (.int .u32 x0) ∧ w'.cell? ⟨X, 1, none⟩ = some (.int .u32 y0)) (first | go_keep | (exact ⟨(four_ne (by assumption)).trans (by assumption), (four_ne (by assumption)).trans (by assumption)⟩)) (first
      | (go_at_call 17; (with_reducible refine (HRDG.out wa _ _ OA.out).mono ?_); rintro e wb ⟨ab, cb, rfl, ob, bb⟩; have BF : Below w4.heap.size w4 wb := BA.out.trans (bb.mono BA.out.size); have xb0 := (bcell BF X 0 hX4).trans xz0; have xb1 := (bcell BF X 1 hX4).trans xz1; have BB := hide BF; have OB := hide ob; have hXb : X < wb.heap.size := Nat.lt_of_lt_of_le hX4 BF.size; have hXbn : ¬ X = wb.heap.size := (by omega); (first | (have hzl := lt_of_block ZB.out; have ZB := hide (below_block bb ZB.out (Nat.le_refl _)); obtain ⟨z0, z1, z2, z3, zf⟩ := four_cells ZB.out) | skip); clear ob bb BF)
      | (go_at_call 17; (with_reducible refine (HRDG.out (wa.alloc (.cells #[.int .u16 0, .int .u16 0, .bool false, .slice none 0 0] 40)) _ _ (OA.out.alloc _)).mono ?_); rintro e wb ⟨ab, cb, rfl, ob, bb⟩; have BF : Below w4.heap.size w4 wb := BA.out.trans ((bel_lit bb).mono BA.out.size); have xb0 := (bcell BF X 0 hX4).trans xz0; have xb1 := (bcell BF X 1 hX4).trans xz1; have BB := hide BF; have OB := hide ob; have hXb : X < wb.heap.size := Nat.lt_of_lt_of_le hX4 BF.size; have hXbn : ¬ X = wb.heap.size := (by omega); have ZB := hide (litB bb); obtain ⟨z0, z1, z2, z3, zf⟩ := four_cells ZB.out; clear ob bb BF)
      | (refine step_append_ex rfl (.tmp 80) (.tmp 81) 25 25 rfl _ _ rfl rfl _ (HX.out _ (Or.inl ?_)) ?_; (with_reducible rfl); rintro v9 wa HP; obtain ⟨a9, c9, rfl⟩ := slice_form HP.1; have BF : Below w4.heap.size w4 wa := HP.2.1; have xa0 := (bcell BF X 0 hX4).trans xz0; have xa1 := (bcell BF X 1 hX4).trans xz1; have OA := hide HP.1; have BA := hide BF; have hXa : X < wa.heap.size := Nat.lt_of_lt_of_le hX4 BF.size; have hXan : ¬ X = wa.heap.size := (by omega); have h4a := BF.size; clear HP BF)
      | (refine step_append_ex rfl (.tmp 80) (.tmp 81) 25 25 rfl _ _ rfl rfl _ (HX.out _ (Or.inr (Or.inl ?_))) ?_; (with_reducible rfl); rintro v9 wa HP; obtain ⟨a9, c9, rfl⟩ := slice_form HP.1; have BF : Below w4.heap.size w4 wa := HP.2.1; have xa0 := (bcell BF X 0 hX4).trans xz0; have xa1 := (bcell BF X 1 hX4).trans xz1; have OA := hide HP.1; have BA := hide BF; have hXa : X < wa.heap.size := Nat.lt_of_lt_of_le hX4 BF.size; have hXan : ¬ X = wa.heap.size := (by omega); have h4a := BF.size; have hnw : (w7.drew.alloc (.cells #[.int .u16 0, .int .u16 0, .bool false, .slice none 0 0] 40)) ≠ w7.drew := (by intro e; have e2 := congrArg (fun x : World => x.heap.size) e; simp at e2); have ZB := hide (HP.2.2 hnw); clear HP BF)
      | (refine step_append_ex rfl (.tmp 80) (.tmp 81) 25 25 rfl _ _ rfl rfl _ (HX.out _ (Or.inr (Or.inr ?_))) ?_; (with_reducible rfl); rintro v9 wa HP; obtain ⟨a9, c9, rfl⟩ := slice_form HP.1; have BF : Below w4.heap.size w4 wa := HP.2.1; have xa0 := (bcell BF X 0 hX4).trans xz0; have xa1 := (bcell BF X 1 hX4).trans xz1; have OA := hide HP.1; have BA := hide BF; have hXa : X < wa.heap.size := Nat.lt_of_lt_of_le hX4 BF.size; have hXan : ¬ X = wa.heap.size := (by omega); have h4a := BF.size; have hnw : (w7.alloc (.cells #[.int .u16 0, .int .u16 0, .bool false, .slice none 0 0] 40)).drew ≠ w7.drew := (by intro e; have e2 := congrArg (fun x : World => x.heap.size) e; simp at e2); have ZB := hide (HP.2.2 hnw); clear HP BF)
      | fail)
    all_goals
      try go_wp2_with fail
      go_meet
      refine ⟨_, ab, cb, rfl, rfl, ?_, ?_, ?_⟩
      · first
          | (with_reducible exact hide (heap_alloc_new wb _))
          | exact hide (four_sets ZB.out)
      · first
          | (with_reducible exact hide (Row.of_owns (OB.out.alloc _)))
          | (with_reducible exact hide (Row.of_owns (owns_set (owns_set (owns_set (owns_set OB.out hzl) hzl) hzl) hzl)))
          | exact hide (Row.of_owns (owns_set (owns_set (owns_set (owns_set OB.out (by simp)) (by simp)) (by simp)) (by simp)))
      · first
          | (with_reducible exact hide (BB.out.alloc BB.out.size _))
          | (with_reducible exact hide ((((BB.out.setCell h47 _).setCell h47 _).setCell h47 _).setCell h47 _))
          | exact hide ((((BB.out.setCell h4a _).setCell h4a _).setCell h4a _).setCell h4a _)
  case rest =>
    obtain ⟨Z, ab, cb, rfl, rfl, HZ, HRab, BF⟩ := hcut
    have hAAf := below_block BF.out HAAz.out (Nat.le_refl _)
    obtain ⟨z0, z1, z2, z3, zf⟩ := four_cells HZ.out
    obtain ⟨a0, a1, a2, a3, af⟩ := four_cells hAAf
    have HS2 := hide (sameUdp_any wc p q false ab da xs n cb dc HRab.out (HR4z.out.below BF.out (Nat.le_refl _)) HL.out)
    have HBF := hide (HB4z.out.trans (BF.out.mono HB4z.out.size))
    clear zf af hAAf xz0 xz1 x70 x71
    go_wp2_with fail
    refine HS2.out.mono ?_
    rintro e wz ⟨rfl, bz⟩
    have HBZ := hide (HBF.out.trans (bz.mono HBF.out.size))
    clear bz z0 z1 z2 z3 a0 a1 a2 a3
    go_wp2
    go_ret
    exact ⟨rfl, HBZ.out⟩

theorem transDatagrams_any (w : World) (x0 y0 p q : Nat) (pl : Bool) (da : Option Addr) (xs : List Int) (n dc : Nat) (ma : Option Addr) (ms : List Int) (m mc : Nat) (hr : Row .u8 w da xs) (hn : da = none → dc = 0) (hl : xs.length = n) (hb : ∀ x ∈ xs, 0 ≤ x ∧ x ≤ 255) (hmr : Row .u8 w ma ms) (hmn : ma = none → mc = 0) (hml : ms.length = m) (hmb : ∀ x ∈ ms, 0 ≤ x ∧ x ≤ 255) (hx : x0 ≤ 4294967295) (hy : y0 ≤ 4294967295) (hp : p ≤ 65535) (hq : q ≤ 65535) (h5 : n < 9223372036854775808) (h6 : m < 9223372036854775808) :
    Calls Try.prog 4 #[.agg #[.int .u32 (x0 : Int), .int .u32 (y0 : Int)], .agg #[.int .u16 (p : Int), .int .u16 (q : Int), .bool pl, .slice da n dc], .slice ma m mc] w fun e w' => e = .returned (.bool true) ∧ Below w.heap.size w w' := by
  by_cases c1 : 3000 < n
  · exact td_big1 w x0 y0 p q da xs n dc ma ms m mc hr hn hl hb hmr hmn hml hmb hx hy hp hq pl c1 h5
  · by_cases c2 : 9 < m
    · exact td_big2 w x0 y0 p q da xs n dc ma ms m mc hr hn hl hb hmr hmn hml hmb hx hy hp hq pl (by omega) c2 h6
    · by_cases c3 : 1472 < n
      · exact td_long w x0 y0 p q da xs n dc ma ms m mc hr hn hl hb hmr hmn hml hmb hx hy hp hq pl c3 (by omega) (by omega)
      · by_cases c4 : 1480 < 8 + n + m
        · cases pl
          · exact td_over_sum w x0 y0 p q da xs n dc ma ms m mc hr hn hl hb hmr hmn hml hmb hx hy hp hq (by omega) (by omega) c4
          · exact td_over_plain w x0 y0 p q da xs n dc ma ms m mc hr hn hl hb hmr hmn hml hmb hx hy hp hq (by omega) (by omega) c4
        · cases pl
          · exact td_ok_sum w x0 y0 p q da xs n dc ma ms m mc hr hn hl hb hmr hmn hml hmb hx hy hp hq (by omega) (by omega) (by omega)
          · exact td_ok_plain w x0 y0 p q da xs n dc ma ms m mc hr hn hl hb hmr hmn hml hmb hx hy hp hq (by omega) (by omega) (by omega)
end Go.Proofs.Ytimdkcndpfogcaa
