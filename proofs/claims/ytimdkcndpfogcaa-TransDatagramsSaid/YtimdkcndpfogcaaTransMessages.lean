/- The law that messages are put into bytes and read back, walked. -/
import Derived.Test.YtimdkcndpfogcaaRIcmp
import Derived.Test.YtimdkcndpfogcaaIcmpR
import Derived.Test.YtimdkcndpfogcaaTSpeaks
namespace Go.Proofs.Ytimdkcndpfogcaa
open Go.RowKit
set_option linter.unusedVariables false
set_option linter.unusedSimpArgs false
set_option maxRecDepth 100000
theorem fld_byte (x : Nat) (r : List Int) : fld ((x : Int) :: r) 0 1 = x := by unfold fld valB; simp
theorem icmpG_0 (p q r : Nat) (xs : List Int) (k : Nat) : fld (icmpG p q r xs k) 0 1 = p := fld_byte p _
theorem icmpG_1 (p q r : Nat) (xs : List Int) (k : Nat) : fld (icmpG p q r xs k) 1 1 = q := by
  have h := fld_skip [(p : Int)] ((q : Int) :: (numB 2 k ++ (numB 4 r ++ xs))) 0 1 1 rfl
  rw [fld_byte] at h; exact h
theorem icmpG_2 (p q r : Nat) (xs : List Int) (k : Nat) (hk : k ≤ 65535) : fld (icmpG p q r xs k) 2 2 = k := by
  unfold icmpG; rw [fld_skip _ _ 0 2 2 (by rfl), fld_num 2 k _ (by omega)]
theorem icmpG_4 (p q r : Nat) (xs : List Int) (k : Nat) (hr : r ≤ 4294967295) : fld (icmpG p q r xs k) 4 4 = r := by
  unfold icmpG; rw [fld_skip _ _ 2 2 4 (by rfl), fld_skip _ _ 0 2 4 (numB_len _ _), fld_num 4 r _ (by omega)]
theorem icmpG_8 (p q r : Nat) (xs : List Int) (k : Nat) : (icmpG p q r xs k).drop 8 = xs := by
  have e : icmpG p q r xs k = ([(p : Int), (q : Int)] ++ (numB 2 k ++ numB 4 r)) ++ xs := by simp [icmpG]
  rw [e, List.drop_left' (by simp [numB_len])]
theorem icmpG_psum (p q r : Nat) (xs : List Int) (k : Nat) (hk : k ≤ 65535) : psum (icmpG p q r xs k) = psum (icmpG p q r xs 0) + k := by
  unfold icmpG
  rw [psum_append _ _ (by simp), psum_append _ _ (by rw [numB_len]), psum_append _ (numB 2 0 ++ _) (by simp), psum_append (numB 2 0) _ (by rw [numB_len]), psum_num2 _ hk, psum_num2 0 (by omega)]
  omega
theorem icmpK_ok (p q r : Nat) (xs : List Int) (hb : ∀ x ∈ icmpG p q r xs 0, 0 ≤ x ∧ x ≤ 255) : csum (icmpG p q r xs (icmpK p q r xs).toNat) = 0 := by
  have h1 := csum_rng (icmpG p q r xs 0)
  have hP := (psum_rng _ hb).1
  have hk : ((icmpK p q r xs).toNat : Int) = csum (icmpG p q r xs 0) := by unfold icmpK; omega
  have h2 : csum (icmpG p q r xs (icmpK p q r xs).toNat) = 65535 - f16 (psum (icmpG p q r xs 0) + csum (icmpG p q r xs 0)) := by
    unfold csum at *
    rw [icmpG_psum _ _ _ _ _ (by omega), hk]
  rw [h2]
  exact right_good _ _ hP rfl
theorem owns_nil {w : World} {base : Nat} : ∀ {V : World}, V = w → (V.alloc (.cells #[] 5)).ownsRow V.heap.size 5 1 (.slice (some ⟨V.heap.size, 0, none⟩) 0 0) 0 (([] : List Int).map (Value.int .u8)) := fun _ => World.ownsRow_lit _ #[] 0 (Nat.le_refl _) (by unfold maxLen; omega) rfl

set_option maxHeartbeats 1600000 in
theorem tm_big (w : World) (p q r : Nat) (da : Option Addr) (xs : List Int) (n dc : Nat) (hr : Row .u8 w da xs) (hn : da = none → dc = 0) (hl : xs.length = n) (hb : ∀ x ∈ xs, 0 ≤ x ∧ x ≤ 255) (hp : p ≤ 255) (hq : q ≤ 255) (hrr : r ≤ 4294967295) (h4 : 3000 < n) (h5 : n < 9223372036854775808) :
    Calls Try.prog 5 #[.agg #[.int .u8 (p : Int), .int .u8 (q : Int), .int .u32 (r : Int), .slice da n dc]] w fun e w' => e = .returned (.bool true) ∧ Below w.heap.size w w' := by
  have HR := hide hr
  have HN := hide hn
  have HL := hide hl
  have HB := hide hb
  clear hr hn hl hb
  go_enter Try.func5, Try.ntmps5
  go_wp2_with fail
  obtain ⟨A, w0, hA, hqq, hbel, hheap⟩ : ∃ A wq, w.heap.size = A ∧ w.alloc (.cells #[.int .u8 (p : Int), .int .u8 (q : Int), .int .u32 (r : Int), .slice da n dc] 48) = wq ∧ Below w.heap.size w wq ∧
      wq.heap[A]? = some (.cells #[.int .u8 (p : Int), .int .u8 (q : Int), .int .u32 (r : Int), .slice da n dc] 48 (0, 0)) := ⟨_, _, rfl, rfl, (Below.refl _ _).alloc (Nat.le_refl _) _, heap_alloc_new _ _⟩
  rw [hqq, hA]
  have HAw := hide hA
  have HR0 := hide (HR.out.below hbel (Nat.le_refl _))
  have HH0 := hide hheap
  have HB0 := hide hbel
  clear hqq hA hbel hheap
  refine (speaks5_any w0).mono ?_
  rintro e w1 ⟨rfl, b1⟩
  have HH1 := hide (below_block b1 HH0.out (Nat.le_refl _))
  have HR1 := hide (HR0.out.below b1 (Nat.le_refl _))
  have HB1 := hide (HB0.out.trans (b1.mono HB0.out.size))
  clear b1 HH0 HR0 HB0
  obtain ⟨a0, a1, a2, a3, af⟩ := four_cells HH1.out
  have hlA := lt_of_block HH1.out
  clear af
  go_wp2
  go_ret
  exact ⟨rfl, HB1.out⟩

set_option maxHeartbeats 1600000 in
theorem tm_long (w : World) (p q r : Nat) (da : Option Addr) (xs : List Int) (n dc : Nat) (hr : Row .u8 w da xs) (hn : da = none → dc = 0) (hl : xs.length = n) (hb : ∀ x ∈ xs, 0 ≤ x ∧ x ≤ 255) (hp : p ≤ 255) (hq : q ≤ 255) (hrr : r ≤ 4294967295) (h4 : 1472 < n) (h5 : n ≤ 3000) :
    Calls Try.prog 5 #[.agg #[.int .u8 (p : Int), .int .u8 (q : Int), .int .u32 (r : Int), .slice da n dc]] w fun e w' => e = .returned (.bool true) ∧ Below w.heap.size w w' := by
  have HR := hide hr
  have HN := hide hn
  have HL := hide hl
  have HB := hide hb
  clear hr hn hl hb
  go_enter Try.func5, Try.ntmps5
  go_wp2_with fail
  obtain ⟨A, w0, hA, hqq, hbel, hheap⟩ : ∃ A wq, w.heap.size = A ∧ w.alloc (.cells #[.int .u8 (p : Int), .int .u8 (q : Int), .int .u32 (r : Int), .slice da n dc] 48) = wq ∧ Below w.heap.size w wq ∧
      wq.heap[A]? = some (.cells #[.int .u8 (p : Int), .int .u8 (q : Int), .int .u32 (r : Int), .slice da n dc] 48 (0, 0)) := ⟨_, _, rfl, rfl, (Below.refl _ _).alloc (Nat.le_refl _) _, heap_alloc_new _ _⟩
  rw [hqq, hA]
  have HAw := hide hA
  have HR0 := hide (HR.out.below hbel (Nat.le_refl _))
  have HH0 := hide hheap
  have HB0 := hide hbel
  clear hqq hA hbel hheap
  refine (speaks5_any w0).mono ?_
  rintro e w1 ⟨rfl, b1⟩
  have HH1 := hide (below_block b1 HH0.out (Nat.le_refl _))
  have HR1 := hide (HR0.out.below b1 (Nat.le_refl _))
  have HB1 := hide (HB0.out.trans (b1.mono HB0.out.size))
  clear b1 HH0 HR0 HB0
  obtain ⟨a0, a1, a2, a3, af⟩ := four_cells HH1.out
  have hlA := lt_of_block HH1.out
  clear af
  -- the copy
  have hV0 : Below w1.heap.size w1 (w1.alloc (.cells #[.int .u8 (p : Int), .int .u8 (q : Int), .int .u32 (r : Int), .slice da n dc] 48)) := (Below.refl _ _).alloc (Nat.le_refl _) _
  obtain ⟨v3, w3, hrun3, o3, b3⟩ := app_own ((w1.alloc (.cells #[.int .u8 (p : Int), .int .u8 (q : Int), .int .u32 (r : Int), .slice da n dc] 48)).alloc (.cells #[] 5)) (w1.alloc (.cells #[.int .u8 (p : Int), .int .u8 (q : Int), .int .u32 (r : Int), .slice da n dc] 48)).heap.size (.slice (some ⟨(w1.alloc (.cells #[.int .u8 (p : Int), .int .u8 (q : Int), .int .u32 (r : Int), .slice da n dc] 48)).heap.size, 0, none⟩) 0 0) 0 [] (owns_nil (w := w1.alloc (.cells #[.int .u8 (p : Int), .int .u8 (q : Int), .int .u32 (r : Int), .slice da n dc] 48)) (base := 0) rfl) da xs n dc
    (HR1.out.below (hV0.alloc hV0.size _) (Nat.le_refl _)) HL.out HN.out (by omega) (by simp)
  obtain ⟨ca, cc, rfl⟩ := slice_form o3
  rw [Nat.zero_add, List.nil_append] at o3
  have hvb : Below w1.heap.size w1 w3 := (hV0.alloc hV0.size _).trans (b3.mono hV0.size)
  have hC3 : w3.heap[w1.heap.size]? = some (.cells #[.int .u8 (p : Int), .int .u8 (q : Int), .int .u32 (r : Int), .slice da n dc] 48 (0, 0)) := by
    have h0 := heap_alloc_new w1 (.cells #[.int .u8 (p : Int), .int .u8 (q : Int), .int .u32 (r : Int), .slice da n dc] 48)
    have h1 := (b3.block w1.heap.size (by simp)).trans ((Below.heap_alloc _ _ _ (by simp)).trans h0)
    exact h1
  rw [show (w1.alloc (.cells #[.int .u8 (p : Int), .int .u8 (q : Int), .int .u32 (r : Int), .slice da n dc] 48)).heap.size = w1.heap.size + 1 by simp] at hrun3 o3 b3
  simp only [Nat.zero_add] at hrun3
  have HRUN3 := hide hrun3
  obtain ⟨m0, m1, m2, m3, mf⟩ := four_cells hC3
  have hCf := mf 3
  obtain ⟨w4, hw4, hC4, hA4, o4, HB4, HR4⟩ : ∃ w4, w3.setCell ⟨w1.heap.size, 3, none⟩ (.slice ca n cc) = w4 ∧ w4.heap[w1.heap.size]? = some (.cells #[.int .u8 (p : Int), .int .u8 (q : Int), .int .u32 (r : Int), .slice ca n cc] 48 (0, 0)) ∧ w4.heap[A]? = some (.cells #[.int .u8 (p : Int), .int .u8 (q : Int), .int .u32 (r : Int), .slice da n dc] 48 (0, 0)) ∧ Hid (w4.ownsRow (w1.heap.size + 1) 5 1 (.slice ca n cc) n (xs.map (Value.int .u8))) ∧ Hid (Below w.heap.size w w4) ∧ Hid (Row .u8 w4 da xs) := by
    have hAC : A ≠ w1.heap.size := by omega
    have hA3 := below_block hvb HH1.out (by omega)
    have hR3 := HR1.out.below hvb (by omega)
    have hdr : ∀ b, da = some b → b.block ≠ w1.heap.size ∨ xs = [] := by
      intro b e
      by_cases hx : xs = []
      · exact .inr hx
      · obtain ⟨b', off, e', hlt, _⟩ := HR1.out hx
        rw [e] at e'; cases e'; exact .inl (by simp; omega)
    refine ⟨_, rfl, four_set hC3, (Below.heap_setCell _ _ _ _ hAC).trans hA3, hide (owns_set o3 (by omega)), hide ((HB1.out.trans (hvb.mono (by have := HB1.out.size; omega))).setCell (by have := HB1.out.size; simp; omega) _), hide ?_⟩
    intro hx
    exact row_set hR3 (fun b e => (hdr b e).resolve_right hx) hx
  clear o3 b3 hvb hC3 hV0 hrun3 mf
  have HW4 := hide hw4
  have HCC := hide hC4
  have HAA := hide hA4
  clear hw4 hC4 hA4
  go_wp2_with (at_builtin; refine Lib.wpList_append_run _ rfl _ _ _ _ rfl _ _ rfl rfl _ _ HRUN3.out ?_)
  rw [HW4.out]
  clear m0 m1 m2 m3 hCf a0 a1 a2 a3
  obtain ⟨m0, m1, m2, m3, mf⟩ := four_cells HCC.out
  obtain ⟨a0, a1, a2, a3, af⟩ := four_cells HAA.out
  have hnn := hide (none_cap o4.out)
  have HRC := hide (Row.of_owns o4.out)
  clear mf af
  refine (wicmp_long w4 _ _ _ _ _ _ h4).mono ?_
  rintro e w5 ⟨rfl, b5⟩
  clear m0 m1 m2 m3 a0 a1 a2 a3
  have HAA := hide (below_block b5 HAA.out (Nat.le_refl _))
  have HCC := hide (below_block b5 HCC.out (Nat.le_refl _))
  have HRC := hide (HRC.out.below b5 (Nat.le_refl _))
  have HR4 := hide (HR4.out.below b5 (Nat.le_refl _))
  have HB4 := hide (HB4.out.trans (b5.mono HB4.out.size))
  clear b5
  obtain ⟨m0, m1, m2, m3, mf⟩ := four_cells HCC.out
  obtain ⟨a0, a1, a2, a3, af⟩ := four_cells HAA.out
  clear mf af
  go_wp2_with fail
  refine (rwicmp_long w5 _ _ _ _ _ _ h4).mono ?_
  rintro e w6 ⟨g6, rfl, b6⟩
  clear m0 m1 m2 m3 a0 a1 a2 a3
  have HAA := hide (below_block b6 HAA.out (Nat.le_refl _))
  have HCC := hide (below_block b6 HCC.out (Nat.le_refl _))
  have HRC := hide (HRC.out.below b6 (Nat.le_refl _))
  have HR4 := hide (HR4.out.below b6 (Nat.le_refl _))
  have HB4 := hide (HB4.out.trans (b6.mono HB4.out.size))
  clear b6
  obtain ⟨m0, m1, m2, m3, mf⟩ := four_cells HCC.out
  obtain ⟨a0, a1, a2, a3, af⟩ := four_cells HAA.out
  clear mf af
  have hcv1 : (convert 25 9 (.slice none 0 0)).run Try.prog w6 = .ok (.string (strOfNums [])) w6 := conv_any none [] 0 w6 (fun h => absurd rfl h)
  have hcv2 : (convert 25 9 (.slice (some ⟨g6, 0, none⟩) 0 0)).run Try.prog w6 = .ok (.string (strOfNums [])) w6 := conv_any (some ⟨g6, 0, none⟩) [] 0 w6 (fun h => absurd rfl h)
  have HS := hide (sameIcmp_any w6 p q r ca da xs n cc dc HRC.out HR4.out HL.out)
  go_wp2_with fail
  refine HS.out.mono ?_
  rintro e w7 ⟨rfl, b7⟩
  have HB7 := hide (HB4.out.trans (b7.mono HB4.out.size))
  clear b7 m0 m1 m2 m3 a0 a1 a2 a3 hcv1 hcv2
  go_wp2
  go_ret
  exact ⟨rfl, HB7.out⟩

set_option maxHeartbeats 1600000 in
theorem tm_ok (w : World) (p q r : Nat) (da : Option Addr) (xs : List Int) (n dc : Nat) (hr : Row .u8 w da xs) (hn : da = none → dc = 0) (hl : xs.length = n) (hb : ∀ x ∈ xs, 0 ≤ x ∧ x ≤ 255) (hp : p ≤ 255) (hq : q ≤ 255) (hrr : r ≤ 4294967295) (h4 : n ≤ 1472) :
    Calls Try.prog 5 #[.agg #[.int .u8 (p : Int), .int .u8 (q : Int), .int .u32 (r : Int), .slice da n dc]] w fun e w' => e = .returned (.bool true) ∧ Below w.heap.size w w' := by
  have HR := hide hr
  have HN := hide hn
  have HL := hide hl
  have HB := hide hb
  clear hr hn hl hb
  go_enter Try.func5, Try.ntmps5
  go_wp2_with fail
  obtain ⟨A, w0, hA, hqq, hbel, hheap⟩ : ∃ A wq, w.heap.size = A ∧ w.alloc (.cells #[.int .u8 (p : Int), .int .u8 (q : Int), .int .u32 (r : Int), .slice da n dc] 48) = wq ∧ Below w.heap.size w wq ∧
      wq.heap[A]? = some (.cells #[.int .u8 (p : Int), .int .u8 (q : Int), .int .u32 (r : Int), .slice da n dc] 48 (0, 0)) := ⟨_, _, rfl, rfl, (Below.refl _ _).alloc (Nat.le_refl _) _, heap_alloc_new _ _⟩
  rw [hqq, hA]
  have HAw := hide hA
  have HR0 := hide (HR.out.below hbel (Nat.le_refl _))
  have HH0 := hide hheap
  have HB0 := hide hbel
  clear hqq hA hbel hheap
  refine (speaks5_any w0).mono ?_
  rintro e w1 ⟨rfl, b1⟩
  have HH1 := hide (below_block b1 HH0.out (Nat.le_refl _))
  have HR1 := hide (HR0.out.below b1 (Nat.le_refl _))
  have HB1 := hide (HB0.out.trans (b1.mono HB0.out.size))
  clear b1 HH0 HR0 HB0
  obtain ⟨a0, a1, a2, a3, af⟩ := four_cells HH1.out
  have hlA := lt_of_block HH1.out
  clear af
  -- the copy
  have hV0 : Below w1.heap.size w1 (w1.alloc (.cells #[.int .u8 (p : Int), .int .u8 (q : Int), .int .u32 (r : Int), .slice da n dc] 48)) := (Below.refl _ _).alloc (Nat.le_refl _) _
  obtain ⟨v3, w3, hrun3, o3, b3⟩ := app_own ((w1.alloc (.cells #[.int .u8 (p : Int), .int .u8 (q : Int), .int .u32 (r : Int), .slice da n dc] 48)).alloc (.cells #[] 5)) (w1.alloc (.cells #[.int .u8 (p : Int), .int .u8 (q : Int), .int .u32 (r : Int), .slice da n dc] 48)).heap.size (.slice (some ⟨(w1.alloc (.cells #[.int .u8 (p : Int), .int .u8 (q : Int), .int .u32 (r : Int), .slice da n dc] 48)).heap.size, 0, none⟩) 0 0) 0 [] (owns_nil (w := w1.alloc (.cells #[.int .u8 (p : Int), .int .u8 (q : Int), .int .u32 (r : Int), .slice da n dc] 48)) (base := 0) rfl) da xs n dc
    (HR1.out.below (hV0.alloc hV0.size _) (Nat.le_refl _)) HL.out HN.out (by omega) (by simp)
  obtain ⟨ca, cc, rfl⟩ := slice_form o3
  rw [Nat.zero_add, List.nil_append] at o3
  have hvb : Below w1.heap.size w1 w3 := (hV0.alloc hV0.size _).trans (b3.mono hV0.size)
  have hC3 : w3.heap[w1.heap.size]? = some (.cells #[.int .u8 (p : Int), .int .u8 (q : Int), .int .u32 (r : Int), .slice da n dc] 48 (0, 0)) := by
    have h0 := heap_alloc_new w1 (.cells #[.int .u8 (p : Int), .int .u8 (q : Int), .int .u32 (r : Int), .slice da n dc] 48)
    have h1 := (b3.block w1.heap.size (by simp)).trans ((Below.heap_alloc _ _ _ (by simp)).trans h0)
    exact h1
  rw [show (w1.alloc (.cells #[.int .u8 (p : Int), .int .u8 (q : Int), .int .u32 (r : Int), .slice da n dc] 48)).heap.size = w1.heap.size + 1 by simp] at hrun3 o3 b3
  simp only [Nat.zero_add] at hrun3
  have HRUN3 := hide hrun3
  obtain ⟨m0, m1, m2, m3, mf⟩ := four_cells hC3
  have hCf := mf 3
  obtain ⟨w4, hw4, hC4, hA4, o4, HB4, HR4⟩ : ∃ w4, w3.setCell ⟨w1.heap.size, 3, none⟩ (.slice ca n cc) = w4 ∧ w4.heap[w1.heap.size]? = some (.cells #[.int .u8 (p : Int), .int .u8 (q : Int), .int .u32 (r : Int), .slice ca n cc] 48 (0, 0)) ∧ w4.heap[A]? = some (.cells #[.int .u8 (p : Int), .int .u8 (q : Int), .int .u32 (r : Int), .slice da n dc] 48 (0, 0)) ∧ Hid (w4.ownsRow (w1.heap.size + 1) 5 1 (.slice ca n cc) n (xs.map (Value.int .u8))) ∧ Hid (Below w.heap.size w w4) ∧ Hid (Row .u8 w4 da xs) := by
    have hAC : A ≠ w1.heap.size := by omega
    have hA3 := below_block hvb HH1.out (by omega)
    have hR3 := HR1.out.below hvb (by omega)
    have hdr : ∀ b, da = some b → b.block ≠ w1.heap.size ∨ xs = [] := by
      intro b e
      by_cases hx : xs = []
      · exact .inr hx
      · obtain ⟨b', off, e', hlt, _⟩ := HR1.out hx
        rw [e] at e'; cases e'; exact .inl (by simp; omega)
    refine ⟨_, rfl, four_set hC3, (Below.heap_setCell _ _ _ _ hAC).trans hA3, hide (owns_set o3 (by omega)), hide ((HB1.out.trans (hvb.mono (by have := HB1.out.size; omega))).setCell (by have := HB1.out.size; simp; omega) _), hide ?_⟩
    intro hx
    exact row_set hR3 (fun b e => (hdr b e).resolve_right hx) hx
  clear o3 b3 hvb hC3 hV0 hrun3 mf
  have HW4 := hide hw4
  have HCC := hide hC4
  have HAA := hide hA4
  clear hw4 hC4 hA4
  go_wp2_with (at_builtin; refine Lib.wpList_append_run _ rfl _ _ _ _ rfl _ _ rfl rfl _ _ HRUN3.out ?_)
  rw [HW4.out]
  clear m0 m1 m2 m3 hCf a0 a1 a2 a3
  obtain ⟨m0, m1, m2, m3, mf⟩ := four_cells HCC.out
  obtain ⟨a0, a1, a2, a3, af⟩ := four_cells HAA.out
  have hnn := hide (none_cap o4.out)
  have HRC := hide (Row.of_owns o4.out)
  clear mf af
  refine (wicmp_ok w4 p q r ca xs n cc HRC.out hnn.out HL.out HB.out h4 hp hq hrr).mono ?_
  rintro e w5 ⟨a5, c5, rfl, o5, b5⟩
  have HO5 := hide o5
  clear m0 m1 m2 m3 a0 a1 a2 a3
  have HAA := hide (below_block b5 HAA.out (Nat.le_refl _))
  have HCC := hide (below_block b5 HCC.out (Nat.le_refl _))
  have HRC := hide (HRC.out.below b5 (Nat.le_refl _))
  have HR4 := hide (HR4.out.below b5 (Nat.le_refl _))
  have HB4 := hide (HB4.out.trans (b5.mono HB4.out.size))
  clear b5 o5
  obtain ⟨m0, m1, m2, m3, mf⟩ := four_cells HCC.out
  obtain ⟨a0, a1, a2, a3, af⟩ := four_cells HAA.out
  clear mf af
  go_wp2_with fail
  refine (rwicmp_ok w5 p q r da xs n dc HR4.out HN.out HL.out HB.out h4 hp hq hrr).mono ?_
  rintro e w6 ⟨a6, c6, rfl, o6, b6⟩
  have HO5 := hide (owns_below HO5.out b6 (Nat.le_refl _))
  clear m0 m1 m2 m3 a0 a1 a2 a3
  have HAA := hide (below_block b6 HAA.out (Nat.le_refl _))
  have HCC := hide (below_block b6 HCC.out (Nat.le_refl _))
  have HRC := hide (HRC.out.below b6 (Nat.le_refl _))
  have HR4 := hide (HR4.out.below b6 (Nat.le_refl _))
  have HB4 := hide (HB4.out.trans (b6.mono HB4.out.size))
  clear b6
  have hyl : (icmpG p q r xs (icmpK p q r xs).toNat).length = 8 + n := by rw [icmpG_len, HL.out]
  have hcv1 := conv_any a5 (icmpG p q r xs (icmpK p q r xs).toNat) c5 w6 (Row.of_owns HO5.out)
  have hcv2 := conv_any a6 (icmpG p q r xs (icmpK p q r xs).toNat) c6 w6 (Row.of_owns o6)
  rw [hyl] at hcv1 hcv2
  have hrg := icmpG_rng p q r xs (icmpK p q r xs).toNat hp hq HB.out
  have hcs := icmpK_ok p q r xs (icmpG_rng p q r xs 0 hp hq HB.out)
  have hk5 : (icmpK p q r xs).toNat ≤ 65535 := by have := csum_rng (icmpG p q r xs 0); unfold icmpK; omega
  have f0 := icmpG_0 p q r xs (icmpK p q r xs).toNat
  have f1 := icmpG_1 p q r xs (icmpK p q r xs).toNat
  have f2 := icmpG_2 p q r xs (icmpK p q r xs).toNat hk5
  have f4 := icmpG_4 p q r xs (icmpK p q r xs).toNat hrr
  have f8 := icmpG_8 p q r xs (icmpK p q r xs).toNat
  generalize (icmpK p q r xs).toNat = K at *
  generalize icmpG p q r xs K = ys at *
  have F := hide (And.intro hyl (And.intro f0 (And.intro f1 (And.intro f2 (And.intro f4 f8)))))
  have HYR := hide hrg
  have HCS := hide (show (csum ys == 0) = true by rw [hcs]; rfl)
  generalize strOfNums ys = zs at *
  clear o6 hyl hrg hcs f0 f1 f2 f4 f8
  obtain ⟨m0, m1, m2, m3, mf⟩ := four_cells HCC.out
  obtain ⟨a0, a1, a2, a3, af⟩ := four_cells HAA.out
  clear mf af
  have HS := hide (sameIcmp_any w6 p q r ca da xs n cc dc HRC.out HR4.out HL.out)
  go_wp2_with fail
  refine HS.out.mono ?_
  rintro e w7 ⟨rfl, b7⟩
  have HO5 := hide (owns_below HO5.out b7 (Nat.le_refl _))
  clear m0 m1 m2 m3 a0 a1 a2 a3 hcv1 hcv2
  have HAA := hide (below_block b7 HAA.out (Nat.le_refl _))
  have HCC := hide (below_block b7 HCC.out (Nat.le_refl _))
  have HRC := hide (HRC.out.below b7 (Nat.le_refl _))
  have HR4 := hide (HR4.out.below b7 (Nat.le_refl _))
  have HB4 := hide (HB4.out.trans (b7.mono HB4.out.size))
  clear b7
  have hrd := ricmp_ok w7 a5 ys (8 + n) c5 p q K r (Row.of_owns HO5.out) (none_cap HO5.out) F.out.1 HYR.out (by omega) (by omega) (hide F.out.2.1) (hide F.out.2.2.1) (hide F.out.2.2.2.1) (hide F.out.2.2.2.2.1) HCS
  rw [F.out.2.2.2.2.2, show 8 + n - 8 = n by omega] at hrd
  have HRD := hide hrd
  clear hrd
  go_wp2_with fail
  refine HRD.out.mono ?_
  rintro e w8 ⟨a8, c8, rfl, o8, b8⟩
  have HAA := hide (below_block b8 HAA.out (Nat.le_refl _))
  have HCC := hide (below_block b8 HCC.out (Nat.le_refl _))
  have HRC := hide (HRC.out.below b8 (Nat.le_refl _))
  have HR4 := hide (HR4.out.below b8 (Nat.le_refl _))
  have HB4 := hide (HB4.out.trans (b8.mono HB4.out.size))
  have HR8 := hide (Row.of_owns o8)
  clear b8 o8 HRD
  obtain ⟨a0, a1, a2, a3, af⟩ := four_cells HAA.out
  have hlA8 := lt_of_block HAA.out
  have hb9 : Below w8.heap.size w8 (w8.alloc (.cells #[.int .u8 (p : Int), .int .u8 (q : Int), .int .u32 (r : Int), .slice a8 n c8] 48)) := (Below.refl _ _).alloc (Nat.le_refl _) _
  have HS := hide (sameIcmp_any _ p q r a8 da xs n c8 dc (HR8.out.below hb9 (Nat.le_refl _)) (HR4.out.below hb9 (Nat.le_refl _)) HL.out)
  have HB9 := hide (HB4.out.trans (hb9.mono HB4.out.size))
  clear af hb9
  go_wp2_with fail
  refine HS.out.mono ?_
  rintro e w10 ⟨rfl, b10⟩
  have HB10 := hide (HB9.out.trans (b10.mono HB9.out.size))
  clear b10
  go_wp2
  go_ret
  exact ⟨rfl, HB10.out⟩
theorem transMessages_any (w : World) (p q r : Nat) (da : Option Addr) (xs : List Int) (n dc : Nat) (hr : Row .u8 w da xs) (hn : da = none → dc = 0) (hl : xs.length = n) (hb : ∀ x ∈ xs, 0 ≤ x ∧ x ≤ 255) (hp : p ≤ 255) (hq : q ≤ 255) (hrr : r ≤ 4294967295) (h5 : n < 9223372036854775808) :
    Calls Try.prog 5 #[.agg #[.int .u8 (p : Int), .int .u8 (q : Int), .int .u32 (r : Int), .slice da n dc]] w fun e w' => e = .returned (.bool true) ∧ Below w.heap.size w w' := by
  by_cases h1 : 3000 < n
  · exact tm_big w p q r da xs n dc hr hn hl hb hp hq hrr h1 h5
  · by_cases h2 : 1472 < n
    · exact tm_long w p q r da xs n dc hr hn hl hb hp hq hrr h2 (by omega)
    · exact tm_ok w p q r da xs n dc hr hn hl hb hp hq hrr (by omega)
end Go.Proofs.Ytimdkcndpfogcaa
