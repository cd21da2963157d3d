/- The law that datagrams are read between which addresses, walked. -/
import Derived.Test.YtimdkcndpfogcaaUdpR
import Derived.Test.YtimdkcndpfogcaaTSpeaks
namespace Go.Proofs.Ytimdkcndpfogcaa
open Go.RowKit
set_option linter.unusedVariables false
set_option linter.unusedSimpArgs false
set_option maxRecDepth 100000
theorem and_u32 (x : Int) (h0 : 0 ≤ x) (h1 : x ≤ 4294967295) : bits .and .u32 x 65535 = x % 65536 := by
  have hk : ∀ m : Int, 0 ≤ m → m < 2 ^ 32 → IntKind.u32.wrap m = m := fun m h0 h1 => by rw [IntKind.wrap_u32]; omega
  have := bits_mask .u32 32 (by decide) hk 16 (by decide) x h0 (by omega)
  simpa using this
set_option maxHeartbeats 800000 in
theorem words_any (x y : Nat) (w : World) (hx : x ≤ 4294967295) (hy : y ≤ 4294967295) :
    Calls Try.prog 25 #[.agg #[.int .u32 (x : Int), .int .u32 (y : Int)]] w fun e w' => e = .returned (.int .u64 ((wrds x y % 65535 : Nat) : Int)) ∧ Below w.heap.size w w' := by
  have h1 := and_u32 x (by omega) (by omega)
  have h2 := and_u32 y (by omega) (by omega)
  have hfin : ((x : Int) / 65536 + (x : Int) % 65536 + (y : Int) / 65536 + (y : Int) % 65536) % 65535 = ((wrds x y % 65535 : Nat) : Int) := by unfold wrds; omega
  have HF := hide hfin
  clear hfin
  go_enter Try.func25, Try.ntmps25
  go_wp2
  go_ret
  exact ⟨by rw [← HF.out]; rfl, (Below.refl _ _).alloc (Nat.le_refl _) _⟩
theorem cell2_0 {w : World} {b : Nat} {u v : Value} {t : TypeId} (h : w.heap[b]? = some (.cells #[u, v] t (0, 0))) : w.cell? ⟨b, 0, none⟩ = some u := two_cell0 h
theorem cell2_1 {w : World} {b : Nat} {u v : Value} {t : TypeId} (h : w.heap[b]? = some (.cells #[u, v] t (0, 0))) : w.cell? ⟨b, 1, none⟩ = some v := two_cell1 h

set_option maxHeartbeats 1600000 in
theorem tp_big (w : World) (p q : Nat) (da : Option Addr) (xs : List Int) (n dc : Nat) (x0 y0 x1 y1 : Nat) (hr : Row .u8 w da xs) (hn : da = none → dc = 0) (hl : xs.length = n) (hb : ∀ x ∈ xs, 0 ≤ x ∧ x ≤ 255) (hp : p ≤ 65535) (hq : q ≤ 65535)
    (h0 : x0 ≤ 4294967295) (h1 : y0 ≤ 4294967295) (h2 : x1 ≤ 4294967295) (h3 : y1 ≤ 4294967295) (pl : Bool) (h4 : 2000 < n) (h5 : n < 9223372036854775808) :
    Calls Try.prog 8 #[.agg #[.int .u16 (p : Int), .int .u16 (q : Int), .bool pl, .slice da n dc], .agg #[.int .u32 (x0 : Int), .int .u32 (y0 : Int)], .agg #[.int .u32 (x1 : Int), .int .u32 (y1 : Int)]] w fun e w' => e = .returned (.bool true) ∧ Below w.heap.size w w' := by
  have HR := hide hr
  have HN := hide hn
  have HL := hide hl
  have HB := hide hb
  clear hr hn hl hb
  go_enter Try.func8, Try.ntmps8
  go_wp2_with fail
  have e0 := heap_alloc_new w (.cells #[.int .u16 (p : Int), .int .u16 (q : Int), .bool pl, .slice da n dc] 40)
  have b1 := (Below.refl w.heap.size w).alloc (Nat.le_refl _) (.cells #[.int .u16 (p : Int), .int .u16 (q : Int), .bool pl, .slice da n dc] 40)
  have b2 := b1.alloc b1.size (.cells #[.int .u32 (x0 : Int), .int .u32 (y0 : Int)] 38)
  have b3 := b2.alloc b2.size (.cells #[.int .u32 (x1 : Int), .int .u32 (y1 : Int)] 38)
  obtain ⟨Ba, Bb, Bc, wq, hBa, hBb, hBc, hq1, hA, hBB, hC, hbel⟩ : ∃ Ba Bb Bc wq, w.heap.size = Ba ∧ w.heap.size + 1 = Bb ∧ w.heap.size + 1 + 1 = Bc ∧ ((w.alloc (.cells #[.int .u16 (p : Int), .int .u16 (q : Int), .bool pl, .slice da n dc] 40)).alloc (.cells #[.int .u32 (x0 : Int), .int .u32 (y0 : Int)] 38)).alloc (.cells #[.int .u32 (x1 : Int), .int .u32 (y1 : Int)] 38) = wq ∧
      wq.heap[Ba]? = some (.cells #[.int .u16 (p : Int), .int .u16 (q : Int), .bool pl, .slice da n dc] 40 (0, 0)) ∧ wq.heap[Bb]? = some (.cells #[.int .u32 (x0 : Int), .int .u32 (y0 : Int)] 38 (0, 0)) ∧ wq.heap[Bc]? = some (.cells #[.int .u32 (x1 : Int), .int .u32 (y1 : Int)] 38 (0, 0)) ∧ Below w.heap.size w wq := by
    refine ⟨_, _, _, _, rfl, rfl, rfl, rfl, ?_, ?_, ?_, b3⟩
    · rw [Below.heap_alloc _ _ _ (by simp; omega), Below.heap_alloc _ _ _ (by simp)]; exact e0
    · rw [Below.heap_alloc _ _ _ (by simp)]
      have h := heap_alloc_new (w.alloc (.cells #[.int .u16 (p : Int), .int .u16 (q : Int), .bool pl, .slice da n dc] 40)) (.cells #[.int .u32 (x0 : Int), .int .u32 (y0 : Int)] 38)
      simpa using h
    · have h := heap_alloc_new ((w.alloc (.cells #[.int .u16 (p : Int), .int .u16 (q : Int), .bool pl, .slice da n dc] 40)).alloc (.cells #[.int .u32 (x0 : Int), .int .u32 (y0 : Int)] 38)) (.cells #[.int .u32 (x1 : Int), .int .u32 (y1 : Int)] 38)
      simpa using h
  rw [hq1, hBc, hBb, hBa]
  have HBa := hide hBa
  have HA := hide hA
  have HBB := hide hBB
  have HC := hide hC
  have HQ := hide (HR.out.below hbel (Nat.le_refl _))
  have BQ := hide hbel
  clear e0 b1 b2 b3 hBa hBb hBc hq1 hA hBB hC hbel
  refine (speaks5_any wq).mono ?_
  rintro e w1 ⟨rfl, b1⟩
  have HA1 := hide (below_block b1 HA.out (Nat.le_refl _))
  have HB1 := hide (below_block b1 HBB.out (Nat.le_refl _))
  have HC1 := hide (below_block b1 HC.out (Nat.le_refl _))
  have HQ1 := hide (HQ.out.below b1 (Nat.le_refl _))
  have BQ1 := hide (BQ.out.trans (b1.mono BQ.out.size))
  clear b1 HA HBB HC HQ BQ
  obtain ⟨d0, d1, d2, d3, df⟩ := four_cells HA1.out
  have u0 := cell2_0 HB1.out
  have u1 := cell2_1 HB1.out
  clear df
  go_wp2
  go_ret
  exact ⟨rfl, BQ1.out⟩

set_option maxHeartbeats 1600000 in
theorem tp_long (w : World) (p q : Nat) (da : Option Addr) (xs : List Int) (n dc : Nat) (x0 y0 x1 y1 : Nat) (hr : Row .u8 w da xs) (hn : da = none → dc = 0) (hl : xs.length = n) (hb : ∀ x ∈ xs, 0 ≤ x ∧ x ≤ 255) (hp : p ≤ 65535) (hq : q ≤ 65535)
    (h0 : x0 ≤ 4294967295) (h1 : y0 ≤ 4294967295) (h2 : x1 ≤ 4294967295) (h3 : y1 ≤ 4294967295) (pl : Bool) (h4 : 1472 < n) (h5 : n ≤ 2000) :
    Calls Try.prog 8 #[.agg #[.int .u16 (p : Int), .int .u16 (q : Int), .bool pl, .slice da n dc], .agg #[.int .u32 (x0 : Int), .int .u32 (y0 : Int)], .agg #[.int .u32 (x1 : Int), .int .u32 (y1 : Int)]] w fun e w' => e = .returned (.bool true) ∧ Below w.heap.size w w' := by
  have HR := hide hr
  have HN := hide hn
  have HL := hide hl
  have HB := hide hb
  clear hr hn hl hb
  go_enter Try.func8, Try.ntmps8
  go_wp2_with fail
  have e0 := heap_alloc_new w (.cells #[.int .u16 (p : Int), .int .u16 (q : Int), .bool pl, .slice da n dc] 40)
  have b1 := (Below.refl w.heap.size w).alloc (Nat.le_refl _) (.cells #[.int .u16 (p : Int), .int .u16 (q : Int), .bool pl, .slice da n dc] 40)
  have b2 := b1.alloc b1.size (.cells #[.int .u32 (x0 : Int), .int .u32 (y0 : Int)] 38)
  have b3 := b2.alloc b2.size (.cells #[.int .u32 (x1 : Int), .int .u32 (y1 : Int)] 38)
  obtain ⟨Ba, Bb, Bc, wq, hBa, hBb, hBc, hq1, hA, hBB, hC, hbel⟩ : ∃ Ba Bb Bc wq, w.heap.size = Ba ∧ w.heap.size + 1 = Bb ∧ w.heap.size + 1 + 1 = Bc ∧ ((w.alloc (.cells #[.int .u16 (p : Int), .int .u16 (q : Int), .bool pl, .slice da n dc] 40)).alloc (.cells #[.int .u32 (x0 : Int), .int .u32 (y0 : Int)] 38)).alloc (.cells #[.int .u32 (x1 : Int), .int .u32 (y1 : Int)] 38) = wq ∧
      wq.heap[Ba]? = some (.cells #[.int .u16 (p : Int), .int .u16 (q : Int), .bool pl, .slice da n dc] 40 (0, 0)) ∧ wq.heap[Bb]? = some (.cells #[.int .u32 (x0 : Int), .int .u32 (y0 : Int)] 38 (0, 0)) ∧ wq.heap[Bc]? = some (.cells #[.int .u32 (x1 : Int), .int .u32 (y1 : Int)] 38 (0, 0)) ∧ Below w.heap.size w wq := by
    refine ⟨_, _, _, _, rfl, rfl, rfl, rfl, ?_, ?_, ?_, b3⟩
    · rw [Below.heap_alloc _ _ _ (by simp; omega), Below.heap_alloc _ _ _ (by simp)]; exact e0
    · rw [Below.heap_alloc _ _ _ (by simp)]
      have h := heap_alloc_new (w.alloc (.cells #[.int .u16 (p : Int), .int .u16 (q : Int), .bool pl, .slice da n dc] 40)) (.cells #[.int .u32 (x0 : Int), .int .u32 (y0 : Int)] 38)
      simpa using h
    · have h := heap_alloc_new ((w.alloc (.cells #[.int .u16 (p : Int), .int .u16 (q : Int), .bool pl, .slice da n dc] 40)).alloc (.cells #[.int .u32 (x0 : Int), .int .u32 (y0 : Int)] 38)) (.cells #[.int .u32 (x1 : Int), .int .u32 (y1 : Int)] 38)
      simpa using h
  rw [hq1, hBc, hBb, hBa]
  have HBa := hide hBa
  have HA := hide hA
  have HBB := hide hBB
  have HC := hide hC
  have HQ := hide (HR.out.below hbel (Nat.le_refl _))
  have BQ := hide hbel
  clear e0 b1 b2 b3 hBa hBb hBc hq1 hA hBB hC hbel
  refine (speaks5_any wq).mono ?_
  rintro e w1 ⟨rfl, b1⟩
  have HA1 := hide (below_block b1 HA.out (Nat.le_refl _))
  have HB1 := hide (below_block b1 HBB.out (Nat.le_refl _))
  have HC1 := hide (below_block b1 HC.out (Nat.le_refl _))
  have HQ1 := hide (HQ.out.below b1 (Nat.le_refl _))
  have BQ1 := hide (BQ.out.trans (b1.mono BQ.out.size))
  clear b1 HA HBB HC HQ BQ
  obtain ⟨d0, d1, d2, d3, df⟩ := four_cells HA1.out
  have u0 := cell2_0 HB1.out
  have u1 := cell2_1 HB1.out
  clear df
  go_wp2_with fail
  refine (wudp_long w1 _ _ _ _ _ _ _ _ h4).mono ?_
  rintro e w2 ⟨rfl, b2⟩
  obtain ⟨d0', d1', d2', d3', df'⟩ := four_cells (below_block b2 HA1.out (Nat.le_refl _))
  have BQ2 := hide (BQ1.out.trans (b2.mono BQ1.out.size))
  have hd : decide ((1472 : Int) < (n : Int)) = true := by simp; omega
  clear b2 df'
  go_wp2
  go_ret
  exact ⟨rfl, BQ2.out⟩

set_option maxHeartbeats 1600000 in
theorem tp_plain (w : World) (p q : Nat) (da : Option Addr) (xs : List Int) (n dc : Nat) (x0 y0 x1 y1 : Nat) (hr : Row .u8 w da xs) (hn : da = none → dc = 0) (hl : xs.length = n) (hb : ∀ x ∈ xs, 0 ≤ x ∧ x ≤ 255) (hp : p ≤ 65535) (hq : q ≤ 65535)
    (h0 : x0 ≤ 4294967295) (h1 : y0 ≤ 4294967295) (h2 : x1 ≤ 4294967295) (h3 : y1 ≤ 4294967295) (h4 : n ≤ 1472) :
    Calls Try.prog 8 #[.agg #[.int .u16 (p : Int), .int .u16 (q : Int), .bool true, .slice da n dc], .agg #[.int .u32 (x0 : Int), .int .u32 (y0 : Int)], .agg #[.int .u32 (x1 : Int), .int .u32 (y1 : Int)]] w fun e w' => e = .returned (.bool true) ∧ Below w.heap.size w w' := by
  have HR := hide hr
  have HN := hide hn
  have HL := hide hl
  have HB := hide hb
  clear hr hn hl hb
  go_enter Try.func8, Try.ntmps8
  go_wp2_with fail
  have e0 := heap_alloc_new w (.cells #[.int .u16 (p : Int), .int .u16 (q : Int), .bool true, .slice da n dc] 40)
  have b1 := (Below.refl w.heap.size w).alloc (Nat.le_refl _) (.cells #[.int .u16 (p : Int), .int .u16 (q : Int), .bool true, .slice da n dc] 40)
  have b2 := b1.alloc b1.size (.cells #[.int .u32 (x0 : Int), .int .u32 (y0 : Int)] 38)
  have b3 := b2.alloc b2.size (.cells #[.int .u32 (x1 : Int), .int .u32 (y1 : Int)] 38)
  obtain ⟨Ba, Bb, Bc, wq, hBa, hBb, hBc, hq1, hA, hBB, hC, hbel⟩ : ∃ Ba Bb Bc wq, w.heap.size = Ba ∧ w.heap.size + 1 = Bb ∧ w.heap.size + 1 + 1 = Bc ∧ ((w.alloc (.cells #[.int .u16 (p : Int), .int .u16 (q : Int), .bool true, .slice da n dc] 40)).alloc (.cells #[.int .u32 (x0 : Int), .int .u32 (y0 : Int)] 38)).alloc (.cells #[.int .u32 (x1 : Int), .int .u32 (y1 : Int)] 38) = wq ∧
      wq.heap[Ba]? = some (.cells #[.int .u16 (p : Int), .int .u16 (q : Int), .bool true, .slice da n dc] 40 (0, 0)) ∧ wq.heap[Bb]? = some (.cells #[.int .u32 (x0 : Int), .int .u32 (y0 : Int)] 38 (0, 0)) ∧ wq.heap[Bc]? = some (.cells #[.int .u32 (x1 : Int), .int .u32 (y1 : Int)] 38 (0, 0)) ∧ Below w.heap.size w wq := by
    refine ⟨_, _, _, _, rfl, rfl, rfl, rfl, ?_, ?_, ?_, b3⟩
    · rw [Below.heap_alloc _ _ _ (by simp; omega), Below.heap_alloc _ _ _ (by simp)]; exact e0
    · rw [Below.heap_alloc _ _ _ (by simp)]
      have h := heap_alloc_new (w.alloc (.cells #[.int .u16 (p : Int), .int .u16 (q : Int), .bool true, .slice da n dc] 40)) (.cells #[.int .u32 (x0 : Int), .int .u32 (y0 : Int)] 38)
      simpa using h
    · have h := heap_alloc_new ((w.alloc (.cells #[.int .u16 (p : Int), .int .u16 (q : Int), .bool true, .slice da n dc] 40)).alloc (.cells #[.int .u32 (x0 : Int), .int .u32 (y0 : Int)] 38)) (.cells #[.int .u32 (x1 : Int), .int .u32 (y1 : Int)] 38)
      simpa using h
  rw [hq1, hBc, hBb, hBa]
  have HBa := hide hBa
  have HA := hide hA
  have HBB := hide hBB
  have HC := hide hC
  have HQ := hide (HR.out.below hbel (Nat.le_refl _))
  have BQ := hide hbel
  clear e0 b1 b2 b3 hBa hBb hBc hq1 hA hBB hC hbel
  refine (speaks5_any wq).mono ?_
  rintro e w1 ⟨rfl, b1⟩
  have HA1 := hide (below_block b1 HA.out (Nat.le_refl _))
  have HB1 := hide (below_block b1 HBB.out (Nat.le_refl _))
  have HC1 := hide (below_block b1 HC.out (Nat.le_refl _))
  have HQ1 := hide (HQ.out.below b1 (Nat.le_refl _))
  have BQ1 := hide (BQ.out.trans (b1.mono BQ.out.size))
  clear b1 HA HBB HC HQ BQ
  obtain ⟨d0, d1, d2, d3, df⟩ := four_cells HA1.out
  have u0 := cell2_0 HB1.out
  have u1 := cell2_1 HB1.out
  clear df
  go_wp2_with fail
  refine (wudp_plain w1 x0 y0 p q da xs n dc HQ1.out HN.out HL.out h4 h0 h1 hp hq).mono ?_
  rintro e w2 ⟨a2, c2, rfl, o2, b2⟩
  have HA2 := hide (below_block b2 HA1.out (Nat.le_refl _))
  have HB2 := hide (below_block b2 HB1.out (Nat.le_refl _))
  have HC2 := hide (below_block b2 HC1.out (Nat.le_refl _))
  have BQ2 := hide (BQ1.out.trans (b2.mono BQ1.out.size))
  have hcc : 8 + n ≤ c2 ∧ c2 ≤ 9223372036854775807 := by
    rcases o2.2 with ⟨_, h0⟩ | ⟨g, c', cur, hv, hg, _, h3, h4, _⟩
    · omega
    · obtain ⟨rfl, rfl⟩ : a2 = some ⟨g, 0, none⟩ ∧ c2 = c' := by simpa using hv
      exact ⟨by omega, by unfold maxLen at h4; omega⟩
  have O2 := hide (Row.of_owns o2)
  have hc1 := hcc.1
  have hc2 := hcc.2
  clear o2 b2 hcc HA1 HB1 HC1 BQ1 d0 d1 d2 d3 u0 u1
  have v0 := cell2_0 HC2.out
  have v1 := cell2_1 HC2.out
  have hrd := rudp_plain w2 x1 y1 a2 (udpZ p q xs) (8 + n) c2 p q (8 + n) 0 O2.out (by rw [udpZ_len, HL.out]) hc1 hc2 (udpZ_rng p q xs HB.out) (by omega) (by omega) (hide (udpG_0 p q xs 0 hp)) (hide (udpG_2 p q xs 0 hq)) (hide (by rw [udpZ_G, udpG_4 p q xs 0 (by rw [HL.out]; omega), HL.out])) (hide (udpG_6 p q xs 0 (by omega))) (by omega) (by omega) rfl
  rw [show 8 + n - 8 = n by omega] at hrd
  have HRD := hide hrd
  clear hrd
  go_wp2_with fail
  refine HRD.out.mono ?_
  rintro e w3 ⟨a3, c3, rfl, o3, b3⟩
  clear o3
  have HA3 := hide (below_block b3 HA2.out (Nat.le_refl _))
  have HB3 := hide (below_block b3 HB2.out (Nat.le_refl _))
  have HC3 := hide (below_block b3 HC2.out (Nat.le_refl _))
  have BQ3 := hide (BQ2.out.trans (b3.mono BQ2.out.size))
  clear b3 HA2 HB2 HC2 BQ2 v0 v1
  go_wp2_with fail
  obtain ⟨w4, hq4, b34⟩ : ∃ w4, w3.alloc (.cells #[.int .u16 (p : Int), .int .u16 (q : Int), .bool true, .slice a3 n c3] 40) = w4 ∧ Below w3.heap.size w3 w4 := ⟨_, rfl, (Below.refl _ _).alloc (Nat.le_refl _) _⟩
  rw [hq4]
  have hA4 := below_block b34 HA3.out (Nat.le_refl _)
  have hB4 := below_block b34 HB3.out (Nat.le_refl _)
  have hC4 := below_block b34 HC3.out (Nat.le_refl _)
  have BQ4 := hide (BQ3.out.trans (b34.mono BQ3.out.size))
  obtain ⟨d0, d1, d2, d3, df⟩ := four_cells hA4
  have u0 := cell2_0 hB4
  have u1 := cell2_1 hB4
  have v0 := cell2_0 hC4
  have v1 := cell2_1 hC4
  have lA := lt_of_block hA4
  have lB := lt_of_block hB4
  have lC := lt_of_block hC4
  clear hq4 b34 HA3 HB3 HC3 BQ3 df hA4 hB4 hC4 d0 d1 d3
  go_quiet (fail)
  go_wp2
  go_ret
  exact ⟨rfl, bdrewN BQ4.out _⟩

set_option maxHeartbeats 1600000 in
theorem tp_eq (w : World) (p q : Nat) (da : Option Addr) (xs : List Int) (n dc : Nat) (x0 y0 x1 y1 : Nat) (hr : Row .u8 w da xs) (hn : da = none → dc = 0) (hl : xs.length = n) (hb : ∀ x ∈ xs, 0 ≤ x ∧ x ≤ 255) (hp : p ≤ 65535) (hq : q ≤ 65535)
    (h0 : x0 ≤ 4294967295) (h1 : y0 ≤ 4294967295) (h2 : x1 ≤ 4294967295) (h3 : y1 ≤ 4294967295) (h4 : n ≤ 1472) (heq : (wrds x0 y0 % 65535 : Nat) = (wrds x1 y1 % 65535 : Nat)) :
    Calls Try.prog 8 #[.agg #[.int .u16 (p : Int), .int .u16 (q : Int), .bool false, .slice da n dc], .agg #[.int .u32 (x0 : Int), .int .u32 (y0 : Int)], .agg #[.int .u32 (x1 : Int), .int .u32 (y1 : Int)]] w fun e w' => e = .returned (.bool true) ∧ Below w.heap.size w w' := by
  have HR := hide hr
  have HN := hide hn
  have HL := hide hl
  have HB := hide hb
  clear hr hn hl hb
  go_enter Try.func8, Try.ntmps8
  go_wp2_with fail
  have e0 := heap_alloc_new w (.cells #[.int .u16 (p : Int), .int .u16 (q : Int), .bool false, .slice da n dc] 40)
  have b1 := (Below.refl w.heap.size w).alloc (Nat.le_refl _) (.cells #[.int .u16 (p : Int), .int .u16 (q : Int), .bool false, .slice da n dc] 40)
  have b2 := b1.alloc b1.size (.cells #[.int .u32 (x0 : Int), .int .u32 (y0 : Int)] 38)
  have b3 := b2.alloc b2.size (.cells #[.int .u32 (x1 : Int), .int .u32 (y1 : Int)] 38)
  obtain ⟨Ba, Bb, Bc, wq, hBa, hBb, hBc, hq1, hA, hBB, hC, hbel⟩ : ∃ Ba Bb Bc wq, w.heap.size = Ba ∧ w.heap.size + 1 = Bb ∧ w.heap.size + 1 + 1 = Bc ∧ ((w.alloc (.cells #[.int .u16 (p : Int), .int .u16 (q : Int), .bool false, .slice da n dc] 40)).alloc (.cells #[.int .u32 (x0 : Int), .int .u32 (y0 : Int)] 38)).alloc (.cells #[.int .u32 (x1 : Int), .int .u32 (y1 : Int)] 38) = wq ∧
      wq.heap[Ba]? = some (.cells #[.int .u16 (p : Int), .int .u16 (q : Int), .bool false, .slice da n dc] 40 (0, 0)) ∧ wq.heap[Bb]? = some (.cells #[.int .u32 (x0 : Int), .int .u32 (y0 : Int)] 38 (0, 0)) ∧ wq.heap[Bc]? = some (.cells #[.int .u32 (x1 : Int), .int .u32 (y1 : Int)] 38 (0, 0)) ∧ Below w.heap.size w wq := by
    refine ⟨_, _, _, _, rfl, rfl, rfl, rfl, ?_, ?_, ?_, b3⟩
    · rw [Below.heap_alloc _ _ _ (by simp; omega), Below.heap_alloc _ _ _ (by simp)]; exact e0
    · rw [Below.heap_alloc _ _ _ (by simp)]
      have h := heap_alloc_new (w.alloc (.cells #[.int .u16 (p : Int), .int .u16 (q : Int), .bool false, .slice da n dc] 40)) (.cells #[.int .u32 (x0 : Int), .int .u32 (y0 : Int)] 38)
      simpa using h
    · have h := heap_alloc_new ((w.alloc (.cells #[.int .u16 (p : Int), .int .u16 (q : Int), .bool false, .slice da n dc] 40)).alloc (.cells #[.int .u32 (x0 : Int), .int .u32 (y0 : Int)] 38)) (.cells #[.int .u32 (x1 : Int), .int .u32 (y1 : Int)] 38)
      simpa using h
  rw [hq1, hBc, hBb, hBa]
  have HBa := hide hBa
  have HA := hide hA
  have HBB := hide hBB
  have HC := hide hC
  have HQ := hide (HR.out.below hbel (Nat.le_refl _))
  have BQ := hide hbel
  clear e0 b1 b2 b3 hBa hBb hBc hq1 hA hBB hC hbel
  refine (speaks5_any wq).mono ?_
  rintro e w1 ⟨rfl, b1⟩
  have HA1 := hide (below_block b1 HA.out (Nat.le_refl _))
  have HB1 := hide (below_block b1 HBB.out (Nat.le_refl _))
  have HC1 := hide (below_block b1 HC.out (Nat.le_refl _))
  have HQ1 := hide (HQ.out.below b1 (Nat.le_refl _))
  have BQ1 := hide (BQ.out.trans (b1.mono BQ.out.size))
  clear b1 HA HBB HC HQ BQ
  obtain ⟨d0, d1, d2, d3, df⟩ := four_cells HA1.out
  have u0 := cell2_0 HB1.out
  have u1 := cell2_1 HB1.out
  clear df
  go_wp2_with fail
  refine (wudp_sum w1 x0 y0 p q da xs n dc HQ1.out HN.out HL.out HB.out h4 h0 h1 hp hq).mono ?_
  rintro e w2 ⟨a2, c2, rfl, o2, b2⟩
  have HA2 := hide (below_block b2 HA1.out (Nat.le_refl _))
  have HB2 := hide (below_block b2 HB1.out (Nat.le_refl _))
  have HC2 := hide (below_block b2 HC1.out (Nat.le_refl _))
  have BQ2 := hide (BQ1.out.trans (b2.mono BQ1.out.size))
  have hcc : 8 + n ≤ c2 ∧ c2 ≤ 9223372036854775807 := by
    rcases o2.2 with ⟨_, h0⟩ | ⟨g, c', cur, hv, hg, _, h3, h4, _⟩
    · omega
    · obtain ⟨rfl, rfl⟩ : a2 = some ⟨g, 0, none⟩ ∧ c2 = c' := by simpa using hv
      exact ⟨by omega, by unfold maxLen at h4; omega⟩
  have O2 := hide (Row.of_owns o2)
  have hc1 := hcc.1
  have hc2 := hcc.2
  clear o2 b2 hcc HA1 HB1 HC1 BQ1 d0 d1 d2 d3 u0 u1
  have v0 := cell2_0 HC2.out
  have v1 := cell2_1 HC2.out
  have hiff := udpK_iff x0 y0 x1 y1 p q xs h0 h1 h2 h3 hp hq HB.out (by rw [HL.out]; omega)
  have hkr := udpK_rng x0 y0 p q xs
  have hkp := udpK_pos x0 y0 p q xs
  have hkk : (udpK x0 y0 p q xs).toNat ≤ 65535 ∧ (udpK x0 y0 p q xs).toNat ≠ 0 := by omega
  have hG := udpS_G x0 y0 p q xs
  have HG := hide hG
  have HCS : Hid ((csum (psB x1 y1 17 (8 + n) ++ (udpS x0 y0 p q xs).take (8 + n)) == 0) = true) := hide (by
    rw [List.take_of_length_le (by rw [hG, udpG_len, HL.out]; omega)]
    rw [HL.out] at hiff
    exact beq_iff_eq.2 (hiff.2 heq))
  have hrd := rudp_ok w2 x1 y1 a2 (udpS x0 y0 p q xs) (8 + n) c2 p q (8 + n) (udpK x0 y0 p q xs).toNat O2.out (by rw [hG, udpG_len, HL.out]) hc1 hc2 (by rw [hG]; exact udpG_rng _ _ _ _ HB.out) (by omega) (by omega) (hide (by rw [hG]; exact udpG_0 p q xs _ hp)) (hide (by rw [hG]; exact udpG_2 p q xs _ hq)) (hide (by rw [hG, udpG_4 p q xs _ (by rw [HL.out]; omega), HL.out])) (hide (by rw [hG]; exact udpG_6 p q xs _ hkk.1)) (by omega) (by omega) hkk.2 h2 h3 HCS
  rw [show 8 + n - 8 = n by omega] at hrd
  have HRD := hide hrd
  have HEQ := hide heq
  have hwe : (((wrds x0 y0 % 65535 : Nat) : Int) == ((wrds x1 y1 % 65535 : Nat) : Int)) = true := by rw [heq]; simp
  have HW1 := hide (fun W => words_any x0 y0 W h0 h1)
  have HW2 := hide (fun W => words_any x1 y1 W h2 h3)
  generalize ((wrds x0 y0 % 65535 : Nat) : Int) = W0 at *
  generalize ((wrds x1 y1 % 65535 : Nat) : Int) = W1 at *
  clear hrd hiff hkr hkp hkk hG HCS heq
  go_wp2_with fail
  refine HRD.out.mono ?_
  rintro e w3 ⟨a3, c3, rfl, o3, b3⟩
  clear o3
  have HA3 := hide (below_block b3 HA2.out (Nat.le_refl _))
  have HB3 := hide (below_block b3 HB2.out (Nat.le_refl _))
  have HC3 := hide (below_block b3 HC2.out (Nat.le_refl _))
  have BQ3 := hide (BQ2.out.trans (b3.mono BQ2.out.size))
  clear b3 HA2 HB2 HC2 BQ2 v0 v1
  go_wp2_with fail
  obtain ⟨w4, hq4, b34⟩ : ∃ w4, w3.alloc (.cells #[.int .u16 (p : Int), .int .u16 (q : Int), .bool false, .slice a3 n c3] 40) = w4 ∧ Below w3.heap.size w3 w4 := ⟨_, rfl, (Below.refl _ _).alloc (Nat.le_refl _) _⟩
  rw [hq4]
  have hA4 := below_block b34 HA3.out (Nat.le_refl _)
  have hB4 := below_block b34 HB3.out (Nat.le_refl _)
  have hC4 := below_block b34 HC3.out (Nat.le_refl _)
  have BQ4 := hide (BQ3.out.trans (b34.mono BQ3.out.size))
  obtain ⟨d0, d1, d2, d3, df⟩ := four_cells hA4
  have u0 := cell2_0 hB4
  have u1 := cell2_1 hB4
  have v0 := cell2_0 hC4
  have v1 := cell2_1 hC4
  have lA := lt_of_block hA4
  have lB := lt_of_block hB4
  have lC := lt_of_block hC4
  clear hq4 b34 HA3 HB3 HC3 BQ3 df hA4 hB4 hC4 d0 d1 d3
  refine wp_region_held_drew (S := (fun w' => w'.cell? ⟨Ba, 2, none⟩ = some (.bool false) ∧ w'.cell? ⟨Bb, 0, none⟩ = some (.int .u32 x0) ∧ w'.cell? ⟨Bb, 1, none⟩ = some (.int .u32 y0) ∧ w'.cell? ⟨Bc, 0, none⟩ = some (.int .u32 x1) ∧ w'.cell? ⟨Bc, 1, none⟩ = some (.int .u32 y1))) (by kernel_rfl) (by go_keep) (fun hHeld => ?_)
  refine wpAnyH_take (i := 0) (oi := { dst := some 42, op := Op.move (Operand.tmp 10), type := 29, pos := "law.go:139", after := #[], guard := none }) (v := ?_) rfl (by kernel_rfl) (by kernel_rfl) (by kernel_rfl) (fun _ _ _ h => h) (Or.inl ⟨by rfl, ?_⟩) (by assumption) ?_
  rotate_left
  · intro wS hSw
    try dsimp only at hSw
    go_simp
    try with_reducible rfl
  try simp only [Act.put, List.setIfInBounds_toArray, List.set_cons_zero, List.set_cons_succ]
  refine wpAnyH_take (i := 1) (oi := { dst := some 43, op := Op.binOp BinOp.eql 29 (Operand.tmp 42) (Operand.const (Value.int IntKind.i64 0)) 29, type := 4, pos := "law.go:139", after := #[{ on := 0, ground := Ground.data }], guard := none }) (v := ?_) rfl (by kernel_rfl) (by kernel_rfl) (by kernel_rfl) (fun _ _ _ h => h) (Or.inl ⟨by rfl, ?_⟩) (by assumption) ?_
  rotate_left
  · intro wS hSw
    try dsimp only at hSw
    go_simp
    try with_reducible rfl
  try simp only [Act.put, List.setIfInBounds_toArray, List.set_cons_zero, List.set_cons_succ]
  refine wpAnyH_take (i := 2) (oi := { dst := some 44, op := Op.fieldAddr 40 (Operand.tmp 3) 2, type := 0, pos := "law.go:139", after := #[], guard := none }) (v := ?_) rfl (by kernel_rfl) (by kernel_rfl) (by kernel_rfl) (fun _ _ _ h => h) (Or.inl ⟨by rfl, ?_⟩) (by assumption) ?_
  rotate_left
  · intro wS hSw
    try dsimp only at hSw
    go_simp
    try with_reducible rfl
  try simp only [Act.put, List.setIfInBounds_toArray, List.set_cons_zero, List.set_cons_succ]
  refine wpAnyH_take (i := 3) (oi := { dst := some 45, op := Op.load 4 (Operand.tmp 44), type := 4, pos := "law.go:139", after := #[{ on := 2, ground := Ground.data }], guard := none }) (v := ?_) rfl (by kernel_rfl) (by kernel_rfl) (by kernel_rfl) (fun _ _ _ h => h) (Or.inl ⟨by rfl, ?_⟩) (by assumption) ?_
  rotate_left
  · intro wS hSw
    try dsimp only at hSw
    go_simp
    try with_reducible rfl
  try simp only [Act.put, List.setIfInBounds_toArray, List.set_cons_zero, List.set_cons_succ]
  refine wpAnyH_take (i := 4) (oi := { dst := some 46, op := Op.move (Operand.tmp 45), type := 4, pos := "law.go:139", after := #[{ on := 3, ground := Ground.data }], guard := none }) (v := ?_) rfl (by kernel_rfl) (by kernel_rfl) (by kernel_rfl) (fun _ _ _ h => h) (Or.inl ⟨by rfl, ?_⟩) (by assumption) ?_
  rotate_left
  · intro wS hSw
    try dsimp only at hSw
    go_simp
    try with_reducible rfl
  try simp only [Act.put, List.setIfInBounds_toArray, List.set_cons_zero, List.set_cons_succ]
  refine wpAnyH_take (i := 5) (oi := { dst := some 47, op := Op.move (Operand.tmp 11), type := 65, pos := "law.go:139", after := #[{ on := 4, ground := Ground.guard }], guard := some (4, false) }) (v := ?_) rfl (by kernel_rfl) (by kernel_rfl) (by kernel_rfl) (fun _ _ _ h => h) (Or.inl ⟨by rfl, ?_⟩) (by assumption) ?_
  rotate_left
  · intro wS hSw
    try dsimp only at hSw
    go_simp
    try with_reducible rfl
  try simp only [Act.put, List.setIfInBounds_toArray, List.set_cons_zero, List.set_cons_succ]
  refine wpAnyH_take (i := 6) (oi := { dst := some 48, op := Op.load 38 (Operand.tmp 4), type := 38, pos := "law.go:139", after := #[{ on := 4, ground := Ground.guard }], guard := some (4, false) }) (v := ?_) rfl (by kernel_rfl) (by kernel_rfl) (by kernel_rfl) (fun _ _ _ h => h) (Or.inl ⟨by rfl, ?_⟩) (by assumption) ?_
  rotate_left
  · intro wS hSw
    try dsimp only at hSw
    go_simp
    try with_reducible rfl
  try simp only [Act.put, List.setIfInBounds_toArray, List.set_cons_zero, List.set_cons_succ]
  refine wpAnyH_take (i := 8) (oi := { dst := some 50, op := Op.move (Operand.tmp 11), type := 65, pos := "law.go:139", after := #[{ on := 4, ground := Ground.guard }], guard := some (4, false) }) (v := ?_) rfl (by kernel_rfl) (by kernel_rfl) (by kernel_rfl) (fun _ _ _ h => h) (Or.inl ⟨by rfl, ?_⟩) (by assumption) ?_
  rotate_left
  · intro wS hSw
    try dsimp only at hSw
    go_simp
    try with_reducible rfl
  try simp only [Act.put, List.setIfInBounds_toArray, List.set_cons_zero, List.set_cons_succ]
  refine wpAnyH_take (i := 9) (oi := { dst := some 51, op := Op.load 38 (Operand.tmp 5), type := 38, pos := "law.go:139", after := #[{ on := 4, ground := Ground.guard }], guard := some (4, false) }) (v := ?_) rfl (by kernel_rfl) (by kernel_rfl) (by kernel_rfl) (fun _ _ _ h => h) (Or.inl ⟨by rfl, ?_⟩) (by assumption) ?_
  rotate_left
  · intro wS hSw
    try dsimp only at hSw
    go_simp
    try with_reducible rfl
  try simp only [Act.put, List.setIfInBounds_toArray, List.set_cons_zero, List.set_cons_succ]
  refine wpAnyH_ready (rs := [7]) (by kernel_rfl) (by simp) ?_
  refine AllReadyH.cons (o := { dst := some 49, op := Op.call { callee := Callee.value (Operand.tmp 47), args := #[Operand.tmp 48], argTypes := #[38] }, type := 64, pos := "law.go:139", after := #[{ on := 5, ground := Ground.data }, { on := 6, ground := Ground.data }, { on := 4, ground := Ground.chain }, { on := 4, ground := Ground.guard }], guard := some (4, false) }) rfl (fun K hK => ?_) AllReadyH.nil
  go_simp
  (with_reducible refine (HW1.out _).mono ?_)
  rintro e w5 ⟨rfl, b5⟩
  have k0 := (bcell b5 Ba 2 lA).trans d2
  have k1 := (bcell b5 Bb 0 lB).trans u0
  have k2 := (bcell b5 Bb 1 lB).trans u1
  have k3 := (bcell b5 Bc 0 lC).trans v0
  have k4 := (bcell b5 Bc 1 lC).trans v1
  have lA5 : Ba < w5.heap.size := Nat.lt_of_lt_of_le lA b5.size
  have lB5 : Bb < w5.heap.size := Nat.lt_of_lt_of_le lB b5.size
  have lC5 : Bc < w5.heap.size := Nat.lt_of_lt_of_le lC b5.size
  have b45 : Below w4.heap.size w4 w5 := below_of_drew b5
  have B5 := hide b45
  clear b5 b45
  refine hK.out _ _ ?_ (fun hHeld => ?_)
  · try dsimp only
    go_keep
  clear hK K
  try simp only [Act.put, List.setIfInBounds_toArray, List.set_cons_zero, List.set_cons_succ]
  refine wpAnyH_ready (rs := [10]) (by kernel_rfl) (by simp) ?_
  refine AllReadyH.cons (o := { dst := some 52, op := Op.call { callee := Callee.value (Operand.tmp 50), args := #[Operand.tmp 51], argTypes := #[38] }, type := 64, pos := "law.go:139", after := #[{ on := 8, ground := Ground.data }, { on := 9, ground := Ground.data }, { on := 7, ground := Ground.chain }, { on := 4, ground := Ground.guard }], guard := some (4, false) }) rfl (fun K hK => ?_) AllReadyH.nil
  go_simp
  (with_reducible refine (HW2.out _).mono ?_)
  rintro e w6 ⟨rfl, b6⟩
  have j0 := (bcell b6 Ba 2 lA5).trans k0
  have j1 := (bcell b6 Bb 0 lB5).trans k1
  have j2 := (bcell b6 Bb 1 lB5).trans k2
  have j3 := (bcell b6 Bc 0 lC5).trans k3
  have j4 := (bcell b6 Bc 1 lC5).trans k4
  have B6 := hide b6
  clear b6
  refine hK.out _ _ ?_ (fun hHeld => ?_)
  · try dsimp only
    go_keep
  clear hK K
  try simp only [Act.put, List.setIfInBounds_toArray, List.set_cons_zero, List.set_cons_succ]
  refine wpAnyH_take (i := 11) (oi := { dst := some 53, op := Op.binOp BinOp.eql 64 (Operand.tmp 49) (Operand.tmp 52) 64, type := 4, pos := "law.go:139", after := #[{ on := 7, ground := Ground.data }, { on := 10, ground := Ground.data }, { on := 4, ground := Ground.guard }], guard := some (4, false) }) (v := ?_) rfl (by kernel_rfl) (by kernel_rfl) (by kernel_rfl) (fun _ _ _ h => h) (Or.inl ⟨by rfl, ?_⟩) (by assumption) ?_
  rotate_left
  · intro wS hSw
    try dsimp only at hSw
    go_simp
    try with_reducible rfl
  try simp only [Act.put, List.setIfInBounds_toArray, List.set_cons_zero, List.set_cons_succ]
  refine wpAnyH_take (i := 12) (oi := { dst := some 54, op := Op.pick (Operand.tmp 46) (Operand.const (Value.bool true)) (Operand.tmp 53), type := 4, pos := "law.go:139", after := #[{ on := 4, ground := Ground.data }, { on := 11, ground := Ground.data }], guard := none }) (v := ?_) rfl (by kernel_rfl) (by kernel_rfl) (by kernel_rfl) (fun _ _ _ h => h) (Or.inl ⟨by rfl, ?_⟩) (by assumption) ?_
  rotate_left
  · intro wS hSw
    try dsimp only at hSw
    go_simp
    try with_reducible rfl
  try simp only [Act.put, List.setIfInBounds_toArray, List.set_cons_zero, List.set_cons_succ]
  refine wpAnyH_take (i := 13) (oi := { dst := some 55, op := Op.binOp BinOp.eql 4 (Operand.tmp 43) (Operand.tmp 54) 4, type := 4, pos := "law.go:139", after := #[{ on := 1, ground := Ground.data }, { on := 12, ground := Ground.data }], guard := none }) (v := ?_) rfl (by kernel_rfl) (by kernel_rfl) (by kernel_rfl) (fun _ _ _ h => h) (Or.inl ⟨by rfl, ?_⟩) (by assumption) ?_
  rotate_left
  · intro wS hSw
    try dsimp only at hSw
    go_simp
    try with_reducible rfl
  try simp only [Act.put, List.setIfInBounds_toArray, List.set_cons_zero, List.set_cons_succ]
  refine wpAnyH_take (i := 14) (oi := { dst := some 56, op := Op.move (Operand.tmp 55), type := 4, pos := "law.go:139", after := #[{ on := 13, ground := Ground.data }, { on := 10, ground := Ground.chain }], guard := none }) (v := ?_) rfl (by kernel_rfl) (by kernel_rfl) (by kernel_rfl) (fun _ _ _ h => h) (Or.inl ⟨by rfl, ?_⟩) (by assumption) ?_
  rotate_left
  · intro wS hSw
    try dsimp only at hSw
    go_simp
    try with_reducible rfl
  try simp only [Act.put, List.setIfInBounds_toArray, List.set_cons_zero, List.set_cons_succ]
  refine wpAnyH_take (i := 15) (oi := { dst := some 57, op := Op.move (Operand.tmp 10), type := 29, pos := "law.go:139", after := #[{ on := 14, ground := Ground.guard }], guard := some (14, true) }) (v := ?_) rfl (by kernel_rfl) (by kernel_rfl) (by kernel_rfl) (fun _ _ _ h => h) (Or.inl ⟨by rfl, ?_⟩) (by assumption) ?_
  rotate_left
  · intro wS hSw
    try dsimp only at hSw
    go_simp
    try with_reducible rfl
  try simp only [Act.put, List.setIfInBounds_toArray, List.set_cons_zero, List.set_cons_succ]
  refine wpAnyH_take (i := 16) (oi := { dst := some 58, op := Op.binOp BinOp.eql 29 (Operand.tmp 57) (Operand.const (Value.int IntKind.i64 0)) 29, type := 4, pos := "law.go:139", after := #[{ on := 15, ground := Ground.data }, { on := 14, ground := Ground.guard }], guard := some (14, true) }) (v := ?_) rfl (by kernel_rfl) (by kernel_rfl) (by kernel_rfl) (fun _ _ _ h => h) (Or.inl ⟨by rfl, ?_⟩) (by assumption) ?_
  rotate_left
  · intro wS hSw
    try dsimp only at hSw
    go_simp
    try with_reducible rfl
  try simp only [Act.put, List.setIfInBounds_toArray, List.set_cons_zero, List.set_cons_succ]
  refine wpAnyH_take (i := 17) (oi := { dst := some 59, op := Op.move (Operand.tmp 58), type := 4, pos := "law.go:139", after := #[{ on := 16, ground := Ground.data }, { on := 14, ground := Ground.chain }, { on := 14, ground := Ground.guard }], guard := some (14, true) }) (v := ?_) rfl (by kernel_rfl) (by kernel_rfl) (by kernel_rfl) (fun _ _ _ h => h) (Or.inl ⟨by rfl, ?_⟩) (by assumption) ?_
  rotate_left
  · intro wS hSw
    try dsimp only at hSw
    go_simp
    try with_reducible rfl
  try simp only [Act.put, List.setIfInBounds_toArray, List.set_cons_zero, List.set_cons_succ]
  refine wpAnyH_take (i := 18) (oi := { dst := some 60, op := Op.move (Operand.tmp 10), type := 29, pos := "law.go:139", after := #[{ on := 17, ground := Ground.guard }], guard := some (17, false) }) (v := undef) rfl (by kernel_rfl) (by kernel_rfl) (by kernel_rfl) (fun _ _ _ h => h) (Or.inr ⟨by rfl, rfl⟩) (by assumption) ?_
  try simp only [Act.put, List.setIfInBounds_toArray, List.set_cons_zero, List.set_cons_succ]
  refine wpAnyH_take (i := 19) (oi := { dst := some 61, op := Op.binOp BinOp.eql 29 (Operand.tmp 60) (Operand.const (Value.int IntKind.i64 12)) 29, type := 4, pos := "law.go:139", after := #[{ on := 18, ground := Ground.data }, { on := 17, ground := Ground.guard }], guard := some (17, false) }) (v := undef) rfl (by kernel_rfl) (by kernel_rfl) (by kernel_rfl) (fun _ _ _ h => h) (Or.inr ⟨by rfl, rfl⟩) (by assumption) ?_
  try simp only [Act.put, List.setIfInBounds_toArray, List.set_cons_zero, List.set_cons_succ]
  refine wpAnyH_take (i := 20) (oi := { dst := some 62, op := Op.pick (Operand.tmp 59) (Operand.const (Value.bool true)) (Operand.tmp 61), type := 4, pos := "law.go:139", after := #[{ on := 17, ground := Ground.data }, { on := 19, ground := Ground.data }, { on := 14, ground := Ground.guard }], guard := some (14, true) }) (v := ?_) rfl (by kernel_rfl) (by kernel_rfl) (by kernel_rfl) (fun _ _ _ h => h) (Or.inl ⟨by rfl, ?_⟩) (by assumption) ?_
  rotate_left
  · intro wS hSw
    try dsimp only at hSw
    go_simp
    try with_reducible rfl
  try simp only [Act.put, List.setIfInBounds_toArray, List.set_cons_zero, List.set_cons_succ]
  refine wpAnyH_take (i := 21) (oi := { dst := some 63, op := Op.pick (Operand.tmp 56) (Operand.tmp 62) (Operand.const (Value.bool false)), type := 4, pos := "law.go:139", after := #[{ on := 14, ground := Ground.data }, { on := 20, ground := Ground.data }], guard := none }) (v := ?_) rfl (by kernel_rfl) (by kernel_rfl) (by kernel_rfl) (fun _ _ _ h => h) (Or.inl ⟨by rfl, ?_⟩) (by assumption) ?_
  rotate_left
  · intro wS hSw
    try dsimp only at hSw
    go_simp
    try with_reducible rfl
  try simp only [Act.put, List.setIfInBounds_toArray, List.set_cons_zero, List.set_cons_succ]
  refine wpAnyH_take (i := 22) (oi := { dst := some 6, op := Op.assign (Operand.tmp 63), type := 4, pos := "law.go:139", after := #[{ on := 21, ground := Ground.data }, { on := 17, ground := Ground.chain }, { on := 0, ground := Ground.phase }, { on := 1, ground := Ground.phase }, { on := 2, ground := Ground.phase }, { on := 3, ground := Ground.phase }, { on := 4, ground := Ground.phase }, { on := 5, ground := Ground.phase }, { on := 6, ground := Ground.phase }, { on := 7, ground := Ground.phase }, { on := 8, ground := Ground.phase }, { on := 9, ground := Ground.phase }, { on := 10, ground := Ground.phase }, { on := 11, ground := Ground.phase }, { on := 12, ground := Ground.phase }, { on := 13, ground := Ground.phase }, { on := 14, ground := Ground.phase }, { on := 15, ground := Ground.phase }, { on := 16, ground := Ground.phase }, { on := 17, ground := Ground.phase }, { on := 18, ground := Ground.phase }, { on := 19, ground := Ground.phase }, { on := 20, ground := Ground.phase }, { on := 21, ground := Ground.phase }], guard := none }) (v := ?_) rfl (by kernel_rfl) (by kernel_rfl) (by kernel_rfl) (fun _ _ _ h => h) (Or.inl ⟨by rfl, ?_⟩) (by assumption) ?_
  rotate_left
  · intro wS hSw
    try dsimp only at hSw
    go_simp
    try with_reducible rfl
  try simp only [Act.put, List.setIfInBounds_toArray, List.set_cons_zero, List.set_cons_succ]
  refine wpAnyH_done (by kernel_rfl) ?_ _
  all_goals
    have B46 := B5.out.trans (B6.out.mono B5.out.size)
    have BF := hide (BQ4.out.trans (B46.mono BQ4.out.size))
    clear B46
    go_wp2
    go_ret
    exact ⟨rfl, BF.out⟩

set_option maxHeartbeats 1600000 in
theorem tp_ne (w : World) (p q : Nat) (da : Option Addr) (xs : List Int) (n dc : Nat) (x0 y0 x1 y1 : Nat) (hr : Row .u8 w da xs) (hn : da = none → dc = 0) (hl : xs.length = n) (hb : ∀ x ∈ xs, 0 ≤ x ∧ x ≤ 255) (hp : p ≤ 65535) (hq : q ≤ 65535)
    (h0 : x0 ≤ 4294967295) (h1 : y0 ≤ 4294967295) (h2 : x1 ≤ 4294967295) (h3 : y1 ≤ 4294967295) (h4 : n ≤ 1472) (heq : (wrds x0 y0 % 65535 : Nat) ≠ (wrds x1 y1 % 65535 : Nat)) :
    Calls Try.prog 8 #[.agg #[.int .u16 (p : Int), .int .u16 (q : Int), .bool false, .slice da n dc], .agg #[.int .u32 (x0 : Int), .int .u32 (y0 : Int)], .agg #[.int .u32 (x1 : Int), .int .u32 (y1 : Int)]] w fun e w' => e = .returned (.bool true) ∧ Below w.heap.size w w' := by
  have HR := hide hr
  have HN := hide hn
  have HL := hide hl
  have HB := hide hb
  clear hr hn hl hb
  go_enter Try.func8, Try.ntmps8
  go_wp2_with fail
  have e0 := heap_alloc_new w (.cells #[.int .u16 (p : Int), .int .u16 (q : Int), .bool false, .slice da n dc] 40)
  have b1 := (Below.refl w.heap.size w).alloc (Nat.le_refl _) (.cells #[.int .u16 (p : Int), .int .u16 (q : Int), .bool false, .slice da n dc] 40)
  have b2 := b1.alloc b1.size (.cells #[.int .u32 (x0 : Int), .int .u32 (y0 : Int)] 38)
  have b3 := b2.alloc b2.size (.cells #[.int .u32 (x1 : Int), .int .u32 (y1 : Int)] 38)
  obtain ⟨Ba, Bb, Bc, wq, hBa, hBb, hBc, hq1, hA, hBB, hC, hbel⟩ : ∃ Ba Bb Bc wq, w.heap.size = Ba ∧ w.heap.size + 1 = Bb ∧ w.heap.size + 1 + 1 = Bc ∧ ((w.alloc (.cells #[.int .u16 (p : Int), .int .u16 (q : Int), .bool false, .slice da n dc] 40)).alloc (.cells #[.int .u32 (x0 : Int), .int .u32 (y0 : Int)] 38)).alloc (.cells #[.int .u32 (x1 : Int), .int .u32 (y1 : Int)] 38) = wq ∧
      wq.heap[Ba]? = some (.cells #[.int .u16 (p : Int), .int .u16 (q : Int), .bool false, .slice da n dc] 40 (0, 0)) ∧ wq.heap[Bb]? = some (.cells #[.int .u32 (x0 : Int), .int .u32 (y0 : Int)] 38 (0, 0)) ∧ wq.heap[Bc]? = some (.cells #[.int .u32 (x1 : Int), .int .u32 (y1 : Int)] 38 (0, 0)) ∧ Below w.heap.size w wq := by
    refine ⟨_, _, _, _, rfl, rfl, rfl, rfl, ?_, ?_, ?_, b3⟩
    · rw [Below.heap_alloc _ _ _ (by simp; omega), Below.heap_alloc _ _ _ (by simp)]; exact e0
    · rw [Below.heap_alloc _ _ _ (by simp)]
      have h := heap_alloc_new (w.alloc (.cells #[.int .u16 (p : Int), .int .u16 (q : Int), .bool false, .slice da n dc] 40)) (.cells #[.int .u32 (x0 : Int), .int .u32 (y0 : Int)] 38)
      simpa using h
    · have h := heap_alloc_new ((w.alloc (.cells #[.int .u16 (p : Int), .int .u16 (q : Int), .bool false, .slice da n dc] 40)).alloc (.cells #[.int .u32 (x0 : Int), .int .u32 (y0 : Int)] 38)) (.cells #[.int .u32 (x1 : Int), .int .u32 (y1 : Int)] 38)
      simpa using h
  rw [hq1, hBc, hBb, hBa]
  have HBa := hide hBa
  have HA := hide hA
  have HBB := hide hBB
  have HC := hide hC
  have HQ := hide (HR.out.below hbel (Nat.le_refl _))
  have BQ := hide hbel
  clear e0 b1 b2 b3 hBa hBb hBc hq1 hA hBB hC hbel
  refine (speaks5_any wq).mono ?_
  rintro e w1 ⟨rfl, b1⟩
  have HA1 := hide (below_block b1 HA.out (Nat.le_refl _))
  have HB1 := hide (below_block b1 HBB.out (Nat.le_refl _))
  have HC1 := hide (below_block b1 HC.out (Nat.le_refl _))
  have HQ1 := hide (HQ.out.below b1 (Nat.le_refl _))
  have BQ1 := hide (BQ.out.trans (b1.mono BQ.out.size))
  clear b1 HA HBB HC HQ BQ
  obtain ⟨d0, d1, d2, d3, df⟩ := four_cells HA1.out
  have u0 := cell2_0 HB1.out
  have u1 := cell2_1 HB1.out
  clear df
  go_wp2_with fail
  refine (wudp_sum w1 x0 y0 p q da xs n dc HQ1.out HN.out HL.out HB.out h4 h0 h1 hp hq).mono ?_
  rintro e w2 ⟨a2, c2, rfl, o2, b2⟩
  have HA2 := hide (below_block b2 HA1.out (Nat.le_refl _))
  have HB2 := hide (below_block b2 HB1.out (Nat.le_refl _))
  have HC2 := hide (below_block b2 HC1.out (Nat.le_refl _))
  have BQ2 := hide (BQ1.out.trans (b2.mono BQ1.out.size))
  have hcc : 8 + n ≤ c2 ∧ c2 ≤ 9223372036854775807 := by
    rcases o2.2 with ⟨_, h0⟩ | ⟨g, c', cur, hv, hg, _, h3, h4, _⟩
    · omega
    · obtain ⟨rfl, rfl⟩ : a2 = some ⟨g, 0, none⟩ ∧ c2 = c' := by simpa using hv
      exact ⟨by omega, by unfold maxLen at h4; omega⟩
  have O2 := hide (Row.of_owns o2)
  have hc1 := hcc.1
  have hc2 := hcc.2
  clear o2 b2 hcc HA1 HB1 HC1 BQ1 d0 d1 d2 d3 u0 u1
  have v0 := cell2_0 HC2.out
  have v1 := cell2_1 HC2.out
  have hiff := udpK_iff x0 y0 x1 y1 p q xs h0 h1 h2 h3 hp hq HB.out (by rw [HL.out]; omega)
  have hkr := udpK_rng x0 y0 p q xs
  have hkp := udpK_pos x0 y0 p q xs
  have hkk : (udpK x0 y0 p q xs).toNat ≤ 65535 ∧ (udpK x0 y0 p q xs).toNat ≠ 0 := by omega
  have hG := udpS_G x0 y0 p q xs
  have HG := hide hG
  have HCS : Hid ((csum (psB x1 y1 17 (8 + n) ++ (udpS x0 y0 p q xs).take (8 + n)) == 0) = false) := hide (by
    rw [List.take_of_length_le (by rw [hG, udpG_len, HL.out]; omega)]
    rw [HL.out] at hiff
    exact beq_eq_false_iff_ne.2 (fun h => heq (hiff.1 h)))
  have hrd := rudp_bad w2 x1 y1 a2 (udpS x0 y0 p q xs) (8 + n) c2 p q (8 + n) (udpK x0 y0 p q xs).toNat O2.out (by rw [hG, udpG_len, HL.out]) hc1 hc2 (by rw [hG]; exact udpG_rng _ _ _ _ HB.out) (by omega) (by omega) (hide (by rw [hG]; exact udpG_0 p q xs _ hp)) (hide (by rw [hG]; exact udpG_2 p q xs _ hq)) (hide (by rw [hG, udpG_4 p q xs _ (by rw [HL.out]; omega), HL.out])) (hide (by rw [hG]; exact udpG_6 p q xs _ hkk.1)) (by omega) (by omega) hkk.2 h2 h3 HCS
  have HRD := hide hrd
  have HEQ := hide heq
  have hwe : (((wrds x0 y0 % 65535 : Nat) : Int) == ((wrds x1 y1 % 65535 : Nat) : Int)) = false := by simp; omega
  have HW1 := hide (fun W => words_any x0 y0 W h0 h1)
  have HW2 := hide (fun W => words_any x1 y1 W h2 h3)
  generalize ((wrds x0 y0 % 65535 : Nat) : Int) = W0 at *
  generalize ((wrds x1 y1 % 65535 : Nat) : Int) = W1 at *
  clear hrd hiff hkr hkp hkk hG HCS heq
  go_wp2_with fail
  refine HRD.out.mono ?_
  rintro e w3 ⟨rfl, b3⟩
  have HA3 := hide (below_block b3 HA2.out (Nat.le_refl _))
  have HB3 := hide (below_block b3 HB2.out (Nat.le_refl _))
  have HC3 := hide (below_block b3 HC2.out (Nat.le_refl _))
  have BQ3 := hide (BQ2.out.trans (b3.mono BQ2.out.size))
  clear b3 HA2 HB2 HC2 BQ2 v0 v1
  go_wp2_with fail
  obtain ⟨w4, hq4, b34⟩ : ∃ w4, w3.alloc (.cells #[.int .u16 0, .int .u16 0, .bool false, .slice none 0 0] 40) = w4 ∧ Below w3.heap.size w3 w4 := ⟨_, rfl, (Below.refl _ _).alloc (Nat.le_refl _) _⟩
  rw [hq4]
  have hA4 := below_block b34 HA3.out (Nat.le_refl _)
  have hB4 := below_block b34 HB3.out (Nat.le_refl _)
  have hC4 := below_block b34 HC3.out (Nat.le_refl _)
  have BQ4 := hide (BQ3.out.trans (b34.mono BQ3.out.size))
  obtain ⟨d0, d1, d2, d3, df⟩ := four_cells hA4
  have u0 := cell2_0 hB4
  have u1 := cell2_1 hB4
  have v0 := cell2_0 hC4
  have v1 := cell2_1 hC4
  have lA := lt_of_block hA4
  have lB := lt_of_block hB4
  have lC := lt_of_block hC4
  clear hq4 b34 HA3 HB3 HC3 BQ3 df hA4 hB4 hC4 d0 d1 d3
  go_region_held3 (fun w' => w'.cell? ⟨Ba, 2, none⟩ = some (.bool false) ∧ w'.cell? ⟨Bb, 0, none⟩ = some (.int .u32 x0) ∧ w'.cell? ⟨Bb, 1, none⟩ = some (.int .u32 y0) ∧ w'.cell? ⟨Bc, 0, none⟩ = some (.int .u32 x1) ∧ w'.cell? ⟨Bc, 1, none⟩ = some (.int .u32 y1)) (go_keep) (first
    | (go_at_call 25; (with_reducible refine (HW1.out _).mono ?_); rintro e w5 ⟨rfl, b5⟩; have k0 := (bcell b5 Ba 2 lA).trans d2; have k1 := (bcell b5 Bb 0 lB).trans u0; have k2 := (bcell b5 Bb 1 lB).trans u1; have k3 := (bcell b5 Bc 0 lC).trans v0; have k4 := (bcell b5 Bc 1 lC).trans v1; have lA5 : Ba < w5.heap.size := Nat.lt_of_lt_of_le lA b5.size; have lB5 : Bb < w5.heap.size := Nat.lt_of_lt_of_le lB b5.size; have lC5 : Bc < w5.heap.size := Nat.lt_of_lt_of_le lC b5.size; have b45 : Below w4.heap.size w4 w5 := below_of_drew b5; have B5 := hide b45; clear b5 b45)
    | (go_at_call 25; (with_reducible refine (HW2.out _).mono ?_); rintro e w6 ⟨rfl, b6⟩; have j0 := (bcell b6 Ba 2 lA5).trans k0; have j1 := (bcell b6 Bb 0 lB5).trans k1; have j2 := (bcell b6 Bb 1 lB5).trans k2; have j3 := (bcell b6 Bc 0 lC5).trans k3; have j4 := (bcell b6 Bc 1 lC5).trans k4; have B6 := hide b6; clear b6))
  all_goals
    have B46 := B5.out.trans (B6.out.mono B5.out.size)
    have BF := hide (BQ4.out.trans (B46.mono BQ4.out.size))
    clear B46
    go_wp2
    go_ret
    exact ⟨rfl, BF.out⟩

theorem transPlain_any (w : World) (p q : Nat) (pl : Bool) (da : Option Addr) (xs : List Int) (n dc : Nat) (x0 y0 x1 y1 : Nat) (hr : Row .u8 w da xs) (hn : da = none → dc = 0) (hl : xs.length = n) (hb : ∀ x ∈ xs, 0 ≤ x ∧ x ≤ 255) (hp : p ≤ 65535) (hq : q ≤ 65535)
    (h0 : x0 ≤ 4294967295) (h1 : y0 ≤ 4294967295) (h2 : x1 ≤ 4294967295) (h3 : y1 ≤ 4294967295) (h4 : n < 9223372036854775808) :
    Calls Try.prog 8 #[.agg #[.int .u16 (p : Int), .int .u16 (q : Int), .bool pl, .slice da n dc], .agg #[.int .u32 (x0 : Int), .int .u32 (y0 : Int)], .agg #[.int .u32 (x1 : Int), .int .u32 (y1 : Int)]] w fun e w' => e = .returned (.bool true) ∧ Below w.heap.size w w' := by
  by_cases ha : 2000 < n
  · exact tp_big w p q da xs n dc x0 y0 x1 y1 hr hn hl hb hp hq h0 h1 h2 h3 pl ha h4
  · by_cases hc : 1472 < n
    · exact tp_long w p q da xs n dc x0 y0 x1 y1 hr hn hl hb hp hq h0 h1 h2 h3 pl hc (by omega)
    · cases pl
      · by_cases he : wrds x0 y0 % 65535 = wrds x1 y1 % 65535
        · exact tp_eq w p q da xs n dc x0 y0 x1 y1 hr hn hl hb hp hq h0 h1 h2 h3 (by omega) he
        · exact tp_ne w p q da xs n dc x0 y0 x1 y1 hr hn hl hb hp hq h0 h1 h2 h3 (by omega) he
      · exact tp_plain w p q da xs n dc x0 y0 x1 y1 hr hn hl hb hp hq h0 h1 h2 h3 (by omega)
end Go.Proofs.Ytimdkcndpfogcaa
