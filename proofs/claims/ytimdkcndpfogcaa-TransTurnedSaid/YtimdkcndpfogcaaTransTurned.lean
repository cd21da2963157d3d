/- The law that a segment of which one bit is turned is refused, walked. -/
import Derived.Test.YtimdkcndpfogcaaSameTcp
import Derived.Test.YtimdkcndpfogcaaTurnPlain
import Derived.Test.YtimdkcndpfogcaaRUdp
import Derived.Test.YtimdkcndpfogcaaTSpeaks
namespace Go.Proofs.Ytimdkcndpfogcaa
open Go.RowKit
set_option linter.unusedVariables false
set_option linter.unusedSimpArgs false
set_option maxRecDepth 100000
theorem and_31 (x : Int) : ∃ k : Nat, k ≤ 31 ∧ bits .and .i64 x 31 = (k : Int) := by
  refine ⟨(BitVec.ofInt 64 x &&& BitVec.ofInt 64 31).toNat, ?_, ?_⟩
  · rw [BitVec.toNat_and]
    exact Nat.and_le_right
  · have hle : (BitVec.ofInt 64 x &&& BitVec.ofInt 64 31).toNat ≤ 31 := by rw [BitVec.toNat_and]; exact Nat.and_le_right
    show IntKind.i64.wrap (((BitVec.ofInt 64 x &&& BitVec.ofInt 64 31).toNat : Nat) : Int) = _
    rw [IntKind.wrap_i64]
    omega

set_option maxHeartbeats 1600000 in
theorem tt_arg1 (w : World) (src dst p q u v f g h : Nat) (oa : Option Addr) (os : List Int) (m oc : Nat) (da : Option Addr) (xs : List Int) (n dc : Nat) (bit : Int) (hro : Row .u8 w oa os) (hno : oa = none → oc = 0) (hlo : os.length = m) (hr : Row .u8 w da xs) (hn : da = none → dc = 0) (hl : xs.length = n) (hbo : ∀ x ∈ os, 0 ≤ x ∧ x ≤ 255) (hb : ∀ x ∈ xs, 0 ≤ x ∧ x ≤ 255) (hs : src ≤ 4294967295) (hd : dst ≤ 4294967295) (hp : p ≤ 65535) (hq : q ≤ 65535) (hu : u ≤ 4294967295) (hv : v ≤ 4294967295) (hf : f ≤ 255) (hg : g ≤ 65535) (hh : h ≤ 65535) (h1 : 40 < m) :
    Calls Try.prog 7 #[.int .u32 src, .int .u32 dst, .agg #[.int .u16 (p : Int), .int .u16 (q : Int), .int .u32 (u : Int), .int .u32 (v : Int), .int .u8 (f : Int), .int .u16 (g : Int), .int .u16 (h : Int), .slice oa m oc, .slice da n dc], .int .i64 bit] w fun e w' => e = .returned (.bool true) ∧ Below w.heap.size w w' := by
  have HRO := hide hro
  have HNO := hide hno
  have HLO := hide hlo
  have HR := hide hr
  have HN := hide hn
  have HL := hide hl
  have HB := hide hb
  have HBO := hide hbo
  clear hro hno hlo hr hn hl hb hbo
  go_enter Try.func7, Try.ntmps7
  go_wp2_with fail
  obtain ⟨A, w0, hA, hqq, hbel, hheap⟩ : ∃ A wq, w.heap.size = A ∧ w.alloc (.cells #[.int .u16 (p : Int), .int .u16 (q : Int), .int .u32 (u : Int), .int .u32 (v : Int), .int .u8 (f : Int), .int .u16 (g : Int), .int .u16 (h : Int), .slice oa m oc, .slice da n dc] 27) = wq ∧ Below w.heap.size w wq ∧
      wq.heap[A]? = some (.cells #[.int .u16 (p : Int), .int .u16 (q : Int), .int .u32 (u : Int), .int .u32 (v : Int), .int .u8 (f : Int), .int .u16 (g : Int), .int .u16 (h : Int), .slice oa m oc, .slice da n dc] 27 (0, 0)) := ⟨_, _, rfl, rfl, (Below.refl _ _).alloc (Nat.le_refl _) _, heap_alloc_new _ _⟩
  rw [hqq, hA]
  have HAw := hide hA
  have HR0 := hide (And.intro (HRO.out.below hbel (Nat.le_refl _)) (HR.out.below hbel (Nat.le_refl _)))
  have HH0 := hide hheap
  have HB0 := hide hbel
  clear hqq hA hbel hheap
  refine (speaks5_any w0).mono ?_
  rintro e w1 ⟨rfl, b1⟩
  have HH1 := hide (below_block b1 HH0.out (Nat.le_refl _))
  have HR1 := hide (rs_below HR0.out b1 (Nat.le_refl _))
  have HB1 := hide (HB0.out.trans (b1.mono HB0.out.size))
  clear b1 HH0 HR0 HB0
  obtain ⟨⟨a0, a1, a2, a3, a4, a5, a6, a7, a8⟩, af⟩ := nine_cells HH1.out
  clear af
  go_wp2_with fail
  refine (wtcp_arg1 w1 _ _ _ _ _ _ _ _ _ _ _ _ _ _ _ h1).mono ?_
  rintro e w2 ⟨rfl, b2⟩
  have HB2 := hide (HB1.out.trans (b2.mono HB1.out.size))
  clear b2 a0 a1 a2 a3 a4 a5 a6 a7 a8
  go_wp2
  go_ret
  exact ⟨rfl, HB2.out⟩

set_option maxHeartbeats 1600000 in
theorem tt_arg2 (w : World) (src dst p q u v f g h : Nat) (oa : Option Addr) (os : List Int) (m oc : Nat) (da : Option Addr) (xs : List Int) (n dc : Nat) (bit : Int) (hro : Row .u8 w oa os) (hno : oa = none → oc = 0) (hlo : os.length = m) (hr : Row .u8 w da xs) (hn : da = none → dc = 0) (hl : xs.length = n) (hbo : ∀ x ∈ os, 0 ≤ x ∧ x ≤ 255) (hb : ∀ x ∈ xs, 0 ≤ x ∧ x ≤ 255) (hs : src ≤ 4294967295) (hd : dst ≤ 4294967295) (hp : p ≤ 65535) (hq : q ≤ 65535) (hu : u ≤ 4294967295) (hv : v ≤ 4294967295) (hf : f ≤ 255) (hg : g ≤ 65535) (hh : h ≤ 65535) (h1 : m ≤ 40) (h2 : m % 4 ≠ 0) :
    Calls Try.prog 7 #[.int .u32 src, .int .u32 dst, .agg #[.int .u16 (p : Int), .int .u16 (q : Int), .int .u32 (u : Int), .int .u32 (v : Int), .int .u8 (f : Int), .int .u16 (g : Int), .int .u16 (h : Int), .slice oa m oc, .slice da n dc], .int .i64 bit] w fun e w' => e = .returned (.bool true) ∧ Below w.heap.size w w' := by
  have HRO := hide hro
  have HNO := hide hno
  have HLO := hide hlo
  have HR := hide hr
  have HN := hide hn
  have HL := hide hl
  have HB := hide hb
  have HBO := hide hbo
  clear hro hno hlo hr hn hl hb hbo
  go_enter Try.func7, Try.ntmps7
  go_wp2_with fail
  obtain ⟨A, w0, hA, hqq, hbel, hheap⟩ : ∃ A wq, w.heap.size = A ∧ w.alloc (.cells #[.int .u16 (p : Int), .int .u16 (q : Int), .int .u32 (u : Int), .int .u32 (v : Int), .int .u8 (f : Int), .int .u16 (g : Int), .int .u16 (h : Int), .slice oa m oc, .slice da n dc] 27) = wq ∧ Below w.heap.size w wq ∧
      wq.heap[A]? = some (.cells #[.int .u16 (p : Int), .int .u16 (q : Int), .int .u32 (u : Int), .int .u32 (v : Int), .int .u8 (f : Int), .int .u16 (g : Int), .int .u16 (h : Int), .slice oa m oc, .slice da n dc] 27 (0, 0)) := ⟨_, _, rfl, rfl, (Below.refl _ _).alloc (Nat.le_refl _) _, heap_alloc_new _ _⟩
  rw [hqq, hA]
  have HAw := hide hA
  have HR0 := hide (And.intro (HRO.out.below hbel (Nat.le_refl _)) (HR.out.below hbel (Nat.le_refl _)))
  have HH0 := hide hheap
  have HB0 := hide hbel
  clear hqq hA hbel hheap
  refine (speaks5_any w0).mono ?_
  rintro e w1 ⟨rfl, b1⟩
  have HH1 := hide (below_block b1 HH0.out (Nat.le_refl _))
  have HR1 := hide (rs_below HR0.out b1 (Nat.le_refl _))
  have HB1 := hide (HB0.out.trans (b1.mono HB0.out.size))
  clear b1 HH0 HR0 HB0
  obtain ⟨⟨a0, a1, a2, a3, a4, a5, a6, a7, a8⟩, af⟩ := nine_cells HH1.out
  clear af
  go_wp2_with fail
  refine (wtcp_arg2 w1 _ _ _ _ _ _ _ _ _ _ _ _ _ _ _ h1 h2).mono ?_
  rintro e w2 ⟨rfl, b2⟩
  have HB2 := hide (HB1.out.trans (b2.mono HB1.out.size))
  clear b2 a0 a1 a2 a3 a4 a5 a6 a7 a8
  go_wp2
  go_ret
  exact ⟨rfl, HB2.out⟩

set_option maxHeartbeats 1600000 in
theorem tt_long (w : World) (src dst p q u v f g h : Nat) (oa : Option Addr) (os : List Int) (m oc : Nat) (da : Option Addr) (xs : List Int) (n dc : Nat) (bit : Int) (hro : Row .u8 w oa os) (hno : oa = none → oc = 0) (hlo : os.length = m) (hr : Row .u8 w da xs) (hn : da = none → dc = 0) (hl : xs.length = n) (hbo : ∀ x ∈ os, 0 ≤ x ∧ x ≤ 255) (hb : ∀ x ∈ xs, 0 ≤ x ∧ x ≤ 255) (hs : src ≤ 4294967295) (hd : dst ≤ 4294967295) (hp : p ≤ 65535) (hq : q ≤ 65535) (hu : u ≤ 4294967295) (hv : v ≤ 4294967295) (hf : f ≤ 255) (hg : g ≤ 65535) (hh : h ≤ 65535) (h1 : m ≤ 40) (h2 : m % 4 = 0) (h3 : 1460 - m < n) :
    Calls Try.prog 7 #[.int .u32 src, .int .u32 dst, .agg #[.int .u16 (p : Int), .int .u16 (q : Int), .int .u32 (u : Int), .int .u32 (v : Int), .int .u8 (f : Int), .int .u16 (g : Int), .int .u16 (h : Int), .slice oa m oc, .slice da n dc], .int .i64 bit] w fun e w' => e = .returned (.bool true) ∧ Below w.heap.size w w' := by
  have HRO := hide hro
  have HNO := hide hno
  have HLO := hide hlo
  have HR := hide hr
  have HN := hide hn
  have HL := hide hl
  have HB := hide hb
  have HBO := hide hbo
  clear hro hno hlo hr hn hl hb hbo
  go_enter Try.func7, Try.ntmps7
  go_wp2_with fail
  obtain ⟨A, w0, hA, hqq, hbel, hheap⟩ : ∃ A wq, w.heap.size = A ∧ w.alloc (.cells #[.int .u16 (p : Int), .int .u16 (q : Int), .int .u32 (u : Int), .int .u32 (v : Int), .int .u8 (f : Int), .int .u16 (g : Int), .int .u16 (h : Int), .slice oa m oc, .slice da n dc] 27) = wq ∧ Below w.heap.size w wq ∧
      wq.heap[A]? = some (.cells #[.int .u16 (p : Int), .int .u16 (q : Int), .int .u32 (u : Int), .int .u32 (v : Int), .int .u8 (f : Int), .int .u16 (g : Int), .int .u16 (h : Int), .slice oa m oc, .slice da n dc] 27 (0, 0)) := ⟨_, _, rfl, rfl, (Below.refl _ _).alloc (Nat.le_refl _) _, heap_alloc_new _ _⟩
  rw [hqq, hA]
  have HAw := hide hA
  have HR0 := hide (And.intro (HRO.out.below hbel (Nat.le_refl _)) (HR.out.below hbel (Nat.le_refl _)))
  have HH0 := hide hheap
  have HB0 := hide hbel
  clear hqq hA hbel hheap
  refine (speaks5_any w0).mono ?_
  rintro e w1 ⟨rfl, b1⟩
  have HH1 := hide (below_block b1 HH0.out (Nat.le_refl _))
  have HR1 := hide (rs_below HR0.out b1 (Nat.le_refl _))
  have HB1 := hide (HB0.out.trans (b1.mono HB0.out.size))
  clear b1 HH0 HR0 HB0
  obtain ⟨⟨a0, a1, a2, a3, a4, a5, a6, a7, a8⟩, af⟩ := nine_cells HH1.out
  clear af
  go_wp2_with fail
  refine (wtcp_long w1 _ _ _ _ _ _ _ _ _ _ _ _ _ _ _ h1 h2 h3).mono ?_
  rintro e w2 ⟨rfl, b2⟩
  have HB2 := hide (HB1.out.trans (b2.mono HB1.out.size))
  clear b2 a0 a1 a2 a3 a4 a5 a6 a7 a8
  go_wp2
  go_ret
  exact ⟨rfl, HB2.out⟩

set_option maxHeartbeats 1600000 in
theorem tt_ok (w : World) (src dst p q u v f g h : Nat) (oa : Option Addr) (os : List Int) (m oc : Nat) (da : Option Addr) (xs : List Int) (n dc : Nat) (bit : Int) (hro : Row .u8 w oa os) (hno : oa = none → oc = 0) (hlo : os.length = m) (hr : Row .u8 w da xs) (hn : da = none → dc = 0) (hl : xs.length = n) (hbo : ∀ x ∈ os, 0 ≤ x ∧ x ≤ 255) (hb : ∀ x ∈ xs, 0 ≤ x ∧ x ≤ 255) (hs : src ≤ 4294967295) (hd : dst ≤ 4294967295) (hp : p ≤ 65535) (hq : q ≤ 65535) (hu : u ≤ 4294967295) (hv : v ≤ 4294967295) (hf : f ≤ 255) (hg : g ≤ 65535) (hh : h ≤ 65535) (h1 : m ≤ 40) (h2 : m % 4 = 0) (h3 : n ≤ 1460 - m) :
    Calls Try.prog 7 #[.int .u32 src, .int .u32 dst, .agg #[.int .u16 (p : Int), .int .u16 (q : Int), .int .u32 (u : Int), .int .u32 (v : Int), .int .u8 (f : Int), .int .u16 (g : Int), .int .u16 (h : Int), .slice oa m oc, .slice da n dc], .int .i64 bit] w fun e w' => e = .returned (.bool true) ∧ Below w.heap.size w w' := by
  have HRO := hide hro
  have HNO := hide hno
  have HLO := hide hlo
  have HR := hide hr
  have HN := hide hn
  have HL := hide hl
  have HB := hide hb
  have HBO := hide hbo
  clear hro hno hlo hr hn hl hb hbo
  go_enter Try.func7, Try.ntmps7
  go_wp2_with fail
  obtain ⟨A, w0, hA, hqq, hbel, hheap⟩ : ∃ A wq, w.heap.size = A ∧ w.alloc (.cells #[.int .u16 (p : Int), .int .u16 (q : Int), .int .u32 (u : Int), .int .u32 (v : Int), .int .u8 (f : Int), .int .u16 (g : Int), .int .u16 (h : Int), .slice oa m oc, .slice da n dc] 27) = wq ∧ Below w.heap.size w wq ∧
      wq.heap[A]? = some (.cells #[.int .u16 (p : Int), .int .u16 (q : Int), .int .u32 (u : Int), .int .u32 (v : Int), .int .u8 (f : Int), .int .u16 (g : Int), .int .u16 (h : Int), .slice oa m oc, .slice da n dc] 27 (0, 0)) := ⟨_, _, rfl, rfl, (Below.refl _ _).alloc (Nat.le_refl _) _, heap_alloc_new _ _⟩
  rw [hqq, hA]
  have HAw := hide hA
  have HR0 := hide (And.intro (HRO.out.below hbel (Nat.le_refl _)) (HR.out.below hbel (Nat.le_refl _)))
  have HH0 := hide hheap
  have HB0 := hide hbel
  clear hqq hA hbel hheap
  refine (speaks5_any w0).mono ?_
  rintro e w1 ⟨rfl, b1⟩
  have HH1 := hide (below_block b1 HH0.out (Nat.le_refl _))
  have HR1 := hide (rs_below HR0.out b1 (Nat.le_refl _))
  have HB1 := hide (HB0.out.trans (b1.mono HB0.out.size))
  clear b1 HH0 HR0 HB0
  obtain ⟨⟨a0, a1, a2, a3, a4, a5, a6, a7, a8⟩, af⟩ := nine_cells HH1.out
  clear af
  go_wp2_with fail
  have hwt := wtcp_ok w1 src dst p q u v f g h oa os m oc da xs n dc HR1.out.1 HNO.out HLO.out HR1.out.2 HN.out HL.out HBO.out HB.out h1 h2 h3 hs hd hp hq hu hv hf hg hh
  have hyl : (tcpG p q u v f g h os xs (tcpK src dst p q u v f g h os xs).toNat).length = 20 + m + n := by rw [tcpG_len, HLO.out, HL.out]
  have hyb := tcpG_rng p q u v f g h os xs (tcpK src dst p q u v f g h os xs).toNat hf (by rw [HLO.out]; omega) HBO.out HB.out
  have hyk := tcpK_ok src dst p q u v f g h os xs (tcpG_rng p q u v f g h os xs 0 hf (by rw [HLO.out]; omega) HBO.out HB.out) (by rw [HLO.out]; omega)
  rw [HLO.out, HL.out] at hyk
  have hy12 := tcpG_12 p q u v f g h os xs (tcpK src dst p q u v f g h os xs).toNat (by rw [HLO.out]; omega)
  rw [HLO.out] at hy12
  generalize tcpG p q u v f g h os xs (tcpK src dst p q u v f g h os xs).toNat = ys at *
  obtain ⟨N, hN⟩ : ∃ N, 20 + m + n = N := ⟨_, rfl⟩
  rw [hN] at hwt hyl hyk
  have hN1 : 20 ≤ N := by omega
  have hN2 : N ≤ 1480 := by omega
  have hN3 : 20 + m ≤ N := by omega
  have HWT := hide hwt
  have HYL := hide hyl
  have HYB := hide hyb
  have HYK := hide hyk
  have HY12 := hide hy12
  clear hwt hyl hyb hyk hy12 hN
  refine HWT.out.mono ?_
  rintro e w2 ⟨b5, c5, rfl, o2, b2⟩
  have HO2 := hide o2
  have HB2 := hide (HB1.out.trans (b2.mono HB1.out.size))
  clear o2 b2 a0 a1 a2 a3 a4 a5 a6 a7 a8 HWT
  obtain ⟨k0, hk0, hand⟩ := and_ffff bit
  obtain ⟨K, hK⟩ : ∃ K, k0 % (8 * N) = K := ⟨_, rfl⟩
  have hKl : K < 8 * N := by rw [← hK]; exact Nat.mod_lt _ (by omega)
  have hKe : (k0 : Int) % (8 * (N : Int)) = (K : Int) := by rw [← hK]; simp
  obtain ⟨i, hi⟩ : ∃ i, K / 8 = i := ⟨_, rfl⟩
  obtain ⟨j, hj⟩ : ∃ j, K % 8 = j := ⟨_, rfl⟩
  have hie : (K : Int) / 8 = (i : Int) := by omega
  have hje : (K : Int) % 8 = (j : Int) := by omega
  have hi1 : i < N := by omega
  have hj1 : j ≤ 7 := by omega
  clear hK hi hj hKl
  obtain ⟨G, rfl, hGl⟩ : ∃ G, b5 = some ⟨G, 0, none⟩ ∧ w1.heap.size ≤ G := by
    rcases HO2.out.2 with ⟨_, h0⟩ | ⟨g, c', cur, hv, hg, _⟩
    · omega
    · obtain ⟨rfl, rfl⟩ : b5 = some ⟨g, 0, none⟩ ∧ c5 = c' := by simpa using hv
      exact ⟨g, rfl, hg⟩
  obtain ⟨y, hyi⟩ : ∃ y : Nat, ys[i]?.getD 0 = (y : Int) := Int.eq_ofNat_of_zero_le (byte_at HYB.out i).1
  have hy255 : y ≤ 255 := by have := (byte_at HYB.out i).2; omega
  have hcy : w2.cell? ⟨G, i, none⟩ = some (.int .u8 (y : Int)) := by
    rw [HO2.out.cellAt i (by omega), ← hyi]
    simp [List.getElem?_map, List.getElem?_eq_getElem (show i < ys.length by rw [HYL.out]; exact hi1)]
  have hfy : w2.frozen? ⟨G, i, none⟩ = false := by
    rcases HO2.out.2 with ⟨_, h0⟩ | ⟨g, c', cur, hv, hg, hh, _⟩
    · omega
    · obtain ⟨rfl, rfl⟩ : G = g ∧ c5 = c' := by simpa using hv
      simp [World.frozen?, hh]
  have HYI := hide hyi
  have hi0 : (0 : Int) ≤ (i : Int) := by omega
  have hiN : (i : Int) < (N : Int) := by omega
  have h2j : 2 ^ j ≤ 128 := Nat.le_trans (Nat.pow_le_pow_right (n := 2) (by decide) hj1) (by decide)
  have hpj : (2 : Int) ^ j % 256 = ((2 ^ j : Nat) : Int) := by
    have h1 : (2 : Int) ^ j = ((2 ^ j : Nat) : Int) := by simp
    rw [h1]
    have h0 := Nat.two_pow_pos j
    generalize 2 ^ j = P at *
    omega
  obtain ⟨Y, hY⟩ : ∃ Y, y ^^^ 2 ^ j = Y := ⟨_, rfl⟩
  have hYl : Y < 256 := by rw [← hY]; exact Nat.xor_lt_two_pow (n := 8) (by omega) (by omega)
  have hYne : Y ≠ y := by
    have h1 := xor_pow j y
    have h2 := Nat.two_pow_pos j
    omega
  have hYY : Y ^^^ 2 ^ j = y := by rw [← hY, Nat.xor_assoc, Nat.xor_self, Nat.xor_zero]
  have hx1 : bits .xor .u8 (y : Int) ((2 : Int) ^ j % 256) = (Y : Int) := by rw [hpj, u8_xor_nat _ _ (by omega) (by omega), hY]
  have hx2 : bits .xor .u8 (Y : Int) ((2 : Int) ^ j % 256) = (y : Int) := by rw [hpj, u8_xor_nat _ _ (by omega) (by omega), hYY]
  -- the address
  obtain ⟨t, ht, hand2⟩ := and_31 bit
  have h2t : 2 ^ t ≤ 2147483648 := Nat.le_trans (Nat.pow_le_pow_right (n := 2) (by decide) ht) (by decide)
  have hpt : (2 : Int) ^ t % 4294967296 = ((2 ^ t : Nat) : Int) := by
    have h1 : (2 : Int) ^ t = ((2 ^ t : Nat) : Int) := by simp
    rw [h1]
    have h0 := Nat.two_pow_pos t
    generalize 2 ^ t = P at *
    omega
  have hSl : src ^^^ 2 ^ t < 4294967296 := Nat.xor_lt_two_pow (n := 32) (by omega) (by omega)
  have hx3 : bits .xor .u32 (src : Int) ((2 : Int) ^ t % 4294967296) = ((src ^^^ 2 ^ t : Nat) : Int) := by rw [hpt, u32_xor_nat _ _ (by omega) (by omega)]
  have HYK2 : Hid ((csum (psB (src ^^^ 2 ^ t) dst 6 N ++ ys) == 0) = false) := hide (by
    have h := tcp_src src dst t p q u v f g h os xs hs (by omega) hd ht ys HYB.out (by rw [HYL.out]; omega) (by rw [HYL.out]; exact HYK.out)
    rw [HYL.out] at h
    exact beq_eq_false_iff_ne.2 h)
  generalize src ^^^ 2 ^ t = src2 at *
  have hsr2 : src2 ≤ 4294967295 := by omega
  have ho3 := owns_store (v := (Y : Int)) HO2.out hi1
  obtain ⟨w3, hw3, ho3', hbw3⟩ : ∃ w3, w2.setCell ⟨G, i, none⟩ (.int .u8 (Y : Int)) = w3 ∧ w3.ownsRow w1.heap.size 5 1 (.slice (some ⟨G, 0, none⟩) N c5) N ((ys.set i (Y : Int)).map (Value.int .u8)) ∧ Below w.heap.size w w3 := ⟨_, rfl, ho3, HB2.out.setCell (by have := HB1.out.size; simp; omega) _⟩
  have hsl : (ys.set i (Y : Int)).length = N := by rw [List.length_set, HYL.out]
  have hsb : ∀ x ∈ ys.set i (Y : Int), 0 ≤ x ∧ x ≤ 255 := by
    intro x hx
    rcases List.mem_or_eq_of_mem_set hx with h | h
    · exact HYB.out x h
    · subst h; omega
  have hrd : ∃ code : Int, (code = 11 ∨ code = 12) ∧ Calls Try.prog 13 #[.int .u32 src, .int .u32 dst, .slice (some ⟨G, 0, none⟩) N c5] w3 fun e w' => e = .returned (.tuple #[.agg #[.int .u16 0, .int .u16 0, .int .u32 0, .int .u32 0, .int .u8 0, .int .u16 0, .int .u16 0, .slice none 0 0, .slice none 0 0], .int .i64 code]) ∧ Below w3.heap.size w3 w' := by
    by_cases hfm : 4 * (fld (ys.set i (Y : Int)) 12 1 / 16) < 20 ∨ N < 4 * (fld (ys.set i (Y : Int)) 12 1 / 16)
    · exact ⟨11, .inl rfl, rtcp_form w3 src dst (some ⟨G, 0, none⟩) (ys.set i (Y : Int)) N c5 _ _ _ _ _ _ _ _ _ _ (Row.of_owns ho3') (fun h => by cases h) hsl hsb hN1 hN2 (hide rfl) (hide rfl) (hide rfl) (hide rfl) (hide rfl) (hide rfl) (hide rfl) (hide rfl) (hide rfl) (hide rfl) hfm⟩
    · refine ⟨12, .inr rfl, rtcp_bad w3 src dst (some ⟨G, 0, none⟩) (ys.set i (Y : Int)) N c5 _ _ _ _ _ _ _ _ _ _ (Row.of_owns ho3') (fun h => by cases h) hsl hsb hN1 hN2 (hide rfl) (hide rfl) (hide rfl) (hide rfl) (hide rfl) (hide rfl) (hide rfl) (hide rfl) (hide rfl) (hide rfl) (by omega) (by omega) hs hd (hide ?_)⟩
      exact beq_eq_false_iff_ne.2 (csum_set _ ys i (Y : Int) (by rw [psB_len]) (by rw [HYL.out]; exact hi1) (psB_rng _ _ _ _ (by omega)) HYB.out (by omega) (by rw [HYI.out]; omega) HYK.out)
  obtain ⟨code, hcode, hrd⟩ := hrd
  have HRD := hide hrd
  have HW3 := hide hw3
  have HO3 := hide ho3'
  have HB3 := hide hbw3
  have hct : (code == 0) = false := by rcases hcode with rfl | rfl <;> rfl
  have HSET : Hid ((ys.set i (Y : Int)).set i (y : Int) = ys) := hide (by
    rw [List.set_set, ← HYI.out, List.getElem?_eq_getElem (show i < ys.length by rw [HYL.out]; exact hi1)]
    exact List.set_getElem_self _)
  have HSL := hide hsl
  clear hrd hw3 ho3 ho3' hbw3 hpj hpt hY hYY hcode hsb hYne
  go_wp2_with fail
  rw [HW3.out]
  clear hcy hfy
  refine HRD.out.mono ?_
  rintro e w4 ⟨rfl, b4⟩
  have HO4 := hide (owns_below HO3.out b4 (Nat.le_refl _))
  have HB4 := hide (HB3.out.trans (b4.mono HB3.out.size))
  clear b4 HRD
  have hcy : w4.cell? ⟨G, i, none⟩ = some (.int .u8 (Y : Int)) := by
    rw [HO4.out.cellAt i (by omega)]
    simp [List.getElem?_map, List.getElem?_set_self, show i < ys.length by rw [HYL.out]; exact hi1]
  obtain ⟨hfy, hGl4⟩ : w4.frozen? ⟨G, i, none⟩ = false ∧ G < w4.heap.size := by
    rcases HO4.out.2 with ⟨_, h0⟩ | ⟨g, c', cur, hv, hg, hh, _⟩
    · omega
    · obtain ⟨rfl, rfl⟩ : G = g ∧ c5 = c' := by simpa using hv
      exact ⟨by simp [World.frozen?, hh], lt_of_block hh⟩
  have ho6 := owns_store (v := (y : Int)) HO4.out hi1
  rw [HSET.out] at ho6
  have hb6 := HB4.out.setCell (p := ⟨G, i, none⟩) (by have := HB1.out.size; simp; omega) (.int .u8 (y : Int))
  obtain ⟨w6, hw6, HO6, HB6, HD6⟩ : ∃ w6, (w4.setCell ⟨G, i, none⟩ (.int .u8 (y : Int))).alloc (.cells #[.int .u16 0, .int .u16 0, .int .u32 0, .int .u32 0, .int .u8 0, .int .u16 0, .int .u16 0, .slice none 0 0, .slice none 0 0] 27) = w6 ∧ Hid (w6.ownsRow w1.heap.size 5 1 (.slice (some ⟨G, 0, none⟩) N c5) N (ys.map (Value.int .u8))) ∧ Hid (Below w.heap.size w w6) ∧ Hid (w6.heap[w4.heap.size]? = some (.cells #[.int .u16 0, .int .u16 0, .int .u32 0, .int .u32 0, .int .u8 0, .int .u16 0, .int .u16 0, .slice none 0 0, .slice none 0 0] 27 (0, 0))) := by
    have h := heap_alloc_new (w4.setCell ⟨G, i, none⟩ (.int .u8 (y : Int))) (.cells #[.int .u16 0, .int .u16 0, .int .u32 0, .int .u32 0, .int .u8 0, .int .u16 0, .int .u16 0, .slice none 0 0, .slice none 0 0] 27)
    rw [show (w4.setCell ⟨G, i, none⟩ (.int .u8 (y : Int))).heap.size = w4.heap.size by simp] at h
    exact ⟨_, rfl, hide (ho6.alloc _), hide (hb6.alloc hb6.size _), hide h⟩
  have hrd2 := rtcp_bad w6 src2 dst (some ⟨G, 0, none⟩) ys N c5 _ _ _ _ _ _ _ _ _ (20 + m) (Row.of_owns HO6.out) (fun h => by cases h) HYL.out HYB.out hN1 hN2 (hide rfl) (hide rfl) (hide rfl) (hide rfl) (hide rfl) (hide rfl) (hide rfl) (hide rfl) (hide rfl) (hide (by rw [HY12.out]; omega)) (by omega) hN3 hsr2 hd HYK2
  have HRD2 := hide hrd2
  have HW6 := hide hw6
  clear hrd2 hw6 ho6 hb6
  go_wp2_with fail
  rw [HW6.out]
  clear hcy hfy hGl4
  refine HRD2.out.mono ?_
  rintro e w7 ⟨rfl, b7⟩
  have HB7 := hide (HB6.out.trans (b7.mono HB6.out.size))
  obtain ⟨⟨m0, m1, m2, m3, m4, m5, m6, m7, m8⟩, mf⟩ := nine_cells (below_block b7 HD6.out (Nat.le_refl _))
  have hDl := lt_of_block (below_block b7 HD6.out (Nat.le_refl _))
  have hb8 := HB7.out.alloc HB7.out.size (.cells #[.int .u16 0, .int .u16 0, .int .u32 0, .int .u32 0, .int .u8 0, .int .u16 0, .int .u16 0, .slice none 0 0, .slice none 0 0] 27)
  have HB8 := hide hb8
  have HS := hide (sameTcp_any (w7.alloc (.cells #[.int .u16 0, .int .u16 0, .int .u32 0, .int .u32 0, .int .u8 0, .int .u16 0, .int .u16 0, .slice none 0 0, .slice none 0 0] 27)) 0 0 0 0 0 0 0 none none none none [] [] 0 0 0 0 0 0 (fun h => absurd rfl h) (fun h => absurd rfl h) rfl (fun h => absurd rfl h) (fun h => absurd rfl h) rfl)
  clear b7 mf hb8
  go_wp2_with fail
  refine HS.out.mono ?_
  rintro e w9 ⟨rfl, b9⟩
  have HB9 := hide (HB8.out.trans (b9.mono HB8.out.size))
  clear b9 m0 m1 m2 m3 m4 m5 m6 m7 m8
  go_wp2
  go_ret
  exact ⟨rfl, HB9.out⟩
theorem transTurned_any (w : World) (src dst p q u v f g h : Nat) (oa : Option Addr) (os : List Int) (m oc : Nat) (da : Option Addr) (xs : List Int) (n dc : Nat) (bit : Int) (hro : Row .u8 w oa os) (hno : oa = none → oc = 0) (hlo : os.length = m) (hr : Row .u8 w da xs) (hn : da = none → dc = 0) (hl : xs.length = n) (hbo : ∀ x ∈ os, 0 ≤ x ∧ x ≤ 255) (hb : ∀ x ∈ xs, 0 ≤ x ∧ x ≤ 255) (hs : src ≤ 4294967295) (hd : dst ≤ 4294967295) (hp : p ≤ 65535) (hq : q ≤ 65535) (hu : u ≤ 4294967295) (hv : v ≤ 4294967295) (hf : f ≤ 255) (hg : g ≤ 65535) (hh : h ≤ 65535) :
    Calls Try.prog 7 #[.int .u32 src, .int .u32 dst, .agg #[.int .u16 (p : Int), .int .u16 (q : Int), .int .u32 (u : Int), .int .u32 (v : Int), .int .u8 (f : Int), .int .u16 (g : Int), .int .u16 (h : Int), .slice oa m oc, .slice da n dc], .int .i64 bit] w fun e w' => e = .returned (.bool true) ∧ Below w.heap.size w w' := by
  by_cases c1 : 40 < m
  · exact tt_arg1 w src dst p q u v f g h oa os m oc da xs n dc bit hro hno hlo hr hn hl hbo hb hs hd hp hq hu hv hf hg hh c1
  · by_cases c2 : m % 4 = 0
    · by_cases c3 : 1460 - m < n
      · exact tt_long w src dst p q u v f g h oa os m oc da xs n dc bit hro hno hlo hr hn hl hbo hb hs hd hp hq hu hv hf hg hh (by omega) c2 c3
      · exact tt_ok w src dst p q u v f g h oa os m oc da xs n dc bit hro hno hlo hr hn hl hbo hb hs hd hp hq hu hv hf hg hh (by omega) c2 (by omega)
    · exact tt_arg2 w src dst p q u v f g h oa os m oc da xs n dc bit hro hno hlo hr hn hl hbo hb hs hd hp hq hu hv hf hg hh (by omega) c2
end Go.Proofs.Ytimdkcndpfogcaa
