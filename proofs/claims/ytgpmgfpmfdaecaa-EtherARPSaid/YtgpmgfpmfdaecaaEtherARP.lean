/- The law of ARP packets, walked. -/
import Derived.Test.YtgpmgfpmfdaecaaARPairs
import Derived.Test.YtgpmgfpmfdaecaaESpeaks
import Derived.Test.YtgpmgfpmfdaecaaConv
import Derived.Test.YtgpmgfpmfdaecaaPlainNums
namespace Go.Proofs.Ytgpmgfpmfdaecaa
open Go.RowKit
set_option linter.unusedVariables false
set_option linter.unusedSimpArgs false
set_option maxRecDepth 100000
theorem mac_in (d e : Nat → UInt8) (W : World) : (Op.equalIn 9999 25 (.agg #[.int .u8 ((d 0).toNat : Int), .int .u8 ((d 1).toNat : Int), .int .u8 ((d 2).toNat : Int), .int .u8 ((d 3).toNat : Int), .int .u8 ((d 4).toNat : Int), .int .u8 ((d 5).toNat : Int)]) (.agg #[.int .u8 ((e 0).toNat : Int), .int .u8 ((e 1).toNat : Int), .int .u8 ((e 2).toNat : Int), .int .u8 ((e 3).toNat : Int), .int .u8 ((e 4).toNat : Int), .int .u8 ((e 5).toNat : Int)])).run Try.prog W = .ok ([d 0, d 1, d 2, d 3, d 4, d 5] == [e 0, e 1, e 2, e 3, e 4, e 5]) W :=
  run_equalIn_bytes W 9997 25 5 6 Try.underlying25 Try.underlying5 size5 [d 0, d 1, d 2, d 3, d 4, d 5] [e 0, e 1, e 2, e 3, e 4, e 5] rfl rfl
theorem arp_in_self (o x y : Nat) (d s : Nat → UInt8) (W : World) : (Op.equalIn 10000 41 (.agg #[.int .u16 (o : Int), .int .u8 ((d 0).toNat : Int), .int .u8 ((d 1).toNat : Int), .int .u8 ((d 2).toNat : Int), .int .u8 ((d 3).toNat : Int), .int .u8 ((d 4).toNat : Int), .int .u8 ((d 5).toNat : Int), .int .u8 ((s 0).toNat : Int), .int .u8 ((s 1).toNat : Int), .int .u8 ((s 2).toNat : Int), .int .u8 ((s 3).toNat : Int), .int .u8 ((s 4).toNat : Int), .int .u8 ((s 5).toNat : Int), .int .u32 (x : Int), .int .u32 (y : Int)]) (.agg #[.int .u16 (o : Int), .int .u8 ((d 0).toNat : Int), .int .u8 ((d 1).toNat : Int), .int .u8 ((d 2).toNat : Int), .int .u8 ((d 3).toNat : Int), .int .u8 ((d 4).toNat : Int), .int .u8 ((d 5).toNat : Int), .int .u8 ((s 0).toNat : Int), .int .u8 ((s 1).toNat : Int), .int .u8 ((s 2).toNat : Int), .int .u8 ((s 3).toNat : Int), .int .u8 ((s 4).toNat : Int), .int .u8 ((s 5).toNat : Int), .int .u32 (x : Int), .int .u32 (y : Int)])).run Try.prog W = .ok true W := by
  have m1 := mac_in d d
  have m2 := mac_in s s
  rw [beq_self_eq_true] at m1 m2
  simp [go_sem, m1, m2]
theorem arpL_len (o : Nat) (d s : Nat → UInt8) (x y : Nat) : (arpL o d s x y).length = 28 := rfl
theorem arpL_rng (o : Nat) (d s : Nat → UInt8) (x y : Nat) : ∀ z ∈ arpL o d s x y, 0 ≤ z ∧ z ≤ 255 := by
  intro z hz
  unfold arpL at hz
  have m (f : Nat → UInt8) : ∀ z ∈ [((f 0).toNat : Int), ((f 1).toNat : Int), ((f 2).toNat : Int), ((f 3).toNat : Int), ((f 4).toNat : Int), ((f 5).toNat : Int)], 0 ≤ z ∧ z ≤ 255 := by
    intro z hz
    have h0 := (f 0).toNat_lt
    have h1 := (f 1).toNat_lt
    have h2 := (f 2).toNat_lt
    have h3 := (f 3).toNat_lt
    have h4 := (f 4).toNat_lt
    have h5 := (f 5).toNat_lt
    simp only [List.mem_cons, List.not_mem_nil, or_false] at hz
    rcases hz with rfl | rfl | rfl | rfl | rfl | rfl <;> omega
  simp only [List.mem_append] at hz
  rcases hz with ((((hz | hz) | hz) | hz) | hz) | hz
  · simp only [List.mem_cons, List.not_mem_nil, or_false] at hz
    rcases hz with rfl | rfl | rfl | rfl | rfl | rfl <;> decide
  · exact numB_rng _ _ z hz
  · exact m d z hz
  · exact numB_rng _ _ z hz
  · exact m s z hz
  · exact numB_rng _ _ z hz
theorem owns_nil2 (V : World) : (V.alloc (.cells #[] 5)).ownsRow V.heap.size 5 1 (.slice (some ⟨V.heap.size, 0, none⟩) 0 0) 0 (([] : List Int).map (Value.int .u8)) := World.ownsRow_lit _ #[] 0 (Nat.le_refl _) (by unfold maxLen; omega) rfl
theorem bg_nums : ([0, 1, 8, 0, 6, 4] : List Int) = [((bg 0).toNat : Int), ((bg 1).toNat : Int), ((bg 2).toNat : Int), ((bg 3).toNat : Int), ((bg 4).toNat : Int), ((bg 5).toNat : Int)] := by decide

set_option maxHeartbeats 800000 in
theorem earp_longR (w : World) (o x y : Nat) (d s : Nat → UInt8) (aR : Option Addr) (xs : List Int) (n cR : Nat) (aM : Option Addr) (ms : List Int) (m cM : Nat) (hR : Lies w aR xs n cR) (hM : Lies w aM ms m cM) (hl : xs.length = n) (hlm : ms.length = m) (hb : ∀ z ∈ xs, 0 ≤ z ∧ z ≤ 255) (hbm : ∀ z ∈ ms, 0 ≤ z ∧ z ≤ 255) (ho : o ≤ 65535) (hx : x ≤ 4294967295) (hy : y ≤ 4294967295) (h : 3000 < n) :
    Calls Try.prog 4 #[.agg #[.int .u16 (o : Int), .int .u8 ((d 0).toNat : Int), .int .u8 ((d 1).toNat : Int), .int .u8 ((d 2).toNat : Int), .int .u8 ((d 3).toNat : Int), .int .u8 ((d 4).toNat : Int), .int .u8 ((d 5).toNat : Int), .int .u8 ((s 0).toNat : Int), .int .u8 ((s 1).toNat : Int), .int .u8 ((s 2).toNat : Int), .int .u8 ((s 3).toNat : Int), .int .u8 ((s 4).toNat : Int), .int .u8 ((s 5).toNat : Int), .int .u32 (x : Int), .int .u32 (y : Int)], .slice aR n cR, .slice aM m cM] w fun e w' => e = .returned (.bool true) ∧ Below w.heap.size w w' := by
  go_enter Try.func4, Try.ntmps4
  go_wp2_with fail
  obtain ⟨B0, w0, hB, hq0, HH0, HB0⟩ : ∃ B0 wt, w.heap.size = B0 ∧ w.alloc (.cells #[.int .u16 (o : Int), .int .u8 ((d 0).toNat : Int), .int .u8 ((d 1).toNat : Int), .int .u8 ((d 2).toNat : Int), .int .u8 ((d 3).toNat : Int), .int .u8 ((d 4).toNat : Int), .int .u8 ((d 5).toNat : Int), .int .u8 ((s 0).toNat : Int), .int .u8 ((s 1).toNat : Int), .int .u8 ((s 2).toNat : Int), .int .u8 ((s 3).toNat : Int), .int .u8 ((s 4).toNat : Int), .int .u8 ((s 5).toNat : Int), .int .u32 (x : Int), .int .u32 (y : Int)] 41) = wt ∧ Hid (wt.heap[B0]? = some (.cells #[.int .u16 (o : Int), .int .u8 ((d 0).toNat : Int), .int .u8 ((d 1).toNat : Int), .int .u8 ((d 2).toNat : Int), .int .u8 ((d 3).toNat : Int), .int .u8 ((d 4).toNat : Int), .int .u8 ((d 5).toNat : Int), .int .u8 ((s 0).toNat : Int), .int .u8 ((s 1).toNat : Int), .int .u8 ((s 2).toNat : Int), .int .u8 ((s 3).toNat : Int), .int .u8 ((s 4).toNat : Int), .int .u8 ((s 5).toNat : Int), .int .u32 (x : Int), .int .u32 (y : Int)] 41 (0, 0))) ∧ Hid (Below w.heap.size w wt) := ⟨_, _, rfl, rfl, hide (heap_alloc_new _ _), hide ((Below.refl _ _).alloc (Nat.le_refl _) _)⟩
  try rw [hq0]
  try rw [hB]
  have HBW := hide hB
  clear hq0 hB
  refine (speaks3_any w0).mono ?_
  rintro e w1 ⟨rfl, b1⟩
  have HH1 := hide (below_block b1 HH0.out (Nat.le_refl _))
  have HB1 := hide (HB0.out.trans (b1.mono HB0.out.size))
  clear b1 HH0 HB0
  go_wp2
  go_ret
  exact ⟨rfl, HB1.out⟩

set_option maxHeartbeats 800000 in
theorem earp_longM (w : World) (o x y : Nat) (d s : Nat → UInt8) (aR : Option Addr) (xs : List Int) (n cR : Nat) (aM : Option Addr) (ms : List Int) (m cM : Nat) (hR : Lies w aR xs n cR) (hM : Lies w aM ms m cM) (hl : xs.length = n) (hlm : ms.length = m) (hb : ∀ z ∈ xs, 0 ≤ z ∧ z ≤ 255) (hbm : ∀ z ∈ ms, 0 ≤ z ∧ z ≤ 255) (ho : o ≤ 65535) (hx : x ≤ 4294967295) (hy : y ≤ 4294967295) (h0 : n ≤ 3000) (h : 3000 < m) :
    Calls Try.prog 4 #[.agg #[.int .u16 (o : Int), .int .u8 ((d 0).toNat : Int), .int .u8 ((d 1).toNat : Int), .int .u8 ((d 2).toNat : Int), .int .u8 ((d 3).toNat : Int), .int .u8 ((d 4).toNat : Int), .int .u8 ((d 5).toNat : Int), .int .u8 ((s 0).toNat : Int), .int .u8 ((s 1).toNat : Int), .int .u8 ((s 2).toNat : Int), .int .u8 ((s 3).toNat : Int), .int .u8 ((s 4).toNat : Int), .int .u8 ((s 5).toNat : Int), .int .u32 (x : Int), .int .u32 (y : Int)], .slice aR n cR, .slice aM m cM] w fun e w' => e = .returned (.bool true) ∧ Below w.heap.size w w' := by
  go_enter Try.func4, Try.ntmps4
  go_wp2_with fail
  obtain ⟨B0, w0, hB, hq0, HH0, HB0⟩ : ∃ B0 wt, w.heap.size = B0 ∧ w.alloc (.cells #[.int .u16 (o : Int), .int .u8 ((d 0).toNat : Int), .int .u8 ((d 1).toNat : Int), .int .u8 ((d 2).toNat : Int), .int .u8 ((d 3).toNat : Int), .int .u8 ((d 4).toNat : Int), .int .u8 ((d 5).toNat : Int), .int .u8 ((s 0).toNat : Int), .int .u8 ((s 1).toNat : Int), .int .u8 ((s 2).toNat : Int), .int .u8 ((s 3).toNat : Int), .int .u8 ((s 4).toNat : Int), .int .u8 ((s 5).toNat : Int), .int .u32 (x : Int), .int .u32 (y : Int)] 41) = wt ∧ Hid (wt.heap[B0]? = some (.cells #[.int .u16 (o : Int), .int .u8 ((d 0).toNat : Int), .int .u8 ((d 1).toNat : Int), .int .u8 ((d 2).toNat : Int), .int .u8 ((d 3).toNat : Int), .int .u8 ((d 4).toNat : Int), .int .u8 ((d 5).toNat : Int), .int .u8 ((s 0).toNat : Int), .int .u8 ((s 1).toNat : Int), .int .u8 ((s 2).toNat : Int), .int .u8 ((s 3).toNat : Int), .int .u8 ((s 4).toNat : Int), .int .u8 ((s 5).toNat : Int), .int .u32 (x : Int), .int .u32 (y : Int)] 41 (0, 0))) ∧ Hid (Below w.heap.size w wt) := ⟨_, _, rfl, rfl, hide (heap_alloc_new _ _), hide ((Below.refl _ _).alloc (Nat.le_refl _) _)⟩
  try rw [hq0]
  try rw [hB]
  have HBW := hide hB
  clear hq0 hB
  refine (speaks3_any w0).mono ?_
  rintro e w1 ⟨rfl, b1⟩
  have HH1 := hide (below_block b1 HH0.out (Nat.le_refl _))
  have HB1 := hide (HB0.out.trans (b1.mono HB0.out.size))
  clear b1 HH0 HB0
  go_wp2
  go_ret
  exact ⟨rfl, HB1.out⟩

set_option maxHeartbeats 2000000 in
theorem earp_bad (w : World) (o x y : Nat) (d s : Nat → UInt8) (aR : Option Addr) (xs : List Int) (n cR : Nat) (aM : Option Addr) (ms : List Int) (m cM : Nat) (hR : Lies w aR xs n cR) (hM : Lies w aM ms m cM) (hl : xs.length = n) (hlm : ms.length = m) (hb : ∀ z ∈ xs, 0 ≤ z ∧ z ≤ 255) (hbm : ∀ z ∈ ms, 0 ≤ z ∧ z ≤ 255) (ho : o ≤ 65535) (hx : x ≤ 4294967295) (hy : y ≤ 4294967295) (h0 : n ≤ 3000) (h00 : m ≤ 3000) (hop : ¬ (o = 1 ∨ o = 2)) (o1 x1 y1 : Nat) (d1 s1 : Nat → UInt8) (code : Int)
    (hP : ∀ w a cap, Lies w a xs n cap → Calls Try.prog 13 #[.slice a n cap] w fun e w' => e = .returned (.tuple #[.agg #[.int .u16 (o1 : Int), .int .u8 ((d1 0).toNat : Int), .int .u8 ((d1 1).toNat : Int), .int .u8 ((d1 2).toNat : Int), .int .u8 ((d1 3).toNat : Int), .int .u8 ((d1 4).toNat : Int), .int .u8 ((d1 5).toNat : Int), .int .u8 ((s1 0).toNat : Int), .int .u8 ((s1 1).toNat : Int), .int .u8 ((s1 2).toNat : Int), .int .u8 ((s1 3).toNat : Int), .int .u8 ((s1 4).toNat : Int), .int .u8 ((s1 5).toNat : Int), .int .u32 (x1 : Int), .int .u32 (y1 : Int)], .int .i64 code]) ∧ Below w.heap.size w w')
    (hQ : ∀ w a cap, Lies w a xs n cap → Calls Try.prog 14 #[.slice a n cap] w fun e w' => e = .returned (.tuple #[.agg #[.int .u16 (o1 : Int), .int .u8 ((d1 0).toNat : Int), .int .u8 ((d1 1).toNat : Int), .int .u8 ((d1 2).toNat : Int), .int .u8 ((d1 3).toNat : Int), .int .u8 ((d1 4).toNat : Int), .int .u8 ((d1 5).toNat : Int), .int .u8 ((s1 0).toNat : Int), .int .u8 ((s1 1).toNat : Int), .int .u8 ((s1 2).toNat : Int), .int .u8 ((s1 3).toNat : Int), .int .u8 ((s1 4).toNat : Int), .int .u8 ((s1 5).toNat : Int), .int .u32 (x1 : Int), .int .u32 (y1 : Int)], .int .i64 code]) ∧ Below w.heap.size w w') :
    Calls Try.prog 4 #[.agg #[.int .u16 (o : Int), .int .u8 ((d 0).toNat : Int), .int .u8 ((d 1).toNat : Int), .int .u8 ((d 2).toNat : Int), .int .u8 ((d 3).toNat : Int), .int .u8 ((d 4).toNat : Int), .int .u8 ((d 5).toNat : Int), .int .u8 ((s 0).toNat : Int), .int .u8 ((s 1).toNat : Int), .int .u8 ((s 2).toNat : Int), .int .u8 ((s 3).toNat : Int), .int .u8 ((s 4).toNat : Int), .int .u8 ((s 5).toNat : Int), .int .u32 (x : Int), .int .u32 (y : Int)], .slice aR n cR, .slice aM m cM] w fun e w' => e = .returned (.bool true) ∧ Below w.heap.size w w' := by
  have HP := hide hP
  have HQ := hide hQ
  have HR := hide hR
  have HM := hide hM
  have HL := hide hl
  have HLM := hide hlm
  have HBX := hide hb
  have HBM := hide hbm
  have HOP := hide hop
  have hg1 : ¬ ((3000 : Int) < (n : Int)) := by omega
  have hg2 : ¬ ((3000 : Int) < (m : Int)) := by omega
  clear hP hQ hR hM hl hlm hb hbm hop
  go_enter Try.func4, Try.ntmps4
  go_wp2_with fail
  obtain ⟨B0, w0, hB, hq0, HH0, HB0⟩ : ∃ B0 wt, w.heap.size = B0 ∧ w.alloc (.cells #[.int .u16 (o : Int), .int .u8 ((d 0).toNat : Int), .int .u8 ((d 1).toNat : Int), .int .u8 ((d 2).toNat : Int), .int .u8 ((d 3).toNat : Int), .int .u8 ((d 4).toNat : Int), .int .u8 ((d 5).toNat : Int), .int .u8 ((s 0).toNat : Int), .int .u8 ((s 1).toNat : Int), .int .u8 ((s 2).toNat : Int), .int .u8 ((s 3).toNat : Int), .int .u8 ((s 4).toNat : Int), .int .u8 ((s 5).toNat : Int), .int .u32 (x : Int), .int .u32 (y : Int)] 41) = wt ∧ Hid (wt.heap[B0]? = some (.cells #[.int .u16 (o : Int), .int .u8 ((d 0).toNat : Int), .int .u8 ((d 1).toNat : Int), .int .u8 ((d 2).toNat : Int), .int .u8 ((d 3).toNat : Int), .int .u8 ((d 4).toNat : Int), .int .u8 ((d 5).toNat : Int), .int .u8 ((s 0).toNat : Int), .int .u8 ((s 1).toNat : Int), .int .u8 ((s 2).toNat : Int), .int .u8 ((s 3).toNat : Int), .int .u8 ((s 4).toNat : Int), .int .u8 ((s 5).toNat : Int), .int .u32 (x : Int), .int .u32 (y : Int)] 41 (0, 0))) ∧ Hid (Below w.heap.size w wt) := ⟨_, _, rfl, rfl, hide (heap_alloc_new _ _), hide ((Below.refl _ _).alloc (Nat.le_refl _) _)⟩
  try rw [hq0]
  try rw [hB]
  have HBW := hide hB
  clear hq0 hB
  refine (speaks3_any w0).mono ?_
  rintro e w1 ⟨rfl, b1⟩
  have HH1 := hide (below_block b1 HH0.out (Nat.le_refl _))
  have HB1 := hide (HB0.out.trans (b1.mono HB0.out.size))
  clear b1 HH0 HB0
  obtain ⟨uc, uf⟩ := arp15 HH1.out
  obtain ⟨u0, u1, u2, u3, u4, u5, u6, u7, u8, u9, u10, u11, u12, u13, u14⟩ := uc
  clear uf
  go_wp2_with fail
  refine (earp_arg w1 o d s x y HOP.out).mono ?_
  rintro e w2 ⟨rfl, b2⟩
  have HH2 := hide (below_block b2 HH1.out (Nat.le_refl _))
  have HB2 := hide (HB1.out.trans (b2.mono HB1.out.size))
  have hs12 := b2.size
  clear b2 u0 u1 u2 u3 u4 u5 u6 u7 u8 u9 u10 u11 u12 u13 u14 HH1 HB1
  obtain ⟨uc, uf⟩ := arp15 HH2.out
  obtain ⟨u0, u1, u2, u3, u4, u5, u6, u7, u8, u9, u10, u11, u12, u13, u14⟩ := uc
  clear uf
  go_wp2_with fail
  refine (rarp_arg w2 o d s x y HOP.out).mono ?_
  rintro e w3 ⟨a6, c6, rfl, b3⟩
  have HH3 := hide (below_block b3 HH2.out (Nat.le_refl _))
  have HB3 := hide (HB2.out.trans (b3.mono HB2.out.size))
  clear b3 u0 u1 u2 u3 u4 u5 u6 u7 u8 u9 u10 u11 u12 u13 u14 HH2 HB2
  go_wp2_with fail
  refine (HP.out w3 aR cR (HR.out.below HB3.out (Nat.le_refl _))).mono ?_
  rintro e w4 ⟨rfl, b4⟩
  obtain ⟨X, w5, hX, hw5, HX, HB5⟩ : ∃ X wt, w4.heap.size = X ∧ w4.alloc (.cells #[.int .u16 (o1 : Int), .int .u8 ((d1 0).toNat : Int), .int .u8 ((d1 1).toNat : Int), .int .u8 ((d1 2).toNat : Int), .int .u8 ((d1 3).toNat : Int), .int .u8 ((d1 4).toNat : Int), .int .u8 ((d1 5).toNat : Int), .int .u8 ((s1 0).toNat : Int), .int .u8 ((s1 1).toNat : Int), .int .u8 ((s1 2).toNat : Int), .int .u8 ((s1 3).toNat : Int), .int .u8 ((s1 4).toNat : Int), .int .u8 ((s1 5).toNat : Int), .int .u32 (x1 : Int), .int .u32 (y1 : Int)] 41) = wt ∧ Hid (wt.heap[X]? = some (.cells #[.int .u16 (o1 : Int), .int .u8 ((d1 0).toNat : Int), .int .u8 ((d1 1).toNat : Int), .int .u8 ((d1 2).toNat : Int), .int .u8 ((d1 3).toNat : Int), .int .u8 ((d1 4).toNat : Int), .int .u8 ((d1 5).toNat : Int), .int .u8 ((s1 0).toNat : Int), .int .u8 ((s1 1).toNat : Int), .int .u8 ((s1 2).toNat : Int), .int .u8 ((s1 3).toNat : Int), .int .u8 ((s1 4).toNat : Int), .int .u8 ((s1 5).toNat : Int), .int .u32 (x1 : Int), .int .u32 (y1 : Int)] 41 (0, 0))) ∧ Hid (Below w3.heap.size w3 wt) := ⟨_, _, rfl, rfl, hide (heap_alloc_new _ _), hide (b4.alloc b4.size _)⟩
  clear b4
  go_wp2_with fail
  try rw [hw5]
  try rw [hX]
  clear hw5 hX
  refine (HQ.out w5 aR cR (HR.out.below (HB3.out.trans (HB5.out.mono HB3.out.size)) (Nat.le_refl _))).mono ?_
  rintro e w6 ⟨rfl, b6⟩
  obtain ⟨Y, w7, hY, hw7, HY, HB7⟩ : ∃ Y wt, w6.heap.size = Y ∧ w6.alloc (.cells #[.int .u16 (o1 : Int), .int .u8 ((d1 0).toNat : Int), .int .u8 ((d1 1).toNat : Int), .int .u8 ((d1 2).toNat : Int), .int .u8 ((d1 3).toNat : Int), .int .u8 ((d1 4).toNat : Int), .int .u8 ((d1 5).toNat : Int), .int .u8 ((s1 0).toNat : Int), .int .u8 ((s1 1).toNat : Int), .int .u8 ((s1 2).toNat : Int), .int .u8 ((s1 3).toNat : Int), .int .u8 ((s1 4).toNat : Int), .int .u8 ((s1 5).toNat : Int), .int .u32 (x1 : Int), .int .u32 (y1 : Int)] 41) = wt ∧ Hid (wt.heap[Y]? = some (.cells #[.int .u16 (o1 : Int), .int .u8 ((d1 0).toNat : Int), .int .u8 ((d1 1).toNat : Int), .int .u8 ((d1 2).toNat : Int), .int .u8 ((d1 3).toNat : Int), .int .u8 ((d1 4).toNat : Int), .int .u8 ((d1 5).toNat : Int), .int .u8 ((s1 0).toNat : Int), .int .u8 ((s1 1).toNat : Int), .int .u8 ((s1 2).toNat : Int), .int .u8 ((s1 3).toNat : Int), .int .u8 ((s1 4).toNat : Int), .int .u8 ((s1 5).toNat : Int), .int .u32 (x1 : Int), .int .u32 (y1 : Int)] 41 (0, 0))) ∧ Hid (Below w5.heap.size w5 wt) := ⟨_, _, rfl, rfl, hide (heap_alloc_new _ _), hide (b6.alloc b6.size _)⟩
  have HX := hide (below_block HB7.out HX.out (Nat.le_refl _))
  have HB7 := hide (HB5.out.trans (HB7.out.mono HB5.out.size))
  have HBB := hide (HB3.out.trans (HB7.out.mono HB3.out.size))
  have HH7 := hide (below_block HB7.out HH3.out (Nat.le_refl _))
  clear b6 HB5 HH3
  obtain ⟨pc, pf⟩ := arp15 HX.out
  obtain ⟨p0, p1, p2, p3, p4, p5, p6, p7, p8, p9, p10, p11, p12, p13, p14⟩ := pc
  clear pf
  obtain ⟨qc, qf⟩ := arp15 HY.out
  obtain ⟨q0, q1, q2, q3, q4, q5, q6, q7, q8, q9, q10, q11, q12, q13, q14⟩ := qc
  clear qf
  have hself := arp_in_self o1 x1 y1 d1 s1
  have hc1 := conv_any none [] 0 w7 (fun h => absurd rfl h)
  have hc2 := conv_any a6 [] c6 w7 (fun h => absurd rfl h)
  rw [show ([] : List Int).length = 0 from rfl] at hc1 hc2
  go_wp2
  go_ret
  exact ⟨rfl, HBB.out⟩

set_option maxHeartbeats 2000000 in
theorem earp_good (w : World) (o x y : Nat) (d s : Nat → UInt8) (aR : Option Addr) (xs : List Int) (n cR : Nat) (aM : Option Addr) (ms : List Int) (m cM : Nat) (hR : Lies w aR xs n cR) (hM : Lies w aM ms m cM) (hl : xs.length = n) (hlm : ms.length = m) (hb : ∀ z ∈ xs, 0 ≤ z ∧ z ≤ 255) (hbm : ∀ z ∈ ms, 0 ≤ z ∧ z ≤ 255) (ho : o ≤ 65535) (hx : x ≤ 4294967295) (hy : y ≤ 4294967295) (h0 : n ≤ 3000) (h00 : m ≤ 3000) (hop : o = 1 ∨ o = 2) (o1 x1 y1 : Nat) (d1 s1 : Nat → UInt8) (code : Int)
    (hP : ∀ w a cap, Lies w a xs n cap → Calls Try.prog 13 #[.slice a n cap] w fun e w' => e = .returned (.tuple #[.agg #[.int .u16 (o1 : Int), .int .u8 ((d1 0).toNat : Int), .int .u8 ((d1 1).toNat : Int), .int .u8 ((d1 2).toNat : Int), .int .u8 ((d1 3).toNat : Int), .int .u8 ((d1 4).toNat : Int), .int .u8 ((d1 5).toNat : Int), .int .u8 ((s1 0).toNat : Int), .int .u8 ((s1 1).toNat : Int), .int .u8 ((s1 2).toNat : Int), .int .u8 ((s1 3).toNat : Int), .int .u8 ((s1 4).toNat : Int), .int .u8 ((s1 5).toNat : Int), .int .u32 (x1 : Int), .int .u32 (y1 : Int)], .int .i64 code]) ∧ Below w.heap.size w w')
    (hQ : ∀ w a cap, Lies w a xs n cap → Calls Try.prog 14 #[.slice a n cap] w fun e w' => e = .returned (.tuple #[.agg #[.int .u16 (o1 : Int), .int .u8 ((d1 0).toNat : Int), .int .u8 ((d1 1).toNat : Int), .int .u8 ((d1 2).toNat : Int), .int .u8 ((d1 3).toNat : Int), .int .u8 ((d1 4).toNat : Int), .int .u8 ((d1 5).toNat : Int), .int .u8 ((s1 0).toNat : Int), .int .u8 ((s1 1).toNat : Int), .int .u8 ((s1 2).toNat : Int), .int .u8 ((s1 3).toNat : Int), .int .u8 ((s1 4).toNat : Int), .int .u8 ((s1 5).toNat : Int), .int .u32 (x1 : Int), .int .u32 (y1 : Int)], .int .i64 code]) ∧ Below w.heap.size w w') :
    Calls Try.prog 4 #[.agg #[.int .u16 (o : Int), .int .u8 ((d 0).toNat : Int), .int .u8 ((d 1).toNat : Int), .int .u8 ((d 2).toNat : Int), .int .u8 ((d 3).toNat : Int), .int .u8 ((d 4).toNat : Int), .int .u8 ((d 5).toNat : Int), .int .u8 ((s 0).toNat : Int), .int .u8 ((s 1).toNat : Int), .int .u8 ((s 2).toNat : Int), .int .u8 ((s 3).toNat : Int), .int .u8 ((s 4).toNat : Int), .int .u8 ((s 5).toNat : Int), .int .u32 (x : Int), .int .u32 (y : Int)], .slice aR n cR, .slice aM m cM] w fun e w' => e = .returned (.bool true) ∧ Below w.heap.size w w' := by
  have HP := hide hP
  have HQ := hide hQ
  have HR := hide hR
  have HM := hide hM
  have HL := hide hl
  have HLM := hide hlm
  have HBX := hide hb
  have HBM := hide hbm
  have HOP := hide hop
  have hg1 : ¬ ((3000 : Int) < (n : Int)) := by omega
  have hg2 : ¬ ((3000 : Int) < (m : Int)) := by omega
  clear hP hQ hR hM hl hlm hb hbm hop
  go_enter Try.func4, Try.ntmps4
  go_wp2_with fail
  obtain ⟨B0, w0, hB, hq0, HH0, HB0⟩ : ∃ B0 wt, w.heap.size = B0 ∧ w.alloc (.cells #[.int .u16 (o : Int), .int .u8 ((d 0).toNat : Int), .int .u8 ((d 1).toNat : Int), .int .u8 ((d 2).toNat : Int), .int .u8 ((d 3).toNat : Int), .int .u8 ((d 4).toNat : Int), .int .u8 ((d 5).toNat : Int), .int .u8 ((s 0).toNat : Int), .int .u8 ((s 1).toNat : Int), .int .u8 ((s 2).toNat : Int), .int .u8 ((s 3).toNat : Int), .int .u8 ((s 4).toNat : Int), .int .u8 ((s 5).toNat : Int), .int .u32 (x : Int), .int .u32 (y : Int)] 41) = wt ∧ Hid (wt.heap[B0]? = some (.cells #[.int .u16 (o : Int), .int .u8 ((d 0).toNat : Int), .int .u8 ((d 1).toNat : Int), .int .u8 ((d 2).toNat : Int), .int .u8 ((d 3).toNat : Int), .int .u8 ((d 4).toNat : Int), .int .u8 ((d 5).toNat : Int), .int .u8 ((s 0).toNat : Int), .int .u8 ((s 1).toNat : Int), .int .u8 ((s 2).toNat : Int), .int .u8 ((s 3).toNat : Int), .int .u8 ((s 4).toNat : Int), .int .u8 ((s 5).toNat : Int), .int .u32 (x : Int), .int .u32 (y : Int)] 41 (0, 0))) ∧ Hid (Below w.heap.size w wt) := ⟨_, _, rfl, rfl, hide (heap_alloc_new _ _), hide ((Below.refl _ _).alloc (Nat.le_refl _) _)⟩
  try rw [hq0]
  try rw [hB]
  have HBW := hide hB
  clear hq0 hB
  refine (speaks3_any w0).mono ?_
  rintro e w1 ⟨rfl, b1⟩
  have HH1 := hide (below_block b1 HH0.out (Nat.le_refl _))
  have HB1 := hide (HB0.out.trans (b1.mono HB0.out.size))
  clear b1 HH0 HB0
  obtain ⟨uc, uf⟩ := arp15 HH1.out
  obtain ⟨u0, u1, u2, u3, u4, u5, u6, u7, u8, u9, u10, u11, u12, u13, u14⟩ := uc
  clear uf
  go_wp2_with fail
  refine (earp_ok w1 o d s x y HOP.out hx hy).mono ?_
  rintro e w2 ⟨a5, c5, rfl, o2, b2⟩
  have HO2 := hide o2
  have HH2 := hide (below_block b2 HH1.out (Nat.le_refl _))
  have HB2 := hide (HB1.out.trans (b2.mono HB1.out.size))
  have hs12 := b2.size
  clear b2 u0 u1 u2 u3 u4 u5 u6 u7 u8 u9 u10 u11 u12 u13 u14 HH1 HB1
  obtain ⟨uc, uf⟩ := arp15 HH2.out
  obtain ⟨u0, u1, u2, u3, u4, u5, u6, u7, u8, u9, u10, u11, u12, u13, u14⟩ := uc
  clear uf
  go_wp2_with fail
  refine (rarp_ok w2 o d s x y HOP.out hx hy).mono ?_
  rintro e w3 ⟨a6, c6, rfl, o3, b3⟩
  have HO3 := hide o3
  have HO2 := hide (owns_below HO2.out b3 (Nat.le_refl _))
  have HH3 := hide (below_block b3 HH2.out (Nat.le_refl _))
  have HB3 := hide (HB2.out.trans (b3.mono HB2.out.size))
  clear b3 u0 u1 u2 u3 u4 u5 u6 u7 u8 u9 u10 u11 u12 u13 u14 HH2 HB2
  go_wp2_with fail
  refine (HP.out w3 aR cR (HR.out.below HB3.out (Nat.le_refl _))).mono ?_
  rintro e w4 ⟨rfl, b4⟩
  obtain ⟨X, w5, hX, hw5, HX, HB5⟩ : ∃ X wt, w4.heap.size = X ∧ w4.alloc (.cells #[.int .u16 (o1 : Int), .int .u8 ((d1 0).toNat : Int), .int .u8 ((d1 1).toNat : Int), .int .u8 ((d1 2).toNat : Int), .int .u8 ((d1 3).toNat : Int), .int .u8 ((d1 4).toNat : Int), .int .u8 ((d1 5).toNat : Int), .int .u8 ((s1 0).toNat : Int), .int .u8 ((s1 1).toNat : Int), .int .u8 ((s1 2).toNat : Int), .int .u8 ((s1 3).toNat : Int), .int .u8 ((s1 4).toNat : Int), .int .u8 ((s1 5).toNat : Int), .int .u32 (x1 : Int), .int .u32 (y1 : Int)] 41) = wt ∧ Hid (wt.heap[X]? = some (.cells #[.int .u16 (o1 : Int), .int .u8 ((d1 0).toNat : Int), .int .u8 ((d1 1).toNat : Int), .int .u8 ((d1 2).toNat : Int), .int .u8 ((d1 3).toNat : Int), .int .u8 ((d1 4).toNat : Int), .int .u8 ((d1 5).toNat : Int), .int .u8 ((s1 0).toNat : Int), .int .u8 ((s1 1).toNat : Int), .int .u8 ((s1 2).toNat : Int), .int .u8 ((s1 3).toNat : Int), .int .u8 ((s1 4).toNat : Int), .int .u8 ((s1 5).toNat : Int), .int .u32 (x1 : Int), .int .u32 (y1 : Int)] 41 (0, 0))) ∧ Hid (Below w3.heap.size w3 wt) := ⟨_, _, rfl, rfl, hide (heap_alloc_new _ _), hide (b4.alloc b4.size _)⟩
  clear b4
  go_wp2_with fail
  try rw [hw5]
  try rw [hX]
  clear hw5 hX
  refine (HQ.out w5 aR cR (HR.out.below (HB3.out.trans (HB5.out.mono HB3.out.size)) (Nat.le_refl _))).mono ?_
  rintro e w6 ⟨rfl, b6⟩
  obtain ⟨Y, w7, hY, hw7, HY, HB7⟩ : ∃ Y wt, w6.heap.size = Y ∧ w6.alloc (.cells #[.int .u16 (o1 : Int), .int .u8 ((d1 0).toNat : Int), .int .u8 ((d1 1).toNat : Int), .int .u8 ((d1 2).toNat : Int), .int .u8 ((d1 3).toNat : Int), .int .u8 ((d1 4).toNat : Int), .int .u8 ((d1 5).toNat : Int), .int .u8 ((s1 0).toNat : Int), .int .u8 ((s1 1).toNat : Int), .int .u8 ((s1 2).toNat : Int), .int .u8 ((s1 3).toNat : Int), .int .u8 ((s1 4).toNat : Int), .int .u8 ((s1 5).toNat : Int), .int .u32 (x1 : Int), .int .u32 (y1 : Int)] 41) = wt ∧ Hid (wt.heap[Y]? = some (.cells #[.int .u16 (o1 : Int), .int .u8 ((d1 0).toNat : Int), .int .u8 ((d1 1).toNat : Int), .int .u8 ((d1 2).toNat : Int), .int .u8 ((d1 3).toNat : Int), .int .u8 ((d1 4).toNat : Int), .int .u8 ((d1 5).toNat : Int), .int .u8 ((s1 0).toNat : Int), .int .u8 ((s1 1).toNat : Int), .int .u8 ((s1 2).toNat : Int), .int .u8 ((s1 3).toNat : Int), .int .u8 ((s1 4).toNat : Int), .int .u8 ((s1 5).toNat : Int), .int .u32 (x1 : Int), .int .u32 (y1 : Int)] 41 (0, 0))) ∧ Hid (Below w5.heap.size w5 wt) := ⟨_, _, rfl, rfl, hide (heap_alloc_new _ _), hide (b6.alloc b6.size _)⟩
  have HX := hide (below_block HB7.out HX.out (Nat.le_refl _))
  have HB7 := hide (HB5.out.trans (HB7.out.mono HB5.out.size))
  have HBB := hide (HB3.out.trans (HB7.out.mono HB3.out.size))
  have HH7 := hide (below_block HB7.out HH3.out (Nat.le_refl _))
  clear b6 HB5 HH3
  obtain ⟨pc, pf⟩ := arp15 HX.out
  obtain ⟨p0, p1, p2, p3, p4, p5, p6, p7, p8, p9, p10, p11, p12, p13, p14⟩ := pc
  clear pf
  obtain ⟨qc, qf⟩ := arp15 HY.out
  obtain ⟨q0, q1, q2, q3, q4, q5, q6, q7, q8, q9, q10, q11, q12, q13, q14⟩ := qc
  clear qf
  have hself := arp_in_self o1 x1 y1 d1 s1
  have HO2 := hide (owns_below HO2.out HB7.out (Nat.le_refl _))
  have HO3 := hide (owns_below HO3.out HB7.out (Nat.le_refl _))
  have hc1 := conv_any a5 (arpL o d s x y) c5 w7 (Row.of_owns HO2.out)
  have hc2 := conv_any a6 (arpL o d s x y) c6 w7 (Row.of_owns HO3.out)
  rw [arpL_len] at hc1 hc2
  have hba := HBB.out.alloc HBB.out.size (.cells #[] 5)
  have hb7 : Below w7.heap.size w7 (w7.alloc (.cells #[] 5)) := (Below.refl _ _).alloc (Nat.le_refl _) _
  obtain ⟨v8, w8, hrun8, o8, b8⟩ := app_own (w7.alloc (.cells #[] 5)) w7.heap.size _ 0 [] (owns_nil2 w7) a5 (arpL o d s x y) 28 c5 ((Row.of_owns HO2.out).below hb7 (Nat.le_refl _)) (arpL_len _ _ _ _ _) (Lies.of_owns HO2.out).no (by omega) (by simp)
  simp only [Nat.zero_add, List.nil_append] at o8 hrun8
  obtain ⟨a8, c8, rfl⟩ := slice_form o8
  have hb78 := hb7.trans b8
  have hbw8 := HBB.out.trans (hb78.mono HBB.out.size)
  obtain ⟨v9, w9, hrun9, o9, b9⟩ := app_own w8 w7.heap.size _ 28 (arpL o d s x y) o8 aM ms m cM (HM.out.row.below hbw8 (Nat.le_refl _)) HLM.out HM.out.no (by omega) hb78.size
  obtain ⟨a9, c9, rfl⟩ := slice_form o9
  have HR8 := hide hrun8
  have HR9 := hide hrun9
  have hb79 := hb78.trans b9
  have HB9 := hide (HBB.out.trans (hb79.mono HBB.out.size))
  have HH9 := hide (below_block hb79 HH7.out (Nat.le_refl _))
  have HIN := hide (Lies.of_owns o9)
  clear hba hb7 hrun8 o8 b8 hb78 hbw8 hrun9 o9 b9 hb79
  go_wp2_with (first
    | (at_builtin; refine Lib.wpList_append_run (o := ⟨some 72, _, _, _, _, _⟩) _ rfl _ _ _ _ rfl _ _ rfl rfl _ _ HR8.out ?_)
    | (at_builtin; refine Lib.wpList_append_run (o := ⟨some 74, _, _, _, _, _⟩) _ rfl _ _ _ _ rfl _ _ rfl rfl _ _ HR9.out ?_))
  have hys : (arpL o d s x y ++ ms).take 28 = arpL o d s x y := by rw [List.take_append_of_le_length (by rw [arpL_len]; omega), List.take_of_length_le (by rw [arpL_len]; omega)]
  have hrd := earead_ok w9 a9 (arpL o d s x y ++ ms) (arpL o d s x y) (28 + m) c9 o x y bg d s HIN.out.row (by rw [List.length_append, arpL_len, HLM.out]) (by omega) HIN.out.le HIN.out.max hys (arpL_rng _ _ _ _ _) bg_nums
    (by rw [show ((arpL o d s x y).drop 6).take 2 = numB 2 o from rfl, valB_numB]; omega) ho (by decide) HOP.out rfl
    (by rw [show ((arpL o d s x y).drop 14).take 4 = numB 4 x from rfl, valB_numB]; omega) rfl
    (by rw [show ((arpL o d s x y).drop 24).take 4 = numB 4 y from rfl, valB_numB]; omega) hx hy
  have HRD := hide hrd
  clear hrd hys p0 p1 p2 p3 p4 p5 p6 p7 p8 p9 p10 p11 p12 p13 p14 q0 q1 q2 q3 q4 q5 q6 q7 q8 q9 q10 q11 q12 q13 q14 hself hc1 hc2 HX HY HO2 HO3 HR8 HR9
  refine HRD.out.mono ?_
  rintro e w10 ⟨rfl, b10⟩
  obtain ⟨Zb, w11, hZ, hw11, HZ, HB11⟩ : ∃ Z wt, w10.heap.size = Z ∧ w10.alloc (.cells #[.int .u16 (o : Int), .int .u8 ((d 0).toNat : Int), .int .u8 ((d 1).toNat : Int), .int .u8 ((d 2).toNat : Int), .int .u8 ((d 3).toNat : Int), .int .u8 ((d 4).toNat : Int), .int .u8 ((d 5).toNat : Int), .int .u8 ((s 0).toNat : Int), .int .u8 ((s 1).toNat : Int), .int .u8 ((s 2).toNat : Int), .int .u8 ((s 3).toNat : Int), .int .u8 ((s 4).toNat : Int), .int .u8 ((s 5).toNat : Int), .int .u32 (x : Int), .int .u32 (y : Int)] 41) = wt ∧ Hid (wt.heap[Z]? = some (.cells #[.int .u16 (o : Int), .int .u8 ((d 0).toNat : Int), .int .u8 ((d 1).toNat : Int), .int .u8 ((d 2).toNat : Int), .int .u8 ((d 3).toNat : Int), .int .u8 ((d 4).toNat : Int), .int .u8 ((d 5).toNat : Int), .int .u8 ((s 0).toNat : Int), .int .u8 ((s 1).toNat : Int), .int .u8 ((s 2).toNat : Int), .int .u8 ((s 3).toNat : Int), .int .u8 ((s 4).toNat : Int), .int .u8 ((s 5).toNat : Int), .int .u32 (x : Int), .int .u32 (y : Int)] 41 (0, 0))) ∧ Hid (Below w9.heap.size w9 wt) := ⟨_, _, rfl, rfl, hide (heap_alloc_new _ _), hide (b10.alloc b10.size _)⟩
  have HH11 := hide (below_block HB11.out HH9.out (Nat.le_refl _))
  have HBF := hide (HB9.out.trans (HB11.out.mono HB9.out.size))
  clear b10 HH9 HB9 HRD
  obtain ⟨pc, pf⟩ := arp15 HZ.out
  obtain ⟨p0, p1, p2, p3, p4, p5, p6, p7, p8, p9, p10, p11, p12, p13, p14⟩ := pc
  clear pf
  obtain ⟨qc, qf⟩ := arp15 HH11.out
  obtain ⟨q0, q1, q2, q3, q4, q5, q6, q7, q8, q9, q10, q11, q12, q13, q14⟩ := qc
  clear qf
  have hself := arp_in_self o x y d s
  go_wp2
  go_ret
  exact ⟨rfl, HBF.out⟩

theorem etherARP_any (w : World) (o x y : Nat) (d s : Nat → UInt8) (aR : Option Addr) (xs : List Int) (n cR : Nat) (aM : Option Addr) (ms : List Int) (m cM : Nat) (hR : Lies w aR xs n cR) (hM : Lies w aM ms m cM) (hl : xs.length = n) (hlm : ms.length = m) (hb : ∀ z ∈ xs, 0 ≤ z ∧ z ≤ 255) (hbm : ∀ z ∈ ms, 0 ≤ z ∧ z ≤ 255) (ho : o ≤ 65535) (hx : x ≤ 4294967295) (hy : y ≤ 4294967295) :
    Calls Try.prog 4 #[.agg #[.int .u16 (o : Int), .int .u8 ((d 0).toNat : Int), .int .u8 ((d 1).toNat : Int), .int .u8 ((d 2).toNat : Int), .int .u8 ((d 3).toNat : Int), .int .u8 ((d 4).toNat : Int), .int .u8 ((d 5).toNat : Int), .int .u8 ((s 0).toNat : Int), .int .u8 ((s 1).toNat : Int), .int .u8 ((s 2).toNat : Int), .int .u8 ((s 3).toNat : Int), .int .u8 ((s 4).toNat : Int), .int .u8 ((s 5).toNat : Int), .int .u32 (x : Int), .int .u32 (y : Int)], .slice aR n cR, .slice aM m cM] w fun e w' => e = .returned (.bool true) ∧ Below w.heap.size w w' := by
  by_cases h1 : 3000 < n
  · exact earp_longR w o x y d s aR xs n cR aM ms m cM hR hM hl hlm hb hbm ho hx hy h1
  by_cases h2 : 3000 < m
  · exact earp_longM w o x y d s aR xs n cR aM ms m cM hR hM hl hlm hb hbm ho hx hy (by omega) h2
  obtain ⟨o1, x1, y1, d1, s1, code, hP, hQ⟩ := arp_pair xs n hl hb (by omega)
  by_cases hop : o = 1 ∨ o = 2
  · exact earp_good w o x y d s aR xs n cR aM ms m cM hR hM hl hlm hb hbm ho hx hy (by omega) (by omega) hop o1 x1 y1 d1 s1 code hP hQ
  · exact earp_bad w o x y d s aR xs n cR aM ms m cM hR hM hl hlm hb hbm ho hx hy (by omega) (by omega) hop o1 x1 y1 d1 s1 code hP hQ
end Go.Proofs.Ytgpmgfpmfdaecaa
