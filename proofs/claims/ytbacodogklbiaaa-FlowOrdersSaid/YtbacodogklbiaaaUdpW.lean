/- What trans.WriteUDP answers. -/
import Derived.Test.YtbacodogklbiaaaTLay
namespace Go.Proofs.Ytbacodogklbiaaa
open Go.RowKit
set_option linter.unusedVariables false
set_option linter.unusedSimpArgs false
set_option maxRecDepth 100000

/-- A datagram's bytes without its check sum; the check sum as it is told; the bytes. -/
def udpZ (p q : Nat) (xs : List Int) : List Int := numB 2 p ++ (numB 2 q ++ (numB 2 (8 + xs.length) ++ (numB 2 0 ++ xs)))
theorem udpZ_len (p q : Nat) (xs : List Int) : (udpZ p q xs).length = 8 + xs.length := by simp [udpZ, numB_len]; omega
theorem udpZ_rng (p q : Nat) (xs : List Int) (hb : ∀ x ∈ xs, 0 ≤ x ∧ x ≤ 255) : ∀ x ∈ udpZ p q xs, 0 ≤ x ∧ x ≤ 255 := by
  intro x hx
  simp only [udpZ, List.mem_append] at hx
  rcases hx with h | h | h | h | h
  · exact numB_rng _ _ x h
  · exact numB_rng _ _ x h
  · exact numB_rng _ _ x h
  · exact numB_rng _ _ x h
  · exact hb x h
def udpK (src dst p q : Nat) (xs : List Int) : Int := toldI (csum (psB src dst 17 (8 + xs.length) ++ udpZ p q xs))
theorem toldI_rng (n : Int) (h0 : 0 ≤ n) (h1 : n ≤ 65535) : 0 ≤ toldI n ∧ toldI n ≤ 65535 := by unfold toldI; split <;> omega
theorem udpK_rng (src dst p q : Nat) (xs : List Int) : 0 ≤ udpK src dst p q xs ∧ udpK src dst p q xs ≤ 65535 := toldI_rng _ (csum_rng _).1 (csum_rng _).2
def udpS (src dst p q : Nat) (xs : List Int) : List Int := spl (udpZ p q xs) 6 (numB 2 (udpK src dst p q xs).toNat)
theorem num2_zero (w : World) :
    Calls Try.prog 81 #[.int .i64 2, .int .u64 0] w fun e w' => e = .returned (.slice (some ⟨w.heap.size, 0, none⟩) 2 2) ∧
      w'.ownsRow w.heap.size 5 1 (.slice (some ⟨w.heap.size, 0, none⟩) 2 2) 2 ((numB 2 0).map (Value.int .u8)) ∧ Below w.heap.size w w' := num_any 2 0 w (by omega)
theorem num2_eight (n : Nat) (w : World) (hn : n ≤ 1000000) :
    Calls Try.prog 81 #[.int .i64 2, .int .u64 (8 + (n : Int))] w fun e w' => e = .returned (.slice (some ⟨w.heap.size, 0, none⟩) 2 2) ∧
      w'.ownsRow w.heap.size 5 1 (.slice (some ⟨w.heap.size, 0, none⟩) 2 2) 2 ((numB 2 (8 + n)).map (Value.int .u8)) ∧ Below w.heap.size w w' := by
  have h := num_any 2 (8 + n) w (by omega)
  rw [show ((8 + n : Nat) : Int) = 8 + (n : Int) by omega] at h
  exact h

theorem wudp_long (w : World) (s d : Int) (p q : Int) (pl : Bool) (da : Option Addr) (n dc : Nat) (h : 1472 < n) :
    Calls Try.prog 51 #[.int .u32 s, .int .u32 d, .agg #[.int .u16 p, .int .u16 q, .bool pl, .slice da n dc]] w fun e w' => e = .returned (.tuple #[.slice none 0 0, .int .i64 14]) ∧ Below w.heap.size w w' := by
  go_enter Try.func51, Try.ntmps51
  go_wp2
  go_ret2
  exact ⟨rfl, (Below.refl _ _).alloc (Nat.le_refl _) _⟩

set_option maxHeartbeats 1600000 in
theorem wudp_plain (w : World) (src dst p q : Nat) (da : Option Addr) (xs : List Int) (n dc : Nat) (hr : Row .u8 w da xs) (hn : da = none → dc = 0) (hl : xs.length = n) (h1 : n ≤ 1472) (hs : src ≤ 4294967295) (hd : dst ≤ 4294967295) (hp : p ≤ 65535) (hq : q ≤ 65535) :
    Calls Try.prog 51 #[.int .u32 src, .int .u32 dst, .agg #[.int .u16 (p : Int), .int .u16 (q : Int), .bool true, .slice da n dc]] w fun e w' => ∃ a c,
      e = .returned (.tuple #[.slice a (8 + n) c, .int .i64 0]) ∧ w'.ownsRow w.heap.size 5 1 (.slice a (8 + n) c) (8 + n) ((udpZ p q xs).map (Value.int .u8)) ∧ Below w.heap.size w w' := by
  have HR := hide hr
  have HN := hide hn
  have HL := hide hl
  have hZL := udpZ_len p q xs
  rw [HL.out] at hZL
  clear hr hn hl
  have HZL := hide hZL
  clear hZL
  go_enter Try.func51, Try.ntmps51
  go_wp2_with fail
  obtain ⟨B0, wq, hB, hqq, hlt, hbel, hheap⟩ : ∃ B0 wq, w.heap.size = B0 ∧ w.alloc (.cells #[.int .u16 (p : Int), .int .u16 (q : Int), .bool true, .slice da n dc] 54) = wq ∧ B0 < wq.heap.size ∧ Below w.heap.size w wq ∧
      wq.heap[B0]? = some (.cells #[.int .u16 (p : Int), .int .u16 (q : Int), .bool true, .slice da n dc] 54 (0, 0)) := ⟨_, _, rfl, rfl, by simp, (Below.refl _ _).alloc (Nat.le_refl _) _, heap_alloc_new _ _⟩
  rw [hqq, hB]
  have HB := hide hB
  have HH := hide hheap
  have c0 : wq.cell? ⟨B0, 0, none⟩ = some (.int .u16 p) := by simp only [World.cell?, hheap]; rfl
  have c1 : wq.cell? ⟨B0, 1, none⟩ = some (.int .u16 q) := by simp only [World.cell?, hheap]; rfl
  have c2 : wq.cell? ⟨B0, 2, none⟩ = some (.bool true) := by simp only [World.cell?, hheap]; rfl
  have c3 : wq.cell? ⟨B0, 3, none⟩ = some (.slice da n dc) := by simp only [World.cell?, hheap]; rfl
  have R := hide (HR.out.below hbel (Nat.le_refl _))
  have BE := hide hbel
  have hw1 : IntKind.u64.wrap (p : Int) = (p : Int) := wraps_u64 _ (by omega) (by omega)
  have hw2 : IntKind.u64.wrap (q : Int) = (q : Int) := wraps_u64 _ (by omega) (by omega)
  have hw3 : IntKind.u64.wrap (8 + (n : Int)) = 8 + (n : Int) := wraps_u64 _ (by omega) (by omega)
  clear hqq hB hheap hbel
  go_region_held3 (fun w' => w'.cell? ⟨B0, 0, none⟩ = some (.int .u16 p) ∧ w'.cell? ⟨B0, 1, none⟩ = some (.int .u16 q) ∧ w'.cell? ⟨B0, 3, none⟩ = some (.slice da n dc)) (go_keep) (first
    | (go_at_call 81; (with_reducible refine (num2_any p _ ?_).mono ?_); omega; rintro e w1 ⟨rfl, o1, b1⟩; have k10 := (bcell b1 B0 0 hlt).trans c0; have k11 := (bcell b1 B0 1 hlt).trans c1; have k13 := (bcell b1 B0 3 hlt).trans c3; have b1' : Below wq.heap.size wq w1 := (Below.refl _ _).drew.trans b1; have B1 := hide b1'; have O1 := hide (Row.of_owns o1); have hlt1 : B0 < w1.heap.size := Nat.lt_of_lt_of_le hlt b1.size; clear o1 b1 b1')
    | (go_at_call 81; (with_reducible refine (num2_any q _ ?_).mono ?_); omega; rintro e w2 ⟨rfl, o2, b2⟩; have k20 := (bcell b2 B0 0 hlt1).trans k10; have k21 := (bcell b2 B0 1 hlt1).trans k11; have k23 := (bcell b2 B0 3 hlt1).trans k13; have B2 := hide b2; have O2 := hide (Row.of_owns o2); have hlt2 : B0 < w2.heap.size := Nat.lt_of_lt_of_le hlt1 b2.size; clear o2 b2 k10 k11 k13)
    | (go_at_call 81; (with_reducible refine (num2_eight n _ ?_).mono ?_); omega; rintro e w3 ⟨rfl, o3, b3⟩; have k30 := (bcell b3 B0 0 hlt2).trans k20; have k31 := (bcell b3 B0 1 hlt2).trans k21; have k33 := (bcell b3 B0 3 hlt2).trans k23; have B3 := hide b3; have O3 := hide (Row.of_owns o3); have hlt3 : B0 < w3.heap.size := Nat.lt_of_lt_of_le hlt2 b3.size; clear o3 b3 k20 k21 k23)
    | (go_at_call 81; (with_reducible refine (num2_zero _).mono ?_); rintro e w4 ⟨rfl, o4, b4⟩; have k40 := (bcell b4 B0 0 hlt3).trans k30; have k41 := (bcell b4 B0 1 hlt3).trans k31; have k43 := (bcell b4 B0 3 hlt3).trans k33; have B4 := hide b4; have O4 := hide (Row.of_owns o4); have hlt4 : B0 < w4.heap.size := Nat.lt_of_lt_of_le hlt3 b4.size; clear o4 b4 k30 k31 k33;
       have hB34 := hide (B3.out.trans (B4.out.mono B3.out.size)); have hB24 := hide (B2.out.trans (hB34.out.mono B2.out.size)); have hB14 := hide (B1.out.trans (hB24.out.mono B1.out.size));
       have hrows := hide (rows_some (c := 2) (O1.out.below hB24.out (Nat.le_refl _)) (rows_some (c := 2) (O2.out.below hB34.out (Nat.le_refl _)) (rows_some (c := 2) (O3.out.below B4.out (Nat.le_refl _)) (rows_some (c := 2) O4.out (rows_cons (c := dc) (R.out.below hB14.out (Nat.le_refl _)) HN.out (rows_nil w4)))))))
    | (go_at_call 80; (with_reducible refine (joinL w4 _ _ 5 (8 + n) _ rfl rfl (by simp [Part.v, numB_len, HL.out]) hrows.out (by simp [flat, numB_len, HL.out]; omega) (by omega) (by omega)).mono ?_); rintro e w5 ⟨a5, c5, rfl, o5, b5⟩; have k50 := (bcell b5 B0 0 hlt4).trans k40; have k51 := (bcell b5 B0 1 hlt4).trans k41; have k53 := (bcell b5 B0 3 hlt4).trans k43; have O5 := hide o5; have B5 := hide b5; clear o5 b5 k40 k41 k43))
  have hz := O5.out
  have hfz : ∀ (A B C D : Option Addr), flat [(A, numB 2 p, 2), (B, numB 2 q, 2), (C, numB 2 (8 + n), 2), (D, numB 2 0, 2), (da, xs, dc)] = udpZ p q xs := fun _ _ _ _ => by simp [flat, udpZ, HL.out]
  rw [hfz] at hz
  clear hfz
  have hb15 := hB14.out.trans (B5.out.mono hB14.out.size)
  have hb05 := hide (BE.out.trans (hb15.mono BE.out.size))
  have OZ := hide (owns_mono hz (Nat.le_trans BE.out.size hB14.out.size))
  have c52 : w5.cell? ⟨B0, 2, none⟩ = some (.bool true) := (bcell hb15 B0 2 hlt).trans c2
  clear hz hb15 k50 k51 k53 c0 c1 c2 c3 hw1 hw2
  go_wp2
  go_ret2
  exact ⟨a5, c5, rfl, OZ.out, hb05.out⟩

set_option maxHeartbeats 1600000 in
theorem wudp_sum (w : World) (src dst p q : Nat) (da : Option Addr) (xs : List Int) (n dc : Nat) (hr : Row .u8 w da xs) (hn : da = none → dc = 0) (hl : xs.length = n) (hb : ∀ x ∈ xs, 0 ≤ x ∧ x ≤ 255) (h1 : n ≤ 1472) (hs : src ≤ 4294967295) (hd : dst ≤ 4294967295) (hp : p ≤ 65535) (hq : q ≤ 65535) :
    Calls Try.prog 51 #[.int .u32 src, .int .u32 dst, .agg #[.int .u16 (p : Int), .int .u16 (q : Int), .bool false, .slice da n dc]] w fun e w' => ∃ a c,
      e = .returned (.tuple #[.slice a (8 + n) c, .int .i64 0]) ∧ w'.ownsRow w.heap.size 5 1 (.slice a (8 + n) c) (8 + n) ((udpS src dst p q xs).map (Value.int .u8)) ∧ Below w.heap.size w w' := by
  have HR := hide hr
  have HN := hide hn
  have HL := hide hl
  have HBR := hide (udpZ_rng p q xs hb)
  clear hb
  have hZL := udpZ_len p q xs
  rw [HL.out] at hZL
  clear hr hn hl
  have HZL := hide hZL
  clear hZL
  go_enter Try.func51, Try.ntmps51
  go_wp2_with fail
  obtain ⟨B0, wq, hB, hqq, hlt, hbel, hheap⟩ : ∃ B0 wq, w.heap.size = B0 ∧ w.alloc (.cells #[.int .u16 (p : Int), .int .u16 (q : Int), .bool false, .slice da n dc] 54) = wq ∧ B0 < wq.heap.size ∧ Below w.heap.size w wq ∧
      wq.heap[B0]? = some (.cells #[.int .u16 (p : Int), .int .u16 (q : Int), .bool false, .slice da n dc] 54 (0, 0)) := ⟨_, _, rfl, rfl, by simp, (Below.refl _ _).alloc (Nat.le_refl _) _, heap_alloc_new _ _⟩
  rw [hqq, hB]
  have HB := hide hB
  have HH := hide hheap
  have c0 : wq.cell? ⟨B0, 0, none⟩ = some (.int .u16 p) := by simp only [World.cell?, hheap]; rfl
  have c1 : wq.cell? ⟨B0, 1, none⟩ = some (.int .u16 q) := by simp only [World.cell?, hheap]; rfl
  have c2 : wq.cell? ⟨B0, 2, none⟩ = some (.bool false) := by simp only [World.cell?, hheap]; rfl
  have c3 : wq.cell? ⟨B0, 3, none⟩ = some (.slice da n dc) := by simp only [World.cell?, hheap]; rfl
  have R := hide (HR.out.below hbel (Nat.le_refl _))
  have BE := hide hbel
  have hw1 : IntKind.u64.wrap (p : Int) = (p : Int) := wraps_u64 _ (by omega) (by omega)
  have hw2 : IntKind.u64.wrap (q : Int) = (q : Int) := wraps_u64 _ (by omega) (by omega)
  have hw3 : IntKind.u64.wrap (8 + (n : Int)) = 8 + (n : Int) := wraps_u64 _ (by omega) (by omega)
  clear hqq hB hheap hbel
  go_region_held3 (fun w' => w'.cell? ⟨B0, 0, none⟩ = some (.int .u16 p) ∧ w'.cell? ⟨B0, 1, none⟩ = some (.int .u16 q) ∧ w'.cell? ⟨B0, 3, none⟩ = some (.slice da n dc)) (go_keep) (first
    | (go_at_call 81; (with_reducible refine (num2_any p _ ?_).mono ?_); omega; rintro e w1 ⟨rfl, o1, b1⟩; have k10 := (bcell b1 B0 0 hlt).trans c0; have k11 := (bcell b1 B0 1 hlt).trans c1; have k13 := (bcell b1 B0 3 hlt).trans c3; have b1' : Below wq.heap.size wq w1 := (Below.refl _ _).drew.trans b1; have B1 := hide b1'; have O1 := hide (Row.of_owns o1); have hlt1 : B0 < w1.heap.size := Nat.lt_of_lt_of_le hlt b1.size; clear o1 b1 b1')
    | (go_at_call 81; (with_reducible refine (num2_any q _ ?_).mono ?_); omega; rintro e w2 ⟨rfl, o2, b2⟩; have k20 := (bcell b2 B0 0 hlt1).trans k10; have k21 := (bcell b2 B0 1 hlt1).trans k11; have k23 := (bcell b2 B0 3 hlt1).trans k13; have B2 := hide b2; have O2 := hide (Row.of_owns o2); have hlt2 : B0 < w2.heap.size := Nat.lt_of_lt_of_le hlt1 b2.size; clear o2 b2 k10 k11 k13)
    | (go_at_call 81; (with_reducible refine (num2_eight n _ ?_).mono ?_); omega; rintro e w3 ⟨rfl, o3, b3⟩; have k30 := (bcell b3 B0 0 hlt2).trans k20; have k31 := (bcell b3 B0 1 hlt2).trans k21; have k33 := (bcell b3 B0 3 hlt2).trans k23; have B3 := hide b3; have O3 := hide (Row.of_owns o3); have hlt3 : B0 < w3.heap.size := Nat.lt_of_lt_of_le hlt2 b3.size; clear o3 b3 k20 k21 k23)
    | (go_at_call 81; (with_reducible refine (num2_zero _).mono ?_); rintro e w4 ⟨rfl, o4, b4⟩; have k40 := (bcell b4 B0 0 hlt3).trans k30; have k41 := (bcell b4 B0 1 hlt3).trans k31; have k43 := (bcell b4 B0 3 hlt3).trans k33; have B4 := hide b4; have O4 := hide (Row.of_owns o4); have hlt4 : B0 < w4.heap.size := Nat.lt_of_lt_of_le hlt3 b4.size; clear o4 b4 k30 k31 k33;
       have hB34 := hide (B3.out.trans (B4.out.mono B3.out.size)); have hB24 := hide (B2.out.trans (hB34.out.mono B2.out.size)); have hB14 := hide (B1.out.trans (hB24.out.mono B1.out.size));
       have hrows := hide (rows_some (c := 2) (O1.out.below hB24.out (Nat.le_refl _)) (rows_some (c := 2) (O2.out.below hB34.out (Nat.le_refl _)) (rows_some (c := 2) (O3.out.below B4.out (Nat.le_refl _)) (rows_some (c := 2) O4.out (rows_cons (c := dc) (R.out.below hB14.out (Nat.le_refl _)) HN.out (rows_nil w4)))))))
    | (go_at_call 80; (with_reducible refine (joinL w4 _ _ 5 (8 + n) _ rfl rfl (by simp [Part.v, numB_len, HL.out]) hrows.out (by simp [flat, numB_len, HL.out]; omega) (by omega) (by omega)).mono ?_); rintro e w5 ⟨a5, c5, rfl, o5, b5⟩; have k50 := (bcell b5 B0 0 hlt4).trans k40; have k51 := (bcell b5 B0 1 hlt4).trans k41; have k53 := (bcell b5 B0 3 hlt4).trans k43; have O5 := hide o5; have B5 := hide b5; clear o5 b5 k40 k41 k43))
  have hz := O5.out
  have hfz : ∀ (A B C D : Option Addr), flat [(A, numB 2 p, 2), (B, numB 2 q, 2), (C, numB 2 (8 + n), 2), (D, numB 2 0, 2), (da, xs, dc)] = udpZ p q xs := fun _ _ _ _ => by simp [flat, udpZ, HL.out]
  rw [hfz] at hz
  clear hfz
  have hb15 := hB14.out.trans (B5.out.mono hB14.out.size)
  have hb05 := hide (BE.out.trans (hb15.mono BE.out.size))
  have OZ := hide (owns_mono hz (Nat.le_trans BE.out.size hB14.out.size))
  have c52 : w5.cell? ⟨B0, 2, none⟩ = some (.bool false) := (bcell hb15 B0 2 hlt).trans c2
  clear hz hb15 k50 k51 k53 c0 c1 c2 c3 hw1 hw2
  have hps := pseudo_any src dst 17 (8 + n) w5 hs hd (by omega) (by omega)
  rw [show ((8 + n : Nat) : Int) = 8 + (n : Int) by omega] at hps
  have HPS := hide hps
  clear hps
  go_wp2_with fail
  refine HPS.out.mono ?_
  rintro e w6 ⟨a6, c6, rfl, o6, b6⟩
  have OZ6 := hide (owns_below OZ.out b6 (Nat.le_refl _))
  have b06 := hb05.out.trans (b6.mono hb05.out.size)
  have hb06 := hide b06
  have hn6 := hide (none_cap o6)
  have O6 := hide (Row.of_owns o6)
  clear o6 b6 b06
  have hrow6 := hide (rows_cons (c := c6) O6.out hn6.out (rows_cons (c := c5) (Row.of_owns OZ6.out) (none_cap OZ6.out) (rows_nil w6)))
  go_wp2_with fail
  have hfl : flat [(a6, psB src dst 17 (8 + n), c6), (a5, udpZ p q xs, c5)] = psB src dst 17 (8 + n) ++ udpZ p q xs := by simp [flat]
  have hsm := sumL w6 [(a6, psB src dst 17 (8 + n), c6), (a5, udpZ p q xs, c5)] #[.slice a6 12 c6, .slice a5 (8 + n) c5] 2 _ rfl rfl (by simp [Part.v, psB_len, HZL.out]) hrow6.out (by rw [hfl, List.length_append, psB_len, HZL.out]; omega)
    (by rw [hfl]; intro x hx; rcases List.mem_append.1 hx with h | h; exact psB_rng _ _ _ _ (by omega) x h; exact HBR.out x h) (by omega)
  rw [hfl] at hsm
  have HSM := hide hsm
  clear hsm hfl
  refine HSM.out.mono ?_
  rintro e w7 ⟨rfl, b7⟩
  have OZ7 := hide (owns_below OZ6.out b7 (Nat.le_refl _))
  have hb07 := hide (hb06.out.trans (b7.mono hb06.out.size))
  clear b7
  have hcr := csum_rng (psB src dst 17 (8 + n) ++ udpZ p q xs)
  have hKr := udpK_rng src dst p q xs
  have hKe : toldI (csum (psB src dst 17 (8 + n) ++ udpZ p q xs)) = udpK src dst p q xs := by unfold udpK; rw [HL.out]
  generalize csum (psB src dst 17 (8 + n) ++ udpZ p q xs) = K at *
  have HKE := hide hKe
  have hc0 := hcr.1
  have hc1 := hcr.2
  clear hKe hcr
  go_wp2_with fail
  refine (told_any K w7 hc0 hc1).mono ?_
  rintro e w8 ⟨rfl, rfl⟩
  rw [HKE.out]
  have hS : spl (udpZ p q xs) 6 (numB 2 (udpK src dst p q xs).toNat) = udpS src dst p q xs := rfl
  have hKn : udpK src dst p q xs = (((udpK src dst p q xs).toNat : Nat) : Int) := by omega
  have hKle : (udpK src dst p q xs).toNat ≤ 65535 := by omega
  rw [hKn]
  have HSS := hide hS
  clear hKn hS hKr HKE
  generalize (udpK src dst p q xs).toNat = k at *
  have hlay := lay_any w.heap.size (8 + n) c5 6 a5 (udpZ p q xs) k w7 OZ7.out hb07.out.size (by omega) (by omega) hKle
  rw [HSS.out] at hlay
  have HLY := hide hlay
  clear hlay
  go_wp2_with fail
  refine HLY.out.mono ?_
  rintro e w9 ⟨rfl, o9, b9⟩
  have O9 := hide o9
  have B9 := hide (hb07.out.trans b9)
  clear o9 b9
  go_wp2
  go_ret2
  exact ⟨a5, c5, rfl, O9.out, B9.out⟩
end Go.Proofs.Ytbacodogklbiaaa
