/- The bytes of datagrams and their sums: plain facts. -/
import Derived.Test.YtgggcapgaikbeaaPk07
import Derived.Test.YtgggcapgaikbeaaPk05
import Derived.Test.YtgggcapgaikbeaaPk06
import Derived.Deep.RegionHeld3
import Derived.Test.YtgggcapgaikbeaaPk03
namespace Go.Proofs.Ytgggcapgaikbeaa
open Go.RowKit
set_option linter.unusedVariables false
theorem psum_num2 (n : Nat) (h : n ≤ 65535) : psum (numB 2 n) = n := by
  have h1 : numB 2 n = [byteAt n 1, byteAt n 0] := rfl
  rw [h1, psum_pair]; unfold byteAt; simp; omega
theorem psum_num4 (n : Nat) (h : n ≤ 4294967295) : psum (numB 4 n) = ((n / 65536 + n % 65536 : Nat) : Int) := by
  have h1 : numB 4 n = [byteAt n 3, byteAt n 2] ++ [byteAt n 1, byteAt n 0] := rfl
  rw [h1, psum_append _ _ (by simp), psum_pair, psum_pair]
  unfold byteAt
  simp
  omega
/-- Two addresses' numbers of two bytes. -/
def wrds (x y : Nat) : Nat := x / 65536 + x % 65536 + (y / 65536 + y % 65536)
theorem psum_ps (s d p n : Nat) (h1 : s ≤ 4294967295) (h2 : d ≤ 4294967295) (h3 : p ≤ 255) (h4 : n ≤ 65535) : psum (psB s d p n) = ((wrds s d + p + n : Nat) : Int) := by
  unfold psB
  rw [psum_append _ _ (by rw [numB_len]), psum_append _ _ (by rw [numB_len]), psum_append _ _ (by simp), psum_num4 _ h1, psum_num4 _ h2, psum_num2 _ h4, psum_pair]
  unfold wrds
  omega
/-- A datagram's bytes with k in its check sum's place. -/
def udpG (p q : Nat) (xs : List Int) (k : Nat) : List Int := numB 2 p ++ (numB 2 q ++ (numB 2 (8 + xs.length) ++ (numB 2 k ++ xs)))
theorem udpZ_G (p q : Nat) (xs : List Int) : udpZ p q xs = udpG p q xs 0 := rfl
theorem spl_G (p q : Nat) (xs : List Int) (k m : Nat) : spl (udpG p q xs k) 6 (numB 2 m) = udpG p q xs m := by
  have e : ∀ j, udpG p q xs j = (numB 2 p ++ (numB 2 q ++ numB 2 (8 + xs.length))) ++ (numB 2 j ++ xs) := fun j => by simp [udpG]
  have l6 : (numB 2 p ++ (numB 2 q ++ numB 2 (8 + xs.length))).length = 6 := by simp [numB_len]
  unfold spl
  rw [e k, numB_len, List.take_left' l6, List.drop_append, l6]
  have l8 : List.drop (6 + 2) (numB 2 p ++ (numB 2 q ++ numB 2 (8 + xs.length))) = [] := List.drop_eq_nil_of_le (by rw [l6]; omega)
  rw [l8, List.nil_append, show 6 + 2 - 6 = 2 from rfl, List.drop_left' (numB_len 2 k), e m, List.append_assoc]
theorem udpS_G (s d p q : Nat) (xs : List Int) : udpS s d p q xs = udpG p q xs (udpK s d p q xs).toNat := by unfold udpS; rw [udpZ_G, spl_G]
theorem udpG_len (p q : Nat) (xs : List Int) (k : Nat) : (udpG p q xs k).length = 8 + xs.length := by simp [udpG, numB_len]; omega
theorem udpG_rng (p q : Nat) (xs : List Int) (k : Nat) (hb : ∀ x ∈ xs, 0 ≤ x ∧ x ≤ 255) : ∀ x ∈ udpG p q xs k, 0 ≤ x ∧ x ≤ 255 := by
  intro x hx
  simp only [udpG, List.mem_append] at hx
  rcases hx with h | h | h | h | h
  · exact numB_rng _ _ x h
  · exact numB_rng _ _ x h
  · exact numB_rng _ _ x h
  · exact numB_rng _ _ x h
  · exact hb x h
theorem udpG_psum (p q : Nat) (xs : List Int) (k : Nat) (hp : p ≤ 65535) (hq : q ≤ 65535) (hk : k ≤ 65535) (hx : xs.length ≤ 60000) : psum (udpG p q xs k) = ((p + q + (8 + xs.length) + k : Nat) : Int) + psum xs := by
  unfold udpG
  rw [psum_append _ _ (by rw [numB_len]), psum_append _ _ (by rw [numB_len]), psum_append _ _ (by rw [numB_len]), psum_append _ _ (by rw [numB_len]), psum_num2 _ hp, psum_num2 _ hq, psum_num2 _ hk, psum_num2 _ (by omega)]
  push_cast
  omega
theorem take_num (k n : Nat) (r : List Int) : (numB k n ++ r).take k = numB k n := List.take_left' (numB_len k n)
theorem fld_num (k n : Nat) (r : List Int) (h : n < 256 ^ k) : fld (numB k n ++ r) 0 k = n := by
  unfold fld
  rw [List.drop_zero, take_num, valB_numB, Nat.mod_eq_of_lt h, Int.toNat_natCast]
theorem fld_skip (l r : List Int) (K j k : Nat) (h : l.length = j) : fld (l ++ r) (j + K) k = fld r K k := by
  unfold fld
  rw [← List.drop_drop, List.drop_left' h]
theorem udpG_0 (p q : Nat) (xs : List Int) (k : Nat) (hp : p ≤ 65535) : fld (udpG p q xs k) 0 2 = p := fld_num 2 p _ (by omega)
theorem udpG_2 (p q : Nat) (xs : List Int) (k : Nat) (hq : q ≤ 65535) : fld (udpG p q xs k) 2 2 = q := by
  unfold udpG; rw [fld_skip _ _ 0 2 2 (numB_len _ _), fld_num 2 q _ (by omega)]
theorem udpG_4 (p q : Nat) (xs : List Int) (k : Nat) (hx : xs.length ≤ 60000) : fld (udpG p q xs k) 4 2 = 8 + xs.length := by
  unfold udpG; rw [fld_skip _ _ 2 2 2 (numB_len _ _), fld_skip _ _ 0 2 2 (numB_len _ _), fld_num 2 _ _ (by omega)]
theorem udpG_6 (p q : Nat) (xs : List Int) (k : Nat) (hk : k ≤ 65535) : fld (udpG p q xs k) 6 2 = k := by
  unfold udpG; rw [fld_skip _ _ 4 2 2 (numB_len _ _), fld_skip _ _ 2 2 2 (numB_len _ _), fld_skip _ _ 0 2 2 (numB_len _ _), fld_num 2 k _ (by omega)]
theorem udpG_8 (p q : Nat) (xs : List Int) (k : Nat) : (udpG p q xs k).drop 8 = xs := by
  have e : udpG p q xs k = (numB 2 p ++ (numB 2 q ++ (numB 2 (8 + xs.length) ++ numB 2 k))) ++ xs := by simp [udpG]
  rw [e, List.drop_left' (by simp [numB_len])]
/-- Check sums between addresses. -/
theorem told_math (W0 W1 C : Int) (h0 : 0 ≤ W0) (h1 : 0 ≤ W1) (hC : 0 < C) : (65535 - f16 (W1 + (C + toldI (65535 - f16 (W0 + C)))) = 0) ↔ W0 % 65535 = W1 % 65535 := by
  have hf : f16 (W0 + C) = (W0 + C - 1) % 65535 + 1 := by unfold f16; rw [if_neg (by omega)]
  rw [hf]
  have hK : 0 < toldI (65535 - ((W0 + C - 1) % 65535 + 1)) ∧ (toldI (65535 - ((W0 + C - 1) % 65535 + 1)) + (W0 + C)) % 65535 = 0 := by
    unfold toldI; split <;> omega
  generalize toldI (65535 - ((W0 + C - 1) % 65535 + 1)) = K at *
  have hf2 : f16 (W1 + (C + K)) = (W1 + (C + K) - 1) % 65535 + 1 := by unfold f16; rw [if_neg (by omega)]
  rw [hf2]
  omega
theorem udpK_iff (s d s' d' p q : Nat) (xs : List Int) (hs : s ≤ 4294967295) (hd : d ≤ 4294967295) (hs' : s' ≤ 4294967295) (hd' : d' ≤ 4294967295) (hp : p ≤ 65535) (hq : q ≤ 65535) (hb : ∀ x ∈ xs, 0 ≤ x ∧ x ≤ 255) (hx : xs.length ≤ 60000) :
    (csum (psB s' d' 17 (8 + xs.length) ++ udpS s d p q xs) = 0) ↔ wrds s d % 65535 = wrds s' d' % 65535 := by
  have hP := (psum_rng xs hb).1
  have hk := udpK_rng s d p q xs
  rw [udpS_G]
  have e1 : csum (psB s d 17 (8 + xs.length) ++ udpZ p q xs) = 65535 - f16 ((wrds s d : Int) + (((17 + (8 + xs.length) + p + q + (8 + xs.length) : Nat) : Int) + psum xs)) := by
    unfold csum
    rw [psum_append _ _ (by rw [psB_len]), psum_ps _ _ _ _ hs hd (by omega) (by omega), udpZ_G, udpG_psum _ _ _ _ hp hq (by omega) hx]
    congr 2; push_cast; omega
  have e2 : csum (psB s' d' 17 (8 + xs.length) ++ udpG p q xs (udpK s d p q xs).toNat) = 65535 - f16 ((wrds s' d' : Int) + ((((17 + (8 + xs.length) + p + q + (8 + xs.length) : Nat) : Int) + psum xs) + udpK s d p q xs)) := by
    unfold csum
    rw [psum_append _ _ (by rw [psB_len]), psum_ps _ _ _ _ hs' hd' (by omega) (by omega), udpG_psum _ _ _ _ hp hq (by omega) hx]
    congr 2; push_cast; omega
  have e3 : udpK s d p q xs = toldI (65535 - f16 ((wrds s d : Int) + (((17 + (8 + xs.length) + p + q + (8 + xs.length) : Nat) : Int) + psum xs))) := by rw [← e1]; rfl
  rw [e2, e3, told_math _ _ _ (by omega) (by omega) (by push_cast; omega)]
  omega
theorem udpK_pos (s d p q : Nat) (xs : List Int) : udpK s d p q xs ≠ 0 := by unfold udpK toldI; split <;> omega
end Go.Proofs.Ytgggcapgaikbeaa

/- What the document's ReadUDP answers of bytes that are no datagram. -/
namespace Go.Proofs.Ytgggcapgaikbeaa
open Go.RowKit
set_option linter.unusedVariables false
set_option linter.unusedSimpArgs false
set_option maxRecDepth 100000
theorem fld_pair (xs : List Int) (K : Nat) (hb : ∀ x ∈ xs, 0 ≤ x ∧ x ≤ 255) (hK : K + 1 < xs.length) : fld xs K 2 = 256 * fld xs K 1 + fld xs (K + 1) 1 := by
  have h0 := fld_one xs K hb (by omega)
  have h1 := fld_one xs (K + 1) hb hK
  have h2 := fld_eq xs K 2 hb
  rw [List.drop_eq_getElem_cons (show K < xs.length by omega), List.drop_eq_getElem_cons hK] at h2
  rw [List.getElem?_eq_getElem (show K < xs.length by omega)] at h0
  rw [List.getElem?_eq_getElem hK] at h1
  have e0 : xs[K] = (fld xs K 1 : Int) := h0
  have e1 : xs[K + 1] = (fld xs (K + 1) 1 : Int) := h1
  have e2 : 256 * (256 * 0 + xs[K]) + xs[K + 1] = (fld xs K 2 : Int) := h2
  omega

set_option maxHeartbeats 800000 in
theorem rrudp_short (w : World) (s d : Int) (a : Option Addr) (n cap : Nat) (h : n < 8) :
    Calls Try.prog 35 #[.int .u32 s, .int .u32 d, .slice a n cap] w fun e w' => e = .returned (.tuple #[.agg #[.int .u16 0, .int .u16 0, .bool false, .slice none 0 0], .int .i64 10]) ∧ Below w.heap.size w w' := by
  go_enter Try.func35, Try.ntmps35
  go_wp2
  refine bodyPost_ret (v := .tuple #[.agg #[.int .u16 0, .int .u16 0, .bool false, .slice none 0 0], .int .i64 10]) (by simp [results, Try.results35, go_sem]) rfl ⟨rfl, ?_⟩
  repeat (first | exact Below.refl _ _ | refine Below.setCell ?_ (Nat.le_refl _) _ | refine bdrewN ?_ _ | exact Below.alloc (Below.refl _ _) (Nat.le_refl _) _)

set_option maxHeartbeats 800000 in
theorem rrudp_long (w : World) (s d : Int) (a : Option Addr) (n cap : Nat) (h : 1480 < n) :
    Calls Try.prog 35 #[.int .u32 s, .int .u32 d, .slice a n cap] w fun e w' => e = .returned (.tuple #[.agg #[.int .u16 0, .int .u16 0, .bool false, .slice none 0 0], .int .i64 14]) ∧ Below w.heap.size w w' := by
  go_enter Try.func35, Try.ntmps35
  go_wp2
  refine bodyPost_ret (v := .tuple #[.agg #[.int .u16 0, .int .u16 0, .bool false, .slice none 0 0], .int .i64 14]) (by simp [results, Try.results35, go_sem]) rfl ⟨rfl, ?_⟩
  repeat (first | exact Below.refl _ _ | refine Below.setCell ?_ (Nat.le_refl _) _ | refine bdrewN ?_ _ | exact Below.alloc (Below.refl _ _) (Nat.le_refl _) _)

set_option maxHeartbeats 1600000 in
theorem rrudp_form (w : World) (src dst : Nat) (a : Option Addr) (xs : List Int) (n cap h4 h5 sz : Nat) (hr : Row .u8 w a xs) (hno : a = none → cap = 0) (hl : xs.length = n) (hbb : ∀ x ∈ xs, 0 ≤ x ∧ x ≤ 255) (h1 : 8 ≤ n) (h2 : n ≤ 1480) (HV4 : Hid (fld xs 4 1 = h4)) (HV5 : Hid (fld xs 5 1 = h5)) (HS : Hid (256 * h4 + h5 = sz)) (hf : sz < 8 ∨ n < sz) :
    Calls Try.prog 35 #[.int .u32 src, .int .u32 dst, .slice a n cap] w fun e w' => e = .returned (.tuple #[.agg #[.int .u16 0, .int .u16 0, .bool false, .slice none 0 0], .int .i64 11]) ∧ Below w.heap.size w w' := by
  have HR := hide hr
  have hl1 : 8 ≤ xs.length := by omega
  have HL := hide hl
  have HB := hide hbb
  have HNO := hide hno
  obtain ⟨b0, o0, rfl, hlt0, hc0⟩ := hr (by intro e; subst e; simp at hl1)
  have c4 := hc0 4 (by omega)
  have c5 := hc0 5 (by omega)
  rw [fld_one xs 4 hbb (by omega), HV4.out] at c4
  rw [fld_one xs 5 hbb (by omega), HV5.out] at c5
  have hb4 := fld_lt xs 4 1 hbb
  have hb5 := fld_lt xs 5 1 hbb
  rw [HV4.out] at hb4
  rw [HV5.out] at hb5
  have hS : 256 * h4 + h5 = sz := HS.out
  have hw4 : IntKind.i64.wrap (h4 : Int) = (h4 : Int) := IntWalk.i64_in _ (by omega)
  have hw5 : IntKind.i64.wrap (h5 : Int) = (h5 : Int) := IntWalk.i64_in _ (by omega)
  have hm4 : IntKind.i64.wrap (256 * (h4 : Int)) = 256 * (h4 : Int) := IntWalk.i64_in _ (by omega)
  have hs4 : IntKind.i64.wrap (256 * (h4 : Int) + (h5 : Int)) = (sz : Int) := by rw [IntWalk.i64_in _ (by omega)]; omega
  clear hr hno hl hbb hc0
  have hn1 : ¬ ((n : Int) < 8) := by omega
  have hn2 : ¬ ((1480 : Int) < (n : Int)) := by omega
  have h14 : (4 : Int) < (n : Int) := by omega
  have h15 : (5 : Int) < (n : Int) := by omega
  rcases hf with hf | hf
  · have hd1 : decide ((sz : Int) < 8) = true := by simp; omega
    go_enter Try.func35, Try.ntmps35
    go_wp2_with fail
    go_quiet (fail)
    go_wp2
    refine bodyPost_ret (v := .tuple #[.agg #[.int .u16 0, .int .u16 0, .bool false, .slice none 0 0], .int .i64 11]) (by simp [results, Try.results35, go_sem]) rfl ⟨rfl, ?_⟩
    have hw0 : w.heap.size ≤ w.heap.size := Nat.le_refl _
    repeat (with_reducible refine Below.setCell ?_ (by assumption) _)
    refine bdrewN ?_ _
    exact Below.alloc (Below.refl _ _) (Nat.le_refl _) _
  · have hd1 : decide ((sz : Int) < 8) = false := by simp; omega
    have hd2 : decide ((n : Int) < (sz : Int)) = true := by simp; omega
    go_enter Try.func35, Try.ntmps35
    go_wp2_with fail
    go_quiet (fail)
    go_wp2
    refine bodyPost_ret (v := .tuple #[.agg #[.int .u16 0, .int .u16 0, .bool false, .slice none 0 0], .int .i64 11]) (by simp [results, Try.results35, go_sem]) rfl ⟨rfl, ?_⟩
    have hw0 : w.heap.size ≤ w.heap.size := Nat.le_refl _
    repeat (with_reducible refine Below.setCell ?_ (by assumption) _)
    refine bdrewN ?_ _
    exact Below.alloc (Below.refl _ _) (Nat.le_refl _) _
end Go.Proofs.Ytgggcapgaikbeaa

/- What the document's ReadUDP answers of a datagram whose sum is bad. -/
namespace Go.Proofs.Ytgggcapgaikbeaa
open Go.RowKit
set_option linter.unusedVariables false
set_option linter.unusedSimpArgs false
set_option maxRecDepth 100000

set_option maxHeartbeats 1600000 in
theorem rrudp_bad (w : World) (src dst : Nat) (a : Option Addr) (xs : List Int) (n cap h4 h5 h6 h7 sz : Nat) (hr : Row .u8 w a xs) (hno : a = none → cap = 0) (hl : xs.length = n) (hbb : ∀ x ∈ xs, 0 ≤ x ∧ x ≤ 255) (h1 : 8 ≤ n) (h2 : n ≤ 1480) (HV4 : Hid (fld xs 4 1 = h4)) (HV5 : Hid (fld xs 5 1 = h5)) (HS : Hid (256 * h4 + h5 = sz)) (hcap : n ≤ cap) (HV6 : Hid (fld xs 6 1 = h6)) (HV7 : Hid (fld xs 7 1 = h7)) (hf1 : 8 ≤ sz) (hf2 : sz ≤ n) (hck : ¬ (h6 = 0 ∧ h7 = 0)) (hsrc : src ≤ 4294967295) (hdst : dst ≤ 4294967295) (HCS : Hid (csum (psB src dst 17 sz ++ xs.take sz) ≠ 0)) :
    Calls Try.prog 35 #[.int .u32 src, .int .u32 dst, .slice a n cap] w fun e w' => e = .returned (.tuple #[.agg #[.int .u16 0, .int .u16 0, .bool false, .slice none 0 0], .int .i64 12]) ∧ Below w.heap.size w w' := by
  have HR := hide hr
  have hl1 : 8 ≤ xs.length := by omega
  have HL := hide hl
  have HB := hide hbb
  have HNO := hide hno
  obtain ⟨b0, o0, rfl, hlt0, hc0⟩ := hr (by intro e; subst e; simp at hl1)
  have c4 := hc0 4 (by omega)
  have c5 := hc0 5 (by omega)
  rw [fld_one xs 4 hbb (by omega), HV4.out] at c4
  rw [fld_one xs 5 hbb (by omega), HV5.out] at c5
  have hb4 := fld_lt xs 4 1 hbb
  have hb5 := fld_lt xs 5 1 hbb
  rw [HV4.out] at hb4
  rw [HV5.out] at hb5
  have hS : 256 * h4 + h5 = sz := HS.out
  have hw4 : IntKind.i64.wrap (h4 : Int) = (h4 : Int) := IntWalk.i64_in _ (by omega)
  have hw5 : IntKind.i64.wrap (h5 : Int) = (h5 : Int) := IntWalk.i64_in _ (by omega)
  have hm4 : IntKind.i64.wrap (256 * (h4 : Int)) = 256 * (h4 : Int) := IntWalk.i64_in _ (by omega)
  have hs4 : IntKind.i64.wrap (256 * (h4 : Int) + (h5 : Int)) = (sz : Int) := by rw [IntWalk.i64_in _ (by omega)]; omega
  clear hr hno hl hbb hc0
  have hn1 : ¬ ((n : Int) < 8) := by omega
  have hn2 : ¬ ((1480 : Int) < (n : Int)) := by omega
  have h14 : (4 : Int) < (n : Int) := by omega
  have h15 : (5 : Int) < (n : Int) := by omega
  have hd1 : decide ((sz : Int) < 8) = false := by simp; omega
  have hd2 : decide ((n : Int) < (sz : Int)) = false := by simp; omega
  go_enter Try.func35, Try.ntmps35
  go_wp2_with fail
  go_quiet (fail)
  obtain ⟨wx, hwx, HBx, hzx⟩ : ∃ wx, (w.alloc (.cells #[.int .u16 0, .int .u16 0, .bool false, .slice none 0 0] 63)).drewN nq = wx ∧ Below w.heap.size w wx ∧ wx.heap[w.heap.size]? = some (.cells #[.int .u16 0, .int .u16 0, .bool false, .slice none 0 0] 63 (0, 0)) := ⟨_, rfl, bdrewN ((Below.refl _ _).alloc (Nat.le_refl _) _) _, heap_alloc_new w _⟩
  rw [hwx]
  obtain ⟨r0, r1, r2, r3, rf⟩ := four_cells hzx
  have HZ := hide hzx
  have HBW := hide HBx
  have HRX := hide (HR.out.below HBx (Nat.le_refl _))
  obtain ⟨b1, o1, hbe, hlt1, hc1⟩ := HRX.out (by intro e; have := HL.out; subst e; simp at hl1)
  cases hbe
  have c6 := hc1 6 (by omega)
  have c7 := hc1 7 (by omega)
  rw [fld_one xs 6 HB.out (by omega), HV6.out] at c6
  rw [fld_one xs 7 HB.out (by omega), HV7.out] at c7
  clear hc1 hwx HBx hzx c4 c5 hlt1
  have h16 : (6 : Int) < (n : Int) := by omega
  have h17 : (7 : Int) < (n : Int) := by omega
  have hsz1 : (0 : Int) ≤ (sz : Int) := by omega
  have hsz2 : (sz : Int) ≤ (cap : Int) := by omega
  by_cases h6z : h6 = 0
  · have ht6 : ((h6 : Int) == 0) = true := by simp; omega
    have ht7 : ((h7 : Int) == 0) = false := by simp; omega
    have hrs := rsum_any src dst 17 sz cap (some ⟨b0, o0, none⟩) (xs.take sz) wx (row_take HRX.out sz) (fun h => by cases h) (by rw [List.length_take]; have := HL.out; omega) (fun x hx => HB.out x (List.mem_of_mem_take hx)) hsrc hdst (by omega) (by omega)
    obtain ⟨K, HK⟩ : ∃ K, Hid (csum (psB src dst 17 sz ++ xs.take sz) = K) := ⟨_, rfl⟩
    rw [HK.out] at hrs HCS
    have hKn : (K != 0) = true := by have := HCS.out; simpa using this
    have HRS := hide hrs
    clear hrs
    go_wp2_with fail
    refine HRS.out.mono ?_
    rintro e w2 ⟨rfl, b2⟩
    obtain ⟨q0, q1, q2, q3, qf⟩ := four_cells (below_block b2 HZ.out (Nat.le_refl _))
    have HB2 := hide (HBW.out.trans (b2.mono HBW.out.size))
    have hw0 : w.heap.size ≤ w.heap.size := Nat.le_refl _
    clear b2
    go_wp2
    refine bodyPost_ret (v := .tuple #[.agg #[.int .u16 0, .int .u16 0, .bool false, .slice none 0 0], .int .i64 12]) (by simp [results, Try.results35, go_sem, q0, q1, q2, q3]) rfl ⟨rfl, ?_⟩
    repeat (with_reducible refine Below.setCell ?_ (by assumption) _)
    exact HB2.out
  · have ht6 : ((h6 : Int) == 0) = false := by simp; omega
    have hrs := rsum_any src dst 17 sz cap (some ⟨b0, o0, none⟩) (xs.take sz) wx (row_take HRX.out sz) (fun h => by cases h) (by rw [List.length_take]; have := HL.out; omega) (fun x hx => HB.out x (List.mem_of_mem_take hx)) hsrc hdst (by omega) (by omega)
    obtain ⟨K, HK⟩ : ∃ K, Hid (csum (psB src dst 17 sz ++ xs.take sz) = K) := ⟨_, rfl⟩
    rw [HK.out] at hrs HCS
    have hKn : (K != 0) = true := by have := HCS.out; simpa using this
    have HRS := hide hrs
    clear hrs
    go_wp2_with fail
    refine HRS.out.mono ?_
    rintro e w2 ⟨rfl, b2⟩
    obtain ⟨q0, q1, q2, q3, qf⟩ := four_cells (below_block b2 HZ.out (Nat.le_refl _))
    have HB2 := hide (HBW.out.trans (b2.mono HBW.out.size))
    have hw0 : w.heap.size ≤ w.heap.size := Nat.le_refl _
    clear b2
    go_wp2
    refine bodyPost_ret (v := .tuple #[.agg #[.int .u16 0, .int .u16 0, .bool false, .slice none 0 0], .int .i64 12]) (by simp [results, Try.results35, go_sem, q0, q1, q2, q3]) rfl ⟨rfl, ?_⟩
    repeat (with_reducible refine Below.setCell ?_ (by assumption) _)
    exact HB2.out
end Go.Proofs.Ytgggcapgaikbeaa

/- What the document's ReadUDP answers of a datagram that is right. -/
namespace Go.Proofs.Ytgggcapgaikbeaa
open Go.RowKit
set_option linter.unusedVariables false
set_option linter.unusedSimpArgs false
set_option maxRecDepth 100000

set_option maxHeartbeats 1600000 in
theorem rrudp_ok (w : World) (src dst : Nat) (a : Option Addr) (xs : List Int) (n cap h0 h1x h2x h3 h4 h5 h6 h7 sz p q : Nat) (hr : Row .u8 w a xs) (hno : a = none → cap = 0) (hl : xs.length = n) (hbb : ∀ x ∈ xs, 0 ≤ x ∧ x ≤ 255) (h1 : 8 ≤ n) (h2 : n ≤ 1480) (HV4 : Hid (fld xs 4 1 = h4)) (HV5 : Hid (fld xs 5 1 = h5)) (HV0 : Hid (fld xs 0 1 = h0)) (HV1 : Hid (fld xs 1 1 = h1x)) (HV2 : Hid (fld xs 2 1 = h2x)) (HV3 : Hid (fld xs 3 1 = h3)) (HP : Hid (256 * h0 + h1x = p)) (HQ : Hid (256 * h2x + h3 = q)) (HS : Hid (256 * h4 + h5 = sz)) (hcap : n ≤ cap) (HV6 : Hid (fld xs 6 1 = h6)) (HV7 : Hid (fld xs 7 1 = h7)) (hf1 : 8 ≤ sz) (hf2 : sz ≤ n) (hcap2 : cap ≤ 9223372036854775807) (hck : ¬ (h6 = 0 ∧ h7 = 0)) (hsrc : src ≤ 4294967295) (hdst : dst ≤ 4294967295) (HCS : Hid (csum (psB src dst 17 sz ++ xs.take sz) = 0)) :
    Calls Try.prog 35 #[.int .u32 src, .int .u32 dst, .slice a n cap] w fun e w' => ∃ a' c, e = .returned (.tuple #[.agg #[.int .u16 (p : Int), .int .u16 (q : Int), .bool false, .slice a' (sz - 8) c], .int .i64 0]) ∧ w'.ownsRow w.heap.size 5 1 (.slice a' (sz - 8) c) (sz - 8) (((xs.drop 8).take (sz - 8)).map (Value.int .u8)) ∧ Below w.heap.size w w' := by
  have HR := hide hr
  have hl1 : 8 ≤ xs.length := by omega
  have HL := hide hl
  have HB := hide hbb
  have HNO := hide hno
  obtain ⟨b0, o0, rfl, hlt0, hc0⟩ := hr (by intro e; subst e; simp at hl1)
  have c4 := hc0 4 (by omega)
  have c5 := hc0 5 (by omega)
  rw [fld_one xs 4 hbb (by omega), HV4.out] at c4
  rw [fld_one xs 5 hbb (by omega), HV5.out] at c5
  have hb4 := fld_lt xs 4 1 hbb
  have hb5 := fld_lt xs 5 1 hbb
  rw [HV4.out] at hb4
  rw [HV5.out] at hb5
  have hS : 256 * h4 + h5 = sz := HS.out
  have hw4 : IntKind.i64.wrap (h4 : Int) = (h4 : Int) := IntWalk.i64_in _ (by omega)
  have hw5 : IntKind.i64.wrap (h5 : Int) = (h5 : Int) := IntWalk.i64_in _ (by omega)
  have hm4 : IntKind.i64.wrap (256 * (h4 : Int)) = 256 * (h4 : Int) := IntWalk.i64_in _ (by omega)
  have hs4 : IntKind.i64.wrap (256 * (h4 : Int) + (h5 : Int)) = (sz : Int) := by rw [IntWalk.i64_in _ (by omega)]; omega
  clear hr hno hl hbb hc0
  have hn1 : ¬ ((n : Int) < 8) := by omega
  have hn2 : ¬ ((1480 : Int) < (n : Int)) := by omega
  have h14 : (4 : Int) < (n : Int) := by omega
  have h15 : (5 : Int) < (n : Int) := by omega
  have hd1 : decide ((sz : Int) < 8) = false := by simp; omega
  have hd2 : decide ((n : Int) < (sz : Int)) = false := by simp; omega
  go_enter Try.func35, Try.ntmps35
  go_wp2_with fail
  go_quiet (fail)
  obtain ⟨wx, hwx, HBx, hzx⟩ : ∃ wx, (w.alloc (.cells #[.int .u16 0, .int .u16 0, .bool false, .slice none 0 0] 63)).drewN nq = wx ∧ Below w.heap.size w wx ∧ wx.heap[w.heap.size]? = some (.cells #[.int .u16 0, .int .u16 0, .bool false, .slice none 0 0] 63 (0, 0)) := ⟨_, rfl, bdrewN ((Below.refl _ _).alloc (Nat.le_refl _) _) _, heap_alloc_new w _⟩
  rw [hwx]
  obtain ⟨r0, r1, r2, r3, rf⟩ := four_cells hzx
  have HZ := hide hzx
  have HBW := hide HBx
  have HRX := hide (HR.out.below HBx (Nat.le_refl _))
  obtain ⟨b1, o1, hbe, hlt1, hc1⟩ := HRX.out (by intro e; have := HL.out; subst e; simp at hl1)
  cases hbe
  have c6 := hc1 6 (by omega)
  have c7 := hc1 7 (by omega)
  rw [fld_one xs 6 HB.out (by omega), HV6.out] at c6
  rw [fld_one xs 7 HB.out (by omega), HV7.out] at c7
  clear hc1 hwx HBx hzx c4 c5 hlt1
  have h16 : (6 : Int) < (n : Int) := by omega
  have h17 : (7 : Int) < (n : Int) := by omega
  have hsz1 : (0 : Int) ≤ (sz : Int) := by omega
  have hsz2 : (sz : Int) ≤ (cap : Int) := by omega
  by_cases h6z : h6 = 0
  · have ht6 : ((h6 : Int) == 0) = true := by simp; omega
    have ht7 : ((h7 : Int) == 0) = false := by simp; omega
    have hrs := rsum_any src dst 17 sz cap (some ⟨b0, o0, none⟩) (xs.take sz) wx (row_take HRX.out sz) (fun h => by cases h) (by rw [List.length_take]; have := HL.out; omega) (fun x hx => HB.out x (List.mem_of_mem_take hx)) hsrc hdst (by omega) (by omega)
    rw [HCS.out] at hrs
    have HRS := hide hrs
    clear hrs
    go_wp2_with fail
    refine HRS.out.mono ?_
    rintro e w2 ⟨rfl, b2⟩
    have HZV := hide (below_block b2 HZ.out (Nat.le_refl _))
    have HBV := hide (HBW.out.trans (b2.mono HBW.out.size))
    clear b2 HRX HRS HZ HBW r0 r1 r2 r3 rf
    go_wp2_with fail
    have HRV := hide (HR.out.below HBV.out (Nat.le_refl _))
    obtain ⟨b2, o2, hbe2, hlt2, hc2⟩ := HRV.out (by intro e; have := HL.out; subst e; simp at hl1)
    cases hbe2
    have c0 := hc2 0 (by omega)
    have c1 := hc2 1 (by omega)
    have c2 := hc2 2 (by omega)
    have c3 := hc2 3 (by omega)
    rw [fld_one xs 0 HB.out (by omega), HV0.out] at c0
    rw [fld_one xs 1 HB.out (by omega), HV1.out] at c1
    rw [fld_one xs 2 HB.out (by omega), HV2.out] at c2
    rw [fld_one xs 3 HB.out (by omega), HV3.out] at c3
    clear hc2 hlt2
    have hb0 := fld_lt xs 0 1 HB.out
    have hb1 := fld_lt xs 1 1 HB.out
    have hb2 := fld_lt xs 2 1 HB.out
    have hb3 := fld_lt xs 3 1 HB.out
    rw [HV0.out] at hb0
    rw [HV1.out] at hb1
    rw [HV2.out] at hb2
    rw [HV3.out] at hb3
    have hP := HP.out
    have hQ := HQ.out
    have hu0 : IntKind.u16.wrap (h0 : Int) = (h0 : Int) := wraps_u16 _ (by omega) (by omega)
    have hu1 : IntKind.u16.wrap (h1x : Int) = (h1x : Int) := wraps_u16 _ (by omega) (by omega)
    have hu2 : IntKind.u16.wrap (h2x : Int) = (h2x : Int) := wraps_u16 _ (by omega) (by omega)
    have hu3 : IntKind.u16.wrap (h3 : Int) = (h3 : Int) := wraps_u16 _ (by omega) (by omega)
    have hv0 : IntKind.u16.wrap (256 * (h0 : Int)) = 256 * (h0 : Int) := wraps_u16 _ (by omega) (by omega)
    have hv2 : IntKind.u16.wrap (256 * (h2x : Int)) = 256 * (h2x : Int) := wraps_u16 _ (by omega) (by omega)
    have hvp : IntKind.u16.wrap (256 * (h0 : Int) + (h1x : Int)) = (p : Int) := by rw [wraps_u16 _ (by omega) (by omega)]; omega
    have hvq : IntKind.u16.wrap (256 * (h2x : Int) + (h3 : Int)) = (q : Int) := by rw [wraps_u16 _ (by omega) (by omega)]; omega
    have h10 : (0 : Int) < (n : Int) := by omega
    have h10n : 0 < n := by omega
    have hsz8 : (8 : Int) ≤ (sz : Int) := by omega
    have h11 : (1 : Int) < (n : Int) := by omega
    have h12 : (2 : Int) < (n : Int) := by omega
    have h13 : (3 : Int) < (n : Int) := by omega
    obtain ⟨A1, hs1, hrA1, hnA1⟩ := cut_run (some ⟨b0, o0, none⟩) xs n cap 8 (sz - 8) w2 HRV.out HL.out hcap (fun h => by cases h) (by omega)
    rw [show ((8 : Nat) : Int) = 8 from rfl, show (8 : Int) + ((sz - 8 : Nat) : Int) = (sz : Int) by omega] at hs1
    have hal : Below w2.heap.size w2 (w2.alloc (.cells #[] 5)).drew := Below.drew ((Below.refl _ _).alloc (Nat.le_refl _) _)
    obtain ⟨v8, w8, hrun, o8, b8⟩ := app_own (w2.alloc (.cells #[] 5)).drew w2.heap.size _ 0 [] (owns_nil2 w2).drew A1 ((xs.drop 8).take (sz - 8)) (sz - 8) (cap - 8) (hrA1.below hal (Nat.le_refl _)) (by rw [List.length_take, List.length_drop, HL.out]; omega) hnA1 (by omega) hal.size
    obtain ⟨a8, c8, rfl⟩ := slice_form o8
    simp only [Nat.zero_add, List.nil_append] at o8 hrun
    have hb8 := hal.trans b8
    obtain ⟨q0, q1, q2, q3, qf⟩ := four_cells (below_block hb8 HZV.out (Nat.le_refl _))
    have k0 := (bcell hb8 b0 o0 (Nat.lt_of_lt_of_le hlt0 HBV.out.size))
    have HB8 := hide (HBV.out.trans (hb8.mono HBV.out.size))
    have HO8 := hide o8
    have hwV := HBV.out.size
    have hltV := lt_of_block HZV.out
    have d0 := (bcell hb8 b0 (o0 + 0) (Nat.lt_of_lt_of_le hlt0 HBV.out.size)).trans c0
    have d1 := (bcell hb8 b0 (o0 + 1) (Nat.lt_of_lt_of_le hlt0 HBV.out.size)).trans c1
    have d2 := (bcell hb8 b0 (o0 + 2) (Nat.lt_of_lt_of_le hlt0 HBV.out.size)).trans c2
    have d3 := (bcell hb8 b0 (o0 + 3) (Nat.lt_of_lt_of_le hlt0 HBV.out.size)).trans c3
    simp only [Nat.add_zero] at c0 d0
    have hx : ∃ v' w', (Builtin.append_ #[25, 25] 25 #[.slice (some ⟨w2.heap.size, 0, none⟩) 0 0, .slice A1 (sz - 8) (cap - 8)]).run Try.prog (w2.alloc (.cells #[] 5)).drew = .ok v' w' ∧ (v' = .slice a8 (sz - 8) c8 ∧ w' = w8) := ⟨_, _, hrun, rfl, rfl⟩
    have HRN := hide hx
    have hw0 : w.heap.size ≤ w.heap.size := Nat.le_refl _
    have hne : ¬ b0 = w.heap.size := by omega
    have hne2 : ¬ w.heap.size = b0 := by omega
    clear hx hrun o8 b8 hb8 hal hrA1 k0 c6 c7
    go_region_held3 (fun w' => w'.cell? ⟨b0, o0, none⟩ = some (.int .u8 h0) ∧ w'.cell? ⟨b0, o0 + 1, none⟩ = some (.int .u8 h1x) ∧ w'.cell? ⟨b0, o0 + 2, none⟩ = some (.int .u8 h2x) ∧ w'.cell? ⟨b0, o0 + 3, none⟩ = some (.int .u8 h3)) (go_keep) (first
      | (refine step_append_ex rfl (.tmp 80) (.tmp 83) 25 25 rfl _ _ rfl rfl _ HRN.out ?_; rintro v9 w9 ⟨rfl, rfl⟩)
      | fail)
    all_goals
      go_wp2
      refine bodyPost_ret (v := .tuple #[.agg #[.int .u16 (p : Int), .int .u16 (q : Int), .bool false, .slice a8 (sz - 8) c8], .int .i64 0]) (by simp [results, Try.results35, go_sem, q0, q1, q2, q3]) rfl ⟨a8, c8, rfl, ?_, ?_⟩
      · refine owns_mono (base := w2.heap.size) ?_ hwV
        repeat (with_reducible refine owns_set ?_ (by assumption))
        exact HO8.out
      · repeat (with_reducible refine Below.setCell ?_ (by assumption) _)
        exact HB8.out
  · have ht6 : ((h6 : Int) == 0) = false := by simp; omega
    have hrs := rsum_any src dst 17 sz cap (some ⟨b0, o0, none⟩) (xs.take sz) wx (row_take HRX.out sz) (fun h => by cases h) (by rw [List.length_take]; have := HL.out; omega) (fun x hx => HB.out x (List.mem_of_mem_take hx)) hsrc hdst (by omega) (by omega)
    rw [HCS.out] at hrs
    have HRS := hide hrs
    clear hrs
    go_wp2_with fail
    refine HRS.out.mono ?_
    rintro e w2 ⟨rfl, b2⟩
    have HZV := hide (below_block b2 HZ.out (Nat.le_refl _))
    have HBV := hide (HBW.out.trans (b2.mono HBW.out.size))
    clear b2 HRX HRS HZ HBW r0 r1 r2 r3 rf
    go_wp2_with fail
    have HRV := hide (HR.out.below HBV.out (Nat.le_refl _))
    obtain ⟨b2, o2, hbe2, hlt2, hc2⟩ := HRV.out (by intro e; have := HL.out; subst e; simp at hl1)
    cases hbe2
    have c0 := hc2 0 (by omega)
    have c1 := hc2 1 (by omega)
    have c2 := hc2 2 (by omega)
    have c3 := hc2 3 (by omega)
    rw [fld_one xs 0 HB.out (by omega), HV0.out] at c0
    rw [fld_one xs 1 HB.out (by omega), HV1.out] at c1
    rw [fld_one xs 2 HB.out (by omega), HV2.out] at c2
    rw [fld_one xs 3 HB.out (by omega), HV3.out] at c3
    clear hc2 hlt2
    have hb0 := fld_lt xs 0 1 HB.out
    have hb1 := fld_lt xs 1 1 HB.out
    have hb2 := fld_lt xs 2 1 HB.out
    have hb3 := fld_lt xs 3 1 HB.out
    rw [HV0.out] at hb0
    rw [HV1.out] at hb1
    rw [HV2.out] at hb2
    rw [HV3.out] at hb3
    have hP := HP.out
    have hQ := HQ.out
    have hu0 : IntKind.u16.wrap (h0 : Int) = (h0 : Int) := wraps_u16 _ (by omega) (by omega)
    have hu1 : IntKind.u16.wrap (h1x : Int) = (h1x : Int) := wraps_u16 _ (by omega) (by omega)
    have hu2 : IntKind.u16.wrap (h2x : Int) = (h2x : Int) := wraps_u16 _ (by omega) (by omega)
    have hu3 : IntKind.u16.wrap (h3 : Int) = (h3 : Int) := wraps_u16 _ (by omega) (by omega)
    have hv0 : IntKind.u16.wrap (256 * (h0 : Int)) = 256 * (h0 : Int) := wraps_u16 _ (by omega) (by omega)
    have hv2 : IntKind.u16.wrap (256 * (h2x : Int)) = 256 * (h2x : Int) := wraps_u16 _ (by omega) (by omega)
    have hvp : IntKind.u16.wrap (256 * (h0 : Int) + (h1x : Int)) = (p : Int) := by rw [wraps_u16 _ (by omega) (by omega)]; omega
    have hvq : IntKind.u16.wrap (256 * (h2x : Int) + (h3 : Int)) = (q : Int) := by rw [wraps_u16 _ (by omega) (by omega)]; omega
    have h10 : (0 : Int) < (n : Int) := by omega
    have h10n : 0 < n := by omega
    have hsz8 : (8 : Int) ≤ (sz : Int) := by omega
    have h11 : (1 : Int) < (n : Int) := by omega
    have h12 : (2 : Int) < (n : Int) := by omega
    have h13 : (3 : Int) < (n : Int) := by omega
    obtain ⟨A1, hs1, hrA1, hnA1⟩ := cut_run (some ⟨b0, o0, none⟩) xs n cap 8 (sz - 8) w2 HRV.out HL.out hcap (fun h => by cases h) (by omega)
    rw [show ((8 : Nat) : Int) = 8 from rfl, show (8 : Int) + ((sz - 8 : Nat) : Int) = (sz : Int) by omega] at hs1
    have hal : Below w2.heap.size w2 (w2.alloc (.cells #[] 5)).drew := Below.drew ((Below.refl _ _).alloc (Nat.le_refl _) _)
    obtain ⟨v8, w8, hrun, o8, b8⟩ := app_own (w2.alloc (.cells #[] 5)).drew w2.heap.size _ 0 [] (owns_nil2 w2).drew A1 ((xs.drop 8).take (sz - 8)) (sz - 8) (cap - 8) (hrA1.below hal (Nat.le_refl _)) (by rw [List.length_take, List.length_drop, HL.out]; omega) hnA1 (by omega) hal.size
    obtain ⟨a8, c8, rfl⟩ := slice_form o8
    simp only [Nat.zero_add, List.nil_append] at o8 hrun
    have hb8 := hal.trans b8
    obtain ⟨q0, q1, q2, q3, qf⟩ := four_cells (below_block hb8 HZV.out (Nat.le_refl _))
    have k0 := (bcell hb8 b0 o0 (Nat.lt_of_lt_of_le hlt0 HBV.out.size))
    have HB8 := hide (HBV.out.trans (hb8.mono HBV.out.size))
    have HO8 := hide o8
    have hwV := HBV.out.size
    have hltV := lt_of_block HZV.out
    have d0 := (bcell hb8 b0 (o0 + 0) (Nat.lt_of_lt_of_le hlt0 HBV.out.size)).trans c0
    have d1 := (bcell hb8 b0 (o0 + 1) (Nat.lt_of_lt_of_le hlt0 HBV.out.size)).trans c1
    have d2 := (bcell hb8 b0 (o0 + 2) (Nat.lt_of_lt_of_le hlt0 HBV.out.size)).trans c2
    have d3 := (bcell hb8 b0 (o0 + 3) (Nat.lt_of_lt_of_le hlt0 HBV.out.size)).trans c3
    simp only [Nat.add_zero] at c0 d0
    have hx : ∃ v' w', (Builtin.append_ #[25, 25] 25 #[.slice (some ⟨w2.heap.size, 0, none⟩) 0 0, .slice A1 (sz - 8) (cap - 8)]).run Try.prog (w2.alloc (.cells #[] 5)).drew = .ok v' w' ∧ (v' = .slice a8 (sz - 8) c8 ∧ w' = w8) := ⟨_, _, hrun, rfl, rfl⟩
    have HRN := hide hx
    have hw0 : w.heap.size ≤ w.heap.size := Nat.le_refl _
    have hne : ¬ b0 = w.heap.size := by omega
    have hne2 : ¬ w.heap.size = b0 := by omega
    clear hx hrun o8 b8 hb8 hal hrA1 k0 c6 c7
    go_region_held3 (fun w' => w'.cell? ⟨b0, o0, none⟩ = some (.int .u8 h0) ∧ w'.cell? ⟨b0, o0 + 1, none⟩ = some (.int .u8 h1x) ∧ w'.cell? ⟨b0, o0 + 2, none⟩ = some (.int .u8 h2x) ∧ w'.cell? ⟨b0, o0 + 3, none⟩ = some (.int .u8 h3)) (go_keep) (first
      | (refine step_append_ex rfl (.tmp 80) (.tmp 83) 25 25 rfl _ _ rfl rfl _ HRN.out ?_; rintro v9 w9 ⟨rfl, rfl⟩)
      | fail)
    all_goals
      go_wp2
      refine bodyPost_ret (v := .tuple #[.agg #[.int .u16 (p : Int), .int .u16 (q : Int), .bool false, .slice a8 (sz - 8) c8], .int .i64 0]) (by simp [results, Try.results35, go_sem, q0, q1, q2, q3]) rfl ⟨a8, c8, rfl, ?_, ?_⟩
      · refine owns_mono (base := w2.heap.size) ?_ hwV
        repeat (with_reducible refine owns_set ?_ (by assumption))
        exact HO8.out
      · repeat (with_reducible refine Below.setCell ?_ (by assumption) _)
        exact HB8.out
end Go.Proofs.Ytgggcapgaikbeaa

/- What the document's ReadUDP answers of a datagram that is right. -/
namespace Go.Proofs.Ytgggcapgaikbeaa
open Go.RowKit
set_option linter.unusedVariables false
set_option linter.unusedSimpArgs false
set_option maxRecDepth 100000

set_option maxHeartbeats 1600000 in
theorem rrudp_plain (w : World) (src dst : Nat) (a : Option Addr) (xs : List Int) (n cap h0 h1x h2x h3 h4 h5 h6 h7 sz p q : Nat) (hr : Row .u8 w a xs) (hno : a = none → cap = 0) (hl : xs.length = n) (hbb : ∀ x ∈ xs, 0 ≤ x ∧ x ≤ 255) (h1 : 8 ≤ n) (h2 : n ≤ 1480) (HV4 : Hid (fld xs 4 1 = h4)) (HV5 : Hid (fld xs 5 1 = h5)) (HV0 : Hid (fld xs 0 1 = h0)) (HV1 : Hid (fld xs 1 1 = h1x)) (HV2 : Hid (fld xs 2 1 = h2x)) (HV3 : Hid (fld xs 3 1 = h3)) (HP : Hid (256 * h0 + h1x = p)) (HQ : Hid (256 * h2x + h3 = q)) (HS : Hid (256 * h4 + h5 = sz)) (hcap : n ≤ cap) (HV6 : Hid (fld xs 6 1 = h6)) (HV7 : Hid (fld xs 7 1 = h7)) (hf1 : 8 ≤ sz) (hf2 : sz ≤ n) (hcap2 : cap ≤ 9223372036854775807) (hck : h6 = 0 ∧ h7 = 0) :
    Calls Try.prog 35 #[.int .u32 src, .int .u32 dst, .slice a n cap] w fun e w' => ∃ a' c, e = .returned (.tuple #[.agg #[.int .u16 (p : Int), .int .u16 (q : Int), .bool true, .slice a' (sz - 8) c], .int .i64 0]) ∧ w'.ownsRow w.heap.size 5 1 (.slice a' (sz - 8) c) (sz - 8) (((xs.drop 8).take (sz - 8)).map (Value.int .u8)) ∧ Below w.heap.size w w' := by
  have HR := hide hr
  have hl1 : 8 ≤ xs.length := by omega
  have HL := hide hl
  have HB := hide hbb
  have HNO := hide hno
  obtain ⟨b0, o0, rfl, hlt0, hc0⟩ := hr (by intro e; subst e; simp at hl1)
  have c4 := hc0 4 (by omega)
  have c5 := hc0 5 (by omega)
  rw [fld_one xs 4 hbb (by omega), HV4.out] at c4
  rw [fld_one xs 5 hbb (by omega), HV5.out] at c5
  have hb4 := fld_lt xs 4 1 hbb
  have hb5 := fld_lt xs 5 1 hbb
  rw [HV4.out] at hb4
  rw [HV5.out] at hb5
  have hS : 256 * h4 + h5 = sz := HS.out
  have hw4 : IntKind.i64.wrap (h4 : Int) = (h4 : Int) := IntWalk.i64_in _ (by omega)
  have hw5 : IntKind.i64.wrap (h5 : Int) = (h5 : Int) := IntWalk.i64_in _ (by omega)
  have hm4 : IntKind.i64.wrap (256 * (h4 : Int)) = 256 * (h4 : Int) := IntWalk.i64_in _ (by omega)
  have hs4 : IntKind.i64.wrap (256 * (h4 : Int) + (h5 : Int)) = (sz : Int) := by rw [IntWalk.i64_in _ (by omega)]; omega
  clear hr hno hl hbb hc0
  have hn1 : ¬ ((n : Int) < 8) := by omega
  have hn2 : ¬ ((1480 : Int) < (n : Int)) := by omega
  have h14 : (4 : Int) < (n : Int) := by omega
  have h15 : (5 : Int) < (n : Int) := by omega
  have hd1 : decide ((sz : Int) < 8) = false := by simp; omega
  have hd2 : decide ((n : Int) < (sz : Int)) = false := by simp; omega
  go_enter Try.func35, Try.ntmps35
  go_wp2_with fail
  go_quiet (fail)
  obtain ⟨wx, hwx, HBx, hzx⟩ : ∃ wx, (w.alloc (.cells #[.int .u16 0, .int .u16 0, .bool false, .slice none 0 0] 63)).drewN nq = wx ∧ Below w.heap.size w wx ∧ wx.heap[w.heap.size]? = some (.cells #[.int .u16 0, .int .u16 0, .bool false, .slice none 0 0] 63 (0, 0)) := ⟨_, rfl, bdrewN ((Below.refl _ _).alloc (Nat.le_refl _) _) _, heap_alloc_new w _⟩
  rw [hwx]
  obtain ⟨r0, r1, r2, r3, rf⟩ := four_cells hzx
  have HZ := hide hzx
  have HBW := hide HBx
  have HRX := hide (HR.out.below HBx (Nat.le_refl _))
  obtain ⟨b1, o1, hbe, hlt1, hc1⟩ := HRX.out (by intro e; have := HL.out; subst e; simp at hl1)
  cases hbe
  have c6 := hc1 6 (by omega)
  have c7 := hc1 7 (by omega)
  rw [fld_one xs 6 HB.out (by omega), HV6.out] at c6
  rw [fld_one xs 7 HB.out (by omega), HV7.out] at c7
  clear hc1 hwx HBx hzx c4 c5 hlt1
  have h16 : (6 : Int) < (n : Int) := by omega
  have h17 : (7 : Int) < (n : Int) := by omega
  have hsz1 : (0 : Int) ≤ (sz : Int) := by omega
  have hsz2 : (sz : Int) ≤ (cap : Int) := by omega
  have ht6 : ((h6 : Int) == 0) = true := by simp; omega
  have ht7 : ((h7 : Int) == 0) = true := by simp; omega
  go_wp2_with fail
  have HBV := HBW
  have HZV := HZ
  clear HRX
  have HRV := hide (HR.out.below HBV.out (Nat.le_refl _))
  obtain ⟨b2, o2, hbe2, hlt2, hc2⟩ := HRV.out (by intro e; have := HL.out; subst e; simp at hl1)
  cases hbe2
  have c0 := hc2 0 (by omega)
  have c1 := hc2 1 (by omega)
  have c2 := hc2 2 (by omega)
  have c3 := hc2 3 (by omega)
  rw [fld_one xs 0 HB.out (by omega), HV0.out] at c0
  rw [fld_one xs 1 HB.out (by omega), HV1.out] at c1
  rw [fld_one xs 2 HB.out (by omega), HV2.out] at c2
  rw [fld_one xs 3 HB.out (by omega), HV3.out] at c3
  clear hc2 hlt2
  have hb0 := fld_lt xs 0 1 HB.out
  have hb1 := fld_lt xs 1 1 HB.out
  have hb2 := fld_lt xs 2 1 HB.out
  have hb3 := fld_lt xs 3 1 HB.out
  rw [HV0.out] at hb0
  rw [HV1.out] at hb1
  rw [HV2.out] at hb2
  rw [HV3.out] at hb3
  have hP := HP.out
  have hQ := HQ.out
  have hu0 : IntKind.u16.wrap (h0 : Int) = (h0 : Int) := wraps_u16 _ (by omega) (by omega)
  have hu1 : IntKind.u16.wrap (h1x : Int) = (h1x : Int) := wraps_u16 _ (by omega) (by omega)
  have hu2 : IntKind.u16.wrap (h2x : Int) = (h2x : Int) := wraps_u16 _ (by omega) (by omega)
  have hu3 : IntKind.u16.wrap (h3 : Int) = (h3 : Int) := wraps_u16 _ (by omega) (by omega)
  have hv0 : IntKind.u16.wrap (256 * (h0 : Int)) = 256 * (h0 : Int) := wraps_u16 _ (by omega) (by omega)
  have hv2 : IntKind.u16.wrap (256 * (h2x : Int)) = 256 * (h2x : Int) := wraps_u16 _ (by omega) (by omega)
  have hvp : IntKind.u16.wrap (256 * (h0 : Int) + (h1x : Int)) = (p : Int) := by rw [wraps_u16 _ (by omega) (by omega)]; omega
  have hvq : IntKind.u16.wrap (256 * (h2x : Int) + (h3 : Int)) = (q : Int) := by rw [wraps_u16 _ (by omega) (by omega)]; omega
  have h10 : (0 : Int) < (n : Int) := by omega
  have h10n : 0 < n := by omega
  have hsz8 : (8 : Int) ≤ (sz : Int) := by omega
  have h11 : (1 : Int) < (n : Int) := by omega
  have h12 : (2 : Int) < (n : Int) := by omega
  have h13 : (3 : Int) < (n : Int) := by omega
  obtain ⟨A1, hs1, hrA1, hnA1⟩ := cut_run (some ⟨b0, o0, none⟩) xs n cap 8 (sz - 8) wx HRV.out HL.out hcap (fun h => by cases h) (by omega)
  rw [show ((8 : Nat) : Int) = 8 from rfl, show (8 : Int) + ((sz - 8 : Nat) : Int) = (sz : Int) by omega] at hs1
  have hal : Below wx.heap.size wx (wx.alloc (.cells #[] 5)).drew := Below.drew ((Below.refl _ _).alloc (Nat.le_refl _) _)
  obtain ⟨v8, w8, hrun, o8, b8⟩ := app_own (wx.alloc (.cells #[] 5)).drew wx.heap.size _ 0 [] (owns_nil2 wx).drew A1 ((xs.drop 8).take (sz - 8)) (sz - 8) (cap - 8) (hrA1.below hal (Nat.le_refl _)) (by rw [List.length_take, List.length_drop, HL.out]; omega) hnA1 (by omega) hal.size
  obtain ⟨a8, c8, rfl⟩ := slice_form o8
  simp only [Nat.zero_add, List.nil_append] at o8 hrun
  have hb8 := hal.trans b8
  obtain ⟨q0, q1, q2, q3, qf⟩ := four_cells (below_block hb8 HZV.out (Nat.le_refl _))
  have k0 := (bcell hb8 b0 o0 (Nat.lt_of_lt_of_le hlt0 HBV.out.size))
  have HB8 := hide (HBV.out.trans (hb8.mono HBV.out.size))
  have HO8 := hide o8
  have hwV := HBV.out.size
  have hltV := lt_of_block HZV.out
  have d0 := (bcell hb8 b0 (o0 + 0) (Nat.lt_of_lt_of_le hlt0 HBV.out.size)).trans c0
  have d1 := (bcell hb8 b0 (o0 + 1) (Nat.lt_of_lt_of_le hlt0 HBV.out.size)).trans c1
  have d2 := (bcell hb8 b0 (o0 + 2) (Nat.lt_of_lt_of_le hlt0 HBV.out.size)).trans c2
  have d3 := (bcell hb8 b0 (o0 + 3) (Nat.lt_of_lt_of_le hlt0 HBV.out.size)).trans c3
  simp only [Nat.add_zero] at c0 d0
  have hx : ∃ v' w', (Builtin.append_ #[25, 25] 25 #[.slice (some ⟨wx.heap.size, 0, none⟩) 0 0, .slice A1 (sz - 8) (cap - 8)]).run Try.prog (wx.alloc (.cells #[] 5)).drew = .ok v' w' ∧ (v' = .slice a8 (sz - 8) c8 ∧ w' = w8) := ⟨_, _, hrun, rfl, rfl⟩
  have HRN := hide hx
  have hw0 : w.heap.size ≤ w.heap.size := Nat.le_refl _
  have hne : ¬ b0 = w.heap.size := by omega
  have hne2 : ¬ w.heap.size = b0 := by omega
  clear hx hrun o8 b8 hb8 hal hrA1 k0 c6 c7
  go_region_held3 (fun w' => w'.cell? ⟨b0, o0, none⟩ = some (.int .u8 h0) ∧ w'.cell? ⟨b0, o0 + 1, none⟩ = some (.int .u8 h1x) ∧ w'.cell? ⟨b0, o0 + 2, none⟩ = some (.int .u8 h2x) ∧ w'.cell? ⟨b0, o0 + 3, none⟩ = some (.int .u8 h3)) (go_keep) (first
    | (refine step_append_ex rfl (.tmp 80) (.tmp 83) 25 25 rfl _ _ rfl rfl _ HRN.out ?_; rintro v9 w9 ⟨rfl, rfl⟩)
    | fail)
  all_goals
    go_wp2
    refine bodyPost_ret (v := .tuple #[.agg #[.int .u16 (p : Int), .int .u16 (q : Int), .bool true, .slice a8 (sz - 8) c8], .int .i64 0]) (by simp [results, Try.results35, go_sem, q0, q1, q2, q3]) rfl ⟨a8, c8, rfl, ?_, ?_⟩
    · refine owns_mono (base := wx.heap.size) ?_ hwV
      repeat (with_reducible refine owns_set ?_ (by assumption))
      exact HO8.out
    · repeat (with_reducible refine Below.setCell ?_ (by assumption) _)
      exact HB8.out
end Go.Proofs.Ytgggcapgaikbeaa

/- What trans.ReadTCP answers where the segment is right. -/
namespace Go.Proofs.Ytgggcapgaikbeaa
open Go.RowKit
set_option linter.unusedVariables false
set_option linter.unusedSimpArgs false
set_option maxRecDepth 100000
theorem owns_gb {w w' : World} {base E : Nat} {v : Value} {n : Nat} {xs : List Value} (h : w.ownsRow base 5 1 v n xs) (hg : w.grownBy w' (some E)) (hE : E < base) : w'.ownsRow base 5 1 v n xs := by
  refine ⟨h.1, ?_⟩
  rcases h.2 with h | ⟨r, cap, cur, hv, hr, hh, rest⟩
  · exact .inl h
  · exact .inr ⟨r, cap, cur, hv, hr, gb_block hg hh (by omega), rest⟩

set_option maxHeartbeats 3000000 in
theorem rtcp_ok (w : World) (src dst : Nat) (a : Option Addr) (xs : List Int) (n cap p q u v hb f g ck h H : Nat) (hr : Row .u8 w a xs) (hno : a = none → cap = 0) (hl : xs.length = n) (hbb : ∀ x ∈ xs, 0 ≤ x ∧ x ≤ 255) (h1 : 20 ≤ n) (h2 : n ≤ 1480)
    (HV0 : Hid (fld xs 0 2 = p)) (HV2 : Hid (fld xs 2 2 = q)) (HV4 : Hid (fld xs 4 4 = u)) (HV8 : Hid (fld xs 8 4 = v)) (HV12 : Hid (fld xs 12 1 = hb)) (HV13 : Hid (fld xs 13 1 = f)) (HV14 : Hid (fld xs 14 2 = g)) (HV16 : Hid (fld xs 16 2 = ck)) (HV18 : Hid (fld xs 18 2 = h)) (HH : Hid (4 * (hb / 16) = H)) (hf1 : 20 ≤ H) (hf2 : H ≤ n) (hsrc : src ≤ 4294967295) (hdst : dst ≤ 4294967295) (HCS : Hid ((csum (psB src dst 6 n ++ xs) == 0) = true)) :
    Calls Try.prog 52 #[.int .u32 src, .int .u32 dst, .slice a n cap] w fun e w' => ∃ a' c' a2 c2, e = .returned (.tuple #[.agg #[.int .u16 (p : Int), .int .u16 (q : Int), .int .u32 (u : Int), .int .u32 (v : Int), .int .u8 (f : Int), .int .u16 (g : Int), .int .u16 (h : Int), (.slice a' (H - 20) c'), (.slice a2 (n - H) c2)], .int .i64 0]) ∧ w'.ownsRow w.heap.size 5 1 (.slice a' (H - 20) c') (H - 20) (((xs.drop 20).take (H - 20)).map (Value.int .u8)) ∧ w'.ownsRow w.heap.size 5 1 (.slice a2 (n - H) c2) (n - H) ((xs.drop H).map (Value.int .u8)) ∧ Below w.heap.size w w' := by
  have HR := hide hr
  have HNO := hide hno
  have hl1 : 20 ≤ xs.length := by omega
  have hl2 : xs.length ≤ 1480 := by omega
  have HL := hide hl
  have HB := hide hbb
  have hb_p := fld_lt xs 0 2 hbb
  rw [HV0.out] at hb_p
  have hb_q := fld_lt xs 2 2 hbb
  rw [HV2.out] at hb_q
  have hb_u := fld_lt xs 4 4 hbb
  rw [HV4.out] at hb_u
  have hb_v := fld_lt xs 8 4 hbb
  rw [HV8.out] at hb_v
  have hb_hb := fld_lt xs 12 1 hbb
  rw [HV12.out] at hb_hb
  have hb_f := fld_lt xs 13 1 hbb
  rw [HV13.out] at hb_f
  have hb_g := fld_lt xs 14 2 hbb
  rw [HV14.out] at hb_g
  have hb_ck := fld_lt xs 16 2 hbb
  rw [HV16.out] at hb_ck
  have hb_h := fld_lt xs 18 2 hbb
  rw [HV18.out] at hb_h
  have hH : 4 * (hb / 16) = H := HH.out
  have hHb : H ≤ 60 := by omega
  have hHe : (hb : Int) / 16 * 4 = (H : Int) := by omega
  have hHw : IntKind.i64.wrap ((hb : Int) / 16) = (hb : Int) / 16 := IntWalk.i64_in _ (by omega)
  have hHx : IntKind.i64.wrap (H : Int) = (H : Int) := IntWalk.i64_in _ (by omega)
  have hwu : IntKind.u32.wrap (u : Int) = (u : Int) := by rw [IntKind.wrap_u32]; omega
  have hwv : IntKind.u32.wrap (v : Int) = (v : Int) := by rw [IntKind.wrap_u32]; omega
  have hwf : IntKind.u8.wrap (f : Int) = (f : Int) := by rw [IntKind.wrap_u8]; omega
  clear hr hno hl hbb hH
  go_enter Try.func52, Try.ntmps52
  go_wp2_with fail
  refine (fit_ok n 20 _ h1 h2).mono ?_
  rintro e wz ⟨rfl, rfl⟩
  go_wp2_with fail
  obtain ⟨R, wq, hR, hq1, hbel, hRh⟩ : ∃ R wq, w.heap.size = R ∧ w.alloc (.cells #[.int .u16 0, .int .u16 0, .int .u32 0, .int .u32 0, .int .u8 0, .int .u16 0, .int .u16 0, .slice none 0 0, .slice none 0 0] 61) = wq ∧ Below w.heap.size w wq ∧ wq.heap[R]? = some (.cells #[.int .u16 0, .int .u16 0, .int .u32 0, .int .u32 0, .int .u8 0, .int .u16 0, .int .u16 0, .slice none 0 0, .slice none 0 0] 61 (0, 0)) :=
    ⟨_, _, rfl, rfl, (Below.refl _ _).alloc (Nat.le_refl _) _, heap_alloc_new w _⟩
  rw [hq1, hR]
  have HRW := hide hR
  have HRq := hide (HR.out.below hbel (Nat.le_refl _))
  clear hq1 hR
  have hne := newEye_any a xs cap wq HRq.out (by omega)
  rw [HL.out] at hne
  have HNE := hide hne
  clear hne
  refine HNE.out.mono ?_
  rintro e w1 ⟨E, rfl, hE, heye, hb1⟩
  have hRE : R < E := Nat.lt_of_lt_of_le (lt_of_block hRh) hE
  have hR1 := hide (below_block hb1 hRh (Nat.le_refl _))
  have hB1 := hide (hbel.trans (hb1.mono hbel.size))
  have HR1 := hide (HRq.out.below hb1 (Nat.le_refl _))
  have HE1 := hide (show EyeAt w1 E E (xs.drop 0) false by simpa using heye)
  have hbE : ∀ b, a = some b → xs ≠ [] → b.block < wq.heap.size := by
    rintro b rfl hne
    obtain ⟨b', off, e, hlt, _⟩ := HRq.out hne
    cases e; exact hlt
  have hxne : xs ≠ [] := by intro e; rw [e] at hl1; simp at hl1
  have HBE := hide (fun b (e : a = some b) => (show b.block ≠ E by have := hbE b e hxne; omega))
  clear hbel hRh heye hb1 hE hbE hxne
  have hh1 := half_at E E 0 xs w1 HE1.out HB.out (by omega) (by omega)
  rw [HV0.out] at hh1
  have HH1 := hide hh1
  clear hh1
  go_wp2_with fail
  refine HH1.out.mono ?_
  rintro e w2 ⟨rfl, he2, hg2⟩
  have HE2 := hide he2
  have HG2 := hide hg2
  clear he2 hg2
  have hh2 := half_at E E 2 xs w2 HE2.out HB.out (by omega) (by omega)
  rw [HV2.out] at hh2
  have HH2 := hide hh2
  clear hh2
  go_wp2_with fail
  refine HH2.out.mono ?_
  rintro e w3 ⟨rfl, he3, hg3⟩
  have HE3 := hide he3
  have HG3 := hide hg3
  clear he3 hg3
  have hh3 := eyeNum_at E E 4 4 xs w3 HE3.out HB.out (by omega) (by omega) (by omega)
  rw [HV4.out] at hh3
  have HH3 := hide hh3
  clear hh3
  go_wp2_with fail
  refine HH3.out.mono ?_
  rintro e w4 ⟨rfl, he4, hg4⟩
  have HE4 := hide he4
  have HG4 := hide hg4
  clear he4 hg4
  have hh4 := eyeNum_at E E 8 4 xs w4 HE4.out HB.out (by omega) (by omega) (by omega)
  rw [HV8.out] at hh4
  have HH4 := hide hh4
  clear hh4
  go_wp2_with fail
  refine HH4.out.mono ?_
  rintro e w5 ⟨rfl, he5, hg5⟩
  have HE5 := hide he5
  have HG5 := hide hg5
  clear he5 hg5
  go_wp2_with fail
  obtain ⟨F, wf, hF, hq1, hbf, hFh⟩ : ∃ F wf, w5.heap.size = F ∧ w5.alloc (.cells #[.int .u16 (p : Int), .int .u16 (q : Int), .int .u32 (u : Int), .int .u32 (v : Int), .int .u8 0, .int .u16 0, .int .u16 0, .slice none 0 0, .slice none 0 0] 61) = wf ∧ Below w5.heap.size w5 wf ∧ wf.heap[F]? = some (.cells #[.int .u16 (p : Int), .int .u16 (q : Int), .int .u32 (u : Int), .int .u32 (v : Int), .int .u8 0, .int .u16 0, .int .u16 0, .slice none 0 0, .slice none 0 0] 61 (0, 0)) :=
    ⟨_, _, rfl, rfl, (Below.refl _ _).alloc (Nat.le_refl _) _, heap_alloc_new w5 _⟩
  rw [hq1, hF]
  have hEF : E < F := by have := HE5.out.lt; omega
  have HEf := hide (HE5.out.below hbf (Nat.le_refl _))
  have hG1f := gb_trans (gb_trans HG2.out (gb_trans HG3.out (gb_trans HG4.out HG5.out))) (gb_of_below hbf)
  have hRf := hide (gb_block hG1f hR1.out (by omega))
  have HRf := hide (row_gb HR1.out hG1f HBE.out)
  have hB0 := hB1.out
  have hBf := hide (hB0.trans (grownBy_below hG1f (show w.heap.size ≤ E by have := HRW.out; omega) hB0.size))
  have HFh := hide hFh
  have hwFs : w.heap.size ≤ F := by have := HRW.out; omega
  clear hq1 hF hbf hFh hG1f hB0 HE1 HE2 HE3 HE4 HE5 HG2 HG3 HG4 HG5 hR1 HR1 hB1 HH1 HH2 HH3 HH4 HNE
  have hh6 := eyeNum_at E E 12 1 xs wf HEf.out HB.out (by omega) (by omega) (by omega)
  rw [HV12.out] at hh6
  have HH6 := hide hh6
  clear hh6
  go_wp2_with fail
  refine HH6.out.mono ?_
  rintro e w7 ⟨rfl, he7, hg7⟩
  have HE7 := hide he7
  have HG7 := hide hg7
  clear he7 hg7
  have hd1 : decide ((H : Int) < 20) = false := by simp; omega
  have hd2 : decide ((n : Int) < (H : Int)) = false := by simp; omega
  have hR7 := hide (gb_block HG7.out hRf.out (by omega))
  have hF7 := hide (gb_block HG7.out HFh.out (by omega))
  have HR7 := hide (row_gb HRf.out HG7.out HBE.out)
  have hB7 := hide (hBf.out.trans (grownBy_below HG7.out (show w.heap.size ≤ E by have := HRW.out; omega) hBf.out.size))
  have HPS := hide (pseudo6_any src dst n w7 hsrc hdst (by omega))
  clear HG7 hRf HFh HRf hBf HEf
  go_wp2_with fail
  refine HPS.out.mono ?_
  rintro e w8 ⟨a8, c8, rfl, o8, b8⟩
  have hR8 := hide (below_block b8 hR7.out (Nat.le_refl _))
  have hF8 := hide (below_block b8 hF7.out (Nat.le_refl _))
  have HE8 := hide (HE7.out.below b8 (Nat.le_refl _))
  have hB8 := hide (hB7.out.trans (b8.mono hB7.out.size))
  have hrows := hide (rows_cons (c := c8) (Row.of_owns o8) (none_cap o8) (rows_cons (c := cap) (HR7.out.below b8 (Nat.le_refl _)) HNO.out (rows_nil w8)))
  clear o8 b8 HE7 hR7 hF7 HR7 hB7 HPS HH6
  go_wp2_with fail
  have hfl : flat [(a8, psB src dst 6 n, c8), (a, xs, cap)] = psB src dst 6 n ++ xs := by simp [flat]
  have hrt := rightL w8 [(a8, psB src dst 6 n, c8), (a, xs, cap)] #[.slice a8 12 c8, .slice a n cap] 2 _ rfl rfl (by simp [Part.v, psB_len, HL.out]) hrows.out (by rw [hfl, List.length_append, psB_len]; omega)
    (by rw [hfl]; intro x hx; rcases List.mem_append.1 hx with h | h; exact psB_rng _ _ _ _ (by omega) x h; exact HB.out x h) (by omega)
  rw [hfl, HCS.out] at hrt
  have HRT := hide hrt
  clear hrt hfl
  refine HRT.out.mono ?_
  rintro e w9 ⟨rfl, b9⟩
  have hR9 := hide (below_block b9 hR8.out (Nat.le_refl _))
  have hF9 := hide (below_block b9 hF8.out (Nat.le_refl _))
  have HE9 := hide (HE8.out.below b9 (Nat.le_refl _))
  have hB9 := hide (hB8.out.trans (b9.mono hB8.out.size))
  clear b9 HE8 hR8 hF8 hB8 hrows HRT
  have hRw : w.heap.size ≤ R := by have := HRW.out; omega
  have hh9 := eyeNum_at E E 13 1 xs w9 HE9.out HB.out (by omega) (by omega) (by omega)
  rw [HV13.out] at hh9
  have HH9 := hide hh9
  clear hh9
  go_wp2_with fail
  refine HH9.out.mono ?_
  rintro e w10 ⟨rfl, he10, hg10⟩
  have HE10 := hide he10
  have HG10 := hide hg10
  clear he10 hg10
  have hh10 := half_at E E 14 xs w10 HE10.out HB.out (by omega) (by omega)
  rw [HV14.out] at hh10
  have HH10 := hide hh10
  clear hh10
  go_wp2_with fail
  refine HH10.out.mono ?_
  rintro e w11 ⟨rfl, he11, hg11⟩
  have HE11 := hide he11
  have HG11 := hide hg11
  clear he11 hg11
  have hGc := gb_trans HG10.out HG11.out
  have hF_w11 := gb_block hGc hF9.out (by omega)
  have hR_w11 := gb_block hGc hR9.out (by omega)
  have hB_w11 := hB9.out.trans (grownBy_below hGc (show w.heap.size ≤ E by have := HRW.out; omega) hB9.out.size)
  clear hGc
  have hFl := lt_of_block hF_w11
  obtain ⟨⟨m0, m1, m2, m3, m4, m5, m6, m7, m8⟩, mf⟩ := nine_cells hF_w11
  go_wp2_with fail
  obtain ⟨w12, hq_w12, hF_w12, hR_w12, HE12, hB_w12⟩ : ∃ wt, ((w11.setCell ⟨F, 4, none⟩ (.int .u8 (f : Int))).setCell ⟨F, 5, none⟩ (.int .u16 (g : Int))) = wt ∧ wt.heap[F]? = some (.cells #[.int .u16 (p : Int), .int .u16 (q : Int), .int .u32 (u : Int), .int .u32 (v : Int), .int .u8 (f : Int), .int .u16 (g : Int), .int .u16 0, .slice none 0 0, .slice none 0 0] 61 (0, 0)) ∧ wt.heap[R]? = some (.cells #[.int .u16 0, .int .u16 0, .int .u32 0, .int .u32 0, .int .u8 0, .int .u16 0, .int .u16 0, .slice none 0 0, .slice none 0 0] 61 (0, 0)) ∧ Hid (EyeAt wt E E (xs.drop 16) false) ∧ Below w.heap.size w wt :=
    ⟨_, rfl, (nine_set (nine_set hF_w11)), (set_ne_block (set_ne_block hR_w11 (by omega)) (by omega)), hide ((HE11.out.set (by omega) (by omega)).set (by omega) (by omega)), ((hB_w11.setCell (by simpa using hwFs) _).setCell (by simpa using hwFs) _)⟩
  rw [hq_w12]
  clear hq_w12 hF_w11 hR_w11 hB_w11
  clear m0 m1 m2 m3 m4 m5 m6 m7 m8 mf HE9 HE10 HE11 HG10 HG11 hF9 hR9 hB9
  have hh12 := half_at E E 16 xs w12 HE12.out HB.out (by omega) (by omega)
  rw [HV16.out] at hh12
  have HH12 := hide hh12
  clear hh12
  refine HH12.out.mono ?_
  rintro e w13 ⟨rfl, he13, hg13⟩
  have HE13 := hide he13
  have HG13 := hide hg13
  clear he13 hg13
  have hh13 := half_at E E 18 xs w13 HE13.out HB.out (by omega) (by omega)
  rw [HV18.out] at hh13
  have HH13 := hide hh13
  clear hh13
  go_wp2_with fail
  refine HH13.out.mono ?_
  rintro e w14 ⟨rfl, he14, hg14⟩
  have HE14 := hide he14
  have HG14 := hide hg14
  clear he14 hg14
  have hsub : IntKind.i64.wrap ((H : Int) - 20) = (((H - 20 : Nat)) : Int) := by rw [IntWalk.i64_in _ (by omega)]; omega
  have hby := bytes_at E E 20 (H - 20) xs w14 HE14.out (by omega) (by have := HL.out; omega)
  rw [show 20 + (H - 20) = H by omega] at hby
  have HBY := hide hby
  clear hby
  go_wp2_with fail
  refine HBY.out.mono ?_
  rintro e w15 ⟨a14, c14, rfl, o15, he15, hg15⟩
  have HO15 := hide o15
  have HE15 := hide he15
  have HG15 := hide hg15
  clear o15 he15 hg15
  have hGc := gb_trans HG13.out (gb_trans HG14.out HG15.out)
  have hF_w15 := gb_block hGc hF_w12 (by omega)
  have hR_w15 := gb_block hGc hR_w12 (by omega)
  have hB_w15 := hB_w12.trans (grownBy_below hGc (show w.heap.size ≤ E by have := HRW.out; omega) hB_w12.size)
  clear hGc
  have hb14 : w.heap.size ≤ w14.heap.size := Nat.le_trans hB_w12.size (gb_trans HG13.out HG14.out).size
  have hF14l : F < w14.heap.size := Nat.lt_of_lt_of_le (lt_of_block hF_w12) (gb_trans HG13.out HG14.out).size
  clear hF_w12 hR_w12 hB_w12
  obtain ⟨⟨m0, m1, m2, m3, m4, m5, m6, m7, m8⟩, mf⟩ := nine_cells hF_w15
  go_wp2_with fail
  obtain ⟨w16, hq_w16, hF_w16, hR_w16, HE16, HO16, hB_w16⟩ : ∃ wt, ((w15.setCell ⟨F, 6, none⟩ (.int .u16 (h : Int))).setCell ⟨F, 7, none⟩ (.slice a14 (H - 20) c14)) = wt ∧ wt.heap[F]? = some (.cells #[.int .u16 (p : Int), .int .u16 (q : Int), .int .u32 (u : Int), .int .u32 (v : Int), .int .u8 (f : Int), .int .u16 (g : Int), .int .u16 (h : Int), .slice a14 (H - 20) c14, .slice none 0 0] 61 (0, 0)) ∧ wt.heap[R]? = some (.cells #[.int .u16 0, .int .u16 0, .int .u32 0, .int .u32 0, .int .u8 0, .int .u16 0, .int .u16 0, .slice none 0 0, .slice none 0 0] 61 (0, 0)) ∧ Hid (EyeAt wt E E (xs.drop H) false) ∧ Hid (wt.ownsRow w14.heap.size 5 1 (.slice a14 (H - 20) c14) (H - 20) (((xs.drop 20).take (H - 20)).map (Value.int .u8))) ∧ Below w.heap.size w wt :=
    ⟨_, rfl, (nine_set (nine_set hF_w15)), (set_ne_block (set_ne_block hR_w15 (by omega)) (by omega)), hide ((HE15.out.set (by omega) (by omega)).set (by omega) (by omega)), hide (owns_set (owns_set HO15.out hF14l) hF14l), ((hB_w15.setCell (by simpa using hwFs) _).setCell (by simpa using hwFs) _)⟩
  rw [hq_w16]
  clear hq_w16 hF_w15 hR_w15 hB_w15
  have hE14 := HE14.out.lt
  clear m0 m1 m2 m3 m4 m5 m6 m7 m8 mf HE12 HE13 HE14 HE15 HG13 HG14 HG15 HO15 HBY
  have hlf := left_at E E H xs n w16 HE16.out HL.out
  have hby := bytes_at E E H (n - H) xs w16 HE16.out (by omega) (by have := HL.out; omega)
  rw [List.take_of_length_le (by rw [List.length_drop, HL.out]; omega)] at hby
  have HLF := hide hlf
  have HBY := hide hby
  clear hlf hby
  refine HLF.out.mono ?_
  rintro e wl ⟨rfl, rfl⟩
  go_wp2_with fail
  refine HBY.out.mono ?_
  rintro e w17 ⟨a16, c16, rfl, o17, he17, hg17⟩
  have hGc := hg17
  have hF_w17 := gb_block hGc hF_w16 (by omega)
  have hR_w17 := gb_block hGc hR_w16 (by omega)
  have hB_w17 := hB_w16.trans (grownBy_below hGc (show w.heap.size ≤ E by have := HRW.out; omega) hB_w16.size)
  clear hGc
  have hFl2 := lt_of_block hF_w16
  have hRl2 := lt_of_block hR_w16
  have hb16 : w.heap.size ≤ w16.heap.size := hB_w16.size
  have HO17 := hide o17
  have HO17a := hide (owns_gb HO16.out hg17 (by omega))
  clear o17 he17 hg17 hF_w16 hR_w16 hB_w16
  obtain ⟨⟨m0, m1, m2, m3, m4, m5, m6, m7, m8⟩, mf⟩ := nine_cells hF_w17
  obtain ⟨⟨r0, r1, r2, r3, r4, r5, r6, r7, r8⟩, rf⟩ := nine_cells hR_w17
  have hBz := hide hB_w17
  clear hF_w17 hR_w17 hB_w17
  go_wp2
  refine bodyPost_ret (v := .tuple #[.agg #[.int .u16 (p : Int), .int .u16 (q : Int), .int .u32 (u : Int), .int .u32 (v : Int), .int .u8 (f : Int), .int .u16 (g : Int), .int .u16 (h : Int), .slice a14 (H - 20) c14, .slice a16 (n - H) c16], .int .i64 0]) (by simp [results, Try.results52, go_sem, r0, r1, r2, r3, r4, r5, r6, r7, r8, m0, m1, m2, m3, m4, m5, m6, m7, m8]) rfl ⟨a14, c14, a16, c16, rfl, ?_, ?_, ?_⟩
  · refine owns_mono (base := w14.heap.size) ?_ hb14
    repeat (with_reducible refine owns_set ?_ (by omega))
    exact HO17a.out
  · refine owns_mono (base := w16.heap.size) ?_ hb16
    repeat (with_reducible refine owns_set ?_ (by assumption))
    exact HO17.out
  · repeat (with_reducible refine Below.setCell ?_ (by assumption) _)
    exact hBz.out
end Go.Proofs.Ytgggcapgaikbeaa

/- What the document's SameTCP answers of segments that are one. -/
namespace Go.Proofs.Ytgggcapgaikbeaa
open Go.RowKit
set_option linter.unusedVariables false
set_option linter.unusedSimpArgs false
set_option maxRecDepth 100000
end Go.Proofs.Ytgggcapgaikbeaa
