/- The law that a packet goes between other ends and back. -/
import Derived.Test.YtgggcapgaikbeaaPk27
import Derived.Test.YtgggcapgaikbeaaPk19
import Derived.BigRegion
namespace Go.Proofs.Ytgggcapgaikbeaa
open Go.RowKit
set_option linter.unusedVariables false
set_option linter.unusedSimpArgs false
set_option maxRecDepth 100000
theorem u16_and_nat (a b : Nat) (ha : a < 65536) (hb : b < 65536) : bits .and .u16 (a : Int) (b : Int) = ((a &&& b : Nat) : Int) := by
  have hx : a &&& b < 2 ^ 16 := Nat.and_lt_two_pow _ (by omega)
  have h1 : (BitVec.ofInt 16 (a : Int)).toNat = a := by
    rw [BitVec.ofInt_natCast, BitVec.toNat_ofNat]; exact Nat.mod_eq_of_lt (by omega)
  have h2 : (BitVec.ofInt 16 (b : Int)).toNat = b := by
    rw [BitVec.ofInt_natCast, BitVec.toNat_ofNat]; exact Nat.mod_eq_of_lt (by omega)
  show IntKind.u16.wrap ((BitVec.ofInt 16 (a : Int) &&& BitVec.ofInt 16 (b : Int)).toNat : Int) = _
  rw [BitVec.toNat_and, h1, h2, IntKind.wrap_u16]
  omega
theorem rw_ok (w : World) (tt P id S D : Nat) (da : Option Addr) (xs : List Int) (n dc : Nat) (hLx : Lies w da xs n dc) (hl : xs.length = n) (hb : ∀ x ∈ xs, 0 ≤ x ∧ x ≤ 255) (hS : S ≤ 4294967295) (hD : D ≤ 4294967295) (he : ofErr P S D xs = 0) (hk : ofKind P S D xs ≠ 3) (g : Fl) (hg : g.Ok) (hp : g.p = P) :
    Calls Try.prog 11 #[.agg #[.int .u8 (tt : Int), .int .u8 (P : Int), .int .u16 (id : Int), .int .u32 (S : Int), .int .u32 (D : Int), .slice da n dc], .agg #[.int .u8 (g.p : Int), .int .u32 (g.s : Int), .int .u32 (g.d : Int), .int .u16 (g.f : Int), .int .u16 (g.t : Int)]] w fun e w' => ∃ a c, e = .returned (.tuple #[.agg #[.int .u8 (tt : Int), .int .u8 (P : Int), .int .u16 (id : Int), .int .u32 (g.s : Int), .int .u32 (g.d : Int), .slice a (rwB P S D xs g).length c], .int .i64 0]) ∧ w'.ownsRow w.heap.size 5 1 (.slice a ((rwB P S D xs g).length) c) ((rwB P S D xs g).length) ((rwB P S D xs g).map (Value.int .u8)) ∧ Below w.heap.size w w' := by
  have he' := he
  unfold ofErr at he'
  by_cases h6 : P = 6
  · subst h6
    rw [if_pos rfl] at he'
    have e : rwB 6 S D xs g = tcpB g.s g.d g.f g.t (segOf S D xs) := rfl
    rw [e, tcpB_len, hp]
    exact rewrite_tcp w tt id S D da xs n dc g.s g.d g.f g.t hLx hl hb hS hD hg.s hg.d hg.f hg.t he'
  rw [if_neg h6] at he'
  by_cases h17 : P = 17
  · subst h17
    rw [if_pos rfl] at he'
    have e : rwB 17 S D xs g = udpB g.s g.d g.f g.t (dgmOf S D xs) := rfl
    rw [e, udpB_len, hp]
    exact rewrite_udp w tt id S D da xs n dc g.s g.d g.f g.t hLx hl hb hS hD hg.s hg.d hg.f hg.t he'
  rw [if_neg h17] at he'
  by_cases h1 : P = 1
  · subst h1
    rw [if_pos rfl] at he'
    have hk1 : icKind xs ≠ 3 := by
      unfold ofKind at hk
      rw [he, if_pos rfl, if_neg (by omega)] at hk
      exact hk
    obtain ⟨q1, q2, q3, q4⟩ := qry_cases xs he' hk1
    have e : rwB 1 S D xs g = icmpB (msgOf xs).p (msgOf xs).q (qryR (msgOf xs) g.f g.t) (msgOf xs).ds := rfl
    rw [e, icmpB_len, hp]
    exact rewrite_qry w tt id S D da xs n dc g.s g.d g.f g.t hLx hl hb hS hD hg.s hg.d hg.f hg.t he' q2
  · rw [if_neg h1] at he'; omega
/-- The flow of a packet with data, or a query. -/
theorem of_plain (P S D : Nat) (xs : List Int) (hb : ∀ x ∈ xs, 0 ≤ x ∧ x ≤ 255) (hP : P ≤ 255) (hS : S ≤ 4294967295) (hD : D ≤ 4294967295) (he : ofErr P S D xs = 0) (hk : ofKind P S D xs ≠ 3) :
    (ofFl P S D xs).Ok ∧ (ofFl P S D xs).p = P ∧ (ofFl P S D xs).s = S ∧ (ofFl P S D xs).d = D ∧ qFit P xs (ofFl P S D xs) ∧ (ofKind P S D xs = 1 ∨ ofKind P S D xs = 2) ∧ (ofKind P S D xs = 1 → P ≠ 1) := by
  have he' := he
  unfold ofErr at he'
  by_cases h6 : P = 6
  · subst h6
    rw [if_pos rfl] at he'
    have hf := seg_fit S D xs hb he'
    have e : ofFl 6 S D xs = ⟨6, S, D, (segOf S D xs).p, (segOf S D xs).q⟩ := by unfold ofFl; rw [he, if_pos rfl, if_pos rfl]
    have k : ofKind 6 S D xs = 1 := by unfold ofKind; rw [he, if_pos rfl, if_pos (.inl rfl)]
    rw [e, k]
    exact ⟨⟨hP, hS, hD, hf.p, hf.q⟩, rfl, rfl, rfl, fun h => by omega, .inl rfl, fun _ => by omega⟩
  rw [if_neg h6] at he'
  by_cases h17 : P = 17
  · subst h17
    rw [if_pos rfl] at he'
    have hf := dgm_fit S D xs hb he'
    have e : ofFl 17 S D xs = ⟨17, S, D, (dgmOf S D xs).p, (dgmOf S D xs).q⟩ := by unfold ofFl; rw [he, if_pos rfl, if_neg (by omega), if_pos rfl]
    have k : ofKind 17 S D xs = 1 := by unfold ofKind; rw [he, if_pos rfl, if_pos (.inr rfl)]
    rw [e, k]
    exact ⟨⟨hP, hS, hD, hf.p, hf.q⟩, rfl, rfl, rfl, fun h => by omega, .inl rfl, fun _ => by omega⟩
  rw [if_neg h17] at he'
  by_cases h1 : P = 1
  · subst h1
    rw [if_pos rfl] at he'
    have hk1 : icKind xs ≠ 3 := by
      unfold ofKind at hk
      rw [he, if_pos rfl, if_neg (by omega)] at hk
      exact hk
    obtain ⟨q1, q2, q3, q4⟩ := qry_cases xs he' hk1
    have hok := msgOf_ok xs hb
    have e : ofFl 1 S D xs = ⟨1, S, D, qfrom (msgOf xs).p (msgOf xs).q ((msgOf xs).r / 65536), qto (msgOf xs).p (msgOf xs).q ((msgOf xs).r / 65536)⟩ := by
      unfold ofFl; rw [he, if_pos rfl, if_neg (by omega), if_neg (by omega)]; unfold icFl msgFl; rw [if_pos q1, q2]; rfl
    have k : ofKind 1 S D xs = 2 := by
      unfold ofKind; rw [he, if_pos rfl, if_neg (by omega)]; unfold icKind msgKind; rw [if_pos q1, q2]; rfl
    rw [e, k]
    have hr : (msgOf xs).r / 65536 ≤ 65535 := by have := hok.2.2.1; omega
    refine ⟨⟨hP, hS, hD, by dsimp only; unfold qfrom; split <;> omega, by dsimp only; unfold qto; split <;> omega⟩, rfl, rfl, rfl, fun _ => ?_, .inr rfl, fun h => by omega⟩
    dsimp only
    unfold qfrom qto
    rcases q4 with q4 | q4
    · rw [q4]; simp
    · rw [q4]; simp
  · rw [if_neg h1] at he'; omega
set_option maxHeartbeats 4000000 in
theorem flowBack_long (w : World) (tt P id S D : Nat) (da : Option Addr) (xs : List Int) (n dc : Nat) (fp fs fd ff ft : Nat) (hn : 3000 < n) :
    Calls Try.prog 4 #[.agg #[.int .u8 (tt : Int), .int .u8 (P : Int), .int .u16 (id : Int), .int .u32 (S : Int), .int .u32 (D : Int), .slice da n dc], .agg #[.int .u8 (fp : Int), .int .u32 (fs : Int), .int .u32 (fd : Int), .int .u16 (ff : Int), .int .u16 (ft : Int)]] w fun e w' => e = .returned (.bool true) ∧ Below w.heap.size w w' := by
  have hd3 : decide ((3000 : Int) < (n : Int)) = true := by simp; omega
  obtain ⟨V1, hV1⟩ : ∃ V, w.alloc (.cells #[.int .u8 (tt : Int), .int .u8 (P : Int), .int .u16 (id : Int), .int .u32 (S : Int), .int .u32 (D : Int), .slice da n dc] 27) = V := ⟨_, rfl⟩
  obtain ⟨V2, hV2⟩ : ∃ V, V1.alloc (.cells #[.int .u8 (fp : Int), .int .u32 (fs : Int), .int .u32 (fd : Int), .int .u16 (ff : Int), .int .u16 (ft : Int)] 29) = V := ⟨_, rfl⟩
  have hz1 : V1.heap.size = w.heap.size + 1 := by rw [← hV1]; simp
  have hz2 : V2.heap.size = w.heap.size + 1 + 1 := by rw [← hV2]; simp [hz1]
  have hb1 : Below w.heap.size w V1 := by rw [← hV1]; exact (Below.refl _ _).alloc (Nat.le_refl _) _
  have hc2 : Below V1.heap.size V1 V2 := by rw [← hV2]; exact (Below.refl _ _).alloc (Nat.le_refl _) _
  have hb2 := hb1.trans (hc2.mono hb1.size)
  have hp1_1 : V1.heap[w.heap.size]? = some (.cells #[.int .u8 (tt : Int), .int .u8 (P : Int), .int .u16 (id : Int), .int .u32 (S : Int), .int .u32 (D : Int), .slice da n dc] 27 (0, 0)) := by rw [← hV1]; exact heap_alloc_new _ _
  have hp1_2 := below_block hc2 hp1_1 (Nat.le_refl _)
  have hp2_2 : V2.heap[w.heap.size + 1]? = some (.cells #[.int .u8 (fp : Int), .int .u32 (fs : Int), .int .u32 (fd : Int), .int .u16 (ff : Int), .int .u16 (ft : Int)] 29 (0, 0)) := by rw [← hV2, ← hz1]; exact heap_alloc_new _ _
  obtain ⟨BX, hBX⟩ : ∃ B, w.heap.size = B := ⟨_, rfl⟩
  obtain ⟨BF, hBF⟩ : ∃ B, w.heap.size + 1 = B := ⟨_, rfl⟩
  have hw0 : w.heap.size ≤ BX ∧ w.heap.size ≤ BF := by omega
  have HX := hide (show V2.heap[BX]? = some (.cells #[.int .u8 (tt : Int), .int .u8 (P : Int), .int .u16 (id : Int), .int .u32 (S : Int), .int .u32 (D : Int), .slice da n dc] 27 (0, 0)) by rw [← hBX]; exact hp1_2)
  have NX : Hid (w.heap.size ≤ BX) := hide hw0.1
  have HF := hide (show V2.heap[BF]? = some (.cells #[.int .u8 (fp : Int), .int .u32 (fs : Int), .int .u32 (fd : Int), .int .u16 (ff : Int), .int .u16 (ft : Int)] 29 (0, 0)) by rw [← hBF]; exact hp2_2)
  have NF : Hid (w.heap.size ≤ BF) := hide hw0.2
  have nqX_F : Hid (BX ≠ BF) := hide (by omega)
  have HB := hide hb2
  have HE := hide (And.intro (And.intro trivial trivial) (And.intro hV1 ( And.intro hV2 (And.intro hBX ( And.intro hBF (trivial))))))
  clear hw0 hV1 hz1 hb1 hV2 hz2 hb2 hc2 hp1_1 hp1_2 hp2_2 hBX hBF 
  go_enter Try.func4, Try.ntmps4
  go_upto_region 1 with (fail)
  rw [HE.out.2.1]
  try rw [HE.out.2.2.1]
  try rw [HE.out.2.2.2.2.1]
  try rw [HE.out.2.2.2.1]
  clear HE
  go_wp2_with fail
  refine (speaks_any _).mono ?_
  rintro e w1 ⟨rfl, b⟩
  replace HX := hide (below_block b HX.out (Nat.le_refl _))
  replace HF := hide (below_block b HF.out (Nat.le_refl _))
  replace HB := hide (HB.out.trans (b.mono HB.out.size))
  clear b 
  have qX_5 : w1.cell? ⟨BX, 5, none⟩ = some (.slice da n dc) := cell_at HX.out 5 rfl
  go_wp2_with fail
  go_ret
  exact ⟨rfl, HB.out⟩
set_option maxHeartbeats 4000000 in
theorem flowBack_other (w : World) (tt P id S D : Nat) (da : Option Addr) (xs : List Int) (n dc : Nat) (fp fs fd ff ft : Nat) (hLx : Lies w da xs n dc) (hl : xs.length = n) (hb : ∀ x ∈ xs, 0 ≤ x ∧ x ≤ 255) (hS : S ≤ 4294967295) (hD : D ≤ 4294967295) (hn : ¬ 3000 < n) (hx : ofErr P S D xs ≠ 0 ∨ ofKind P S D xs = 3) :
    Calls Try.prog 4 #[.agg #[.int .u8 (tt : Int), .int .u8 (P : Int), .int .u16 (id : Int), .int .u32 (S : Int), .int .u32 (D : Int), .slice da n dc], .agg #[.int .u8 (fp : Int), .int .u32 (fs : Int), .int .u32 (fd : Int), .int .u16 (ff : Int), .int .u16 (ft : Int)]] w fun e w' => e = .returned (.bool true) ∧ Below w.heap.size w w' := by
  have hd3 : decide ((3000 : Int) < (n : Int)) = false := by simp; omega
  have HOF := hide (fun (W : World) (hL : Lies W da xs n dc) => of_any W (tt : Int) (id : Int) P S D da n dc xs hL hl hb hS hD)
  obtain ⟨r1, hr1⟩ : ∃ x, decide (ofErr P S D xs ≠ 0) = x := ⟨_, rfl⟩
  have hr1' : (((ofErr P S D xs : Nat) : Int) != 0) = r1 := (ne_dec _ 0).trans hr1
  obtain ⟨r2, hr2⟩ : ∃ x, (ofKind P S D xs == 3) = x := ⟨_, rfl⟩
  have hor : r1 = true ∨ r2 = true := by
    rcases hx with h | h
    · left; rw [← hr1]; simpa using h
    · right; rw [← hr2]; simpa using h
  generalize ((ofErr P S D xs : Nat) : Int) = er at *
  generalize ofKind P S D xs = kk at *
  generalize ofFl P S D xs = y at *
  obtain ⟨op, os, od, of, ot⟩ := y
  unfold Fl.v at HOF
  dsimp only at HOF
  clear hl hb hn hx hr1
  obtain ⟨V1, hV1⟩ : ∃ V, w.alloc (.cells #[.int .u8 (tt : Int), .int .u8 (P : Int), .int .u16 (id : Int), .int .u32 (S : Int), .int .u32 (D : Int), .slice da n dc] 27) = V := ⟨_, rfl⟩
  obtain ⟨V2, hV2⟩ : ∃ V, V1.alloc (.cells #[.int .u8 (fp : Int), .int .u32 (fs : Int), .int .u32 (fd : Int), .int .u16 (ff : Int), .int .u16 (ft : Int)] 29) = V := ⟨_, rfl⟩
  have hz1 : V1.heap.size = w.heap.size + 1 := by rw [← hV1]; simp
  have hz2 : V2.heap.size = w.heap.size + 1 + 1 := by rw [← hV2]; simp [hz1]
  have hb1 : Below w.heap.size w V1 := by rw [← hV1]; exact (Below.refl _ _).alloc (Nat.le_refl _) _
  have hc2 : Below V1.heap.size V1 V2 := by rw [← hV2]; exact (Below.refl _ _).alloc (Nat.le_refl _) _
  have hb2 := hb1.trans (hc2.mono hb1.size)
  have hp1_1 : V1.heap[w.heap.size]? = some (.cells #[.int .u8 (tt : Int), .int .u8 (P : Int), .int .u16 (id : Int), .int .u32 (S : Int), .int .u32 (D : Int), .slice da n dc] 27 (0, 0)) := by rw [← hV1]; exact heap_alloc_new _ _
  have hp1_2 := below_block hc2 hp1_1 (Nat.le_refl _)
  have hp2_2 : V2.heap[w.heap.size + 1]? = some (.cells #[.int .u8 (fp : Int), .int .u32 (fs : Int), .int .u32 (fd : Int), .int .u16 (ff : Int), .int .u16 (ft : Int)] 29 (0, 0)) := by rw [← hV2, ← hz1]; exact heap_alloc_new _ _
  obtain ⟨BX, hBX⟩ : ∃ B, w.heap.size = B := ⟨_, rfl⟩
  obtain ⟨BF, hBF⟩ : ∃ B, w.heap.size + 1 = B := ⟨_, rfl⟩
  have hw0 : w.heap.size ≤ BX ∧ w.heap.size ≤ BF := by omega
  have HX := hide (show V2.heap[BX]? = some (.cells #[.int .u8 (tt : Int), .int .u8 (P : Int), .int .u16 (id : Int), .int .u32 (S : Int), .int .u32 (D : Int), .slice da n dc] 27 (0, 0)) by rw [← hBX]; exact hp1_2)
  have NX : Hid (w.heap.size ≤ BX) := hide hw0.1
  have HF := hide (show V2.heap[BF]? = some (.cells #[.int .u8 (fp : Int), .int .u32 (fs : Int), .int .u32 (fd : Int), .int .u16 (ff : Int), .int .u16 (ft : Int)] 29 (0, 0)) by rw [← hBF]; exact hp2_2)
  have NF : Hid (w.heap.size ≤ BF) := hide hw0.2
  have nqX_F : Hid (BX ≠ BF) := hide (by omega)
  have AP := hide hLx
  have RP := hide (hLx.below hb2 (Nat.le_refl _))
  have HB := hide hb2
  have HE := hide (And.intro (And.intro trivial trivial) (And.intro hV1 ( And.intro hV2 (And.intro hBX ( And.intro hBF (trivial))))))
  clear hw0 hV1 hz1 hb1 hV2 hz2 hb2 hc2 hp1_1 hp1_2 hp2_2 hBX hBF hLx
  go_enter Try.func4, Try.ntmps4
  go_upto_region 1 with (fail)
  rw [HE.out.2.1]
  try rw [HE.out.2.2.1]
  try rw [HE.out.2.2.2.2.1]
  try rw [HE.out.2.2.2.1]
  clear HE
  go_wp2_with fail
  refine (speaks_any _).mono ?_
  rintro e w1 ⟨rfl, b⟩
  replace HX := hide (below_block b HX.out (Nat.le_refl _))
  replace HF := hide (below_block b HF.out (Nat.le_refl _))
  replace RP := hide (RP.out.below b (Nat.le_refl _))
  replace HB := hide (HB.out.trans (b.mono HB.out.size))
  clear b 
  have qX_5 : w1.cell? ⟨BX, 5, none⟩ = some (.slice da n dc) := cell_at HX.out 5 rfl
  go_upto_region 5 with (fail)
  clear qX_5
  go_wp2_with ((refine ld_whole (o := ⟨some 24, _, _, _, _, _⟩) 27 (.tmp 2) rfl (by rfl) BX rfl #[.int .u8 (tt : Int), .int .u8 (P : Int), .int .u16 (id : Int), .int .u32 (S : Int), .int .u32 (D : Int), .slice da n dc] 27 HX.out Try.underlying27 (by kernel_rfl) ?_; try simp only [Act.put, List.setIfInBounds_toArray, List.set_cons_zero, List.set_cons_succ]))
  refine (HOF.out _ RP.out).mono ?_
  rintro e w2 ⟨rfl, b⟩
  replace HX := hide (below_block b HX.out (Nat.le_refl _))
  replace HF := hide (below_block b HF.out (Nat.le_refl _))
  replace RP := hide (RP.out.below b (Nat.le_refl _))
  replace HB := hide (HB.out.trans (b.mono HB.out.size))
  clear b 
  obtain ⟨w3, hwn, wb, HN1⟩ : ∃ W, w2.alloc (.cells #[.int .u8 (op : Int), .int .u32 (os : Int), .int .u32 (od : Int), .int .u16 (of : Int), .int .u16 (ot : Int)] 29) = W ∧ Below w2.heap.size w2 W ∧ Hid (W.heap[w2.heap.size]? = some (.cells #[.int .u8 (op : Int), .int .u32 (os : Int), .int .u32 (od : Int), .int .u16 (of : Int), .int .u16 (ot : Int)] 29 (0, 0))) := ⟨_, rfl, (Below.refl w2.heap.size w2).alloc (Nat.le_refl _) _, hide (heap_alloc_new w2 _)⟩
  obtain ⟨BO, hBn⟩ : ∃ B, w2.heap.size = B := ⟨_, rfl⟩
  rw [hBn] at HN1
  have HW := hide (And.intro hwn hBn)
  have HBo := HB
  have nqX_O := hide (blk_ne HX.out hBn)
  have nqF_O := hide (blk_ne HF.out hBn)
  clear hwn hBn
  replace HX := hide (below_block wb HX.out (Nat.le_refl _))
  replace HF := hide (below_block wb HF.out (Nat.le_refl _))
  replace RP := hide (RP.out.below wb (Nat.le_refl _))
  replace HB := hide (HB.out.trans (wb.mono HB.out.size))
  have HO := HN1
  have NO := hide (show w.heap.size ≤ BO by rw [← HW.out.2]; exact HBo.out.size)
  clear wb HN1 HBo
  go_upto_region 6 with (fail)
  rw [HW.out.1]
  try rw [HW.out.2]
  clear HW
  cases r1 with
  | true => go_wp2_with fail; go_ret; exact ⟨rfl, HB.out⟩
  | false =>
    obtain rfl : r2 = true := by simpa using hor
    go_wp2_with fail; go_ret; exact ⟨rfl, HB.out⟩
set_option maxHeartbeats 4000000 in
theorem flowBack_data (w : World) (tt P id S D : Nat) (da : Option Addr) (xs : List Int) (n dc : Nat) (fp fs fd ff ft : Nat) (hLx : Lies w da xs n dc) (hl : xs.length = n) (hb : ∀ x ∈ xs, 0 ≤ x ∧ x ≤ 255) (hS : S ≤ 4294967295) (hD : D ≤ 4294967295) (hP : P ≤ 255) (hfs : fs ≤ 4294967295) (hfd : fd ≤ 4294967295) (hff : ff ≤ 65535) (hft : ft ≤ 65535) (hn : ¬ 3000 < n) (he : ofErr P S D xs = 0) (hk : ofKind P S D xs = 1) :
    Calls Try.prog 4 #[.agg #[.int .u8 (tt : Int), .int .u8 (P : Int), .int .u16 (id : Int), .int .u32 (S : Int), .int .u32 (D : Int), .slice da n dc], .agg #[.int .u8 (fp : Int), .int .u32 (fs : Int), .int .u32 (fd : Int), .int .u16 (ff : Int), .int .u16 (ft : Int)]] w fun e w' => e = .returned (.bool true) ∧ Below w.heap.size w w' := by
  have hd3 : decide ((3000 : Int) < (n : Int)) = false := by simp; omega
  have hk3 : ofKind P S D xs ≠ 3 := by omega
  have HOF := hide (fun (W : World) (hL : Lies W da xs n dc) => of_any W (tt : Int) (id : Int) P S D da n dc xs hL hl hb hS hD)
  rw [he, hk] at HOF
  obtain ⟨o1, o2, o3, o4, o5, o6, o7⟩ := of_plain P S D xs hb hP hS hD he hk3
  obtain ⟨O, hO⟩ : ∃ y, ofFl P S D xs = y := ⟨_, rfl⟩
  rw [hO] at HOF o1 o2 o3 o4 o5
  obtain ⟨op, os, od, of, ot⟩ := O
  have hgo : (⟨op, fs, fd, ff, ft⟩ : Fl).Ok := ⟨o1.p, hfs, hfd, hff, hft⟩
  have hgq : qFit P xs ⟨op, fs, fd, ff, ft⟩ := by
    intro h1
    rw [hk] at o7
    exact absurd h1 (o7 rfl)
  have HCA := hide (fun (W : World) (hL : Lies W da xs n dc) => rw_ok W tt P id S D da xs n dc hL hl hb hS hD he hk3 ⟨op, os, od, of, ot⟩ o1 o2)
  have HCQ := hide (fun (W : World) (hL : Lies W da xs n dc) => rw_ok W tt P id S D da xs n dc hL hl hb hS hD he hk3 ⟨op, fs, fd, ff, ft⟩ hgo o2)
  obtain ⟨f1, f2, f3, f4, f5, f6⟩ := rw_fit P S D xs ⟨op, fs, fd, ff, ft⟩ hb he hk3 hgo hgq
  have f5 := f5 o2
  have f6 := f6 ⟨op, os, od, of, ot⟩
  dsimp only at f3 f4 f5 f6 HCA HCQ
  generalize hbq : rwB P S D xs ⟨op, fs, fd, ff, ft⟩ = bQ at *
  have HO2 := hide (fun (W : World) (a : Option Addr) (c : Nat) (hL : Lies W a bQ bQ.length c) => of_any W (tt : Int) (id : Int) P fs fd a bQ.length c bQ hL rfl f1 hfs hfd)
  rw [f3, f5] at HO2
  have HB2 := hide (fun (W : World) (a : Option Addr) (c : Nat) (hL : Lies W a bQ bQ.length c) => rw_ok W tt P id fs fd a bQ bQ.length c hL rfl f1 hfs hfd f3 (by rw [f4]; exact hk3) ⟨op, os, od, of, ot⟩ o1 o2)
  dsimp only at HB2
  rw [f6] at HB2
  generalize rwB P S D xs ⟨op, os, od, of, ot⟩ = bA at *
  unfold Fl.v at HOF HO2
  dsimp only at HOF HO2
  generalize ofKind P fs fd bQ = k2 at *
  clear hl hb hn he hk hk3 o1 o2 o3 o4 o5 o6 o7 hO hgo hgq f1 f3 f4 f5 f6 hbq
  clear f2
  obtain ⟨V1, hV1⟩ : ∃ V, w.alloc (.cells #[.int .u8 (tt : Int), .int .u8 (P : Int), .int .u16 (id : Int), .int .u32 (S : Int), .int .u32 (D : Int), .slice da n dc] 27) = V := ⟨_, rfl⟩
  obtain ⟨V2, hV2⟩ : ∃ V, V1.alloc (.cells #[.int .u8 (fp : Int), .int .u32 (fs : Int), .int .u32 (fd : Int), .int .u16 (ff : Int), .int .u16 (ft : Int)] 29) = V := ⟨_, rfl⟩
  have hz1 : V1.heap.size = w.heap.size + 1 := by rw [← hV1]; simp
  have hz2 : V2.heap.size = w.heap.size + 1 + 1 := by rw [← hV2]; simp [hz1]
  have hb1 : Below w.heap.size w V1 := by rw [← hV1]; exact (Below.refl _ _).alloc (Nat.le_refl _) _
  have hc2 : Below V1.heap.size V1 V2 := by rw [← hV2]; exact (Below.refl _ _).alloc (Nat.le_refl _) _
  have hb2 := hb1.trans (hc2.mono hb1.size)
  have hp1_1 : V1.heap[w.heap.size]? = some (.cells #[.int .u8 (tt : Int), .int .u8 (P : Int), .int .u16 (id : Int), .int .u32 (S : Int), .int .u32 (D : Int), .slice da n dc] 27 (0, 0)) := by rw [← hV1]; exact heap_alloc_new _ _
  have hp1_2 := below_block hc2 hp1_1 (Nat.le_refl _)
  have hp2_2 : V2.heap[w.heap.size + 1]? = some (.cells #[.int .u8 (fp : Int), .int .u32 (fs : Int), .int .u32 (fd : Int), .int .u16 (ff : Int), .int .u16 (ft : Int)] 29 (0, 0)) := by rw [← hV2, ← hz1]; exact heap_alloc_new _ _
  obtain ⟨BX, hBX⟩ : ∃ B, w.heap.size = B := ⟨_, rfl⟩
  obtain ⟨BF, hBF⟩ : ∃ B, w.heap.size + 1 = B := ⟨_, rfl⟩
  have hw0 : w.heap.size ≤ BX ∧ w.heap.size ≤ BF := by omega
  have HX := hide (show V2.heap[BX]? = some (.cells #[.int .u8 (tt : Int), .int .u8 (P : Int), .int .u16 (id : Int), .int .u32 (S : Int), .int .u32 (D : Int), .slice da n dc] 27 (0, 0)) by rw [← hBX]; exact hp1_2)
  have NX : Hid (w.heap.size ≤ BX) := hide hw0.1
  have HF := hide (show V2.heap[BF]? = some (.cells #[.int .u8 (fp : Int), .int .u32 (fs : Int), .int .u32 (fd : Int), .int .u16 (ff : Int), .int .u16 (ft : Int)] 29 (0, 0)) by rw [← hBF]; exact hp2_2)
  have NF : Hid (w.heap.size ≤ BF) := hide hw0.2
  have nqX_F : Hid (BX ≠ BF) := hide (by omega)
  have AP := hide hLx
  have RP := hide (hLx.below hb2 (Nat.le_refl _))
  have HB := hide hb2
  have HE := hide (And.intro (And.intro trivial trivial) (And.intro hV1 ( And.intro hV2 (And.intro hBX ( And.intro hBF (trivial))))))
  clear hw0 hV1 hz1 hb1 hV2 hz2 hb2 hc2 hp1_1 hp1_2 hp2_2 hBX hBF hLx
  go_enter Try.func4, Try.ntmps4
  go_upto_region 1 with (fail)
  rw [HE.out.2.1]
  try rw [HE.out.2.2.1]
  try rw [HE.out.2.2.2.2.1]
  try rw [HE.out.2.2.2.1]
  clear HE
  go_wp2_with fail
  refine (speaks_any _).mono ?_
  rintro e w1 ⟨rfl, b⟩
  replace HX := hide (below_block b HX.out (Nat.le_refl _))
  replace HF := hide (below_block b HF.out (Nat.le_refl _))
  replace RP := hide (RP.out.below b (Nat.le_refl _))
  replace HB := hide (HB.out.trans (b.mono HB.out.size))
  clear b 
  have qX_5 : w1.cell? ⟨BX, 5, none⟩ = some (.slice da n dc) := cell_at HX.out 5 rfl
  go_upto_region 5 with (fail)
  clear qX_5
  go_wp2_with ((refine ld_whole (o := ⟨some 24, _, _, _, _, _⟩) 27 (.tmp 2) rfl (by rfl) BX rfl #[.int .u8 (tt : Int), .int .u8 (P : Int), .int .u16 (id : Int), .int .u32 (S : Int), .int .u32 (D : Int), .slice da n dc] 27 HX.out Try.underlying27 (by kernel_rfl) ?_; try simp only [Act.put, List.setIfInBounds_toArray, List.set_cons_zero, List.set_cons_succ]))
  refine (HOF.out _ RP.out).mono ?_
  rintro e w2 ⟨rfl, b⟩
  replace HX := hide (below_block b HX.out (Nat.le_refl _))
  replace HF := hide (below_block b HF.out (Nat.le_refl _))
  replace RP := hide (RP.out.below b (Nat.le_refl _))
  replace HB := hide (HB.out.trans (b.mono HB.out.size))
  clear b 
  obtain ⟨w3, hwn, wb, HN1⟩ : ∃ W, w2.alloc (.cells #[.int .u8 (op : Int), .int .u32 (os : Int), .int .u32 (od : Int), .int .u16 (of : Int), .int .u16 (ot : Int)] 29) = W ∧ Below w2.heap.size w2 W ∧ Hid (W.heap[w2.heap.size]? = some (.cells #[.int .u8 (op : Int), .int .u32 (os : Int), .int .u32 (od : Int), .int .u16 (of : Int), .int .u16 (ot : Int)] 29 (0, 0))) := ⟨_, rfl, (Below.refl w2.heap.size w2).alloc (Nat.le_refl _) _, hide (heap_alloc_new w2 _)⟩
  obtain ⟨BO, hBn⟩ : ∃ B, w2.heap.size = B := ⟨_, rfl⟩
  rw [hBn] at HN1
  have HW := hide (And.intro hwn hBn)
  have HBo := HB
  have nqX_O := hide (blk_ne HX.out hBn)
  have nqF_O := hide (blk_ne HF.out hBn)
  clear hwn hBn
  replace HX := hide (below_block wb HX.out (Nat.le_refl _))
  replace HF := hide (below_block wb HF.out (Nat.le_refl _))
  replace RP := hide (RP.out.below wb (Nat.le_refl _))
  replace HB := hide (HB.out.trans (wb.mono HB.out.size))
  have HO := HN1
  have NO := hide (show w.heap.size ≤ BO by rw [← HW.out.2]; exact HBo.out.size)
  clear wb HN1 HBo
  go_upto_region 6 with (fail)
  rw [HW.out.1]
  try rw [HW.out.2]
  clear HW
  go_upto_region 8 with (fail)
  have qO_0 : w3.cell? ⟨BO, 0, none⟩ = some (.int .u8 (op : Int)) := cell_at HO.out 0 rfl
  have fz := free_at HF.out 0
  have qF_0 : w3.cell? ⟨BF, 0, none⟩ = some (.int .u8 (fp : Int)) := cell_at HF.out 0 rfl
  obtain ⟨w4, hVn, hVH, hVB, hVo, hVs⟩ := set1 (i := 0) (.int .u8 (op : Int)) (c' := #[.int .u8 (op : Int), .int .u32 (fs : Int), .int .u32 (fd : Int), .int .u16 (ff : Int), .int .u16 (ft : Int)]) HF.out HB.out NF.out (by kernel_rfl)
  have HVn := hide hVn
  clear hVn
  have HG := hide (gb_part HB.out hVB hVo hVs)
  have HXn := hide ((hVo _ nqX_F.out).trans HX.out)
  have HFn := hide hVH
  have HOn := hide ((hVo _ nqF_O.out.symm).trans HO.out)
  have RPn := hide (AP.out.below hVB (Nat.le_refl _))
  have HBn := hide hVB
  clear hVH hVB hVo hVs HG
  go_upto_region 11 with (fail)
  rw [HVn.out]
  clear HVn fz
  clear qO_0 qF_0
  replace HX := HXn
  clear HXn
  replace HF := HFn
  clear HFn
  replace HO := HOn
  clear HOn
  replace RP := RPn
  clear RPn
  replace HB := HBn
  clear HBn
  go_wp2_with (first | (refine ld_whole (o := ⟨some 53, _, _, _, _, _⟩) 27 (.tmp 2) rfl (by rfl) BX rfl #[.int .u8 (tt : Int), .int .u8 (P : Int), .int .u16 (id : Int), .int .u32 (S : Int), .int .u32 (D : Int), .slice da n dc] 27 HX.out Try.underlying27 (by kernel_rfl) ?_; try simp only [Act.put, List.setIfInBounds_toArray, List.set_cons_zero, List.set_cons_succ]) | (refine ld_whole (o := ⟨some 54, _, _, _, _, _⟩) 29 (.tmp 5) rfl (by rfl) BO rfl #[.int .u8 (op : Int), .int .u32 (os : Int), .int .u32 (od : Int), .int .u16 (of : Int), .int .u16 (ot : Int)] 29 HO.out Try.underlying29 (by kernel_rfl) ?_; try simp only [Act.put, List.setIfInBounds_toArray, List.set_cons_zero, List.set_cons_succ]))
  refine (HCA.out _ RP.out).mono ?_
  rintro e w5 ⟨a1, c1, rfl, o, b⟩
  replace HX := hide (below_block b HX.out (Nat.le_refl _))
  replace HF := hide (below_block b HF.out (Nat.le_refl _))
  replace HO := hide (below_block b HO.out (Nat.le_refl _))
  replace RP := hide (RP.out.below b (Nat.le_refl _))
  replace HB := hide (HB.out.trans (b.mono HB.out.size))
  have RA1 := hide (Lies.of_owns o)
  clear b o
  obtain ⟨w6, hwn, wb, HN1⟩ : ∃ W, w5.alloc (.cells #[.int .u8 (tt : Int), .int .u8 (P : Int), .int .u16 (id : Int), .int .u32 (os : Int), .int .u32 (od : Int), .slice a1 bA.length c1] 27) = W ∧ Below w5.heap.size w5 W ∧ Hid (W.heap[w5.heap.size]? = some (.cells #[.int .u8 (tt : Int), .int .u8 (P : Int), .int .u16 (id : Int), .int .u32 (os : Int), .int .u32 (od : Int), .slice a1 bA.length c1] 27 (0, 0))) := ⟨_, rfl, (Below.refl w5.heap.size w5).alloc (Nat.le_refl _) _, hide (heap_alloc_new w5 _)⟩
  obtain ⟨BA, hBn⟩ : ∃ B, w5.heap.size = B := ⟨_, rfl⟩
  rw [hBn] at HN1
  have HW := hide (And.intro hwn hBn)
  have HBo := HB
  have nqX_A := hide (blk_ne HX.out hBn)
  have nqF_A := hide (blk_ne HF.out hBn)
  have nqO_A := hide (blk_ne HO.out hBn)
  clear hwn hBn
  replace HX := hide (below_block wb HX.out (Nat.le_refl _))
  replace HF := hide (below_block wb HF.out (Nat.le_refl _))
  replace HO := hide (below_block wb HO.out (Nat.le_refl _))
  replace RP := hide (RP.out.below wb (Nat.le_refl _))
  replace RA1 := hide (RA1.out.below wb (Nat.le_refl _))
  replace HB := hide (HB.out.trans (wb.mono HB.out.size))
  have HA := HN1
  have NA := hide (show w.heap.size ≤ BA by rw [← HW.out.2]; exact HBo.out.size)
  clear wb HN1 HBo
  go_upto_region 12 with (fail)
  rw [HW.out.1]
  try rw [HW.out.2]
  clear HW
  go_wp2_with (first | (refine ld_whole (o := ⟨some 59, _, _, _, _, _⟩) 27 (.tmp 2) rfl (by rfl) BX rfl #[.int .u8 (tt : Int), .int .u8 (P : Int), .int .u16 (id : Int), .int .u32 (S : Int), .int .u32 (D : Int), .slice da n dc] 27 HX.out Try.underlying27 (by kernel_rfl) ?_; try simp only [Act.put, List.setIfInBounds_toArray, List.set_cons_zero, List.set_cons_succ]) | (refine ld_whole (o := ⟨some 60, _, _, _, _, _⟩) 29 (.tmp 3) rfl (by rfl) BF rfl #[.int .u8 (op : Int), .int .u32 (fs : Int), .int .u32 (fd : Int), .int .u16 (ff : Int), .int .u16 (ft : Int)] 29 HF.out Try.underlying29 (by kernel_rfl) ?_; try simp only [Act.put, List.setIfInBounds_toArray, List.set_cons_zero, List.set_cons_succ]))
  refine (HCQ.out _ RP.out).mono ?_
  rintro e w7 ⟨a2, c2, rfl, o, b⟩
  replace HX := hide (below_block b HX.out (Nat.le_refl _))
  replace HF := hide (below_block b HF.out (Nat.le_refl _))
  replace HO := hide (below_block b HO.out (Nat.le_refl _))
  replace HA := hide (below_block b HA.out (Nat.le_refl _))
  replace RP := hide (RP.out.below b (Nat.le_refl _))
  replace RA1 := hide (RA1.out.below b (Nat.le_refl _))
  replace HB := hide (HB.out.trans (b.mono HB.out.size))
  have RQ1 := hide (Lies.of_owns o)
  clear b o
  obtain ⟨w8, hwn, wb, HN1⟩ : ∃ W, w7.alloc (.cells #[.int .u8 (tt : Int), .int .u8 (P : Int), .int .u16 (id : Int), .int .u32 (fs : Int), .int .u32 (fd : Int), .slice a2 bQ.length c2] 27) = W ∧ Below w7.heap.size w7 W ∧ Hid (W.heap[w7.heap.size]? = some (.cells #[.int .u8 (tt : Int), .int .u8 (P : Int), .int .u16 (id : Int), .int .u32 (fs : Int), .int .u32 (fd : Int), .slice a2 bQ.length c2] 27 (0, 0))) := ⟨_, rfl, (Below.refl w7.heap.size w7).alloc (Nat.le_refl _) _, hide (heap_alloc_new w7 _)⟩
  obtain ⟨BQ, hBn⟩ : ∃ B, w7.heap.size = B := ⟨_, rfl⟩
  rw [hBn] at HN1
  have HW := hide (And.intro hwn hBn)
  have HBo := HB
  have nqX_Q := hide (blk_ne HX.out hBn)
  have nqF_Q := hide (blk_ne HF.out hBn)
  have nqO_Q := hide (blk_ne HO.out hBn)
  have nqA_Q := hide (blk_ne HA.out hBn)
  clear hwn hBn
  replace HX := hide (below_block wb HX.out (Nat.le_refl _))
  replace HF := hide (below_block wb HF.out (Nat.le_refl _))
  replace HO := hide (below_block wb HO.out (Nat.le_refl _))
  replace HA := hide (below_block wb HA.out (Nat.le_refl _))
  replace RP := hide (RP.out.below wb (Nat.le_refl _))
  replace RA1 := hide (RA1.out.below wb (Nat.le_refl _))
  replace RQ1 := hide (RQ1.out.below wb (Nat.le_refl _))
  replace HB := hide (HB.out.trans (wb.mono HB.out.size))
  have HQ := HN1
  have NQ := hide (show w.heap.size ≤ BQ by rw [← HW.out.2]; exact HBo.out.size)
  clear wb HN1 HBo
  go_upto_region 13 with (fail)
  rw [HW.out.1]
  try rw [HW.out.2]
  clear HW
  go_wp2_with ((refine ld_whole (o := ⟨some 71, _, _, _, _, _⟩) 27 (.tmp 10) rfl (by rfl) BQ rfl #[.int .u8 (tt : Int), .int .u8 (P : Int), .int .u16 (id : Int), .int .u32 (fs : Int), .int .u32 (fd : Int), .slice a2 bQ.length c2] 27 HQ.out Try.underlying27 (by kernel_rfl) ?_; try simp only [Act.put, List.setIfInBounds_toArray, List.set_cons_zero, List.set_cons_succ]))
  refine (HO2.out _ a2 c2 RQ1.out).mono ?_
  rintro e w9 ⟨rfl, b⟩
  replace HX := hide (below_block b HX.out (Nat.le_refl _))
  replace HF := hide (below_block b HF.out (Nat.le_refl _))
  replace HO := hide (below_block b HO.out (Nat.le_refl _))
  replace HA := hide (below_block b HA.out (Nat.le_refl _))
  replace HQ := hide (below_block b HQ.out (Nat.le_refl _))
  replace RP := hide (RP.out.below b (Nat.le_refl _))
  replace RA1 := hide (RA1.out.below b (Nat.le_refl _))
  replace RQ1 := hide (RQ1.out.below b (Nat.le_refl _))
  replace HB := hide (HB.out.trans (b.mono HB.out.size))
  clear b 
  obtain ⟨w10, hwn, wb, HN1⟩ : ∃ W, w9.alloc (.cells #[.int .u8 (op : Int), .int .u32 (fs : Int), .int .u32 (fd : Int), .int .u16 (ff : Int), .int .u16 (ft : Int)] 29) = W ∧ Below w9.heap.size w9 W ∧ Hid (W.heap[w9.heap.size]? = some (.cells #[.int .u8 (op : Int), .int .u32 (fs : Int), .int .u32 (fd : Int), .int .u16 (ff : Int), .int .u16 (ft : Int)] 29 (0, 0))) := ⟨_, rfl, (Below.refl w9.heap.size w9).alloc (Nat.le_refl _) _, hide (heap_alloc_new w9 _)⟩
  obtain ⟨BN, hBn⟩ : ∃ B, w9.heap.size = B := ⟨_, rfl⟩
  rw [hBn] at HN1
  have HW := hide (And.intro hwn hBn)
  have HBo := HB
  have nqX_N := hide (blk_ne HX.out hBn)
  have nqF_N := hide (blk_ne HF.out hBn)
  have nqO_N := hide (blk_ne HO.out hBn)
  have nqA_N := hide (blk_ne HA.out hBn)
  have nqQ_N := hide (blk_ne HQ.out hBn)
  clear hwn hBn
  replace HX := hide (below_block wb HX.out (Nat.le_refl _))
  replace HF := hide (below_block wb HF.out (Nat.le_refl _))
  replace HO := hide (below_block wb HO.out (Nat.le_refl _))
  replace HA := hide (below_block wb HA.out (Nat.le_refl _))
  replace HQ := hide (below_block wb HQ.out (Nat.le_refl _))
  replace RP := hide (RP.out.below wb (Nat.le_refl _))
  replace RA1 := hide (RA1.out.below wb (Nat.le_refl _))
  replace RQ1 := hide (RQ1.out.below wb (Nat.le_refl _))
  replace HB := hide (HB.out.trans (wb.mono HB.out.size))
  have HN := HN1
  have NN := hide (show w.heap.size ≤ BN by rw [← HW.out.2]; exact HBo.out.size)
  clear wb HN1 HBo
  go_upto_region 16 with (fail)
  rw [HW.out.1]
  try rw [HW.out.2]
  clear HW
  go_wp2_with (first | (refine ld_whole (o := ⟨some 77, _, _, _, _, _⟩) 27 (.tmp 10) rfl (by rfl) BQ rfl #[.int .u8 (tt : Int), .int .u8 (P : Int), .int .u16 (id : Int), .int .u32 (fs : Int), .int .u32 (fd : Int), .slice a2 bQ.length c2] 27 HQ.out Try.underlying27 (by kernel_rfl) ?_; try simp only [Act.put, List.setIfInBounds_toArray, List.set_cons_zero, List.set_cons_succ]) | (refine ld_whole (o := ⟨some 78, _, _, _, _, _⟩) 29 (.tmp 5) rfl (by rfl) BO rfl #[.int .u8 (op : Int), .int .u32 (os : Int), .int .u32 (od : Int), .int .u16 (of : Int), .int .u16 (ot : Int)] 29 HO.out Try.underlying29 (by kernel_rfl) ?_; try simp only [Act.put, List.setIfInBounds_toArray, List.set_cons_zero, List.set_cons_succ]))
  refine (HB2.out _ a2 c2 RQ1.out).mono ?_
  rintro e w11 ⟨a3, c3, rfl, o, b⟩
  replace HX := hide (below_block b HX.out (Nat.le_refl _))
  replace HF := hide (below_block b HF.out (Nat.le_refl _))
  replace HO := hide (below_block b HO.out (Nat.le_refl _))
  replace HA := hide (below_block b HA.out (Nat.le_refl _))
  replace HQ := hide (below_block b HQ.out (Nat.le_refl _))
  replace HN := hide (below_block b HN.out (Nat.le_refl _))
  replace RP := hide (RP.out.below b (Nat.le_refl _))
  replace RA1 := hide (RA1.out.below b (Nat.le_refl _))
  replace RQ1 := hide (RQ1.out.below b (Nat.le_refl _))
  replace HB := hide (HB.out.trans (b.mono HB.out.size))
  have RB1 := hide (Lies.of_owns o)
  clear b o
  clear RQ1 RP
  obtain ⟨w12, hwn, wb, HN1⟩ : ∃ W, w11.alloc (.cells #[.int .u8 (tt : Int), .int .u8 (P : Int), .int .u16 (id : Int), .int .u32 (os : Int), .int .u32 (od : Int), .slice a3 bA.length c3] 27) = W ∧ Below w11.heap.size w11 W ∧ Hid (W.heap[w11.heap.size]? = some (.cells #[.int .u8 (tt : Int), .int .u8 (P : Int), .int .u16 (id : Int), .int .u32 (os : Int), .int .u32 (od : Int), .slice a3 bA.length c3] 27 (0, 0))) := ⟨_, rfl, (Below.refl w11.heap.size w11).alloc (Nat.le_refl _) _, hide (heap_alloc_new w11 _)⟩
  obtain ⟨BCc, hBn⟩ : ∃ B, w11.heap.size = B := ⟨_, rfl⟩
  rw [hBn] at HN1
  have HW := hide (And.intro hwn hBn)
  have HBo := HB
  have nqX_Cc := hide (blk_ne HX.out hBn)
  have nqF_Cc := hide (blk_ne HF.out hBn)
  have nqO_Cc := hide (blk_ne HO.out hBn)
  have nqA_Cc := hide (blk_ne HA.out hBn)
  have nqQ_Cc := hide (blk_ne HQ.out hBn)
  have nqN_Cc := hide (blk_ne HN.out hBn)
  clear hwn hBn
  replace HX := hide (below_block wb HX.out (Nat.le_refl _))
  replace HF := hide (below_block wb HF.out (Nat.le_refl _))
  replace HO := hide (below_block wb HO.out (Nat.le_refl _))
  replace HA := hide (below_block wb HA.out (Nat.le_refl _))
  replace HQ := hide (below_block wb HQ.out (Nat.le_refl _))
  replace HN := hide (below_block wb HN.out (Nat.le_refl _))
  replace RA1 := hide (RA1.out.below wb (Nat.le_refl _))
  replace RB1 := hide (RB1.out.below wb (Nat.le_refl _))
  replace HB := hide (HB.out.trans (wb.mono HB.out.size))
  have HCc := HN1
  have NCc := hide (show w.heap.size ≤ BCc by rw [← HW.out.2]; exact HBo.out.size)
  clear wb HN1 HBo
  go_upto_region 17 with (fail)
  rw [HW.out.1]
  try rw [HW.out.2]
  clear HW
  clear HCA HCQ HO2 HB2 HOF
  have qA_0 : w12.cell? ⟨BA, 0, none⟩ = some (.int .u8 (tt : Int)) := cell_at HA.out 0 rfl
  have qCc_0 : w12.cell? ⟨BCc, 0, none⟩ = some (.int .u8 (tt : Int)) := cell_at HCc.out 0 rfl
  have qA_1 : w12.cell? ⟨BA, 1, none⟩ = some (.int .u8 (P : Int)) := cell_at HA.out 1 rfl
  have qCc_1 : w12.cell? ⟨BCc, 1, none⟩ = some (.int .u8 (P : Int)) := cell_at HCc.out 1 rfl
  have qA_2 : w12.cell? ⟨BA, 2, none⟩ = some (.int .u16 (id : Int)) := cell_at HA.out 2 rfl
  have qCc_2 : w12.cell? ⟨BCc, 2, none⟩ = some (.int .u16 (id : Int)) := cell_at HCc.out 2 rfl
  have qA_3 : w12.cell? ⟨BA, 3, none⟩ = some (.int .u32 (os : Int)) := cell_at HA.out 3 rfl
  have qCc_3 : w12.cell? ⟨BCc, 3, none⟩ = some (.int .u32 (os : Int)) := cell_at HCc.out 3 rfl
  have qA_4 : w12.cell? ⟨BA, 4, none⟩ = some (.int .u32 (od : Int)) := cell_at HA.out 4 rfl
  have qCc_4 : w12.cell? ⟨BCc, 4, none⟩ = some (.int .u32 (od : Int)) := cell_at HCc.out 4 rfl
  have qA_5 : w12.cell? ⟨BA, 5, none⟩ = some (.slice a1 bA.length c1) := cell_at HA.out 5 rfl
  have qCc_5 : w12.cell? ⟨BCc, 5, none⟩ = some (.slice a3 bA.length c3) := cell_at HCc.out 5 rfl
  have qN_0 : w12.cell? ⟨BN, 0, none⟩ = some (.int .u8 (op : Int)) := cell_at HN.out 0 rfl
  have qF_0 : w12.cell? ⟨BF, 0, none⟩ = some (.int .u8 (op : Int)) := cell_at HF.out 0 rfl
  have qN_1 : w12.cell? ⟨BN, 1, none⟩ = some (.int .u32 (fs : Int)) := cell_at HN.out 1 rfl
  have qF_1 : w12.cell? ⟨BF, 1, none⟩ = some (.int .u32 (fs : Int)) := cell_at HF.out 1 rfl
  have qN_2 : w12.cell? ⟨BN, 2, none⟩ = some (.int .u32 (fd : Int)) := cell_at HN.out 2 rfl
  have qF_2 : w12.cell? ⟨BF, 2, none⟩ = some (.int .u32 (fd : Int)) := cell_at HF.out 2 rfl
  have qN_3 : w12.cell? ⟨BN, 3, none⟩ = some (.int .u16 (ff : Int)) := cell_at HN.out 3 rfl
  have qF_3 : w12.cell? ⟨BF, 3, none⟩ = some (.int .u16 (ff : Int)) := cell_at HF.out 3 rfl
  have qN_4 : w12.cell? ⟨BN, 4, none⟩ = some (.int .u16 (ft : Int)) := cell_at HN.out 4 rfl
  have qF_4 : w12.cell? ⟨BF, 4, none⟩ = some (.int .u16 (ft : Int)) := cell_at HF.out 4 rfl
  go_wp2_with fail
  refine (same4_any _ _ _ _ _ _ a1 a3 bA _ c1 c3 RA1.out.row RB1.out.row rfl).mono ?_
  rintro e w13 ⟨rfl, b⟩
  clear qA_0 qCc_0 qA_1 qCc_1 qA_2 qCc_2 qA_3 qCc_3 qA_4 qCc_4 qA_5 qCc_5 qN_0 qF_0 qN_1 qF_1 qN_2 qF_2 qN_3 qF_3 qN_4 qF_4
  replace HX := hide (below_block b HX.out (Nat.le_refl _))
  replace HF := hide (below_block b HF.out (Nat.le_refl _))
  replace HO := hide (below_block b HO.out (Nat.le_refl _))
  replace HA := hide (below_block b HA.out (Nat.le_refl _))
  replace HQ := hide (below_block b HQ.out (Nat.le_refl _))
  replace HN := hide (below_block b HN.out (Nat.le_refl _))
  replace HCc := hide (below_block b HCc.out (Nat.le_refl _))
  replace RA1 := hide (RA1.out.below b (Nat.le_refl _))
  replace RB1 := hide (RB1.out.below b (Nat.le_refl _))
  replace HB := hide (HB.out.trans (b.mono HB.out.size))
  clear b 
  go_wp2_with fail
  go_ret
  exact ⟨rfl, HB.out⟩
set_option maxHeartbeats 4000000 in
theorem flowBack_query (w : World) (tt P id S D : Nat) (da : Option Addr) (xs : List Int) (n dc : Nat) (fp fs fd ff ft : Nat) (hLx : Lies w da xs n dc) (hl : xs.length = n) (hb : ∀ x ∈ xs, 0 ≤ x ∧ x ≤ 255) (hS : S ≤ 4294967295) (hD : D ≤ 4294967295) (hP : P ≤ 255) (hfs : fs ≤ 4294967295) (hfd : fd ≤ 4294967295) (hff : ff ≤ 65535) (hft : ft ≤ 65535) (hn : ¬ 3000 < n) (he : ofErr P S D xs = 0) (hk : ofKind P S D xs = 2) :
    Calls Try.prog 4 #[.agg #[.int .u8 (tt : Int), .int .u8 (P : Int), .int .u16 (id : Int), .int .u32 (S : Int), .int .u32 (D : Int), .slice da n dc], .agg #[.int .u8 (fp : Int), .int .u32 (fs : Int), .int .u32 (fd : Int), .int .u16 (ff : Int), .int .u16 (ft : Int)]] w fun e w' => e = .returned (.bool true) ∧ Below w.heap.size w w' := by
  have hd3 : decide ((3000 : Int) < (n : Int)) = false := by simp; omega
  have hk3 : ofKind P S D xs ≠ 3 := by omega
  have HOF := hide (fun (W : World) (hL : Lies W da xs n dc) => of_any W (tt : Int) (id : Int) P S D da n dc xs hL hl hb hS hD)
  rw [he, hk] at HOF
  obtain ⟨o1, o2, o3, o4, o5, o6, o7⟩ := of_plain P S D xs hb hP hS hD he hk3
  obtain ⟨O, hO⟩ : ∃ y, ofFl P S D xs = y := ⟨_, rfl⟩
  rw [hO] at HOF o1 o2 o3 o4 o5
  obtain ⟨op, os, od, of, ot⟩ := O
  have hgo : (⟨op, fs, fd, (of &&& ff), (ot &&& ft)⟩ : Fl).Ok := ⟨o1.p, hfs, hfd, Nat.le_trans Nat.and_le_left o1.f, Nat.le_trans Nat.and_le_left o1.t⟩
  have hgq : qFit P xs ⟨op, fs, fd, (of &&& ff), (ot &&& ft)⟩ := by
    intro h1
    have := o5 h1
    dsimp only at this ⊢
    split at this
    · rename_i h8; rw [if_pos h8, this]; simp
    · rename_i h8; rw [if_neg h8, this]; simp
  have HCA := hide (fun (W : World) (hL : Lies W da xs n dc) => rw_ok W tt P id S D da xs n dc hL hl hb hS hD he hk3 ⟨op, os, od, of, ot⟩ o1 o2)
  have HCQ := hide (fun (W : World) (hL : Lies W da xs n dc) => rw_ok W tt P id S D da xs n dc hL hl hb hS hD he hk3 ⟨op, fs, fd, (of &&& ff), (ot &&& ft)⟩ hgo o2)
  obtain ⟨f1, f2, f3, f4, f5, f6⟩ := rw_fit P S D xs ⟨op, fs, fd, (of &&& ff), (ot &&& ft)⟩ hb he hk3 hgo hgq
  have f5 := f5 o2
  have f6 := f6 ⟨op, os, od, of, ot⟩
  dsimp only at f3 f4 f5 f6 HCA HCQ
  generalize hbq : rwB P S D xs ⟨op, fs, fd, (of &&& ff), (ot &&& ft)⟩ = bQ at *
  have HO2 := hide (fun (W : World) (a : Option Addr) (c : Nat) (hL : Lies W a bQ bQ.length c) => of_any W (tt : Int) (id : Int) P fs fd a bQ.length c bQ hL rfl f1 hfs hfd)
  rw [f3, f5] at HO2
  have HB2 := hide (fun (W : World) (a : Option Addr) (c : Nat) (hL : Lies W a bQ bQ.length c) => rw_ok W tt P id fs fd a bQ bQ.length c hL rfl f1 hfs hfd f3 (by rw [f4]; exact hk3) ⟨op, os, od, of, ot⟩ o1 o2)
  dsimp only at HB2
  rw [f6] at HB2
  generalize rwB P S D xs ⟨op, os, od, of, ot⟩ = bA at *
  unfold Fl.v at HOF HO2
  dsimp only at HOF HO2
  generalize ofKind P fs fd bQ = k2 at *
  have hA1 : bits .and .u16 (of : Int) (ff : Int) = ((of &&& ff : Nat) : Int) := u16_and_nat of ff (by have := o1.f; dsimp only at this; omega) (by omega)
  have hA2 : bits .and .u16 (ot : Int) (ft : Int) = ((ot &&& ft : Nat) : Int) := u16_and_nat ot ft (by have := o1.t; dsimp only at this; omega) (by omega)
  generalize of &&& ff = gf at *
  generalize ot &&& ft = gt at *
  have HAA := hide (And.intro hA1 hA2)
  clear hA1 hA2
  clear hl hb hn he hk hk3 o1 o2 o3 o4 o5 o6 o7 hO hgo hgq f1 f3 f4 f5 f6 hbq
  clear f2
  obtain ⟨V1, hV1⟩ : ∃ V, w.alloc (.cells #[.int .u8 (tt : Int), .int .u8 (P : Int), .int .u16 (id : Int), .int .u32 (S : Int), .int .u32 (D : Int), .slice da n dc] 27) = V := ⟨_, rfl⟩
  obtain ⟨V2, hV2⟩ : ∃ V, V1.alloc (.cells #[.int .u8 (fp : Int), .int .u32 (fs : Int), .int .u32 (fd : Int), .int .u16 (ff : Int), .int .u16 (ft : Int)] 29) = V := ⟨_, rfl⟩
  have hz1 : V1.heap.size = w.heap.size + 1 := by rw [← hV1]; simp
  have hz2 : V2.heap.size = w.heap.size + 1 + 1 := by rw [← hV2]; simp [hz1]
  have hb1 : Below w.heap.size w V1 := by rw [← hV1]; exact (Below.refl _ _).alloc (Nat.le_refl _) _
  have hc2 : Below V1.heap.size V1 V2 := by rw [← hV2]; exact (Below.refl _ _).alloc (Nat.le_refl _) _
  have hb2 := hb1.trans (hc2.mono hb1.size)
  have hp1_1 : V1.heap[w.heap.size]? = some (.cells #[.int .u8 (tt : Int), .int .u8 (P : Int), .int .u16 (id : Int), .int .u32 (S : Int), .int .u32 (D : Int), .slice da n dc] 27 (0, 0)) := by rw [← hV1]; exact heap_alloc_new _ _
  have hp1_2 := below_block hc2 hp1_1 (Nat.le_refl _)
  have hp2_2 : V2.heap[w.heap.size + 1]? = some (.cells #[.int .u8 (fp : Int), .int .u32 (fs : Int), .int .u32 (fd : Int), .int .u16 (ff : Int), .int .u16 (ft : Int)] 29 (0, 0)) := by rw [← hV2, ← hz1]; exact heap_alloc_new _ _
  obtain ⟨BX, hBX⟩ : ∃ B, w.heap.size = B := ⟨_, rfl⟩
  obtain ⟨BF, hBF⟩ : ∃ B, w.heap.size + 1 = B := ⟨_, rfl⟩
  have hw0 : w.heap.size ≤ BX ∧ w.heap.size ≤ BF := by omega
  have HX := hide (show V2.heap[BX]? = some (.cells #[.int .u8 (tt : Int), .int .u8 (P : Int), .int .u16 (id : Int), .int .u32 (S : Int), .int .u32 (D : Int), .slice da n dc] 27 (0, 0)) by rw [← hBX]; exact hp1_2)
  have NX : Hid (w.heap.size ≤ BX) := hide hw0.1
  have HF := hide (show V2.heap[BF]? = some (.cells #[.int .u8 (fp : Int), .int .u32 (fs : Int), .int .u32 (fd : Int), .int .u16 (ff : Int), .int .u16 (ft : Int)] 29 (0, 0)) by rw [← hBF]; exact hp2_2)
  have NF : Hid (w.heap.size ≤ BF) := hide hw0.2
  have nqX_F : Hid (BX ≠ BF) := hide (by omega)
  have AP := hide hLx
  have RP := hide (hLx.below hb2 (Nat.le_refl _))
  have HB := hide hb2
  have HE := hide (And.intro (And.intro trivial trivial) (And.intro hV1 ( And.intro hV2 (And.intro hBX ( And.intro hBF (trivial))))))
  clear hw0 hV1 hz1 hb1 hV2 hz2 hb2 hc2 hp1_1 hp1_2 hp2_2 hBX hBF hLx
  go_enter Try.func4, Try.ntmps4
  go_upto_region 1 with (fail)
  rw [HE.out.2.1]
  try rw [HE.out.2.2.1]
  try rw [HE.out.2.2.2.2.1]
  try rw [HE.out.2.2.2.1]
  clear HE
  go_wp2_with fail
  refine (speaks_any _).mono ?_
  rintro e w1 ⟨rfl, b⟩
  replace HX := hide (below_block b HX.out (Nat.le_refl _))
  replace HF := hide (below_block b HF.out (Nat.le_refl _))
  replace RP := hide (RP.out.below b (Nat.le_refl _))
  replace HB := hide (HB.out.trans (b.mono HB.out.size))
  clear b 
  have qX_5 : w1.cell? ⟨BX, 5, none⟩ = some (.slice da n dc) := cell_at HX.out 5 rfl
  go_upto_region 5 with (fail)
  clear qX_5
  go_wp2_with ((refine ld_whole (o := ⟨some 24, _, _, _, _, _⟩) 27 (.tmp 2) rfl (by rfl) BX rfl #[.int .u8 (tt : Int), .int .u8 (P : Int), .int .u16 (id : Int), .int .u32 (S : Int), .int .u32 (D : Int), .slice da n dc] 27 HX.out Try.underlying27 (by kernel_rfl) ?_; try simp only [Act.put, List.setIfInBounds_toArray, List.set_cons_zero, List.set_cons_succ]))
  refine (HOF.out _ RP.out).mono ?_
  rintro e w2 ⟨rfl, b⟩
  replace HX := hide (below_block b HX.out (Nat.le_refl _))
  replace HF := hide (below_block b HF.out (Nat.le_refl _))
  replace RP := hide (RP.out.below b (Nat.le_refl _))
  replace HB := hide (HB.out.trans (b.mono HB.out.size))
  clear b 
  obtain ⟨w3, hwn, wb, HN1⟩ : ∃ W, w2.alloc (.cells #[.int .u8 (op : Int), .int .u32 (os : Int), .int .u32 (od : Int), .int .u16 (of : Int), .int .u16 (ot : Int)] 29) = W ∧ Below w2.heap.size w2 W ∧ Hid (W.heap[w2.heap.size]? = some (.cells #[.int .u8 (op : Int), .int .u32 (os : Int), .int .u32 (od : Int), .int .u16 (of : Int), .int .u16 (ot : Int)] 29 (0, 0))) := ⟨_, rfl, (Below.refl w2.heap.size w2).alloc (Nat.le_refl _) _, hide (heap_alloc_new w2 _)⟩
  obtain ⟨BO, hBn⟩ : ∃ B, w2.heap.size = B := ⟨_, rfl⟩
  rw [hBn] at HN1
  have HW := hide (And.intro hwn hBn)
  have HBo := HB
  have nqX_O := hide (blk_ne HX.out hBn)
  have nqF_O := hide (blk_ne HF.out hBn)
  clear hwn hBn
  replace HX := hide (below_block wb HX.out (Nat.le_refl _))
  replace HF := hide (below_block wb HF.out (Nat.le_refl _))
  replace RP := hide (RP.out.below wb (Nat.le_refl _))
  replace HB := hide (HB.out.trans (wb.mono HB.out.size))
  have HO := HN1
  have NO := hide (show w.heap.size ≤ BO by rw [← HW.out.2]; exact HBo.out.size)
  clear wb HN1 HBo
  go_upto_region 6 with (fail)
  rw [HW.out.1]
  try rw [HW.out.2]
  clear HW
  go_upto_region 8 with (fail)
  have qO_0 : w3.cell? ⟨BO, 0, none⟩ = some (.int .u8 (op : Int)) := cell_at HO.out 0 rfl
  have fz := free_at HF.out 0
  have qF_0 : w3.cell? ⟨BF, 0, none⟩ = some (.int .u8 (fp : Int)) := cell_at HF.out 0 rfl
  obtain ⟨w4, hVn, hVH, hVB, hVo, hVs⟩ := set1 (i := 0) (.int .u8 (op : Int)) (c' := #[.int .u8 (op : Int), .int .u32 (fs : Int), .int .u32 (fd : Int), .int .u16 (ff : Int), .int .u16 (ft : Int)]) HF.out HB.out NF.out (by kernel_rfl)
  have HVn := hide hVn
  clear hVn
  have HG := hide (gb_part HB.out hVB hVo hVs)
  have HXn := hide ((hVo _ nqX_F.out).trans HX.out)
  have HFn := hide hVH
  have HOn := hide ((hVo _ nqF_O.out.symm).trans HO.out)
  have RPn := hide (AP.out.below hVB (Nat.le_refl _))
  have HBn := hide hVB
  clear hVH hVB hVo hVs HG
  go_upto_region 10 with (fail)
  rw [HVn.out]
  clear HVn fz
  clear qO_0 qF_0
  replace HX := HXn
  clear HXn
  replace HF := HFn
  clear HFn
  replace HO := HOn
  clear HOn
  replace RP := RPn
  clear RPn
  replace HB := HBn
  clear HBn
  have qO_3 : w4.cell? ⟨BO, 3, none⟩ = some (.int .u16 (of : Int)) := cell_at HO.out 3 rfl
  have qO_4 : w4.cell? ⟨BO, 4, none⟩ = some (.int .u16 (ot : Int)) := cell_at HO.out 4 rfl
  have qF_3 : w4.cell? ⟨BF, 3, none⟩ = some (.int .u16 (ff : Int)) := cell_at HF.out 3 rfl
  have qF_4 : w4.cell? ⟨BF, 4, none⟩ = some (.int .u16 (ft : Int)) := cell_at HF.out 4 rfl
  have fz := free_at HF.out
  obtain ⟨w5, hVa, hVH, hVB, hVo, hVs⟩ := set1 (i := 4) (.int .u16 (gt : Int)) (c' := #[.int .u8 (op : Int), .int .u32 (fs : Int), .int .u32 (fd : Int), .int .u16 (ff : Int), .int .u16 (gt : Int)]) HF.out HB.out NF.out (by kernel_rfl)
  obtain ⟨w6, hVb, hUH, hUB, hUo, hUs⟩ := set1 (i := 3) (.int .u16 (gf : Int)) (c' := #[.int .u8 (op : Int), .int .u32 (fs : Int), .int .u32 (fd : Int), .int .u16 (gf : Int), .int .u16 (gt : Int)]) hVH hVB NF.out (by kernel_rfl)
  obtain ⟨w7, hVc, wb⟩ : ∃ V, w6.drew = V ∧ Below w6.heap.size w6 V := ⟨_, rfl, (Below.refl _ _).drew⟩
  have HVn := hide (And.intro hVa (And.intro hVb hVc))
  clear hVa hVb hVc
  have HXn := hide (below_block wb ((hUo _ nqX_F.out).trans ((hVo _ nqX_F.out).trans HX.out)) (Nat.le_refl _))
  have HFn := hide (below_block wb hUH (Nat.le_refl _))
  have HOn := hide (below_block wb ((hUo _ nqF_O.out.symm).trans ((hVo _ nqF_O.out.symm).trans HO.out)) (Nat.le_refl _))
  have HBn := hide (hUB.trans (wb.mono hUB.size))
  have RPn := hide (AP.out.below HBn.out (Nat.le_refl _))
  clear hVH hVB hVo hVs hUH hUB hUo hUs wb
  go_region
  rw [HAA.out.1, HAA.out.2, HVn.out.1, HVn.out.2.1, HVn.out.2.2]
  clear HVn fz HAA
  clear qO_3 qO_4 qF_3 qF_4
  replace HX := HXn
  clear HXn
  replace HF := HFn
  clear HFn
  replace HO := HOn
  clear HOn
  replace HB := HBn
  clear HBn
  replace RP := RPn
  clear RPn
  go_wp2_with (first | (refine ld_whole (o := ⟨some 53, _, _, _, _, _⟩) 27 (.tmp 2) rfl (by rfl) BX rfl #[.int .u8 (tt : Int), .int .u8 (P : Int), .int .u16 (id : Int), .int .u32 (S : Int), .int .u32 (D : Int), .slice da n dc] 27 HX.out Try.underlying27 (by kernel_rfl) ?_; try simp only [Act.put, List.setIfInBounds_toArray, List.set_cons_zero, List.set_cons_succ]) | (refine ld_whole (o := ⟨some 54, _, _, _, _, _⟩) 29 (.tmp 5) rfl (by rfl) BO rfl #[.int .u8 (op : Int), .int .u32 (os : Int), .int .u32 (od : Int), .int .u16 (of : Int), .int .u16 (ot : Int)] 29 HO.out Try.underlying29 (by kernel_rfl) ?_; try simp only [Act.put, List.setIfInBounds_toArray, List.set_cons_zero, List.set_cons_succ]))
  refine (HCA.out _ RP.out).mono ?_
  rintro e w8 ⟨a1, c1, rfl, o, b⟩
  replace HX := hide (below_block b HX.out (Nat.le_refl _))
  replace HF := hide (below_block b HF.out (Nat.le_refl _))
  replace HO := hide (below_block b HO.out (Nat.le_refl _))
  replace RP := hide (RP.out.below b (Nat.le_refl _))
  replace HB := hide (HB.out.trans (b.mono HB.out.size))
  have RA1 := hide (Lies.of_owns o)
  clear b o
  obtain ⟨w9, hwn, wb, HN1⟩ : ∃ W, w8.alloc (.cells #[.int .u8 (tt : Int), .int .u8 (P : Int), .int .u16 (id : Int), .int .u32 (os : Int), .int .u32 (od : Int), .slice a1 bA.length c1] 27) = W ∧ Below w8.heap.size w8 W ∧ Hid (W.heap[w8.heap.size]? = some (.cells #[.int .u8 (tt : Int), .int .u8 (P : Int), .int .u16 (id : Int), .int .u32 (os : Int), .int .u32 (od : Int), .slice a1 bA.length c1] 27 (0, 0))) := ⟨_, rfl, (Below.refl w8.heap.size w8).alloc (Nat.le_refl _) _, hide (heap_alloc_new w8 _)⟩
  obtain ⟨BA, hBn⟩ : ∃ B, w8.heap.size = B := ⟨_, rfl⟩
  rw [hBn] at HN1
  have HW := hide (And.intro hwn hBn)
  have HBo := HB
  have nqX_A := hide (blk_ne HX.out hBn)
  have nqF_A := hide (blk_ne HF.out hBn)
  have nqO_A := hide (blk_ne HO.out hBn)
  clear hwn hBn
  replace HX := hide (below_block wb HX.out (Nat.le_refl _))
  replace HF := hide (below_block wb HF.out (Nat.le_refl _))
  replace HO := hide (below_block wb HO.out (Nat.le_refl _))
  replace RP := hide (RP.out.below wb (Nat.le_refl _))
  replace RA1 := hide (RA1.out.below wb (Nat.le_refl _))
  replace HB := hide (HB.out.trans (wb.mono HB.out.size))
  have HA := HN1
  have NA := hide (show w.heap.size ≤ BA by rw [← HW.out.2]; exact HBo.out.size)
  clear wb HN1 HBo
  go_upto_region 12 with (fail)
  rw [HW.out.1]
  try rw [HW.out.2]
  clear HW
  go_wp2_with (first | (refine ld_whole (o := ⟨some 59, _, _, _, _, _⟩) 27 (.tmp 2) rfl (by rfl) BX rfl #[.int .u8 (tt : Int), .int .u8 (P : Int), .int .u16 (id : Int), .int .u32 (S : Int), .int .u32 (D : Int), .slice da n dc] 27 HX.out Try.underlying27 (by kernel_rfl) ?_; try simp only [Act.put, List.setIfInBounds_toArray, List.set_cons_zero, List.set_cons_succ]) | (refine ld_whole (o := ⟨some 60, _, _, _, _, _⟩) 29 (.tmp 3) rfl (by rfl) BF rfl #[.int .u8 (op : Int), .int .u32 (fs : Int), .int .u32 (fd : Int), .int .u16 (gf : Int), .int .u16 (gt : Int)] 29 HF.out Try.underlying29 (by kernel_rfl) ?_; try simp only [Act.put, List.setIfInBounds_toArray, List.set_cons_zero, List.set_cons_succ]))
  refine (HCQ.out _ RP.out).mono ?_
  rintro e w10 ⟨a2, c2, rfl, o, b⟩
  replace HX := hide (below_block b HX.out (Nat.le_refl _))
  replace HF := hide (below_block b HF.out (Nat.le_refl _))
  replace HO := hide (below_block b HO.out (Nat.le_refl _))
  replace HA := hide (below_block b HA.out (Nat.le_refl _))
  replace RP := hide (RP.out.below b (Nat.le_refl _))
  replace RA1 := hide (RA1.out.below b (Nat.le_refl _))
  replace HB := hide (HB.out.trans (b.mono HB.out.size))
  have RQ1 := hide (Lies.of_owns o)
  clear b o
  obtain ⟨w11, hwn, wb, HN1⟩ : ∃ W, w10.alloc (.cells #[.int .u8 (tt : Int), .int .u8 (P : Int), .int .u16 (id : Int), .int .u32 (fs : Int), .int .u32 (fd : Int), .slice a2 bQ.length c2] 27) = W ∧ Below w10.heap.size w10 W ∧ Hid (W.heap[w10.heap.size]? = some (.cells #[.int .u8 (tt : Int), .int .u8 (P : Int), .int .u16 (id : Int), .int .u32 (fs : Int), .int .u32 (fd : Int), .slice a2 bQ.length c2] 27 (0, 0))) := ⟨_, rfl, (Below.refl w10.heap.size w10).alloc (Nat.le_refl _) _, hide (heap_alloc_new w10 _)⟩
  obtain ⟨BQ, hBn⟩ : ∃ B, w10.heap.size = B := ⟨_, rfl⟩
  rw [hBn] at HN1
  have HW := hide (And.intro hwn hBn)
  have HBo := HB
  have nqX_Q := hide (blk_ne HX.out hBn)
  have nqF_Q := hide (blk_ne HF.out hBn)
  have nqO_Q := hide (blk_ne HO.out hBn)
  have nqA_Q := hide (blk_ne HA.out hBn)
  clear hwn hBn
  replace HX := hide (below_block wb HX.out (Nat.le_refl _))
  replace HF := hide (below_block wb HF.out (Nat.le_refl _))
  replace HO := hide (below_block wb HO.out (Nat.le_refl _))
  replace HA := hide (below_block wb HA.out (Nat.le_refl _))
  replace RP := hide (RP.out.below wb (Nat.le_refl _))
  replace RA1 := hide (RA1.out.below wb (Nat.le_refl _))
  replace RQ1 := hide (RQ1.out.below wb (Nat.le_refl _))
  replace HB := hide (HB.out.trans (wb.mono HB.out.size))
  have HQ := HN1
  have NQ := hide (show w.heap.size ≤ BQ by rw [← HW.out.2]; exact HBo.out.size)
  clear wb HN1 HBo
  go_upto_region 13 with (fail)
  rw [HW.out.1]
  try rw [HW.out.2]
  clear HW
  go_wp2_with ((refine ld_whole (o := ⟨some 71, _, _, _, _, _⟩) 27 (.tmp 10) rfl (by rfl) BQ rfl #[.int .u8 (tt : Int), .int .u8 (P : Int), .int .u16 (id : Int), .int .u32 (fs : Int), .int .u32 (fd : Int), .slice a2 bQ.length c2] 27 HQ.out Try.underlying27 (by kernel_rfl) ?_; try simp only [Act.put, List.setIfInBounds_toArray, List.set_cons_zero, List.set_cons_succ]))
  refine (HO2.out _ a2 c2 RQ1.out).mono ?_
  rintro e w12 ⟨rfl, b⟩
  replace HX := hide (below_block b HX.out (Nat.le_refl _))
  replace HF := hide (below_block b HF.out (Nat.le_refl _))
  replace HO := hide (below_block b HO.out (Nat.le_refl _))
  replace HA := hide (below_block b HA.out (Nat.le_refl _))
  replace HQ := hide (below_block b HQ.out (Nat.le_refl _))
  replace RP := hide (RP.out.below b (Nat.le_refl _))
  replace RA1 := hide (RA1.out.below b (Nat.le_refl _))
  replace RQ1 := hide (RQ1.out.below b (Nat.le_refl _))
  replace HB := hide (HB.out.trans (b.mono HB.out.size))
  clear b 
  obtain ⟨w13, hwn, wb, HN1⟩ : ∃ W, w12.alloc (.cells #[.int .u8 (op : Int), .int .u32 (fs : Int), .int .u32 (fd : Int), .int .u16 (gf : Int), .int .u16 (gt : Int)] 29) = W ∧ Below w12.heap.size w12 W ∧ Hid (W.heap[w12.heap.size]? = some (.cells #[.int .u8 (op : Int), .int .u32 (fs : Int), .int .u32 (fd : Int), .int .u16 (gf : Int), .int .u16 (gt : Int)] 29 (0, 0))) := ⟨_, rfl, (Below.refl w12.heap.size w12).alloc (Nat.le_refl _) _, hide (heap_alloc_new w12 _)⟩
  obtain ⟨BN, hBn⟩ : ∃ B, w12.heap.size = B := ⟨_, rfl⟩
  rw [hBn] at HN1
  have HW := hide (And.intro hwn hBn)
  have HBo := HB
  have nqX_N := hide (blk_ne HX.out hBn)
  have nqF_N := hide (blk_ne HF.out hBn)
  have nqO_N := hide (blk_ne HO.out hBn)
  have nqA_N := hide (blk_ne HA.out hBn)
  have nqQ_N := hide (blk_ne HQ.out hBn)
  clear hwn hBn
  replace HX := hide (below_block wb HX.out (Nat.le_refl _))
  replace HF := hide (below_block wb HF.out (Nat.le_refl _))
  replace HO := hide (below_block wb HO.out (Nat.le_refl _))
  replace HA := hide (below_block wb HA.out (Nat.le_refl _))
  replace HQ := hide (below_block wb HQ.out (Nat.le_refl _))
  replace RP := hide (RP.out.below wb (Nat.le_refl _))
  replace RA1 := hide (RA1.out.below wb (Nat.le_refl _))
  replace RQ1 := hide (RQ1.out.below wb (Nat.le_refl _))
  replace HB := hide (HB.out.trans (wb.mono HB.out.size))
  have HN := HN1
  have NN := hide (show w.heap.size ≤ BN by rw [← HW.out.2]; exact HBo.out.size)
  clear wb HN1 HBo
  go_upto_region 16 with (fail)
  rw [HW.out.1]
  try rw [HW.out.2]
  clear HW
  go_wp2_with (first | (refine ld_whole (o := ⟨some 77, _, _, _, _, _⟩) 27 (.tmp 10) rfl (by rfl) BQ rfl #[.int .u8 (tt : Int), .int .u8 (P : Int), .int .u16 (id : Int), .int .u32 (fs : Int), .int .u32 (fd : Int), .slice a2 bQ.length c2] 27 HQ.out Try.underlying27 (by kernel_rfl) ?_; try simp only [Act.put, List.setIfInBounds_toArray, List.set_cons_zero, List.set_cons_succ]) | (refine ld_whole (o := ⟨some 78, _, _, _, _, _⟩) 29 (.tmp 5) rfl (by rfl) BO rfl #[.int .u8 (op : Int), .int .u32 (os : Int), .int .u32 (od : Int), .int .u16 (of : Int), .int .u16 (ot : Int)] 29 HO.out Try.underlying29 (by kernel_rfl) ?_; try simp only [Act.put, List.setIfInBounds_toArray, List.set_cons_zero, List.set_cons_succ]))
  refine (HB2.out _ a2 c2 RQ1.out).mono ?_
  rintro e w14 ⟨a3, c3, rfl, o, b⟩
  replace HX := hide (below_block b HX.out (Nat.le_refl _))
  replace HF := hide (below_block b HF.out (Nat.le_refl _))
  replace HO := hide (below_block b HO.out (Nat.le_refl _))
  replace HA := hide (below_block b HA.out (Nat.le_refl _))
  replace HQ := hide (below_block b HQ.out (Nat.le_refl _))
  replace HN := hide (below_block b HN.out (Nat.le_refl _))
  replace RP := hide (RP.out.below b (Nat.le_refl _))
  replace RA1 := hide (RA1.out.below b (Nat.le_refl _))
  replace RQ1 := hide (RQ1.out.below b (Nat.le_refl _))
  replace HB := hide (HB.out.trans (b.mono HB.out.size))
  have RB1 := hide (Lies.of_owns o)
  clear b o
  clear RQ1 RP
  obtain ⟨w15, hwn, wb, HN1⟩ : ∃ W, w14.alloc (.cells #[.int .u8 (tt : Int), .int .u8 (P : Int), .int .u16 (id : Int), .int .u32 (os : Int), .int .u32 (od : Int), .slice a3 bA.length c3] 27) = W ∧ Below w14.heap.size w14 W ∧ Hid (W.heap[w14.heap.size]? = some (.cells #[.int .u8 (tt : Int), .int .u8 (P : Int), .int .u16 (id : Int), .int .u32 (os : Int), .int .u32 (od : Int), .slice a3 bA.length c3] 27 (0, 0))) := ⟨_, rfl, (Below.refl w14.heap.size w14).alloc (Nat.le_refl _) _, hide (heap_alloc_new w14 _)⟩
  obtain ⟨BCc, hBn⟩ : ∃ B, w14.heap.size = B := ⟨_, rfl⟩
  rw [hBn] at HN1
  have HW := hide (And.intro hwn hBn)
  have HBo := HB
  have nqX_Cc := hide (blk_ne HX.out hBn)
  have nqF_Cc := hide (blk_ne HF.out hBn)
  have nqO_Cc := hide (blk_ne HO.out hBn)
  have nqA_Cc := hide (blk_ne HA.out hBn)
  have nqQ_Cc := hide (blk_ne HQ.out hBn)
  have nqN_Cc := hide (blk_ne HN.out hBn)
  clear hwn hBn
  replace HX := hide (below_block wb HX.out (Nat.le_refl _))
  replace HF := hide (below_block wb HF.out (Nat.le_refl _))
  replace HO := hide (below_block wb HO.out (Nat.le_refl _))
  replace HA := hide (below_block wb HA.out (Nat.le_refl _))
  replace HQ := hide (below_block wb HQ.out (Nat.le_refl _))
  replace HN := hide (below_block wb HN.out (Nat.le_refl _))
  replace RA1 := hide (RA1.out.below wb (Nat.le_refl _))
  replace RB1 := hide (RB1.out.below wb (Nat.le_refl _))
  replace HB := hide (HB.out.trans (wb.mono HB.out.size))
  have HCc := HN1
  have NCc := hide (show w.heap.size ≤ BCc by rw [← HW.out.2]; exact HBo.out.size)
  clear wb HN1 HBo
  go_upto_region 17 with (fail)
  rw [HW.out.1]
  try rw [HW.out.2]
  clear HW
  clear HCA HCQ HO2 HB2 HOF
  have qA_0 : w15.cell? ⟨BA, 0, none⟩ = some (.int .u8 (tt : Int)) := cell_at HA.out 0 rfl
  have qCc_0 : w15.cell? ⟨BCc, 0, none⟩ = some (.int .u8 (tt : Int)) := cell_at HCc.out 0 rfl
  have qA_1 : w15.cell? ⟨BA, 1, none⟩ = some (.int .u8 (P : Int)) := cell_at HA.out 1 rfl
  have qCc_1 : w15.cell? ⟨BCc, 1, none⟩ = some (.int .u8 (P : Int)) := cell_at HCc.out 1 rfl
  have qA_2 : w15.cell? ⟨BA, 2, none⟩ = some (.int .u16 (id : Int)) := cell_at HA.out 2 rfl
  have qCc_2 : w15.cell? ⟨BCc, 2, none⟩ = some (.int .u16 (id : Int)) := cell_at HCc.out 2 rfl
  have qA_3 : w15.cell? ⟨BA, 3, none⟩ = some (.int .u32 (os : Int)) := cell_at HA.out 3 rfl
  have qCc_3 : w15.cell? ⟨BCc, 3, none⟩ = some (.int .u32 (os : Int)) := cell_at HCc.out 3 rfl
  have qA_4 : w15.cell? ⟨BA, 4, none⟩ = some (.int .u32 (od : Int)) := cell_at HA.out 4 rfl
  have qCc_4 : w15.cell? ⟨BCc, 4, none⟩ = some (.int .u32 (od : Int)) := cell_at HCc.out 4 rfl
  have qA_5 : w15.cell? ⟨BA, 5, none⟩ = some (.slice a1 bA.length c1) := cell_at HA.out 5 rfl
  have qCc_5 : w15.cell? ⟨BCc, 5, none⟩ = some (.slice a3 bA.length c3) := cell_at HCc.out 5 rfl
  have qN_0 : w15.cell? ⟨BN, 0, none⟩ = some (.int .u8 (op : Int)) := cell_at HN.out 0 rfl
  have qF_0 : w15.cell? ⟨BF, 0, none⟩ = some (.int .u8 (op : Int)) := cell_at HF.out 0 rfl
  have qN_1 : w15.cell? ⟨BN, 1, none⟩ = some (.int .u32 (fs : Int)) := cell_at HN.out 1 rfl
  have qF_1 : w15.cell? ⟨BF, 1, none⟩ = some (.int .u32 (fs : Int)) := cell_at HF.out 1 rfl
  have qN_2 : w15.cell? ⟨BN, 2, none⟩ = some (.int .u32 (fd : Int)) := cell_at HN.out 2 rfl
  have qF_2 : w15.cell? ⟨BF, 2, none⟩ = some (.int .u32 (fd : Int)) := cell_at HF.out 2 rfl
  have qN_3 : w15.cell? ⟨BN, 3, none⟩ = some (.int .u16 (gf : Int)) := cell_at HN.out 3 rfl
  have qF_3 : w15.cell? ⟨BF, 3, none⟩ = some (.int .u16 (gf : Int)) := cell_at HF.out 3 rfl
  have qN_4 : w15.cell? ⟨BN, 4, none⟩ = some (.int .u16 (gt : Int)) := cell_at HN.out 4 rfl
  have qF_4 : w15.cell? ⟨BF, 4, none⟩ = some (.int .u16 (gt : Int)) := cell_at HF.out 4 rfl
  go_wp2_with fail
  refine (same4_any _ _ _ _ _ _ a1 a3 bA _ c1 c3 RA1.out.row RB1.out.row rfl).mono ?_
  rintro e w16 ⟨rfl, b⟩
  clear qA_0 qCc_0 qA_1 qCc_1 qA_2 qCc_2 qA_3 qCc_3 qA_4 qCc_4 qA_5 qCc_5 qN_0 qF_0 qN_1 qF_1 qN_2 qF_2 qN_3 qF_3 qN_4 qF_4
  replace HX := hide (below_block b HX.out (Nat.le_refl _))
  replace HF := hide (below_block b HF.out (Nat.le_refl _))
  replace HO := hide (below_block b HO.out (Nat.le_refl _))
  replace HA := hide (below_block b HA.out (Nat.le_refl _))
  replace HQ := hide (below_block b HQ.out (Nat.le_refl _))
  replace HN := hide (below_block b HN.out (Nat.le_refl _))
  replace HCc := hide (below_block b HCc.out (Nat.le_refl _))
  replace RA1 := hide (RA1.out.below b (Nat.le_refl _))
  replace RB1 := hide (RB1.out.below b (Nat.le_refl _))
  replace HB := hide (HB.out.trans (b.mono HB.out.size))
  clear b 
  go_wp2_with fail
  go_ret
  exact ⟨rfl, HB.out⟩
theorem flowBack_any (w : World) (tt P id S D : Nat) (da : Option Addr) (xs : List Int) (n dc : Nat) (fp fs fd ff ft : Nat) (hLx : Lies w da xs n dc) (hl : xs.length = n) (hb : ∀ x ∈ xs, 0 ≤ x ∧ x ≤ 255) (hS : S ≤ 4294967295) (hD : D ≤ 4294967295) (hP : P ≤ 255) (hfs : fs ≤ 4294967295) (hfd : fd ≤ 4294967295) (hff : ff ≤ 65535) (hft : ft ≤ 65535) :
    Calls Try.prog 4 #[.agg #[.int .u8 (tt : Int), .int .u8 (P : Int), .int .u16 (id : Int), .int .u32 (S : Int), .int .u32 (D : Int), .slice da n dc], .agg #[.int .u8 (fp : Int), .int .u32 (fs : Int), .int .u32 (fd : Int), .int .u16 (ff : Int), .int .u16 (ft : Int)]] w fun e w' => e = .returned (.bool true) ∧ Below w.heap.size w w' := by
  by_cases h : 3000 < n
  · exact flowBack_long w tt P id S D da xs n dc fp fs fd ff ft h
  by_cases hx : ofErr P S D xs ≠ 0 ∨ ofKind P S D xs = 3
  · exact flowBack_other w tt P id S D da xs n dc fp fs fd ff ft hLx hl hb hS hD h hx
  have he : ofErr P S D xs = 0 := by omega
  have hk : ofKind P S D xs ≠ 3 := fun h => hx (.inr h)
  rcases (of_plain P S D xs hb hP hS hD he hk).2.2.2.2.2.1 with h1 | h2
  · exact flowBack_data w tt P id S D da xs n dc fp fs fd ff ft hLx hl hb hS hD hP hfs hfd hff hft h he h1
  · exact flowBack_query w tt P id S D da xs n dc fp fs fd ff ft hLx hl hb hS hD hP hfs hfd hff hft h he h2
end Go.Proofs.Ytgggcapgaikbeaa
