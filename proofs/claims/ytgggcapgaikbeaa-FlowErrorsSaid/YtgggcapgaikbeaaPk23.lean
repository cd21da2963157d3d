/- The law of errors that go between other ends. -/
import Derived.Test.YtgggcapgaikbeaaPk22
import Derived.BigRegion
import Derived.Deep.RegionHeld3
namespace Go.Proofs.Ytgggcapgaikbeaa
open Go.RowKit
set_option linter.unusedVariables false
set_option linter.unusedSimpArgs false
set_option maxRecDepth 100000
theorem and_maskF (x : Int) (m : Nat) (hm : m ≤ 2000) : ∃ k : Nat, k ≤ m ∧ bits .and .i64 x (m : Int) = (k : Int) := by
  have hle : (BitVec.ofInt 64 x &&& BitVec.ofInt 64 (m : Int)).toNat ≤ m := by
    rw [BitVec.toNat_and]
    refine Nat.le_trans Nat.and_le_right ?_
    rw [BitVec.toNat_ofInt]; omega
  refine ⟨_, hle, ?_⟩
  show IntKind.i64.wrap (((BitVec.ofInt 64 x &&& BitVec.ofInt 64 (m : Int)).toNat : Nat) : Int) = _
  rw [IntKind.wrap_i64]
  omega
theorem lies_ne {w : World} {a : Option Addr} {xs : List Int} {n c B : Nat} {cs : Array Value} {T : TypeId} {k : Nat} (h : Lies w a xs n c) (hl : k < xs.length) (hB : w.heap[B]? = some (.cells cs T (0, 0))) (hs : cs.size = k) : ∀ b, a = some b → b.block ≠ B := by
  intro b hb e
  have hne : xs ≠ [] := by intro h0; rw [h0] at hl; simp at hl
  obtain ⟨g, off, rfl, hlt, hc⟩ := h.row hne
  cases hb
  have e : g = B := e
  subst e
  have := hc k hl
  simp only [World.cell?, hB] at this
  rw [Array.getElem?_eq_none (by omega)] at this
  cases this
theorem lies_gbE {w w' : World} {a : Option Addr} {xs : List Int} {n c E : Nat} (h : Lies w a xs n c) (hg : w.grownBy w' (some E)) (hE : ∀ b, a = some b → b.block ≠ E) : Lies w' a xs n c := ⟨row_gb h.row hg hE, h.no, h.le, h.max⟩
theorem turnF (w : World) (yp ys yd yf yt : Nat) : Calls Try.prog 17 #[.agg #[.int .u8 (yp : Int), .int .u32 (ys : Int), .int .u32 (yd : Int), .int .u16 (yf : Int), .int .u16 (yt : Int)]] w fun e w' => e = .returned (.agg #[.int .u8 (yp : Int), .int .u32 (yd : Int), .int .u32 (ys : Int), .int .u16 (yt : Int), .int .u16 (yf : Int)]) ∧ Below w.heap.size w w' := turnP_any ⟨yp, ys, yd, yf, yt⟩ w
set_option maxHeartbeats 4000000 in
theorem flowErrors_long (w : World) (tt P id S D : Nat) (da : Option Addr) (xs : List Int) (n dc : Nat) (fp fs fd ff ft : Nat) (mo : Int) (hn : 1400 < n) :
    Calls Try.prog 5 #[.agg #[.int .u8 (tt : Int), .int .u8 (P : Int), .int .u16 (id : Int), .int .u32 (S : Int), .int .u32 (D : Int), .slice da n dc], .agg #[.int .u8 (fp : Int), .int .u32 (fs : Int), .int .u32 (fd : Int), .int .u16 (ff : Int), .int .u16 (ft : Int)], .int .i64 mo] w fun e w' => e = .returned (.bool true) ∧ Below w.heap.size w w' := by
  have hd3 : decide ((1400 : Int) < (n : Int)) = true := by simp; omega
  obtain ⟨V1, hV1⟩ : ∃ V, w.alloc (.cells #[.int .u8 (tt : Int), .int .u8 (P : Int), .int .u16 (id : Int), .int .u32 (S : Int), .int .u32 (D : Int), .slice da n dc] 27) = V := ⟨_, rfl⟩
  obtain ⟨V2, hV2⟩ : ∃ V, V1.alloc (.cells #[.int .u8 (fp : Int), .int .u32 (fs : Int), .int .u32 (fd : Int), .int .u16 (ff : Int), .int .u16 (ft : Int)] 29) = V := ⟨_, rfl⟩
  have hz1 : V1.heap.size = w.heap.size + 1 := by rw [← hV1]; simp
  have hz2 : V2.heap.size = w.heap.size + 1 + 1 := by rw [← hV2]; simp [hz1]
  have hb1 : Below w.heap.size w V1 := by rw [← hV1]; exact (Below.refl _ _).alloc (Nat.le_refl _) _
  have hc2 : Below V1.heap.size V1 V2 := by rw [← hV2]; exact (Below.refl _ _).alloc (Nat.le_refl _) _
  have hb2 := hb1.trans (hc2.mono hb1.size)
  have hp1_1 : V1.heap[w.heap.size]? = some (.cells #[.int .u8 (tt : Int), .int .u8 (P : Int), .int .u16 (id : Int), .int .u32 (S : Int), .int .u32 (D : Int), .slice da n dc] 27 (0, 0)) := by rw [← hV1]; exact heap_alloc_new _ _
  have hp1_2 := below_block hc2 hp1_1 (Nat.le_refl _)
  have hp2_2 : V2.heap[w.heap.size + 1]? = some (.cells #[.int .u8 (fp : Int), .int .u32 (fs : Int), .int .u32 (fd : Int), .int .u16 (ff : Int), .int .u16 (ft : Int)] 29 (0, 0)) := by rw [← hV2, ← hz1]; exact heap_alloc_new _ _
  obtain ⟨BX, hBX⟩ : ∃ B, w.heap.size = B := ⟨_, rfl⟩
  obtain ⟨BF, hBF⟩ : ∃ B, w.heap.size + 1 = B := ⟨_, rfl⟩
  have hw0 : w.heap.size ≤ BX ∧ w.heap.size ≤ BF := by omega
  have HX := hide (show V2.heap[BX]? = some (.cells #[.int .u8 (tt : Int), .int .u8 (P : Int), .int .u16 (id : Int), .int .u32 (S : Int), .int .u32 (D : Int), .slice da n dc] 27 (0, 0)) by rw [← hBX]; exact hp1_2)
  have NX : Hid (w.heap.size ≤ BX) := hide hw0.1
  have HF := hide (show V2.heap[BF]? = some (.cells #[.int .u8 (fp : Int), .int .u32 (fs : Int), .int .u32 (fd : Int), .int .u16 (ff : Int), .int .u16 (ft : Int)] 29 (0, 0)) by rw [← hBF]; exact hp2_2)
  have NF : Hid (w.heap.size ≤ BF) := hide hw0.2
  have nqX_F : Hid (BX ≠ BF) := hide (by omega)
  have HB := hide hb2
  have HE := hide (And.intro (And.intro trivial trivial) (And.intro hV1 ( And.intro hV2 (And.intro hBX ( And.intro hBF (trivial))))))
  clear hw0 hV1 hz1 hb1 hV2 hz2 hb2 hc2 hp1_1 hp1_2 hp2_2 hBX hBF 
  go_enter Try.func5, Try.ntmps5
  go_upto_region 1 with (fail)
  rw [HE.out.2.1]
  try rw [HE.out.2.2.1]
  try rw [HE.out.2.2.2.2.1]
  try rw [HE.out.2.2.2.1]
  clear HE
  go_wp2_with fail
  refine (speaks_any _).mono ?_
  rintro e w1 ⟨rfl, b⟩
  replace HX := hide (below_block b HX.out (Nat.le_refl _))
  replace HF := hide (below_block b HF.out (Nat.le_refl _))
  replace HB := hide (HB.out.trans (b.mono HB.out.size))
  clear b 
  have qX_5 : w1.cell? ⟨BX, 5, none⟩ = some (.slice da n dc) := cell_at HX.out 5 rfl
  go_wp2_with fail
  go_ret
  exact ⟨rfl, HB.out⟩
set_option maxHeartbeats 4000000 in
theorem flowErrors_other (w : World) (tt P id S D : Nat) (da : Option Addr) (xs : List Int) (n dc : Nat) (fp fs fd ff ft : Nat) (mo : Int) (hLx : Lies w da xs n dc) (hl : xs.length = n) (hb : ∀ x ∈ xs, 0 ≤ x ∧ x ≤ 255) (hS : S ≤ 4294967295) (hD : D ≤ 4294967295) (hn : ¬ 1400 < n) (hx : ofErr P S D xs ≠ 0 ∨ ofKind P S D xs = 3) :
    Calls Try.prog 5 #[.agg #[.int .u8 (tt : Int), .int .u8 (P : Int), .int .u16 (id : Int), .int .u32 (S : Int), .int .u32 (D : Int), .slice da n dc], .agg #[.int .u8 (fp : Int), .int .u32 (fs : Int), .int .u32 (fd : Int), .int .u16 (ff : Int), .int .u16 (ft : Int)], .int .i64 mo] w fun e w' => e = .returned (.bool true) ∧ Below w.heap.size w w' := by
  have hd3 : decide ((1400 : Int) < (n : Int)) = false := by simp; omega
  have HOF := hide (fun (W : World) (hL : Lies W da xs n dc) => of_any W (tt : Int) (id : Int) P S D da n dc xs hL hl hb hS hD)
  obtain ⟨r1, hr1⟩ : ∃ x, decide (ofErr P S D xs ≠ 0) = x := ⟨_, rfl⟩
  have hr1' : (((ofErr P S D xs : Nat) : Int) != 0) = r1 := (ne_dec2 _ 0).trans hr1
  obtain ⟨r2, hr2⟩ : ∃ x, (ofKind P S D xs == 3) = x := ⟨_, rfl⟩
  have hor : r1 = true ∨ r2 = true := by
    rcases hx with h | h
    · left; rw [← hr1]; simpa using h
    · right; rw [← hr2]; simpa using h
  generalize ((ofErr P S D xs : Nat) : Int) = er at *
  generalize ofKind P S D xs = kk at *
  generalize ofFl P S D xs = y at *
  obtain ⟨op, os, od, of, ot⟩ := y
  unfold Fl.v at HOF
  dsimp only at HOF
  clear hl hb hn hx hr1
  obtain ⟨V1, hV1⟩ : ∃ V, w.alloc (.cells #[.int .u8 (tt : Int), .int .u8 (P : Int), .int .u16 (id : Int), .int .u32 (S : Int), .int .u32 (D : Int), .slice da n dc] 27) = V := ⟨_, rfl⟩
  obtain ⟨V2, hV2⟩ : ∃ V, V1.alloc (.cells #[.int .u8 (fp : Int), .int .u32 (fs : Int), .int .u32 (fd : Int), .int .u16 (ff : Int), .int .u16 (ft : Int)] 29) = V := ⟨_, rfl⟩
  have hz1 : V1.heap.size = w.heap.size + 1 := by rw [← hV1]; simp
  have hz2 : V2.heap.size = w.heap.size + 1 + 1 := by rw [← hV2]; simp [hz1]
  have hb1 : Below w.heap.size w V1 := by rw [← hV1]; exact (Below.refl _ _).alloc (Nat.le_refl _) _
  have hc2 : Below V1.heap.size V1 V2 := by rw [← hV2]; exact (Below.refl _ _).alloc (Nat.le_refl _) _
  have hb2 := hb1.trans (hc2.mono hb1.size)
  have hp1_1 : V1.heap[w.heap.size]? = some (.cells #[.int .u8 (tt : Int), .int .u8 (P : Int), .int .u16 (id : Int), .int .u32 (S : Int), .int .u32 (D : Int), .slice da n dc] 27 (0, 0)) := by rw [← hV1]; exact heap_alloc_new _ _
  have hp1_2 := below_block hc2 hp1_1 (Nat.le_refl _)
  have hp2_2 : V2.heap[w.heap.size + 1]? = some (.cells #[.int .u8 (fp : Int), .int .u32 (fs : Int), .int .u32 (fd : Int), .int .u16 (ff : Int), .int .u16 (ft : Int)] 29 (0, 0)) := by rw [← hV2, ← hz1]; exact heap_alloc_new _ _
  obtain ⟨BX, hBX⟩ : ∃ B, w.heap.size = B := ⟨_, rfl⟩
  obtain ⟨BF, hBF⟩ : ∃ B, w.heap.size + 1 = B := ⟨_, rfl⟩
  have hw0 : w.heap.size ≤ BX ∧ w.heap.size ≤ BF := by omega
  have HX := hide (show V2.heap[BX]? = some (.cells #[.int .u8 (tt : Int), .int .u8 (P : Int), .int .u16 (id : Int), .int .u32 (S : Int), .int .u32 (D : Int), .slice da n dc] 27 (0, 0)) by rw [← hBX]; exact hp1_2)
  have NX : Hid (w.heap.size ≤ BX) := hide hw0.1
  have HF := hide (show V2.heap[BF]? = some (.cells #[.int .u8 (fp : Int), .int .u32 (fs : Int), .int .u32 (fd : Int), .int .u16 (ff : Int), .int .u16 (ft : Int)] 29 (0, 0)) by rw [← hBF]; exact hp2_2)
  have NF : Hid (w.heap.size ≤ BF) := hide hw0.2
  have nqX_F : Hid (BX ≠ BF) := hide (by omega)
  have AP := hide hLx
  have RP := hide (hLx.below hb2 (Nat.le_refl _))
  have HB := hide hb2
  have HE := hide (And.intro (And.intro trivial trivial) (And.intro hV1 ( And.intro hV2 (And.intro hBX ( And.intro hBF (trivial))))))
  clear hw0 hV1 hz1 hb1 hV2 hz2 hb2 hc2 hp1_1 hp1_2 hp2_2 hBX hBF hLx
  go_enter Try.func5, Try.ntmps5
  go_upto_region 1 with (fail)
  rw [HE.out.2.1]
  try rw [HE.out.2.2.1]
  try rw [HE.out.2.2.2.2.1]
  try rw [HE.out.2.2.2.1]
  clear HE
  go_wp2_with fail
  refine (speaks_any _).mono ?_
  rintro e w1 ⟨rfl, b⟩
  replace HX := hide (below_block b HX.out (Nat.le_refl _))
  replace HF := hide (below_block b HF.out (Nat.le_refl _))
  replace RP := hide (RP.out.below b (Nat.le_refl _))
  replace HB := hide (HB.out.trans (b.mono HB.out.size))
  clear b 
  have qX_5 : w1.cell? ⟨BX, 5, none⟩ = some (.slice da n dc) := cell_at HX.out 5 rfl
  go_upto_region 5 with (fail)
  clear qX_5
  go_wp2_with ((refine ld_whole (o := ⟨some 27, _, _, _, _, _⟩) 27 (.tmp 3) rfl (by rfl) BX rfl #[.int .u8 (tt : Int), .int .u8 (P : Int), .int .u16 (id : Int), .int .u32 (S : Int), .int .u32 (D : Int), .slice da n dc] 27 HX.out Try.underlying27 (by kernel_rfl) ?_; try simp only [Act.put, List.setIfInBounds_toArray, List.set_cons_zero, List.set_cons_succ]))
  refine (HOF.out _ RP.out).mono ?_
  rintro e w2 ⟨rfl, b⟩
  replace HX := hide (below_block b HX.out (Nat.le_refl _))
  replace HF := hide (below_block b HF.out (Nat.le_refl _))
  replace RP := hide (RP.out.below b (Nat.le_refl _))
  replace HB := hide (HB.out.trans (b.mono HB.out.size))
  clear b 
  obtain ⟨w3, hwn, wb, HN1⟩ : ∃ W, w2.alloc (.cells #[.int .u8 (op : Int), .int .u32 (os : Int), .int .u32 (od : Int), .int .u16 (of : Int), .int .u16 (ot : Int)] 29) = W ∧ Below w2.heap.size w2 W ∧ Hid (W.heap[w2.heap.size]? = some (.cells #[.int .u8 (op : Int), .int .u32 (os : Int), .int .u32 (od : Int), .int .u16 (of : Int), .int .u16 (ot : Int)] 29 (0, 0))) := ⟨_, rfl, (Below.refl w2.heap.size w2).alloc (Nat.le_refl _) _, hide (heap_alloc_new w2 _)⟩
  obtain ⟨BO, hBn⟩ : ∃ B, w2.heap.size = B := ⟨_, rfl⟩
  rw [hBn] at HN1
  have HW := hide (And.intro hwn hBn)
  have HBo := HB
  have nqX_O := hide (blk_ne HX.out hBn)
  have nqF_O := hide (blk_ne HF.out hBn)
  clear hwn hBn
  replace HX := hide (below_block wb HX.out (Nat.le_refl _))
  replace HF := hide (below_block wb HF.out (Nat.le_refl _))
  replace RP := hide (RP.out.below wb (Nat.le_refl _))
  replace HB := hide (HB.out.trans (wb.mono HB.out.size))
  have HO := HN1
  have NO := hide (show w.heap.size ≤ BO by rw [← HW.out.2]; exact HBo.out.size)
  clear wb HN1 HBo
  go_upto_region 6 with (fail)
  rw [HW.out.1]
  try rw [HW.out.2]
  clear HW
  cases r1 with
  | true => go_wp2_with fail; go_ret; exact ⟨rfl, HB.out⟩
  | false =>
    obtain rfl : r2 = true := by simpa using hor
    go_wp2_with fail; go_ret; exact ⟨rfl, HB.out⟩
set_option maxHeartbeats 4000000 in
theorem flowErrors_data (w : World) (tt P id S D : Nat) (da : Option Addr) (xs : List Int) (n dc : Nat) (fp fs fd ff ft : Nat) (mo : Int) (hLx : Lies w da xs n dc) (hl : xs.length = n) (hb : ∀ x ∈ xs, 0 ≤ x ∧ x ≤ 255) (hS : S ≤ 4294967295) (hD : D ≤ 4294967295) (ht : tt ≤ 255) (hid : id ≤ 65535) (hP : P ≤ 255) (hfs : fs ≤ 4294967295) (hfd : fd ≤ 4294967295) (hff : ff ≤ 65535) (hft : ft ≤ 65535) (hn : ¬ 1400 < n) (he : ofErr P S D xs = 0) (hk : ofKind P S D xs = 1) :
    Calls Try.prog 5 #[.agg #[.int .u8 (tt : Int), .int .u8 (P : Int), .int .u16 (id : Int), .int .u32 (S : Int), .int .u32 (D : Int), .slice da n dc], .agg #[.int .u8 (fp : Int), .int .u32 (fs : Int), .int .u32 (fd : Int), .int .u16 (ff : Int), .int .u16 (ft : Int)], .int .i64 mo] w fun e w' => e = .returned (.bool true) ∧ Below w.heap.size w w' := by
  have hd3 : decide ((1400 : Int) < (n : Int)) = false := by simp; omega
  have hk3 : ofKind P S D xs ≠ 3 := by omega
  have h8 : 8 ≤ n := by
    have he := he
    rw [← hl]
    unfold ofErr at he
    split at he
    · unfold segCode at he
      split at he
      · omega
      · omega
    split at he
    · unfold dgmCode at he
      split at he
      · omega
      · omega
    split at he
    · have hmc : msgCode xs = 0 := by
        unfold icErr at he
        by_cases hc0 : msgCode xs = 0
        · exact hc0
        · rw [if_neg hc0] at he; exact absurd he hc0
      unfold msgCode at hmc
      split at hmc
      · omega
      · omega
    · omega
  obtain ⟨K, hK, hKb⟩ := and_maskF mo 1023 (by omega)
  have hKb : bits .and .i64 mo 1023 = (K : Int) := hKb
  obtain ⟨MM, hMM⟩ : ∃ m, min (20 + n) (28 + K) = m := ⟨_, rfl⟩
  have hM28 : 28 ≤ MM ∧ MM ≤ 20 + n ∧ MM ≤ 1051 := by omega
  have HOF := hide (fun (W : World) (hL : Lies W da xs n dc) => of_any W (tt : Int) (id : Int) P S D da n dc xs hL hl hb hS hD)
  rw [he, hk] at HOF
  obtain ⟨o1, o2, o3, o4, o5, o6, o7⟩ := of_plain P S D xs hb hP hS hD he hk3
  obtain ⟨tf1, tf2⟩ := tell_flow tt P id S D xs MM hb hS hD he hk3 (by omega) (by omega)
  have HTL := hide (fun (W : World) (hL : Lies W da xs n dc) => tells_any W 77 S tt P id S D da xs n dc (28 + K) MM hL hl hb (by omega) (by omega) hMM.symm ht hP hid hS hD)
  have hTT : ∀ x ∈ (ipG tt P id S D xs).take MM, 0 ≤ x ∧ x ≤ 255 := by
    intro x hx
    have hx := List.mem_of_mem_take hx
    unfold ipG at hx
    rcases List.mem_append.1 hx with h | h
    · exact ipH_rng _ _ _ _ _ _ _ ht hP x h
    · exact hb x h
  have hTL : ((ipG tt P id S D xs).take MM).length = MM := by rw [List.length_take, ipG_len, hl]; omega
  have hQ20 : P = 1 → fld ((ipG tt P id S D xs).take MM) 20 1 = (msgOf xs).p := by
    intro h1
    have he := he
    rw [fld_cut _ MM 20 1 (by omega), show (20 : Nat) = 20 + 0 by rfl, ipG_fb tt P id S D xs 0 1]
    unfold ofErr at he
    rw [if_neg (by omega), if_neg (by omega), if_pos h1] at he
    have hk1 : icKind xs ≠ 3 := by
      have he2 : ofErr P S D xs = 0 := by unfold ofErr; rw [if_neg (by omega), if_neg (by omega), if_pos h1, he]
      unfold ofKind at hk3
      rw [he2, if_pos rfl, if_neg (by omega)] at hk3
      exact hk3
    have q1 := (qry_cases xs he hk1).1
    unfold msgOf
    rw [if_pos q1]
  generalize (ipG tt P id S D xs).take MM = ds at *
  have hdt : tok ds ds.length = true := by rw [hTL]; exact tf1
  have hdf : tfl ds ds.length = ofFl P S D xs := by rw [hTL]; exact tf2
  obtain ⟨e1, e2, e3⟩ := err_of 3 1 77 S ds MM rfl (by omega) (by omega) hTT hTL (by omega) tf1
  rw [tf2] at e3
  obtain ⟨O, hO⟩ : ∃ y, ofFl P S D xs = y := ⟨_, rfl⟩
  rw [hO] at HOF o1 o2 o3 o4 o5 e3 hdf
  obtain ⟨op, os, od, of, ot⟩ := O
  dsimp only at o2 o3 o4
  have hvo : (⟨op, fs, fd, ff, ft⟩ : Fl).Ok := ⟨o1.p, hfs, hfd, hff, hft⟩
  have hvq : (tfl ds ds.length).p = 1 → (if fld ds 20 1 = 8 then ft = 0 else ff = 0) := by
    rw [hdf]
    intro h1
    have h1 : op = 1 := h1
    rw [hQ20 (by omega)]
    rw [hk] at o7
    exact absurd (show P = 1 by omega) (o7 rfl)
  obtain ⟨r1, r2, r3, r4⟩ := reT_flow ds ⟨op, fs, fd, ff, ft⟩ hdt hTT hvo (by rw [hdf]) hvq
  have HO2 := hide (fun (W : World) (a : Option Addr) (c : Nat) (hL : Lies W a (icmpB 3 1 0 ds) (8 + MM) c) => of_any W 9 0 1 77 S a (8 + MM) c (icmpB 3 1 0 ds) hL (by rw [icmpB_len, hTL]) (icmpB_rng 3 1 0 ds (by omega) (by omega) hTT) (by omega) hS)
  rw [e1, e2, e3] at HO2
  have hcd := icmpB_code 3 1 0 ds (by omega) (by omega) hTT (by omega)
  have hof := icmpB_of 3 1 0 ds (by omega) (by omega) (by omega) hTT (by omega)
  have hie : icErr (icmpB 3 1 0 ds) = 0 := by
    unfold ofErr at e1
    rw [if_neg (by omega), if_neg (by omega), if_pos rfl] at e1
    exact e1
  have hie2 : isErr (msgOf (icmpB 3 1 0 ds)).p = true := by rw [hof]; rfl
  have HRW := hide (fun (W : World) (a : Option Addr) (c : Nat) (hL : Lies W a (icmpB 3 1 0 ds) (8 + MM) c) => rewrite_tell W 9 0 77 S a (icmpB 3 1 0 ds) (8 + MM) c op fd fs ft ff hL (by rw [icmpB_len, hTL]) (icmpB_rng 3 1 0 ds (by omega) (by omega) hTT) (by omega) hS hfd hfs hft hff hie hie2 (by rw [hof]; dsimp only; rw [hdf]))
  rw [hof] at HRW
  dsimp only at HRW
  rw [hTL] at hdf HRW r2 r3 r4
  rw [hdf] at HRW
  unfold Fl.turn at HRW
  dsimp only at HRW
  rw [show (if S = os then fs else S) = fs by rw [if_pos o3.symm]] at HRW
  obtain ⟨s2, hs2⟩ : ∃ x, (if 77 = od then fd else 77) = x := ⟨_, rfl⟩
  rw [hs2] at HRW
  rw [show ((9 : Nat) : Int) = 9 from rfl, show ((77 : Nat) : Int) = 77 from rfl, show ((0 : Nat) : Int) = 0 from rfl] at HRW
  have hs2b : s2 ≤ 4294967295 := by rw [← hs2]; split <;> omega
  have hx7 : (((s2 : Int) == 77) || ((od : Int) == 77)) = true := by
    rw [← hs2]
    by_cases h : 77 = od
    · rw [← h]; simp
    · rw [if_neg h]; simp
  obtain ⟨g1, g2, g3⟩ := err_of 3 1 s2 fs (reT ds ⟨op, fs, fd, ff, ft⟩) MM rfl (by omega) (by omega) r1 r2 (by omega) r3
  rw [r4] at g3
  have HO3 := hide (fun (W : World) (a : Option Addr) (c : Nat) (hL : Lies W a (icmpB 3 1 0 (reT ds ⟨op, fs, fd, ff, ft⟩)) (8 + MM) c) => of_any W 9 0 1 s2 fs a (8 + MM) c (icmpB 3 1 0 (reT ds ⟨op, fs, fd, ff, ft⟩)) hL (by rw [icmpB_len, r2]) (icmpB_rng 3 1 0 _ (by omega) (by omega) r1) hs2b hfs)
  rw [g1, g2, g3] at HO3
  generalize icmpB 3 1 0 (reT ds ⟨op, fs, fd, ff, ft⟩) = bR at *
  have hb9 : 5 < (icmpB 3 1 0 ds).length := by rw [icmpB_len, hTL]; omega
  generalize icmpB 3 1 0 ds = bT at *
  have HB9 := hide hb9
  clear hb9
  unfold Fl.turn at HO2 HO3
  unfold Fl.v at HOF HO2 HO3
  dsimp only at HOF HO2 HO3
  have hK28 : IntKind.i64.wrap (28 + (K : Int)) = ((28 + K : Nat) : Int) := by rw [IntKind.wrap_i64]; omega
  obtain ⟨k28, hk28⟩ : ∃ k : Nat, 28 + K = k := ⟨_, rfl⟩
  rw [hk28] at hK28 HTL
  obtain ⟨N8, hN8⟩ : ∃ k : Nat, 8 + MM = k := ⟨_, rfl⟩
  rw [hN8] at HTL HO2 HO3 HRW
  have HX7 := hide hx7
  clear hx7 hl hb hn he hk hk3 h8 hK hMM hM28 o1 o2 o3 o4 o5 o6 o7 tf1 tf2 hTT hTL hQ20 hdt hdf e1 e2 e3 hO hvo hvq r1 r2 r3 r4 hcd hof hie hie2 hs2 hs2b g1 g2 g3 hk28 hN8
  obtain ⟨V1, hV1⟩ : ∃ V, w.alloc (.cells #[.int .u8 (tt : Int), .int .u8 (P : Int), .int .u16 (id : Int), .int .u32 (S : Int), .int .u32 (D : Int), .slice da n dc] 27) = V := ⟨_, rfl⟩
  obtain ⟨V2, hV2⟩ : ∃ V, V1.alloc (.cells #[.int .u8 (fp : Int), .int .u32 (fs : Int), .int .u32 (fd : Int), .int .u16 (ff : Int), .int .u16 (ft : Int)] 29) = V := ⟨_, rfl⟩
  have hz1 : V1.heap.size = w.heap.size + 1 := by rw [← hV1]; simp
  have hz2 : V2.heap.size = w.heap.size + 1 + 1 := by rw [← hV2]; simp [hz1]
  have hb1 : Below w.heap.size w V1 := by rw [← hV1]; exact (Below.refl _ _).alloc (Nat.le_refl _) _
  have hc2 : Below V1.heap.size V1 V2 := by rw [← hV2]; exact (Below.refl _ _).alloc (Nat.le_refl _) _
  have hb2 := hb1.trans (hc2.mono hb1.size)
  have hp1_1 : V1.heap[w.heap.size]? = some (.cells #[.int .u8 (tt : Int), .int .u8 (P : Int), .int .u16 (id : Int), .int .u32 (S : Int), .int .u32 (D : Int), .slice da n dc] 27 (0, 0)) := by rw [← hV1]; exact heap_alloc_new _ _
  have hp1_2 := below_block hc2 hp1_1 (Nat.le_refl _)
  have hp2_2 : V2.heap[w.heap.size + 1]? = some (.cells #[.int .u8 (fp : Int), .int .u32 (fs : Int), .int .u32 (fd : Int), .int .u16 (ff : Int), .int .u16 (ft : Int)] 29 (0, 0)) := by rw [← hV2, ← hz1]; exact heap_alloc_new _ _
  obtain ⟨BX, hBX⟩ : ∃ B, w.heap.size = B := ⟨_, rfl⟩
  obtain ⟨BF, hBF⟩ : ∃ B, w.heap.size + 1 = B := ⟨_, rfl⟩
  have hw0 : w.heap.size ≤ BX ∧ w.heap.size ≤ BF := by omega
  have HX := hide (show V2.heap[BX]? = some (.cells #[.int .u8 (tt : Int), .int .u8 (P : Int), .int .u16 (id : Int), .int .u32 (S : Int), .int .u32 (D : Int), .slice da n dc] 27 (0, 0)) by rw [← hBX]; exact hp1_2)
  have NX : Hid (w.heap.size ≤ BX) := hide hw0.1
  have HF := hide (show V2.heap[BF]? = some (.cells #[.int .u8 (fp : Int), .int .u32 (fs : Int), .int .u32 (fd : Int), .int .u16 (ff : Int), .int .u16 (ft : Int)] 29 (0, 0)) by rw [← hBF]; exact hp2_2)
  have NF : Hid (w.heap.size ≤ BF) := hide hw0.2
  have nqX_F : Hid (BX ≠ BF) := hide (by omega)
  have AP := hide hLx
  have RP := hide (hLx.below hb2 (Nat.le_refl _))
  have HB := hide hb2
  have HE := hide (And.intro (And.intro trivial trivial) (And.intro hV1 ( And.intro hV2 (And.intro hBX ( And.intro hBF (trivial))))))
  clear hw0 hV1 hz1 hb1 hV2 hz2 hb2 hc2 hp1_1 hp1_2 hp2_2 hBX hBF hLx
  go_enter Try.func5, Try.ntmps5
  go_upto_region 1 with (fail)
  rw [HE.out.2.1]
  try rw [HE.out.2.2.1]
  try rw [HE.out.2.2.2.2.1]
  try rw [HE.out.2.2.2.1]
  clear HE
  go_wp2_with fail
  refine (speaks_any _).mono ?_
  rintro e w1 ⟨rfl, b⟩
  replace HX := hide (below_block b HX.out (Nat.le_refl _))
  replace HF := hide (below_block b HF.out (Nat.le_refl _))
  replace RP := hide (RP.out.below b (Nat.le_refl _))
  replace HB := hide (HB.out.trans (b.mono HB.out.size))
  clear b 
  have qX_5 : w1.cell? ⟨BX, 5, none⟩ = some (.slice da n dc) := cell_at HX.out 5 rfl
  go_upto_region 5 with (fail)
  clear qX_5
  go_wp2_with ((refine ld_whole (o := ⟨some 27, _, _, _, _, _⟩) 27 (.tmp 3) rfl (by rfl) BX rfl #[.int .u8 (tt : Int), .int .u8 (P : Int), .int .u16 (id : Int), .int .u32 (S : Int), .int .u32 (D : Int), .slice da n dc] 27 HX.out Try.underlying27 (by kernel_rfl) ?_; try simp only [Act.put, List.setIfInBounds_toArray, List.set_cons_zero, List.set_cons_succ]))
  refine (HOF.out _ RP.out).mono ?_
  rintro e w2 ⟨rfl, b⟩
  replace HX := hide (below_block b HX.out (Nat.le_refl _))
  replace HF := hide (below_block b HF.out (Nat.le_refl _))
  replace RP := hide (RP.out.below b (Nat.le_refl _))
  replace HB := hide (HB.out.trans (b.mono HB.out.size))
  clear b 
  obtain ⟨w3, hwn, wb, HN1⟩ : ∃ W, w2.alloc (.cells #[.int .u8 (op : Int), .int .u32 (os : Int), .int .u32 (od : Int), .int .u16 (of : Int), .int .u16 (ot : Int)] 29) = W ∧ Below w2.heap.size w2 W ∧ Hid (W.heap[w2.heap.size]? = some (.cells #[.int .u8 (op : Int), .int .u32 (os : Int), .int .u32 (od : Int), .int .u16 (of : Int), .int .u16 (ot : Int)] 29 (0, 0))) := ⟨_, rfl, (Below.refl w2.heap.size w2).alloc (Nat.le_refl _) _, hide (heap_alloc_new w2 _)⟩
  obtain ⟨BO, hBn⟩ : ∃ B, w2.heap.size = B := ⟨_, rfl⟩
  rw [hBn] at HN1
  have HW := hide (And.intro hwn hBn)
  have HBo := HB
  have nqX_O := hide (blk_ne HX.out hBn)
  have nqF_O := hide (blk_ne HF.out hBn)
  clear hwn hBn
  replace HX := hide (below_block wb HX.out (Nat.le_refl _))
  replace HF := hide (below_block wb HF.out (Nat.le_refl _))
  replace RP := hide (RP.out.below wb (Nat.le_refl _))
  replace HB := hide (HB.out.trans (wb.mono HB.out.size))
  have HO := HN1
  have NO := hide (show w.heap.size ≤ BO by rw [← HW.out.2]; exact HBo.out.size)
  clear wb HN1 HBo
  go_upto_region 6 with (fail)
  rw [HW.out.1]
  try rw [HW.out.2]
  clear HW
  go_upto_region 9 with (fail)
  have qX_3 : w3.cell? ⟨BX, 3, none⟩ = some (.int .u32 (S : Int)) := cell_at HX.out 3 rfl
  go_wp2_with ((refine ld_whole (o := ⟨some 43, _, _, _, _, _⟩) 27 (.tmp 3) rfl (by rfl) BX rfl #[.int .u8 (tt : Int), .int .u8 (P : Int), .int .u16 (id : Int), .int .u32 (S : Int), .int .u32 (D : Int), .slice da n dc] 27 HX.out Try.underlying27 (by kernel_rfl) ?_; try simp only [Act.put, List.setIfInBounds_toArray, List.set_cons_zero, List.set_cons_succ]))
  refine (HTL.out _ RP.out).mono ?_
  rintro e w4 ⟨a1, c1, rfl, o, b⟩
  clear qX_3
  replace HX := hide (below_block b HX.out (Nat.le_refl _))
  replace HF := hide (below_block b HF.out (Nat.le_refl _))
  replace HO := hide (below_block b HO.out (Nat.le_refl _))
  replace RP := hide (RP.out.below b (Nat.le_refl _))
  replace HB := hide (HB.out.trans (b.mono HB.out.size))
  have RT1 := hide (o)
  clear b o
  obtain ⟨w5, hwn, wb, HN1⟩ : ∃ W, w4.alloc (.cells #[.int .u8 9, .int .u8 1, .int .u16 0, .int .u32 77, .int .u32 (S : Int), .slice a1 N8 c1] 27) = W ∧ Below w4.heap.size w4 W ∧ Hid (W.heap[w4.heap.size]? = some (.cells #[.int .u8 9, .int .u8 1, .int .u16 0, .int .u32 77, .int .u32 (S : Int), .slice a1 N8 c1] 27 (0, 0))) := ⟨_, rfl, (Below.refl w4.heap.size w4).alloc (Nat.le_refl _) _, hide (heap_alloc_new w4 _)⟩
  obtain ⟨BQ, hBn⟩ : ∃ B, w4.heap.size = B := ⟨_, rfl⟩
  rw [hBn] at HN1
  have HW := hide (And.intro hwn hBn)
  have HBo := HB
  have nqX_Q := hide (blk_ne HX.out hBn)
  have nqF_Q := hide (blk_ne HF.out hBn)
  have nqO_Q := hide (blk_ne HO.out hBn)
  clear hwn hBn
  replace HX := hide (below_block wb HX.out (Nat.le_refl _))
  replace HF := hide (below_block wb HF.out (Nat.le_refl _))
  replace HO := hide (below_block wb HO.out (Nat.le_refl _))
  replace RP := hide (RP.out.below wb (Nat.le_refl _))
  replace RT1 := hide (RT1.out.below wb (Nat.le_refl _))
  replace HB := hide (HB.out.trans (wb.mono HB.out.size))
  have HQ := HN1
  have NQ := hide (show w.heap.size ≤ BQ by rw [← HW.out.2]; exact HBo.out.size)
  clear wb HN1 HBo
  go_upto_region 10 with (fail)
  rw [HW.out.1]
  try rw [HW.out.2]
  clear HW
  go_wp2_with ((refine ld_whole (o := ⟨some 47, _, _, _, _, _⟩) 27 (.tmp 11) rfl (by rfl) BQ rfl #[.int .u8 9, .int .u8 1, .int .u16 0, .int .u32 77, .int .u32 (S : Int), .slice a1 N8 c1] 27 HQ.out Try.underlying27 (by kernel_rfl) ?_; try simp only [Act.put, List.setIfInBounds_toArray, List.set_cons_zero, List.set_cons_succ]))
  refine (HO2.out _ a1 c1 RT1.out).mono ?_
  rintro e w6 ⟨rfl, b⟩
  replace HX := hide (below_block b HX.out (Nat.le_refl _))
  replace HF := hide (below_block b HF.out (Nat.le_refl _))
  replace HO := hide (below_block b HO.out (Nat.le_refl _))
  replace HQ := hide (below_block b HQ.out (Nat.le_refl _))
  replace RP := hide (RP.out.below b (Nat.le_refl _))
  replace RT1 := hide (RT1.out.below b (Nat.le_refl _))
  replace HB := hide (HB.out.trans (b.mono HB.out.size))
  clear b 
  obtain ⟨w7, hwn, wb, HN1⟩ : ∃ W, w6.alloc (.cells #[.int .u8 (op : Int), .int .u32 (od : Int), .int .u32 (os : Int), .int .u16 (ot : Int), .int .u16 (of : Int)] 29) = W ∧ Below w6.heap.size w6 W ∧ Hid (W.heap[w6.heap.size]? = some (.cells #[.int .u8 (op : Int), .int .u32 (od : Int), .int .u32 (os : Int), .int .u16 (ot : Int), .int .u16 (of : Int)] 29 (0, 0))) := ⟨_, rfl, (Below.refl w6.heap.size w6).alloc (Nat.le_refl _) _, hide (heap_alloc_new w6 _)⟩
  obtain ⟨BN, hBn⟩ : ∃ B, w6.heap.size = B := ⟨_, rfl⟩
  rw [hBn] at HN1
  have HW := hide (And.intro hwn hBn)
  have HBo := HB
  have nqX_N := hide (blk_ne HX.out hBn)
  have nqF_N := hide (blk_ne HF.out hBn)
  have nqO_N := hide (blk_ne HO.out hBn)
  have nqQ_N := hide (blk_ne HQ.out hBn)
  clear hwn hBn
  replace HX := hide (below_block wb HX.out (Nat.le_refl _))
  replace HF := hide (below_block wb HF.out (Nat.le_refl _))
  replace HO := hide (below_block wb HO.out (Nat.le_refl _))
  replace HQ := hide (below_block wb HQ.out (Nat.le_refl _))
  replace RP := hide (RP.out.below wb (Nat.le_refl _))
  replace RT1 := hide (RT1.out.below wb (Nat.le_refl _))
  replace HB := hide (HB.out.trans (wb.mono HB.out.size))
  have HN := HN1
  have NN := hide (show w.heap.size ≤ BN by rw [← HW.out.2]; exact HBo.out.size)
  clear wb HN1 HBo
  go_upto_region 11 with (fail)
  rw [HW.out.1]
  try rw [HW.out.2]
  clear HW
  have k0N0 : w7.cell? ⟨BN, 0, none⟩ = some (.int .u8 (op : Int)) := cell_at HN.out 0 rfl
  have k0N1 : w7.cell? ⟨BN, 1, none⟩ = some (.int .u32 (od : Int)) := cell_at HN.out 1 rfl
  have k0N2 : w7.cell? ⟨BN, 2, none⟩ = some (.int .u32 (os : Int)) := cell_at HN.out 2 rfl
  have k0N3 : w7.cell? ⟨BN, 3, none⟩ = some (.int .u16 (ot : Int)) := cell_at HN.out 3 rfl
  have k0N4 : w7.cell? ⟨BN, 4, none⟩ = some (.int .u16 (of : Int)) := cell_at HN.out 4 rfl
  have k0O0 : w7.cell? ⟨BO, 0, none⟩ = some (.int .u8 (op : Int)) := cell_at HO.out 0 rfl
  have k0O1 : w7.cell? ⟨BO, 1, none⟩ = some (.int .u32 (os : Int)) := cell_at HO.out 1 rfl
  have k0O2 : w7.cell? ⟨BO, 2, none⟩ = some (.int .u32 (od : Int)) := cell_at HO.out 2 rfl
  have k0O3 : w7.cell? ⟨BO, 3, none⟩ = some (.int .u16 (of : Int)) := cell_at HO.out 3 rfl
  have k0O4 : w7.cell? ⟨BO, 4, none⟩ = some (.int .u16 (ot : Int)) := cell_at HO.out 4 rfl
  have hlN := lt_of_block HN.out
  have hlO := lt_of_block HO.out
  have HBB := hide (Below.refl w7.heap.size w7)
  go_region_held3 (fun w' => w'.cell? ⟨BN, 0, none⟩ = some (.int .u8 (op : Int)) ∧ w'.cell? ⟨BN, 1, none⟩ = some (.int .u32 (od : Int)) ∧ w'.cell? ⟨BN, 2, none⟩ = some (.int .u32 (os : Int)) ∧ w'.cell? ⟨BN, 3, none⟩ = some (.int .u16 (ot : Int)) ∧ w'.cell? ⟨BN, 4, none⟩ = some (.int .u16 (of : Int)) ∧ w'.cell? ⟨BO, 0, none⟩ = some (.int .u8 (op : Int)) ∧ w'.cell? ⟨BO, 1, none⟩ = some (.int .u32 (os : Int)) ∧ w'.cell? ⟨BO, 2, none⟩ = some (.int .u32 (od : Int)) ∧ w'.cell? ⟨BO, 3, none⟩ = some (.int .u16 (of : Int)) ∧ w'.cell? ⟨BO, 4, none⟩ = some (.int .u16 (ot : Int))) (go_keep) (first
      | (go_at_call 17; (with_reducible refine (turnF _ op os od of ot).mono ?_); rintro e z1 ⟨rfl, b⟩; (try replace b := below_of_drew b); have HBB := hide (HBB.out.trans (b.mono HBB.out.size)); have k1N0 := (bcell HBB.out BN 0 hlN).trans k0N0; have k1N1 := (bcell HBB.out BN 1 hlN).trans k0N1; have k1N2 := (bcell HBB.out BN 2 hlN).trans k0N2; have k1N3 := (bcell HBB.out BN 3 hlN).trans k0N3; have k1N4 := (bcell HBB.out BN 4 hlN).trans k0N4; have k1O0 := (bcell HBB.out BO 0 hlO).trans k0O0; have k1O1 := (bcell HBB.out BO 1 hlO).trans k0O1; have k1O2 := (bcell HBB.out BO 2 hlO).trans k0O2; have k1O3 := (bcell HBB.out BO 3 hlO).trans k0O3; have k1O4 := (bcell HBB.out BO 4 hlO).trans k0O4; clear b)
      | fail)
  have hbz := HBB.out
  clear HBB k0N0 k1N0 k0N1 k1N1 k0N2 k1N2 k0N3 k1N3 k0N4 k1N4 k0O0 k1O0 k0O1 k1O1 k0O2 k1O2 k0O3 k1O3 k0O4 k1O4 hlN hlO
  replace HX := hide (below_block hbz HX.out (Nat.le_refl _))
  replace HF := hide (below_block hbz HF.out (Nat.le_refl _))
  replace HO := hide (below_block hbz HO.out (Nat.le_refl _))
  replace HQ := hide (below_block hbz HQ.out (Nat.le_refl _))
  replace HN := hide (below_block hbz HN.out (Nat.le_refl _))
  replace RP := hide (RP.out.below hbz (Nat.le_refl _))
  replace RT1 := hide (RT1.out.below hbz (Nat.le_refl _))
  replace HB := hide (HB.out.trans (hbz.mono HB.out.size))
  clear hbz
  clear HN NN RP HX NX
  go_upto_region 13 with (fail)
  have qO_0 : z1.cell? ⟨BO, 0, none⟩ = some (.int .u8 (op : Int)) := cell_at HO.out 0 rfl
  have fz := free_at HF.out 0
  have qF_0 : z1.cell? ⟨BF, 0, none⟩ = some (.int .u8 (fp : Int)) := cell_at HF.out 0 rfl
  obtain ⟨w8, hVn, hVH, hVB, hVo, hVs⟩ := set1 (i := 0) (.int .u8 (op : Int)) (c' := #[.int .u8 (op : Int), .int .u32 (fs : Int), .int .u32 (fd : Int), .int .u16 (ff : Int), .int .u16 (ft : Int)]) HF.out HB.out NF.out (by kernel_rfl)
  have HVn := hide hVn
  clear hVn
  have HG := hide (gb_part HB.out hVB hVo hVs)
  have HFn := hide hVH
  have HOn := hide ((hVo _ nqF_O.out.symm).trans HO.out)
  have HQn := hide ((hVo _ nqF_Q.out.symm).trans HQ.out)
  have RT1n := hide (lies_gbE RT1.out HG.out (lies_ne RT1.out HB9.out HF.out rfl))
  have HBn := hide hVB
  clear hVH hVB hVo hVs HG
  go_upto_region 16 with (fail)
  rw [HVn.out]
  clear HVn fz
  clear qO_0 qF_0
  replace HF := HFn
  clear HFn
  replace HO := HOn
  clear HOn
  replace HQ := HQn
  clear HQn
  replace RT1 := RT1n
  clear RT1n
  replace HB := HBn
  clear HBn
  go_cut [15, 16] (fun p p2 wx => ∃ B a2 c2, p = .pointer (some ⟨B, 0, none⟩) ∧ p2 = .int .i64 0 ∧ Hid (wx.heap[B]? = some (.cells #[.int .u8 9, .int .u8 1, .int .u16 0, .int .u32 (s2 : Int), .int .u32 (fs : Int), .slice a2 N8 c2] 27 (0, 0))) ∧ Hid (w8.heap.size ≤ B) ∧ Hid (Lies wx a2 bR N8 c2) ∧ Hid (Below w8.heap.size w8 wx))
  case first =>
    have HZ0 := hide (show Below w8.heap.size w8 w8.drew from (Below.refl _ _).drew)
    refine wp_region_held_drew (S := fun w' => w'.cell? ⟨BQ, 0, none⟩ = some (.int .u8 9) ∧ w'.cell? ⟨BQ, 1, none⟩ = some (.int .u8 1) ∧ w'.cell? ⟨BQ, 2, none⟩ = some (.int .u16 0) ∧ w'.cell? ⟨BQ, 3, none⟩ = some (.int .u32 77) ∧ w'.cell? ⟨BQ, 4, none⟩ = some (.int .u32 (S : Int)) ∧ w'.cell? ⟨BQ, 5, none⟩ = some (.slice a1 N8 c1) ∧ w'.cell? ⟨BF, 0, none⟩ = some (.int .u8 (op : Int)) ∧ w'.cell? ⟨BF, 1, none⟩ = some (.int .u32 (fs : Int)) ∧ w'.cell? ⟨BF, 2, none⟩ = some (.int .u32 (fd : Int)) ∧ w'.cell? ⟨BF, 3, none⟩ = some (.int .u16 (ff : Int)) ∧ w'.cell? ⟨BF, 4, none⟩ = some (.int .u16 (ft : Int))) (by kernel_rfl) (by exact ⟨cell_at (below_block HZ0.out HQ.out (Nat.le_refl _)) 0 rfl, cell_at (below_block HZ0.out HQ.out (Nat.le_refl _)) 1 rfl, cell_at (below_block HZ0.out HQ.out (Nat.le_refl _)) 2 rfl, cell_at (below_block HZ0.out HQ.out (Nat.le_refl _)) 3 rfl, cell_at (below_block HZ0.out HQ.out (Nat.le_refl _)) 4 rfl, cell_at (below_block HZ0.out HQ.out (Nat.le_refl _)) 5 rfl, cell_at (below_block HZ0.out HF.out (Nat.le_refl _)) 0 rfl, cell_at (below_block HZ0.out HF.out (Nat.le_refl _)) 1 rfl, cell_at (below_block HZ0.out HF.out (Nat.le_refl _)) 2 rfl, cell_at (below_block HZ0.out HF.out (Nat.le_refl _)) 3 rfl, cell_at (below_block HZ0.out HF.out (Nat.le_refl _)) 4 rfl⟩) (fun hHeld => ?_)
    refine wpAnyH_take (i := 0) (oi := { dst := some 82, op := Op.load 27 (Operand.tmp 11), type := 27, pos := "law.go:117", after := #[], guard := none }) (v := ?_) rfl (by kernel_rfl) (by kernel_rfl) (by kernel_rfl) (fun _ _ _ h => h) (Or.inl ⟨by rfl, ?_⟩) (by assumption) ?_
    rotate_left
    · intro wS hSw
      try dsimp only at hSw
      go_simp
      try with_reducible rfl
    try simp only [Act.put, List.setIfInBounds_toArray, List.set_cons_zero, List.set_cons_succ]
    refine wpAnyH_take (i := 1) (oi := { dst := some 83, op := Op.load 29 (Operand.tmp 4), type := 29, pos := "law.go:117", after := #[], guard := none }) (v := ?_) rfl (by kernel_rfl) (by kernel_rfl) (by kernel_rfl) (fun _ _ _ h => h) (Or.inl ⟨by rfl, ?_⟩) (by assumption) ?_
    rotate_left
    · intro wS hSw
      try dsimp only at hSw
      go_simp
      try with_reducible rfl
    try simp only [Act.put, List.setIfInBounds_toArray, List.set_cons_zero, List.set_cons_succ]
    refine wpAnyH_ready (rs := [2, 7]) (by kernel_rfl) (by simp) ?_
    refine AllReadyH.cons (o := { dst := some 84, op := Op.call { callee := Callee.value (Operand.func 17), args := #[Operand.tmp 83], argTypes := #[29] }, type := 29, pos := "law.go:117", after := #[{ on := 1, ground := Ground.data }], guard := none }) rfl (fun K hK => ?_) ?_
    ·
      go_simp
      go_at_call 17
      (with_reducible refine (turnF _ op fs fd ff ft).mono ?_)
      rintro e z9 ⟨rfl, b⟩
      have HZ9 := hide (show Below w8.heap.size w8 z9 from HZ0.out.trans (Below.mono b HZ0.out.size))
      clear b
      refine hK.out _ _ (⟨cell_at (below_block HZ9.out HQ.out (Nat.le_refl _)) 0 rfl, cell_at (below_block HZ9.out HQ.out (Nat.le_refl _)) 1 rfl, cell_at (below_block HZ9.out HQ.out (Nat.le_refl _)) 2 rfl, cell_at (below_block HZ9.out HQ.out (Nat.le_refl _)) 3 rfl, cell_at (below_block HZ9.out HQ.out (Nat.le_refl _)) 4 rfl, cell_at (below_block HZ9.out HQ.out (Nat.le_refl _)) 5 rfl, cell_at (below_block HZ9.out HF.out (Nat.le_refl _)) 0 rfl, cell_at (below_block HZ9.out HF.out (Nat.le_refl _)) 1 rfl, cell_at (below_block HZ9.out HF.out (Nat.le_refl _)) 2 rfl, cell_at (below_block HZ9.out HF.out (Nat.le_refl _)) 3 rfl, cell_at (below_block HZ9.out HF.out (Nat.le_refl _)) 4 rfl⟩) (fun hHeld9 => ?_)
      clear hK K
      try simp only [Act.put, List.setIfInBounds_toArray, List.set_cons_zero, List.set_cons_succ]
      refine wpAnyH_ready (rs := [3, 7]) (by kernel_rfl) (by simp) ?_
      refine AllReadyH.cons (o := { dst := some 85, op := Op.call { callee := Callee.value (Operand.func 11), args := #[Operand.tmp 82, Operand.tmp 84], argTypes := #[27, 29] }, type := 32, pos := "law.go:117", after := #[{ on := 0, ground := Ground.data }, { on := 2, ground := Ground.data }, { on := 2, ground := Ground.chain }], guard := none }) rfl (fun K hK => ?_) ?_
      ·
        go_simp
        go_at_call 11
        (with_reducible refine (HRW.out _ a1 c1 (RT1.out.below HZ9.out (Nat.le_refl _))).mono ?_)
        rintro e z10 ⟨a2, c2, rfl, o, b⟩
        have HZ10 := hide (show Below w8.heap.size w8 z10 from HZ9.out.trans (Below.mono b HZ9.out.size))
        have OY10 := hide o
        clear o
        clear b
        refine hK.out _ _ (⟨cell_at (below_block HZ10.out HQ.out (Nat.le_refl _)) 0 rfl, cell_at (below_block HZ10.out HQ.out (Nat.le_refl _)) 1 rfl, cell_at (below_block HZ10.out HQ.out (Nat.le_refl _)) 2 rfl, cell_at (below_block HZ10.out HQ.out (Nat.le_refl _)) 3 rfl, cell_at (below_block HZ10.out HQ.out (Nat.le_refl _)) 4 rfl, cell_at (below_block HZ10.out HQ.out (Nat.le_refl _)) 5 rfl, cell_at (below_block HZ10.out HF.out (Nat.le_refl _)) 0 rfl, cell_at (below_block HZ10.out HF.out (Nat.le_refl _)) 1 rfl, cell_at (below_block HZ10.out HF.out (Nat.le_refl _)) 2 rfl, cell_at (below_block HZ10.out HF.out (Nat.le_refl _)) 3 rfl, cell_at (below_block HZ10.out HF.out (Nat.le_refl _)) 4 rfl⟩) (fun hHeld10 => ?_)
        clear hK K
        try simp only [Act.put, List.setIfInBounds_toArray, List.set_cons_zero, List.set_cons_succ]
        refine wpAnyH_take (i := 4) (oi := { dst := some 81, op := Op.move (Operand.tmp 85), type := 32, pos := "law.go:117", after := #[{ on := 3, ground := Ground.data }], guard := none }) (v := ?_) rfl (by kernel_rfl) (by kernel_rfl) (by kernel_rfl) (fun _ _ _ h => h) (Or.inl ⟨by rfl, ?_⟩) (by assumption) ?_
        rotate_left
        · intro wS hSw
          try dsimp only at hSw
          go_simp
          try with_reducible rfl
        try simp only [Act.put, List.setIfInBounds_toArray, List.set_cons_zero, List.set_cons_succ]
        refine wpAnyH_take (i := 5) (oi := { dst := some 86, op := Op.extract (Operand.tmp 81) 0, type := 27, pos := "law.go:117", after := #[{ on := 4, ground := Ground.data }], guard := none }) (v := ?_) rfl (by kernel_rfl) (by kernel_rfl) (by kernel_rfl) (fun _ _ _ h => h) (Or.inl ⟨by rfl, ?_⟩) (by assumption) ?_
        rotate_left
        · intro wS hSw
          try dsimp only at hSw
          go_simp
          try with_reducible rfl
        try simp only [Act.put, List.setIfInBounds_toArray, List.set_cons_zero, List.set_cons_succ]
        refine wpAnyH_take (i := 6) (oi := { dst := some 87, op := Op.extract (Operand.tmp 81) 1, type := 31, pos := "law.go:117", after := #[{ on := 4, ground := Ground.data }, { on := 8, ground := Ground.gcOnly Departure.lateStores }], guard := none }) (v := ?_) rfl (by kernel_rfl) (by kernel_rfl) (by kernel_rfl) (fun _ _ _ h => h) (Or.inl ⟨by rfl, ?_⟩) (by assumption) ?_
        rotate_left
        · intro wS hSw
          try dsimp only at hSw
          go_simp
          try with_reducible rfl
        try simp only [Act.put, List.setIfInBounds_toArray, List.set_cons_zero, List.set_cons_succ]
        refine wpAnyH_ready (rs := [7]) (by kernel_rfl) (by simp) ?_
        refine AllReadyH.cons (o := { dst := some 15, op := Op.alloc 27, type := 0, pos := "law.go:117", after := #[], guard := none }) rfl (fun K hK => ?_) ?_
        ·
          go_simp
          have HN11_7 := hide (show (z10.alloc (.cells #[.int .u8 0, .int .u8 0, .int .u16 0, .int .u32 0, .int .u32 0, .slice none 0 0] 27)).heap[z10.heap.size]? = some (.cells #[.int .u8 0, .int .u8 0, .int .u16 0, .int .u32 0, .int .u32 0, .slice none 0 0] 27 (0, 0)) from heap_alloc_new _ _)
          have HG11 : w8.heap.size ≤ z10.heap.size := HZ10.out.size
          have HZ11 : Hid (Below w8.heap.size w8 (z10.alloc (.cells #[.int .u8 0, .int .u8 0, .int .u16 0, .int .u32 0, .int .u32 0, .slice none 0 0] 27))) := hide (HZ10.out.alloc HG11 (.cells #[.int .u8 0, .int .u8 0, .int .u16 0, .int .u32 0, .int .u32 0, .slice none 0 0] 27))
          have neY_7 := hide (own_ne (L := z10.heap.size) OY10.out (Nat.le_refl _))
          have OY11 := hide (owns_below OY10.out ((Below.refl z10.heap.size z10).alloc (Nat.le_refl _) (.cells #[.int .u8 0, .int .u8 0, .int .u16 0, .int .u32 0, .int .u32 0, .slice none 0 0] 27)) (Nat.le_refl _))
          refine hK.out _ _ (⟨cell_at (below_block HZ11.out HQ.out (Nat.le_refl _)) 0 rfl, cell_at (below_block HZ11.out HQ.out (Nat.le_refl _)) 1 rfl, cell_at (below_block HZ11.out HQ.out (Nat.le_refl _)) 2 rfl, cell_at (below_block HZ11.out HQ.out (Nat.le_refl _)) 3 rfl, cell_at (below_block HZ11.out HQ.out (Nat.le_refl _)) 4 rfl, cell_at (below_block HZ11.out HQ.out (Nat.le_refl _)) 5 rfl, cell_at (below_block HZ11.out HF.out (Nat.le_refl _)) 0 rfl, cell_at (below_block HZ11.out HF.out (Nat.le_refl _)) 1 rfl, cell_at (below_block HZ11.out HF.out (Nat.le_refl _)) 2 rfl, cell_at (below_block HZ11.out HF.out (Nat.le_refl _)) 3 rfl, cell_at (below_block HZ11.out HF.out (Nat.le_refl _)) 4 rfl⟩) (fun hHeld11 => ?_)
          clear hK K
          try simp only [Act.put, List.setIfInBounds_toArray, List.set_cons_zero, List.set_cons_succ]
          refine wpAnyH_ready (rs := [8]) (by kernel_rfl) (by simp) ?_
          refine AllReadyH.cons (o := { dst := none, op := Op.store 27 (Operand.tmp 15) (Operand.tmp 86), type := 0, pos := "law.go:117", after := #[{ on := 7, ground := Ground.data }, { on := 5, ground := Ground.data }, { on := 3, ground := Ground.chain }, { on := 0, ground := Ground.phase }, { on := 1, ground := Ground.phase }, { on := 2, ground := Ground.phase }, { on := 3, ground := Ground.phase }, { on := 4, ground := Ground.phase }, { on := 5, ground := Ground.phase }, { on := 6, ground := Ground.textOnly Departure.lateStores }, { on := 7, ground := Ground.phase }], guard := none }) rfl (fun K hK => ?_) ?_
          ·
            rw [if_pos (by rfl)]
            refine wp_store_mid 27 (.tmp 15) (.tmp 86) rfl z10.heap.size 0 #[.int .u8 9, .int .u8 1, .int .u16 0, .int .u32 (s2 : Int), .int .u32 (fs : Int), .slice a2 N8 c2] rfl rfl (there_of HN11_7.out (Nat.le_of_ble_eq_true (by kernel_rfl))) (by kernel_rfl) (by kernel_rfl) ?_
            have hX12 := heap_setCells z10.heap.size 27 (#[.int .u8 9, .int .u8 1, .int .u16 0, .int .u32 (s2 : Int), .int .u32 (fs : Int), .slice a2 N8 c2] : Array Value).toList 0 (z10.alloc (.cells #[.int .u8 0, .int .u8 0, .int .u16 0, .int .u32 0, .int .u32 0, .slice none 0 0] 27)) #[.int .u8 0, .int .u8 0, .int .u16 0, .int .u32 0, .int .u32 0, .slice none 0 0] HN11_7.out
            rw [upd_whole (by rfl)] at hX12
            have HN12_7 := hide hX12
            have hZ12 := below_setCells z10.heap.size HG11 (#[.int .u8 9, .int .u8 1, .int .u16 0, .int .u32 (s2 : Int), .int .u32 (fs : Int), .slice a2 N8 c2] : Array Value).toList 0 _ HZ11.out
            have HZ12 := hide hZ12
            have hgb12 := gb_part HZ11.out hZ12 (fun k hk => setCells_other z10.heap.size _ _ _ k hk) (setCells_size z10.heap.size _ _ _)
            have OY12 := hide (owns_kept OY11.out hgb12 neY_7.out)
            skip
            clear hX12 hZ12 hgb12
            refine hK.out _ _ (⟨cell_at (below_block HZ12.out HQ.out (Nat.le_refl _)) 0 rfl, cell_at (below_block HZ12.out HQ.out (Nat.le_refl _)) 1 rfl, cell_at (below_block HZ12.out HQ.out (Nat.le_refl _)) 2 rfl, cell_at (below_block HZ12.out HQ.out (Nat.le_refl _)) 3 rfl, cell_at (below_block HZ12.out HQ.out (Nat.le_refl _)) 4 rfl, cell_at (below_block HZ12.out HQ.out (Nat.le_refl _)) 5 rfl, cell_at (below_block HZ12.out HF.out (Nat.le_refl _)) 0 rfl, cell_at (below_block HZ12.out HF.out (Nat.le_refl _)) 1 rfl, cell_at (below_block HZ12.out HF.out (Nat.le_refl _)) 2 rfl, cell_at (below_block HZ12.out HF.out (Nat.le_refl _)) 3 rfl, cell_at (below_block HZ12.out HF.out (Nat.le_refl _)) 4 rfl⟩) (fun hHeld12 => ?_)
            clear hK K
            try simp only [Act.put, List.setIfInBounds_toArray, List.set_cons_zero, List.set_cons_succ]
            refine wpAnyH_take (i := 9) (oi := { dst := some 16, op := Op.assign (Operand.tmp 87), type := 31, pos := "law.go:117", after := #[{ on := 6, ground := Ground.data }, { on := 8, ground := Ground.chain }, { on := 0, ground := Ground.phase }, { on := 1, ground := Ground.phase }, { on := 2, ground := Ground.phase }, { on := 3, ground := Ground.phase }, { on := 4, ground := Ground.phase }, { on := 5, ground := Ground.phase }, { on := 6, ground := Ground.phase }, { on := 7, ground := Ground.phase }, { on := 8, ground := Ground.phase }], guard := none }) (v := ?_) rfl (by kernel_rfl) (by kernel_rfl) (by kernel_rfl) (fun _ _ _ h => h) (Or.inl ⟨by rfl, ?_⟩) (by assumption) ?_
            rotate_left
            · intro wS hSw
              try dsimp only at hSw
              go_simp
              try with_reducible rfl
            try simp only [Act.put, List.setIfInBounds_toArray, List.set_cons_zero, List.set_cons_succ]
            refine wpAnyH_done (by kernel_rfl) ?_ _
            try go_wp2_with fail
            go_meet
            exact ⟨_, a2, c2, rfl, rfl, HN12_7, hide HG11, hide (Lies.of_owns OY12.out), HZ12⟩
          exact AllReadyH.nil
        exact AllReadyH.nil
      refine AllReadyH.cons (o := { dst := some 15, op := Op.alloc 27, type := 0, pos := "law.go:117", after := #[], guard := none }) rfl (fun K hK => ?_) ?_
      ·
        go_simp
        have HN13_7 := hide (show (z9.alloc (.cells #[.int .u8 0, .int .u8 0, .int .u16 0, .int .u32 0, .int .u32 0, .slice none 0 0] 27)).heap[z9.heap.size]? = some (.cells #[.int .u8 0, .int .u8 0, .int .u16 0, .int .u32 0, .int .u32 0, .slice none 0 0] 27 (0, 0)) from heap_alloc_new _ _)
        have HG13 : w8.heap.size ≤ z9.heap.size := HZ9.out.size
        have HZ13 : Hid (Below w8.heap.size w8 (z9.alloc (.cells #[.int .u8 0, .int .u8 0, .int .u16 0, .int .u32 0, .int .u32 0, .slice none 0 0] 27))) := hide (HZ9.out.alloc HG13 (.cells #[.int .u8 0, .int .u8 0, .int .u16 0, .int .u32 0, .int .u32 0, .slice none 0 0] 27))
        refine hK.out _ _ (⟨cell_at (below_block HZ13.out HQ.out (Nat.le_refl _)) 0 rfl, cell_at (below_block HZ13.out HQ.out (Nat.le_refl _)) 1 rfl, cell_at (below_block HZ13.out HQ.out (Nat.le_refl _)) 2 rfl, cell_at (below_block HZ13.out HQ.out (Nat.le_refl _)) 3 rfl, cell_at (below_block HZ13.out HQ.out (Nat.le_refl _)) 4 rfl, cell_at (below_block HZ13.out HQ.out (Nat.le_refl _)) 5 rfl, cell_at (below_block HZ13.out HF.out (Nat.le_refl _)) 0 rfl, cell_at (below_block HZ13.out HF.out (Nat.le_refl _)) 1 rfl, cell_at (below_block HZ13.out HF.out (Nat.le_refl _)) 2 rfl, cell_at (below_block HZ13.out HF.out (Nat.le_refl _)) 3 rfl, cell_at (below_block HZ13.out HF.out (Nat.le_refl _)) 4 rfl⟩) (fun hHeld13 => ?_)
        clear hK K
        try simp only [Act.put, List.setIfInBounds_toArray, List.set_cons_zero, List.set_cons_succ]
        refine wpAnyH_ready (rs := [3]) (by kernel_rfl) (by simp) ?_
        refine AllReadyH.cons (o := { dst := some 85, op := Op.call { callee := Callee.value (Operand.func 11), args := #[Operand.tmp 82, Operand.tmp 84], argTypes := #[27, 29] }, type := 32, pos := "law.go:117", after := #[{ on := 0, ground := Ground.data }, { on := 2, ground := Ground.data }, { on := 2, ground := Ground.chain }], guard := none }) rfl (fun K hK => ?_) ?_
        ·
          go_simp
          go_at_call 11
          (with_reducible refine (HRW.out _ a1 c1 (RT1.out.below HZ13.out (Nat.le_refl _))).mono ?_)
          rintro e z14 ⟨a2, c2, rfl, o, b⟩
          have HZ14 := hide (show Below w8.heap.size w8 z14 from HZ13.out.trans (Below.mono b HZ13.out.size))
          have hlt14_7 := hide (lt_of_block HN13_7.out)
          have HN14_7 := hide (below_block b HN13_7.out (by first | exact Nat.le_refl _ | simp))
          have OY14 := hide o
          have neY_7 := hide (own_ne_lt (L := z9.heap.size) o hlt14_7.out)
          clear o
          clear b
          refine hK.out _ _ (⟨cell_at (below_block HZ14.out HQ.out (Nat.le_refl _)) 0 rfl, cell_at (below_block HZ14.out HQ.out (Nat.le_refl _)) 1 rfl, cell_at (below_block HZ14.out HQ.out (Nat.le_refl _)) 2 rfl, cell_at (below_block HZ14.out HQ.out (Nat.le_refl _)) 3 rfl, cell_at (below_block HZ14.out HQ.out (Nat.le_refl _)) 4 rfl, cell_at (below_block HZ14.out HQ.out (Nat.le_refl _)) 5 rfl, cell_at (below_block HZ14.out HF.out (Nat.le_refl _)) 0 rfl, cell_at (below_block HZ14.out HF.out (Nat.le_refl _)) 1 rfl, cell_at (below_block HZ14.out HF.out (Nat.le_refl _)) 2 rfl, cell_at (below_block HZ14.out HF.out (Nat.le_refl _)) 3 rfl, cell_at (below_block HZ14.out HF.out (Nat.le_refl _)) 4 rfl⟩) (fun hHeld14 => ?_)
          clear hK K
          try simp only [Act.put, List.setIfInBounds_toArray, List.set_cons_zero, List.set_cons_succ]
          refine wpAnyH_take (i := 4) (oi := { dst := some 81, op := Op.move (Operand.tmp 85), type := 32, pos := "law.go:117", after := #[{ on := 3, ground := Ground.data }], guard := none }) (v := ?_) rfl (by kernel_rfl) (by kernel_rfl) (by kernel_rfl) (fun _ _ _ h => h) (Or.inl ⟨by rfl, ?_⟩) (by assumption) ?_
          rotate_left
          · intro wS hSw
            try dsimp only at hSw
            go_simp
            try with_reducible rfl
          try simp only [Act.put, List.setIfInBounds_toArray, List.set_cons_zero, List.set_cons_succ]
          refine wpAnyH_take (i := 5) (oi := { dst := some 86, op := Op.extract (Operand.tmp 81) 0, type := 27, pos := "law.go:117", after := #[{ on := 4, ground := Ground.data }], guard := none }) (v := ?_) rfl (by kernel_rfl) (by kernel_rfl) (by kernel_rfl) (fun _ _ _ h => h) (Or.inl ⟨by rfl, ?_⟩) (by assumption) ?_
          rotate_left
          · intro wS hSw
            try dsimp only at hSw
            go_simp
            try with_reducible rfl
          try simp only [Act.put, List.setIfInBounds_toArray, List.set_cons_zero, List.set_cons_succ]
          refine wpAnyH_take (i := 6) (oi := { dst := some 87, op := Op.extract (Operand.tmp 81) 1, type := 31, pos := "law.go:117", after := #[{ on := 4, ground := Ground.data }, { on := 8, ground := Ground.gcOnly Departure.lateStores }], guard := none }) (v := ?_) rfl (by kernel_rfl) (by kernel_rfl) (by kernel_rfl) (fun _ _ _ h => h) (Or.inl ⟨by rfl, ?_⟩) (by assumption) ?_
          rotate_left
          · intro wS hSw
            try dsimp only at hSw
            go_simp
            try with_reducible rfl
          try simp only [Act.put, List.setIfInBounds_toArray, List.set_cons_zero, List.set_cons_succ]
          refine wpAnyH_ready (rs := [8]) (by kernel_rfl) (by simp) ?_
          refine AllReadyH.cons (o := { dst := none, op := Op.store 27 (Operand.tmp 15) (Operand.tmp 86), type := 0, pos := "law.go:117", after := #[{ on := 7, ground := Ground.data }, { on := 5, ground := Ground.data }, { on := 3, ground := Ground.chain }, { on := 0, ground := Ground.phase }, { on := 1, ground := Ground.phase }, { on := 2, ground := Ground.phase }, { on := 3, ground := Ground.phase }, { on := 4, ground := Ground.phase }, { on := 5, ground := Ground.phase }, { on := 6, ground := Ground.textOnly Departure.lateStores }, { on := 7, ground := Ground.phase }], guard := none }) rfl (fun K hK => ?_) ?_
          ·
            rw [if_pos (by rfl)]
            refine wp_store_mid 27 (.tmp 15) (.tmp 86) rfl z9.heap.size 0 #[.int .u8 9, .int .u8 1, .int .u16 0, .int .u32 (s2 : Int), .int .u32 (fs : Int), .slice a2 N8 c2] rfl rfl (there_of HN14_7.out (Nat.le_of_ble_eq_true (by kernel_rfl))) (by kernel_rfl) (by kernel_rfl) ?_
            have hX15 := heap_setCells z9.heap.size 27 (#[.int .u8 9, .int .u8 1, .int .u16 0, .int .u32 (s2 : Int), .int .u32 (fs : Int), .slice a2 N8 c2] : Array Value).toList 0 z14 #[.int .u8 0, .int .u8 0, .int .u16 0, .int .u32 0, .int .u32 0, .slice none 0 0] HN14_7.out
            rw [upd_whole (by rfl)] at hX15
            have HN15_7 := hide hX15
            have hZ15 := below_setCells z9.heap.size HG13 (#[.int .u8 9, .int .u8 1, .int .u16 0, .int .u32 (s2 : Int), .int .u32 (fs : Int), .slice a2 N8 c2] : Array Value).toList 0 _ HZ14.out
            have HZ15 := hide hZ15
            have hgb15 := gb_part HZ14.out hZ15 (fun k hk => setCells_other z9.heap.size _ _ _ k hk) (setCells_size z9.heap.size _ _ _)
            have OY15 := hide (owns_kept OY14.out hgb15 neY_7.out)
            skip
            clear hX15 hZ15 hgb15
            refine hK.out _ _ (⟨cell_at (below_block HZ15.out HQ.out (Nat.le_refl _)) 0 rfl, cell_at (below_block HZ15.out HQ.out (Nat.le_refl _)) 1 rfl, cell_at (below_block HZ15.out HQ.out (Nat.le_refl _)) 2 rfl, cell_at (below_block HZ15.out HQ.out (Nat.le_refl _)) 3 rfl, cell_at (below_block HZ15.out HQ.out (Nat.le_refl _)) 4 rfl, cell_at (below_block HZ15.out HQ.out (Nat.le_refl _)) 5 rfl, cell_at (below_block HZ15.out HF.out (Nat.le_refl _)) 0 rfl, cell_at (below_block HZ15.out HF.out (Nat.le_refl _)) 1 rfl, cell_at (below_block HZ15.out HF.out (Nat.le_refl _)) 2 rfl, cell_at (below_block HZ15.out HF.out (Nat.le_refl _)) 3 rfl, cell_at (below_block HZ15.out HF.out (Nat.le_refl _)) 4 rfl⟩) (fun hHeld15 => ?_)
            clear hK K
            try simp only [Act.put, List.setIfInBounds_toArray, List.set_cons_zero, List.set_cons_succ]
            refine wpAnyH_take (i := 9) (oi := { dst := some 16, op := Op.assign (Operand.tmp 87), type := 31, pos := "law.go:117", after := #[{ on := 6, ground := Ground.data }, { on := 8, ground := Ground.chain }, { on := 0, ground := Ground.phase }, { on := 1, ground := Ground.phase }, { on := 2, ground := Ground.phase }, { on := 3, ground := Ground.phase }, { on := 4, ground := Ground.phase }, { on := 5, ground := Ground.phase }, { on := 6, ground := Ground.phase }, { on := 7, ground := Ground.phase }, { on := 8, ground := Ground.phase }], guard := none }) (v := ?_) rfl (by kernel_rfl) (by kernel_rfl) (by kernel_rfl) (fun _ _ _ h => h) (Or.inl ⟨by rfl, ?_⟩) (by assumption) ?_
            rotate_left
            · intro wS hSw
              try dsimp only at hSw
              go_simp
              try with_reducible rfl
            try simp only [Act.put, List.setIfInBounds_toArray, List.set_cons_zero, List.set_cons_succ]
            refine wpAnyH_done (by kernel_rfl) ?_ _
            try go_wp2_with fail
            go_meet
            exact ⟨_, a2, c2, rfl, rfl, HN15_7, hide HG13, hide (Lies.of_owns OY15.out), HZ15⟩
          exact AllReadyH.nil
        exact AllReadyH.nil
      exact AllReadyH.nil
    refine AllReadyH.cons (o := { dst := some 15, op := Op.alloc 27, type := 0, pos := "law.go:117", after := #[], guard := none }) rfl (fun K hK => ?_) ?_
    ·
      go_simp
      have HN16_7 := hide (show (w8.alloc (.cells #[.int .u8 0, .int .u8 0, .int .u16 0, .int .u32 0, .int .u32 0, .slice none 0 0] 27)).drew.heap[w8.heap.size]? = some (.cells #[.int .u8 0, .int .u8 0, .int .u16 0, .int .u32 0, .int .u32 0, .slice none 0 0] 27 (0, 0)) from heap_alloc_new _ _)
      have HG16 : w8.heap.size ≤ w8.heap.size := HZ0.out.size
      have HZ16 : Hid (Below w8.heap.size w8 (w8.alloc (.cells #[.int .u8 0, .int .u8 0, .int .u16 0, .int .u32 0, .int .u32 0, .slice none 0 0] 27)).drew) := hide (HZ0.out.alloc HG16 (.cells #[.int .u8 0, .int .u8 0, .int .u16 0, .int .u32 0, .int .u32 0, .slice none 0 0] 27))
      refine hK.out _ _ (⟨cell_at (below_block HZ16.out HQ.out (Nat.le_refl _)) 0 rfl, cell_at (below_block HZ16.out HQ.out (Nat.le_refl _)) 1 rfl, cell_at (below_block HZ16.out HQ.out (Nat.le_refl _)) 2 rfl, cell_at (below_block HZ16.out HQ.out (Nat.le_refl _)) 3 rfl, cell_at (below_block HZ16.out HQ.out (Nat.le_refl _)) 4 rfl, cell_at (below_block HZ16.out HQ.out (Nat.le_refl _)) 5 rfl, cell_at (below_block HZ16.out HF.out (Nat.le_refl _)) 0 rfl, cell_at (below_block HZ16.out HF.out (Nat.le_refl _)) 1 rfl, cell_at (below_block HZ16.out HF.out (Nat.le_refl _)) 2 rfl, cell_at (below_block HZ16.out HF.out (Nat.le_refl _)) 3 rfl, cell_at (below_block HZ16.out HF.out (Nat.le_refl _)) 4 rfl⟩) (fun hHeld16 => ?_)
      clear hK K
      try simp only [Act.put, List.setIfInBounds_toArray, List.set_cons_zero, List.set_cons_succ]
      refine wpAnyH_ready (rs := [2]) (by kernel_rfl) (by simp) ?_
      refine AllReadyH.cons (o := { dst := some 84, op := Op.call { callee := Callee.value (Operand.func 17), args := #[Operand.tmp 83], argTypes := #[29] }, type := 29, pos := "law.go:117", after := #[{ on := 1, ground := Ground.data }], guard := none }) rfl (fun K hK => ?_) ?_
      ·
        go_simp
        go_at_call 17
        (with_reducible refine (turnF _ op fs fd ff ft).mono ?_)
        rintro e z17 ⟨rfl, b⟩
        have HZ17 := hide (show Below w8.heap.size w8 z17 from HZ16.out.trans (Below.mono b HZ16.out.size))
        have hlt17_7 := hide (lt_of_block HN16_7.out)
        have HN17_7 := hide (below_block b HN16_7.out (by first | exact Nat.le_refl _ | simp))
        clear b
        refine hK.out _ _ (⟨cell_at (below_block HZ17.out HQ.out (Nat.le_refl _)) 0 rfl, cell_at (below_block HZ17.out HQ.out (Nat.le_refl _)) 1 rfl, cell_at (below_block HZ17.out HQ.out (Nat.le_refl _)) 2 rfl, cell_at (below_block HZ17.out HQ.out (Nat.le_refl _)) 3 rfl, cell_at (below_block HZ17.out HQ.out (Nat.le_refl _)) 4 rfl, cell_at (below_block HZ17.out HQ.out (Nat.le_refl _)) 5 rfl, cell_at (below_block HZ17.out HF.out (Nat.le_refl _)) 0 rfl, cell_at (below_block HZ17.out HF.out (Nat.le_refl _)) 1 rfl, cell_at (below_block HZ17.out HF.out (Nat.le_refl _)) 2 rfl, cell_at (below_block HZ17.out HF.out (Nat.le_refl _)) 3 rfl, cell_at (below_block HZ17.out HF.out (Nat.le_refl _)) 4 rfl⟩) (fun hHeld17 => ?_)
        clear hK K
        try simp only [Act.put, List.setIfInBounds_toArray, List.set_cons_zero, List.set_cons_succ]
        refine wpAnyH_ready (rs := [3]) (by kernel_rfl) (by simp) ?_
        refine AllReadyH.cons (o := { dst := some 85, op := Op.call { callee := Callee.value (Operand.func 11), args := #[Operand.tmp 82, Operand.tmp 84], argTypes := #[27, 29] }, type := 32, pos := "law.go:117", after := #[{ on := 0, ground := Ground.data }, { on := 2, ground := Ground.data }, { on := 2, ground := Ground.chain }], guard := none }) rfl (fun K hK => ?_) ?_
        ·
          go_simp
          go_at_call 11
          (with_reducible refine (HRW.out _ a1 c1 (RT1.out.below HZ17.out (Nat.le_refl _))).mono ?_)
          rintro e z18 ⟨a2, c2, rfl, o, b⟩
          have HZ18 := hide (show Below w8.heap.size w8 z18 from HZ17.out.trans (Below.mono b HZ17.out.size))
          have hlt18_7 := hide (lt_of_block HN17_7.out)
          have HN18_7 := hide (below_block b HN17_7.out (by first | exact Nat.le_refl _ | simp))
          have OY18 := hide o
          have neY_7 := hide (own_ne_lt (L := w8.heap.size) o hlt18_7.out)
          clear o
          clear b
          refine hK.out _ _ (⟨cell_at (below_block HZ18.out HQ.out (Nat.le_refl _)) 0 rfl, cell_at (below_block HZ18.out HQ.out (Nat.le_refl _)) 1 rfl, cell_at (below_block HZ18.out HQ.out (Nat.le_refl _)) 2 rfl, cell_at (below_block HZ18.out HQ.out (Nat.le_refl _)) 3 rfl, cell_at (below_block HZ18.out HQ.out (Nat.le_refl _)) 4 rfl, cell_at (below_block HZ18.out HQ.out (Nat.le_refl _)) 5 rfl, cell_at (below_block HZ18.out HF.out (Nat.le_refl _)) 0 rfl, cell_at (below_block HZ18.out HF.out (Nat.le_refl _)) 1 rfl, cell_at (below_block HZ18.out HF.out (Nat.le_refl _)) 2 rfl, cell_at (below_block HZ18.out HF.out (Nat.le_refl _)) 3 rfl, cell_at (below_block HZ18.out HF.out (Nat.le_refl _)) 4 rfl⟩) (fun hHeld18 => ?_)
          clear hK K
          try simp only [Act.put, List.setIfInBounds_toArray, List.set_cons_zero, List.set_cons_succ]
          refine wpAnyH_take (i := 4) (oi := { dst := some 81, op := Op.move (Operand.tmp 85), type := 32, pos := "law.go:117", after := #[{ on := 3, ground := Ground.data }], guard := none }) (v := ?_) rfl (by kernel_rfl) (by kernel_rfl) (by kernel_rfl) (fun _ _ _ h => h) (Or.inl ⟨by rfl, ?_⟩) (by assumption) ?_
          rotate_left
          · intro wS hSw
            try dsimp only at hSw
            go_simp
            try with_reducible rfl
          try simp only [Act.put, List.setIfInBounds_toArray, List.set_cons_zero, List.set_cons_succ]
          refine wpAnyH_take (i := 5) (oi := { dst := some 86, op := Op.extract (Operand.tmp 81) 0, type := 27, pos := "law.go:117", after := #[{ on := 4, ground := Ground.data }], guard := none }) (v := ?_) rfl (by kernel_rfl) (by kernel_rfl) (by kernel_rfl) (fun _ _ _ h => h) (Or.inl ⟨by rfl, ?_⟩) (by assumption) ?_
          rotate_left
          · intro wS hSw
            try dsimp only at hSw
            go_simp
            try with_reducible rfl
          try simp only [Act.put, List.setIfInBounds_toArray, List.set_cons_zero, List.set_cons_succ]
          refine wpAnyH_take (i := 6) (oi := { dst := some 87, op := Op.extract (Operand.tmp 81) 1, type := 31, pos := "law.go:117", after := #[{ on := 4, ground := Ground.data }, { on := 8, ground := Ground.gcOnly Departure.lateStores }], guard := none }) (v := ?_) rfl (by kernel_rfl) (by kernel_rfl) (by kernel_rfl) (fun _ _ _ h => h) (Or.inl ⟨by rfl, ?_⟩) (by assumption) ?_
          rotate_left
          · intro wS hSw
            try dsimp only at hSw
            go_simp
            try with_reducible rfl
          try simp only [Act.put, List.setIfInBounds_toArray, List.set_cons_zero, List.set_cons_succ]
          refine wpAnyH_ready (rs := [8]) (by kernel_rfl) (by simp) ?_
          refine AllReadyH.cons (o := { dst := none, op := Op.store 27 (Operand.tmp 15) (Operand.tmp 86), type := 0, pos := "law.go:117", after := #[{ on := 7, ground := Ground.data }, { on := 5, ground := Ground.data }, { on := 3, ground := Ground.chain }, { on := 0, ground := Ground.phase }, { on := 1, ground := Ground.phase }, { on := 2, ground := Ground.phase }, { on := 3, ground := Ground.phase }, { on := 4, ground := Ground.phase }, { on := 5, ground := Ground.phase }, { on := 6, ground := Ground.textOnly Departure.lateStores }, { on := 7, ground := Ground.phase }], guard := none }) rfl (fun K hK => ?_) ?_
          ·
            rw [if_pos (by rfl)]
            refine wp_store_mid 27 (.tmp 15) (.tmp 86) rfl w8.heap.size 0 #[.int .u8 9, .int .u8 1, .int .u16 0, .int .u32 (s2 : Int), .int .u32 (fs : Int), .slice a2 N8 c2] rfl rfl (there_of HN18_7.out (Nat.le_of_ble_eq_true (by kernel_rfl))) (by kernel_rfl) (by kernel_rfl) ?_
            have hX19 := heap_setCells w8.heap.size 27 (#[.int .u8 9, .int .u8 1, .int .u16 0, .int .u32 (s2 : Int), .int .u32 (fs : Int), .slice a2 N8 c2] : Array Value).toList 0 z18 #[.int .u8 0, .int .u8 0, .int .u16 0, .int .u32 0, .int .u32 0, .slice none 0 0] HN18_7.out
            rw [upd_whole (by rfl)] at hX19
            have HN19_7 := hide hX19
            have hZ19 := below_setCells w8.heap.size HG16 (#[.int .u8 9, .int .u8 1, .int .u16 0, .int .u32 (s2 : Int), .int .u32 (fs : Int), .slice a2 N8 c2] : Array Value).toList 0 _ HZ18.out
            have HZ19 := hide hZ19
            have hgb19 := gb_part HZ18.out hZ19 (fun k hk => setCells_other w8.heap.size _ _ _ k hk) (setCells_size w8.heap.size _ _ _)
            have OY19 := hide (owns_kept OY18.out hgb19 neY_7.out)
            skip
            clear hX19 hZ19 hgb19
            refine hK.out _ _ (⟨cell_at (below_block HZ19.out HQ.out (Nat.le_refl _)) 0 rfl, cell_at (below_block HZ19.out HQ.out (Nat.le_refl _)) 1 rfl, cell_at (below_block HZ19.out HQ.out (Nat.le_refl _)) 2 rfl, cell_at (below_block HZ19.out HQ.out (Nat.le_refl _)) 3 rfl, cell_at (below_block HZ19.out HQ.out (Nat.le_refl _)) 4 rfl, cell_at (below_block HZ19.out HQ.out (Nat.le_refl _)) 5 rfl, cell_at (below_block HZ19.out HF.out (Nat.le_refl _)) 0 rfl, cell_at (below_block HZ19.out HF.out (Nat.le_refl _)) 1 rfl, cell_at (below_block HZ19.out HF.out (Nat.le_refl _)) 2 rfl, cell_at (below_block HZ19.out HF.out (Nat.le_refl _)) 3 rfl, cell_at (below_block HZ19.out HF.out (Nat.le_refl _)) 4 rfl⟩) (fun hHeld19 => ?_)
            clear hK K
            try simp only [Act.put, List.setIfInBounds_toArray, List.set_cons_zero, List.set_cons_succ]
            refine wpAnyH_take (i := 9) (oi := { dst := some 16, op := Op.assign (Operand.tmp 87), type := 31, pos := "law.go:117", after := #[{ on := 6, ground := Ground.data }, { on := 8, ground := Ground.chain }, { on := 0, ground := Ground.phase }, { on := 1, ground := Ground.phase }, { on := 2, ground := Ground.phase }, { on := 3, ground := Ground.phase }, { on := 4, ground := Ground.phase }, { on := 5, ground := Ground.phase }, { on := 6, ground := Ground.phase }, { on := 7, ground := Ground.phase }, { on := 8, ground := Ground.phase }], guard := none }) (v := ?_) rfl (by kernel_rfl) (by kernel_rfl) (by kernel_rfl) (fun _ _ _ h => h) (Or.inl ⟨by rfl, ?_⟩) (by assumption) ?_
            rotate_left
            · intro wS hSw
              try dsimp only at hSw
              go_simp
              try with_reducible rfl
            try simp only [Act.put, List.setIfInBounds_toArray, List.set_cons_zero, List.set_cons_succ]
            refine wpAnyH_done (by kernel_rfl) ?_ _
            try go_wp2_with fail
            go_meet
            exact ⟨_, a2, c2, rfl, rfl, HN19_7, hide HG16, hide (Lies.of_owns OY19.out), HZ19⟩
          exact AllReadyH.nil
        exact AllReadyH.nil
      exact AllReadyH.nil
    exact AllReadyH.nil
  case rest =>
  obtain ⟨BY, a2, c2, rfl, rfl, HY, NYw, RY1, HBc⟩ := hcut
  obtain ⟨y0, rfl⟩ : ∃ wz, wz = wc := ⟨_, rfl⟩
  have hbc := HBc.out
  have NY := hide (Nat.le_trans HB.out.size NYw.out)
  replace HF := hide (below_block hbc HF.out (Nat.le_refl _))
  replace HO := hide (below_block hbc HO.out (Nat.le_refl _))
  replace HQ := hide (below_block hbc HQ.out (Nat.le_refl _))
  replace RT1 := hide (RT1.out.below hbc (Nat.le_refl _))
  replace HB := hide (HB.out.trans (hbc.mono HB.out.size))
  clear hbc HBc NYw HRW
  clear RT1
  go_wp2_with ((refine ld_whole (o := ⟨some 89, _, _, _, _, _⟩) 27 (.tmp 15) rfl (by rfl) BY rfl #[.int .u8 9, .int .u8 1, .int .u16 0, .int .u32 (s2 : Int), .int .u32 (fs : Int), .slice a2 N8 c2] 27 HY.out Try.underlying27 (by kernel_rfl) ?_; try simp only [Act.put, List.setIfInBounds_toArray, List.set_cons_zero, List.set_cons_succ]))
  refine (HO3.out _ a2 c2 RY1.out).mono ?_
  rintro e w20 ⟨rfl, b⟩
  replace HF := hide (below_block b HF.out (Nat.le_refl _))
  replace HO := hide (below_block b HO.out (Nat.le_refl _))
  replace HQ := hide (below_block b HQ.out (Nat.le_refl _))
  replace HY := hide (below_block b HY.out (Nat.le_refl _))
  replace RY1 := hide (RY1.out.below b (Nat.le_refl _))
  replace HB := hide (HB.out.trans (b.mono HB.out.size))
  clear b 
  clear RY1
  obtain ⟨w21, hwn, wb, HN1⟩ : ∃ W, w20.alloc (.cells #[.int .u8 (op : Int), .int .u32 (fd : Int), .int .u32 (fs : Int), .int .u16 (ft : Int), .int .u16 (ff : Int)] 29) = W ∧ Below w20.heap.size w20 W ∧ Hid (W.heap[w20.heap.size]? = some (.cells #[.int .u8 (op : Int), .int .u32 (fd : Int), .int .u32 (fs : Int), .int .u16 (ft : Int), .int .u16 (ff : Int)] 29 (0, 0))) := ⟨_, rfl, (Below.refl w20.heap.size w20).alloc (Nat.le_refl _) _, hide (heap_alloc_new w20 _)⟩
  obtain ⟨BG, hBn⟩ : ∃ B, w20.heap.size = B := ⟨_, rfl⟩
  rw [hBn] at HN1
  have HW := hide (And.intro hwn hBn)
  have HBo := HB
  have nqF_G := hide (blk_ne HF.out hBn)
  have nqO_G := hide (blk_ne HO.out hBn)
  have nqQ_G := hide (blk_ne HQ.out hBn)
  have nqY_G := hide (blk_ne HY.out hBn)
  clear hwn hBn
  replace HF := hide (below_block wb HF.out (Nat.le_refl _))
  replace HO := hide (below_block wb HO.out (Nat.le_refl _))
  replace HQ := hide (below_block wb HQ.out (Nat.le_refl _))
  replace HY := hide (below_block wb HY.out (Nat.le_refl _))
  replace HB := hide (HB.out.trans (wb.mono HB.out.size))
  have HG := HN1
  have NG := hide (show w.heap.size ≤ BG by rw [← HW.out.2]; exact HBo.out.size)
  clear wb HN1 HBo
  go_upto_region 18 with (fail)
  rw [HW.out.1]
  try rw [HW.out.2]
  clear HW
  have hor : (((s2 : Int) == 77) = true) ∨ (((s2 : Int) == 77) = false ∧ ((od : Int) == 77) = true) := by have := HX7.out; cases h : ((s2 : Int) == 77) <;> simp_all
  have HQT := hide (fun (W : World) (_ : Below w21.heap.size w21 W) => turnF W op fs fd ff ft)
  clear HX7 HO3
  rcases hor with hx1 | ⟨hx1, hx2⟩
  ·
    have HZ0 := hide (show Below w21.heap.size w21 w21.drew from (Below.refl _ _).drew)
    refine wp_region_held_drew (S := fun w' => w'.cell? ⟨BG, 0, none⟩ = some (.int .u8 (op : Int)) ∧ w'.cell? ⟨BG, 1, none⟩ = some (.int .u32 (fd : Int)) ∧ w'.cell? ⟨BG, 2, none⟩ = some (.int .u32 (fs : Int)) ∧ w'.cell? ⟨BG, 3, none⟩ = some (.int .u16 (ft : Int)) ∧ w'.cell? ⟨BG, 4, none⟩ = some (.int .u16 (ff : Int)) ∧ w'.cell? ⟨BF, 0, none⟩ = some (.int .u8 (op : Int)) ∧ w'.cell? ⟨BF, 1, none⟩ = some (.int .u32 (fs : Int)) ∧ w'.cell? ⟨BF, 2, none⟩ = some (.int .u32 (fd : Int)) ∧ w'.cell? ⟨BF, 3, none⟩ = some (.int .u16 (ff : Int)) ∧ w'.cell? ⟨BF, 4, none⟩ = some (.int .u16 (ft : Int)) ∧ w'.cell? ⟨BY, 0, none⟩ = some (.int .u8 9) ∧ w'.cell? ⟨BY, 1, none⟩ = some (.int .u8 1) ∧ w'.cell? ⟨BY, 2, none⟩ = some (.int .u16 0) ∧ w'.cell? ⟨BY, 3, none⟩ = some (.int .u32 (s2 : Int)) ∧ w'.cell? ⟨BY, 4, none⟩ = some (.int .u32 (fs : Int)) ∧ w'.cell? ⟨BY, 5, none⟩ = some (.slice a2 N8 c2) ∧ w'.cell? ⟨BO, 0, none⟩ = some (.int .u8 (op : Int)) ∧ w'.cell? ⟨BO, 1, none⟩ = some (.int .u32 (os : Int)) ∧ w'.cell? ⟨BO, 2, none⟩ = some (.int .u32 (od : Int)) ∧ w'.cell? ⟨BO, 3, none⟩ = some (.int .u16 (of : Int)) ∧ w'.cell? ⟨BO, 4, none⟩ = some (.int .u16 (ot : Int))) (by kernel_rfl) (by exact ⟨cell_at (below_block HZ0.out HG.out (Nat.le_refl _)) 0 rfl, cell_at (below_block HZ0.out HG.out (Nat.le_refl _)) 1 rfl, cell_at (below_block HZ0.out HG.out (Nat.le_refl _)) 2 rfl, cell_at (below_block HZ0.out HG.out (Nat.le_refl _)) 3 rfl, cell_at (below_block HZ0.out HG.out (Nat.le_refl _)) 4 rfl, cell_at (below_block HZ0.out HF.out (Nat.le_refl _)) 0 rfl, cell_at (below_block HZ0.out HF.out (Nat.le_refl _)) 1 rfl, cell_at (below_block HZ0.out HF.out (Nat.le_refl _)) 2 rfl, cell_at (below_block HZ0.out HF.out (Nat.le_refl _)) 3 rfl, cell_at (below_block HZ0.out HF.out (Nat.le_refl _)) 4 rfl, cell_at (below_block HZ0.out HY.out (Nat.le_refl _)) 0 rfl, cell_at (below_block HZ0.out HY.out (Nat.le_refl _)) 1 rfl, cell_at (below_block HZ0.out HY.out (Nat.le_refl _)) 2 rfl, cell_at (below_block HZ0.out HY.out (Nat.le_refl _)) 3 rfl, cell_at (below_block HZ0.out HY.out (Nat.le_refl _)) 4 rfl, cell_at (below_block HZ0.out HY.out (Nat.le_refl _)) 5 rfl, cell_at (below_block HZ0.out HO.out (Nat.le_refl _)) 0 rfl, cell_at (below_block HZ0.out HO.out (Nat.le_refl _)) 1 rfl, cell_at (below_block HZ0.out HO.out (Nat.le_refl _)) 2 rfl, cell_at (below_block HZ0.out HO.out (Nat.le_refl _)) 3 rfl, cell_at (below_block HZ0.out HO.out (Nat.le_refl _)) 4 rfl⟩) (fun hHeld => ?_)
    refine wpAnyH_take (i := 0) (oi := { dst := some 94, op := Op.move (Operand.tmp 16), type := 31, pos := "law.go:119", after := #[], guard := none }) (v := ?_) rfl (by kernel_rfl) (by kernel_rfl) (by kernel_rfl) (fun _ _ _ h => h) (Or.inl ⟨by rfl, ?_⟩) (by assumption) ?_
    rotate_left
    · intro wS hSw
      try dsimp only at hSw
      go_simp
      try with_reducible rfl
    try simp only [Act.put, List.setIfInBounds_toArray, List.set_cons_zero, List.set_cons_succ]
    refine wpAnyH_take (i := 1) (oi := { dst := some 95, op := Op.binOp BinOp.eql 31 (Operand.tmp 94) (Operand.const (Value.int IntKind.i64 0)) 31, type := 4, pos := "law.go:119", after := #[{ on := 0, ground := Ground.data }], guard := none }) (v := ?_) rfl (by kernel_rfl) (by kernel_rfl) (by kernel_rfl) (fun _ _ _ h => h) (Or.inl ⟨by rfl, ?_⟩) (by assumption) ?_
    rotate_left
    · intro wS hSw
      try dsimp only at hSw
      go_simp
      try with_reducible rfl
    try simp only [Act.put, List.setIfInBounds_toArray, List.set_cons_zero, List.set_cons_succ]
    refine wpAnyH_take (i := 2) (oi := { dst := some 96, op := Op.move (Operand.tmp 95), type := 4, pos := "law.go:119", after := #[{ on := 1, ground := Ground.data }], guard := none }) (v := ?_) rfl (by kernel_rfl) (by kernel_rfl) (by kernel_rfl) (fun _ _ _ h => h) (Or.inl ⟨by rfl, ?_⟩) (by assumption) ?_
    rotate_left
    · intro wS hSw
      try dsimp only at hSw
      go_simp
      try with_reducible rfl
    try simp only [Act.put, List.setIfInBounds_toArray, List.set_cons_zero, List.set_cons_succ]
    refine wpAnyH_take (i := 3) (oi := { dst := some 97, op := Op.move (Operand.tmp 19), type := 31, pos := "law.go:119", after := #[{ on := 2, ground := Ground.guard }], guard := some (2, true) }) (v := ?_) rfl (by kernel_rfl) (by kernel_rfl) (by kernel_rfl) (fun _ _ _ h => h) (Or.inl ⟨by rfl, ?_⟩) (by assumption) ?_
    rotate_left
    · intro wS hSw
      try dsimp only at hSw
      go_simp
      try with_reducible rfl
    try simp only [Act.put, List.setIfInBounds_toArray, List.set_cons_zero, List.set_cons_succ]
    refine wpAnyH_take (i := 4) (oi := { dst := some 98, op := Op.binOp BinOp.eql 31 (Operand.tmp 97) (Operand.const (Value.int IntKind.i64 0)) 31, type := 4, pos := "law.go:119", after := #[{ on := 3, ground := Ground.data }, { on := 2, ground := Ground.guard }], guard := some (2, true) }) (v := ?_) rfl (by kernel_rfl) (by kernel_rfl) (by kernel_rfl) (fun _ _ _ h => h) (Or.inl ⟨by rfl, ?_⟩) (by assumption) ?_
    rotate_left
    · intro wS hSw
      try dsimp only at hSw
      go_simp
      try with_reducible rfl
    try simp only [Act.put, List.setIfInBounds_toArray, List.set_cons_zero, List.set_cons_succ]
    refine wpAnyH_take (i := 5) (oi := { dst := some 99, op := Op.pick (Operand.tmp 96) (Operand.tmp 98) (Operand.const (Value.bool false)), type := 4, pos := "law.go:119", after := #[{ on := 2, ground := Ground.data }, { on := 4, ground := Ground.data }], guard := none }) (v := ?_) rfl (by kernel_rfl) (by kernel_rfl) (by kernel_rfl) (fun _ _ _ h => h) (Or.inl ⟨by rfl, ?_⟩) (by assumption) ?_
    rotate_left
    · intro wS hSw
      try dsimp only at hSw
      go_simp
      try with_reducible rfl
    try simp only [Act.put, List.setIfInBounds_toArray, List.set_cons_zero, List.set_cons_succ]
    refine wpAnyH_take (i := 6) (oi := { dst := some 100, op := Op.move (Operand.tmp 99), type := 4, pos := "law.go:119", after := #[{ on := 5, ground := Ground.data }, { on := 2, ground := Ground.chain }], guard := none }) (v := ?_) rfl (by kernel_rfl) (by kernel_rfl) (by kernel_rfl) (fun _ _ _ h => h) (Or.inl ⟨by rfl, ?_⟩) (by assumption) ?_
    rotate_left
    · intro wS hSw
      try dsimp only at hSw
      go_simp
      try with_reducible rfl
    try simp only [Act.put, List.setIfInBounds_toArray, List.set_cons_zero, List.set_cons_succ]
    refine wpAnyH_take (i := 7) (oi := { dst := some 101, op := Op.load 29 (Operand.tmp 17), type := 29, pos := "law.go:119", after := #[{ on := 6, ground := Ground.guard }], guard := some (6, true) }) (v := ?_) rfl (by kernel_rfl) (by kernel_rfl) (by kernel_rfl) (fun _ _ _ h => h) (Or.inl ⟨by rfl, ?_⟩) (by assumption) ?_
    rotate_left
    · intro wS hSw
      try dsimp only at hSw
      go_simp
      try with_reducible rfl
    try simp only [Act.put, List.setIfInBounds_toArray, List.set_cons_zero, List.set_cons_succ]
    refine wpAnyH_take (i := 8) (oi := { dst := some 102, op := Op.load 29 (Operand.tmp 4), type := 29, pos := "law.go:119", after := #[{ on := 6, ground := Ground.guard }], guard := some (6, true) }) (v := ?_) rfl (by kernel_rfl) (by kernel_rfl) (by kernel_rfl) (fun _ _ _ h => h) (Or.inl ⟨by rfl, ?_⟩) (by assumption) ?_
    rotate_left
    · intro wS hSw
      try dsimp only at hSw
      go_simp
      try with_reducible rfl
    try simp only [Act.put, List.setIfInBounds_toArray, List.set_cons_zero, List.set_cons_succ]
    refine wpAnyH_ready (rs := [9]) (by kernel_rfl) (by simp) ?_
    refine AllReadyH.cons (o := { dst := some 103, op := Op.call { callee := Callee.value (Operand.func 17), args := #[Operand.tmp 102], argTypes := #[29] }, type := 29, pos := "law.go:119", after := #[{ on := 8, ground := Ground.data }, { on := 6, ground := Ground.chain }, { on := 6, ground := Ground.guard }], guard := some (6, true) }) rfl (fun K hK => ?_) ?_
    ·
      go_simp
      go_at_call 17
      (with_reducible refine (turnF _ op fs fd ff ft).mono ?_)
      rintro e z22 ⟨rfl, b⟩
      have HZ22 := hide (show Below w21.heap.size w21 z22 from HZ0.out.trans (Below.mono b HZ0.out.size))
      clear b
      refine hK.out _ _ (⟨cell_at (below_block HZ22.out HG.out (Nat.le_refl _)) 0 rfl, cell_at (below_block HZ22.out HG.out (Nat.le_refl _)) 1 rfl, cell_at (below_block HZ22.out HG.out (Nat.le_refl _)) 2 rfl, cell_at (below_block HZ22.out HG.out (Nat.le_refl _)) 3 rfl, cell_at (below_block HZ22.out HG.out (Nat.le_refl _)) 4 rfl, cell_at (below_block HZ22.out HF.out (Nat.le_refl _)) 0 rfl, cell_at (below_block HZ22.out HF.out (Nat.le_refl _)) 1 rfl, cell_at (below_block HZ22.out HF.out (Nat.le_refl _)) 2 rfl, cell_at (below_block HZ22.out HF.out (Nat.le_refl _)) 3 rfl, cell_at (below_block HZ22.out HF.out (Nat.le_refl _)) 4 rfl, cell_at (below_block HZ22.out HY.out (Nat.le_refl _)) 0 rfl, cell_at (below_block HZ22.out HY.out (Nat.le_refl _)) 1 rfl, cell_at (below_block HZ22.out HY.out (Nat.le_refl _)) 2 rfl, cell_at (below_block HZ22.out HY.out (Nat.le_refl _)) 3 rfl, cell_at (below_block HZ22.out HY.out (Nat.le_refl _)) 4 rfl, cell_at (below_block HZ22.out HY.out (Nat.le_refl _)) 5 rfl, cell_at (below_block HZ22.out HO.out (Nat.le_refl _)) 0 rfl, cell_at (below_block HZ22.out HO.out (Nat.le_refl _)) 1 rfl, cell_at (below_block HZ22.out HO.out (Nat.le_refl _)) 2 rfl, cell_at (below_block HZ22.out HO.out (Nat.le_refl _)) 3 rfl, cell_at (below_block HZ22.out HO.out (Nat.le_refl _)) 4 rfl⟩) (fun hHeld22 => ?_)
      clear hK K
      try simp only [Act.put, List.setIfInBounds_toArray, List.set_cons_zero, List.set_cons_succ]
      refine wpAnyH_take (i := 10) (oi := { dst := some 104, op := Op.binOp BinOp.eql 29 (Operand.tmp 101) (Operand.tmp 103) 29, type := 4, pos := "law.go:119", after := #[{ on := 7, ground := Ground.data }, { on := 9, ground := Ground.data }, { on := 6, ground := Ground.guard }], guard := some (6, true) }) (v := ?_) rfl (by kernel_rfl) (by kernel_rfl) (by kernel_rfl) (fun _ _ _ h => h) (Or.inl ⟨by rfl, ?_⟩) (by assumption) ?_
      rotate_left
      · intro wS hSw
        try dsimp only at hSw
        go_simp
        try with_reducible rfl
      try simp only [Act.put, List.setIfInBounds_toArray, List.set_cons_zero, List.set_cons_succ]
      refine wpAnyH_take (i := 11) (oi := { dst := some 105, op := Op.pick (Operand.tmp 100) (Operand.tmp 104) (Operand.const (Value.bool false)), type := 4, pos := "law.go:119", after := #[{ on := 6, ground := Ground.data }, { on := 10, ground := Ground.data }], guard := none }) (v := ?_) rfl (by kernel_rfl) (by kernel_rfl) (by kernel_rfl) (fun _ _ _ h => h) (Or.inl ⟨by rfl, ?_⟩) (by assumption) ?_
      rotate_left
      · intro wS hSw
        try dsimp only at hSw
        go_simp
        try with_reducible rfl
      try simp only [Act.put, List.setIfInBounds_toArray, List.set_cons_zero, List.set_cons_succ]
      refine wpAnyH_take (i := 12) (oi := { dst := some 106, op := Op.move (Operand.tmp 105), type := 4, pos := "law.go:119", after := #[{ on := 11, ground := Ground.data }, { on := 9, ground := Ground.chain }], guard := none }) (v := ?_) rfl (by kernel_rfl) (by kernel_rfl) (by kernel_rfl) (fun _ _ _ h => h) (Or.inl ⟨by rfl, ?_⟩) (by assumption) ?_
      rotate_left
      · intro wS hSw
        try dsimp only at hSw
        go_simp
        try with_reducible rfl
      try simp only [Act.put, List.setIfInBounds_toArray, List.set_cons_zero, List.set_cons_succ]
      refine wpAnyH_take (i := 13) (oi := { dst := some 107, op := Op.fieldAddr 27 (Operand.tmp 15) 4, type := 0, pos := "law.go:119", after := #[{ on := 12, ground := Ground.guard }], guard := some (12, true) }) (v := ?_) rfl (by kernel_rfl) (by kernel_rfl) (by kernel_rfl) (fun _ _ _ h => h) (Or.inl ⟨by rfl, ?_⟩) (by assumption) ?_
      rotate_left
      · intro wS hSw
        try dsimp only at hSw
        go_simp
        try with_reducible rfl
      try simp only [Act.put, List.setIfInBounds_toArray, List.set_cons_zero, List.set_cons_succ]
      refine wpAnyH_take (i := 14) (oi := { dst := some 108, op := Op.load 24 (Operand.tmp 107), type := 24, pos := "law.go:119", after := #[{ on := 13, ground := Ground.data }, { on := 12, ground := Ground.guard }], guard := some (12, true) }) (v := ?_) rfl (by kernel_rfl) (by kernel_rfl) (by kernel_rfl) (fun _ _ _ h => h) (Or.inl ⟨by rfl, ?_⟩) (by assumption) ?_
      rotate_left
      · intro wS hSw
        try dsimp only at hSw
        go_simp
        try with_reducible rfl
      try simp only [Act.put, List.setIfInBounds_toArray, List.set_cons_zero, List.set_cons_succ]
      refine wpAnyH_take (i := 15) (oi := { dst := some 109, op := Op.fieldAddr 29 (Operand.tmp 4) 1, type := 0, pos := "law.go:119", after := #[{ on := 12, ground := Ground.guard }], guard := some (12, true) }) (v := ?_) rfl (by kernel_rfl) (by kernel_rfl) (by kernel_rfl) (fun _ _ _ h => h) (Or.inl ⟨by rfl, ?_⟩) (by assumption) ?_
      rotate_left
      · intro wS hSw
        try dsimp only at hSw
        go_simp
        try with_reducible rfl
      try simp only [Act.put, List.setIfInBounds_toArray, List.set_cons_zero, List.set_cons_succ]
      refine wpAnyH_take (i := 16) (oi := { dst := some 110, op := Op.load 24 (Operand.tmp 109), type := 24, pos := "law.go:119", after := #[{ on := 15, ground := Ground.data }, { on := 12, ground := Ground.guard }], guard := some (12, true) }) (v := ?_) rfl (by kernel_rfl) (by kernel_rfl) (by kernel_rfl) (fun _ _ _ h => h) (Or.inl ⟨by rfl, ?_⟩) (by assumption) ?_
      rotate_left
      · intro wS hSw
        try dsimp only at hSw
        go_simp
        try with_reducible rfl
      try simp only [Act.put, List.setIfInBounds_toArray, List.set_cons_zero, List.set_cons_succ]
      refine wpAnyH_take (i := 17) (oi := { dst := some 111, op := Op.binOp BinOp.eql 24 (Operand.tmp 108) (Operand.tmp 110) 24, type := 4, pos := "law.go:119", after := #[{ on := 14, ground := Ground.data }, { on := 16, ground := Ground.data }, { on := 12, ground := Ground.guard }], guard := some (12, true) }) (v := ?_) rfl (by kernel_rfl) (by kernel_rfl) (by kernel_rfl) (fun _ _ _ h => h) (Or.inl ⟨by rfl, ?_⟩) (by assumption) ?_
      rotate_left
      · intro wS hSw
        try dsimp only at hSw
        go_simp
        try with_reducible rfl
      try simp only [Act.put, List.setIfInBounds_toArray, List.set_cons_zero, List.set_cons_succ]
      refine wpAnyH_take (i := 18) (oi := { dst := some 112, op := Op.pick (Operand.tmp 106) (Operand.tmp 111) (Operand.const (Value.bool false)), type := 4, pos := "law.go:119", after := #[{ on := 12, ground := Ground.data }, { on := 17, ground := Ground.data }], guard := none }) (v := ?_) rfl (by kernel_rfl) (by kernel_rfl) (by kernel_rfl) (fun _ _ _ h => h) (Or.inl ⟨by rfl, ?_⟩) (by assumption) ?_
      rotate_left
      · intro wS hSw
        try dsimp only at hSw
        go_simp
        try with_reducible rfl
      try simp only [Act.put, List.setIfInBounds_toArray, List.set_cons_zero, List.set_cons_succ]
      refine wpAnyH_take (i := 19) (oi := { dst := some 113, op := Op.move (Operand.tmp 112), type := 4, pos := "law.go:119", after := #[{ on := 18, ground := Ground.data }, { on := 12, ground := Ground.chain }], guard := none }) (v := ?_) rfl (by kernel_rfl) (by kernel_rfl) (by kernel_rfl) (fun _ _ _ h => h) (Or.inl ⟨by rfl, ?_⟩) (by assumption) ?_
      rotate_left
      · intro wS hSw
        try dsimp only at hSw
        go_simp
        try with_reducible rfl
      try simp only [Act.put, List.setIfInBounds_toArray, List.set_cons_zero, List.set_cons_succ]
      refine wpAnyH_take (i := 20) (oi := { dst := some 114, op := Op.fieldAddr 27 (Operand.tmp 15) 3, type := 0, pos := "law.go:119", after := #[{ on := 19, ground := Ground.guard }], guard := some (19, true) }) (v := ?_) rfl (by kernel_rfl) (by kernel_rfl) (by kernel_rfl) (fun _ _ _ h => h) (Or.inl ⟨by rfl, ?_⟩) (by assumption) ?_
      rotate_left
      · intro wS hSw
        try dsimp only at hSw
        go_simp
        try with_reducible rfl
      try simp only [Act.put, List.setIfInBounds_toArray, List.set_cons_zero, List.set_cons_succ]
      refine wpAnyH_take (i := 21) (oi := { dst := some 115, op := Op.load 24 (Operand.tmp 114), type := 24, pos := "law.go:119", after := #[{ on := 20, ground := Ground.data }, { on := 19, ground := Ground.guard }], guard := some (19, true) }) (v := ?_) rfl (by kernel_rfl) (by kernel_rfl) (by kernel_rfl) (fun _ _ _ h => h) (Or.inl ⟨by rfl, ?_⟩) (by assumption) ?_
      rotate_left
      · intro wS hSw
        try dsimp only at hSw
        go_simp
        try with_reducible rfl
      try simp only [Act.put, List.setIfInBounds_toArray, List.set_cons_zero, List.set_cons_succ]
      refine wpAnyH_take (i := 22) (oi := { dst := some 116, op := Op.binOp BinOp.eql 24 (Operand.tmp 115) (Operand.const (Value.int IntKind.u32 77)) 24, type := 4, pos := "law.go:119", after := #[{ on := 21, ground := Ground.data }, { on := 19, ground := Ground.guard }], guard := some (19, true) }) (v := ?_) rfl (by kernel_rfl) (by kernel_rfl) (by kernel_rfl) (fun _ _ _ h => h) (Or.inl ⟨by rfl, ?_⟩) (by assumption) ?_
      rotate_left
      · intro wS hSw
        try dsimp only at hSw
        go_simp
        try with_reducible rfl
      try simp only [Act.put, List.setIfInBounds_toArray, List.set_cons_zero, List.set_cons_succ]
      refine wpAnyH_take (i := 23) (oi := { dst := some 117, op := Op.move (Operand.tmp 116), type := 4, pos := "law.go:119", after := #[{ on := 22, ground := Ground.data }, { on := 19, ground := Ground.chain }, { on := 19, ground := Ground.guard }], guard := some (19, true) }) (v := ?_) rfl (by kernel_rfl) (by kernel_rfl) (by kernel_rfl) (fun _ _ _ h => h) (Or.inl ⟨by rfl, ?_⟩) (by assumption) ?_
      rotate_left
      · intro wS hSw
        try dsimp only at hSw
        go_simp
        try with_reducible rfl
      try simp only [Act.put, List.setIfInBounds_toArray, List.set_cons_zero, List.set_cons_succ]
      refine wpAnyH_take (i := 24) (oi := { dst := some 118, op := Op.fieldAddr 29 (Operand.tmp 7) 2, type := 0, pos := "law.go:119", after := #[{ on := 23, ground := Ground.guard }], guard := some (23, false) }) (v := undef) rfl (by kernel_rfl) (by kernel_rfl) (by kernel_rfl) (fun _ _ _ h => h) (Or.inr ⟨by rfl, rfl⟩) (by assumption) ?_
      try simp only [Act.put, List.setIfInBounds_toArray, List.set_cons_zero, List.set_cons_succ]
      refine wpAnyH_take (i := 25) (oi := { dst := some 119, op := Op.load 24 (Operand.tmp 118), type := 24, pos := "law.go:119", after := #[{ on := 24, ground := Ground.data }, { on := 23, ground := Ground.guard }], guard := some (23, false) }) (v := undef) rfl (by kernel_rfl) (by kernel_rfl) (by kernel_rfl) (fun _ _ _ h => h) (Or.inr ⟨by rfl, rfl⟩) (by assumption) ?_
      try simp only [Act.put, List.setIfInBounds_toArray, List.set_cons_zero, List.set_cons_succ]
      refine wpAnyH_take (i := 26) (oi := { dst := some 120, op := Op.binOp BinOp.eql 24 (Operand.tmp 119) (Operand.const (Value.int IntKind.u32 77)) 24, type := 4, pos := "law.go:119", after := #[{ on := 25, ground := Ground.data }, { on := 23, ground := Ground.guard }], guard := some (23, false) }) (v := undef) rfl (by kernel_rfl) (by kernel_rfl) (by kernel_rfl) (fun _ _ _ h => h) (Or.inr ⟨by rfl, rfl⟩) (by assumption) ?_
      try simp only [Act.put, List.setIfInBounds_toArray, List.set_cons_zero, List.set_cons_succ]
      refine wpAnyH_take (i := 27) (oi := { dst := some 121, op := Op.pick (Operand.tmp 117) (Operand.const (Value.bool true)) (Operand.tmp 120), type := 4, pos := "law.go:119", after := #[{ on := 23, ground := Ground.data }, { on := 26, ground := Ground.data }, { on := 19, ground := Ground.guard }], guard := some (19, true) }) (v := ?_) rfl (by kernel_rfl) (by kernel_rfl) (by kernel_rfl) (fun _ _ _ h => h) (Or.inl ⟨by rfl, ?_⟩) (by assumption) ?_
      rotate_left
      · intro wS hSw
        try dsimp only at hSw
        go_simp
        try with_reducible rfl
      try simp only [Act.put, List.setIfInBounds_toArray, List.set_cons_zero, List.set_cons_succ]
      refine wpAnyH_take (i := 28) (oi := { dst := some 122, op := Op.pick (Operand.tmp 113) (Operand.tmp 121) (Operand.const (Value.bool false)), type := 4, pos := "law.go:119", after := #[{ on := 19, ground := Ground.data }, { on := 27, ground := Ground.data }], guard := none }) (v := ?_) rfl (by kernel_rfl) (by kernel_rfl) (by kernel_rfl) (fun _ _ _ h => h) (Or.inl ⟨by rfl, ?_⟩) (by assumption) ?_
      rotate_left
      · intro wS hSw
        try dsimp only at hSw
        go_simp
        try with_reducible rfl
      try simp only [Act.put, List.setIfInBounds_toArray, List.set_cons_zero, List.set_cons_succ]
      refine wpAnyH_take (i := 29) (oi := { dst := some 6, op := Op.assign (Operand.tmp 122), type := 4, pos := "law.go:119", after := #[{ on := 28, ground := Ground.data }, { on := 23, ground := Ground.chain }, { on := 0, ground := Ground.phase }, { on := 1, ground := Ground.phase }, { on := 2, ground := Ground.phase }, { on := 3, ground := Ground.phase }, { on := 4, ground := Ground.phase }, { on := 5, ground := Ground.phase }, { on := 6, ground := Ground.phase }, { on := 7, ground := Ground.phase }, { on := 8, ground := Ground.phase }, { on := 9, ground := Ground.phase }, { on := 10, ground := Ground.phase }, { on := 11, ground := Ground.phase }, { on := 12, ground := Ground.phase }, { on := 13, ground := Ground.phase }, { on := 14, ground := Ground.phase }, { on := 15, ground := Ground.phase }, { on := 16, ground := Ground.phase }, { on := 17, ground := Ground.phase }, { on := 18, ground := Ground.phase }, { on := 19, ground := Ground.phase }, { on := 20, ground := Ground.phase }, { on := 21, ground := Ground.phase }, { on := 22, ground := Ground.phase }, { on := 23, ground := Ground.phase }, { on := 24, ground := Ground.phase }, { on := 25, ground := Ground.phase }, { on := 26, ground := Ground.phase }, { on := 27, ground := Ground.phase }, { on := 28, ground := Ground.phase }], guard := none }) (v := ?_) rfl (by kernel_rfl) (by kernel_rfl) (by kernel_rfl) (fun _ _ _ h => h) (Or.inl ⟨by rfl, ?_⟩) (by assumption) ?_
      rotate_left
      · intro wS hSw
        try dsimp only at hSw
        go_simp
        try with_reducible rfl
      try simp only [Act.put, List.setIfInBounds_toArray, List.set_cons_zero, List.set_cons_succ]
      refine wpAnyH_done (by kernel_rfl) ?_ _
      try go_wp2_with fail
      go_ret
      exact ⟨by simp, HB.out.trans (HZ22.out.mono HB.out.size)⟩
    exact AllReadyH.nil
  ·
    have HZ0 := hide (show Below w21.heap.size w21 w21.drew from (Below.refl _ _).drew)
    refine wp_region_held_drew (S := fun w' => w'.cell? ⟨BG, 0, none⟩ = some (.int .u8 (op : Int)) ∧ w'.cell? ⟨BG, 1, none⟩ = some (.int .u32 (fd : Int)) ∧ w'.cell? ⟨BG, 2, none⟩ = some (.int .u32 (fs : Int)) ∧ w'.cell? ⟨BG, 3, none⟩ = some (.int .u16 (ft : Int)) ∧ w'.cell? ⟨BG, 4, none⟩ = some (.int .u16 (ff : Int)) ∧ w'.cell? ⟨BF, 0, none⟩ = some (.int .u8 (op : Int)) ∧ w'.cell? ⟨BF, 1, none⟩ = some (.int .u32 (fs : Int)) ∧ w'.cell? ⟨BF, 2, none⟩ = some (.int .u32 (fd : Int)) ∧ w'.cell? ⟨BF, 3, none⟩ = some (.int .u16 (ff : Int)) ∧ w'.cell? ⟨BF, 4, none⟩ = some (.int .u16 (ft : Int)) ∧ w'.cell? ⟨BY, 0, none⟩ = some (.int .u8 9) ∧ w'.cell? ⟨BY, 1, none⟩ = some (.int .u8 1) ∧ w'.cell? ⟨BY, 2, none⟩ = some (.int .u16 0) ∧ w'.cell? ⟨BY, 3, none⟩ = some (.int .u32 (s2 : Int)) ∧ w'.cell? ⟨BY, 4, none⟩ = some (.int .u32 (fs : Int)) ∧ w'.cell? ⟨BY, 5, none⟩ = some (.slice a2 N8 c2) ∧ w'.cell? ⟨BO, 0, none⟩ = some (.int .u8 (op : Int)) ∧ w'.cell? ⟨BO, 1, none⟩ = some (.int .u32 (os : Int)) ∧ w'.cell? ⟨BO, 2, none⟩ = some (.int .u32 (od : Int)) ∧ w'.cell? ⟨BO, 3, none⟩ = some (.int .u16 (of : Int)) ∧ w'.cell? ⟨BO, 4, none⟩ = some (.int .u16 (ot : Int))) (by kernel_rfl) (by exact ⟨cell_at (below_block HZ0.out HG.out (Nat.le_refl _)) 0 rfl, cell_at (below_block HZ0.out HG.out (Nat.le_refl _)) 1 rfl, cell_at (below_block HZ0.out HG.out (Nat.le_refl _)) 2 rfl, cell_at (below_block HZ0.out HG.out (Nat.le_refl _)) 3 rfl, cell_at (below_block HZ0.out HG.out (Nat.le_refl _)) 4 rfl, cell_at (below_block HZ0.out HF.out (Nat.le_refl _)) 0 rfl, cell_at (below_block HZ0.out HF.out (Nat.le_refl _)) 1 rfl, cell_at (below_block HZ0.out HF.out (Nat.le_refl _)) 2 rfl, cell_at (below_block HZ0.out HF.out (Nat.le_refl _)) 3 rfl, cell_at (below_block HZ0.out HF.out (Nat.le_refl _)) 4 rfl, cell_at (below_block HZ0.out HY.out (Nat.le_refl _)) 0 rfl, cell_at (below_block HZ0.out HY.out (Nat.le_refl _)) 1 rfl, cell_at (below_block HZ0.out HY.out (Nat.le_refl _)) 2 rfl, cell_at (below_block HZ0.out HY.out (Nat.le_refl _)) 3 rfl, cell_at (below_block HZ0.out HY.out (Nat.le_refl _)) 4 rfl, cell_at (below_block HZ0.out HY.out (Nat.le_refl _)) 5 rfl, cell_at (below_block HZ0.out HO.out (Nat.le_refl _)) 0 rfl, cell_at (below_block HZ0.out HO.out (Nat.le_refl _)) 1 rfl, cell_at (below_block HZ0.out HO.out (Nat.le_refl _)) 2 rfl, cell_at (below_block HZ0.out HO.out (Nat.le_refl _)) 3 rfl, cell_at (below_block HZ0.out HO.out (Nat.le_refl _)) 4 rfl⟩) (fun hHeld => ?_)
    refine wpAnyH_take (i := 0) (oi := { dst := some 94, op := Op.move (Operand.tmp 16), type := 31, pos := "law.go:119", after := #[], guard := none }) (v := ?_) rfl (by kernel_rfl) (by kernel_rfl) (by kernel_rfl) (fun _ _ _ h => h) (Or.inl ⟨by rfl, ?_⟩) (by assumption) ?_
    rotate_left
    · intro wS hSw
      try dsimp only at hSw
      go_simp
      try with_reducible rfl
    try simp only [Act.put, List.setIfInBounds_toArray, List.set_cons_zero, List.set_cons_succ]
    refine wpAnyH_take (i := 1) (oi := { dst := some 95, op := Op.binOp BinOp.eql 31 (Operand.tmp 94) (Operand.const (Value.int IntKind.i64 0)) 31, type := 4, pos := "law.go:119", after := #[{ on := 0, ground := Ground.data }], guard := none }) (v := ?_) rfl (by kernel_rfl) (by kernel_rfl) (by kernel_rfl) (fun _ _ _ h => h) (Or.inl ⟨by rfl, ?_⟩) (by assumption) ?_
    rotate_left
    · intro wS hSw
      try dsimp only at hSw
      go_simp
      try with_reducible rfl
    try simp only [Act.put, List.setIfInBounds_toArray, List.set_cons_zero, List.set_cons_succ]
    refine wpAnyH_take (i := 2) (oi := { dst := some 96, op := Op.move (Operand.tmp 95), type := 4, pos := "law.go:119", after := #[{ on := 1, ground := Ground.data }], guard := none }) (v := ?_) rfl (by kernel_rfl) (by kernel_rfl) (by kernel_rfl) (fun _ _ _ h => h) (Or.inl ⟨by rfl, ?_⟩) (by assumption) ?_
    rotate_left
    · intro wS hSw
      try dsimp only at hSw
      go_simp
      try with_reducible rfl
    try simp only [Act.put, List.setIfInBounds_toArray, List.set_cons_zero, List.set_cons_succ]
    refine wpAnyH_take (i := 3) (oi := { dst := some 97, op := Op.move (Operand.tmp 19), type := 31, pos := "law.go:119", after := #[{ on := 2, ground := Ground.guard }], guard := some (2, true) }) (v := ?_) rfl (by kernel_rfl) (by kernel_rfl) (by kernel_rfl) (fun _ _ _ h => h) (Or.inl ⟨by rfl, ?_⟩) (by assumption) ?_
    rotate_left
    · intro wS hSw
      try dsimp only at hSw
      go_simp
      try with_reducible rfl
    try simp only [Act.put, List.setIfInBounds_toArray, List.set_cons_zero, List.set_cons_succ]
    refine wpAnyH_take (i := 4) (oi := { dst := some 98, op := Op.binOp BinOp.eql 31 (Operand.tmp 97) (Operand.const (Value.int IntKind.i64 0)) 31, type := 4, pos := "law.go:119", after := #[{ on := 3, ground := Ground.data }, { on := 2, ground := Ground.guard }], guard := some (2, true) }) (v := ?_) rfl (by kernel_rfl) (by kernel_rfl) (by kernel_rfl) (fun _ _ _ h => h) (Or.inl ⟨by rfl, ?_⟩) (by assumption) ?_
    rotate_left
    · intro wS hSw
      try dsimp only at hSw
      go_simp
      try with_reducible rfl
    try simp only [Act.put, List.setIfInBounds_toArray, List.set_cons_zero, List.set_cons_succ]
    refine wpAnyH_take (i := 5) (oi := { dst := some 99, op := Op.pick (Operand.tmp 96) (Operand.tmp 98) (Operand.const (Value.bool false)), type := 4, pos := "law.go:119", after := #[{ on := 2, ground := Ground.data }, { on := 4, ground := Ground.data }], guard := none }) (v := ?_) rfl (by kernel_rfl) (by kernel_rfl) (by kernel_rfl) (fun _ _ _ h => h) (Or.inl ⟨by rfl, ?_⟩) (by assumption) ?_
    rotate_left
    · intro wS hSw
      try dsimp only at hSw
      go_simp
      try with_reducible rfl
    try simp only [Act.put, List.setIfInBounds_toArray, List.set_cons_zero, List.set_cons_succ]
    refine wpAnyH_take (i := 6) (oi := { dst := some 100, op := Op.move (Operand.tmp 99), type := 4, pos := "law.go:119", after := #[{ on := 5, ground := Ground.data }, { on := 2, ground := Ground.chain }], guard := none }) (v := ?_) rfl (by kernel_rfl) (by kernel_rfl) (by kernel_rfl) (fun _ _ _ h => h) (Or.inl ⟨by rfl, ?_⟩) (by assumption) ?_
    rotate_left
    · intro wS hSw
      try dsimp only at hSw
      go_simp
      try with_reducible rfl
    try simp only [Act.put, List.setIfInBounds_toArray, List.set_cons_zero, List.set_cons_succ]
    refine wpAnyH_take (i := 7) (oi := { dst := some 101, op := Op.load 29 (Operand.tmp 17), type := 29, pos := "law.go:119", after := #[{ on := 6, ground := Ground.guard }], guard := some (6, true) }) (v := ?_) rfl (by kernel_rfl) (by kernel_rfl) (by kernel_rfl) (fun _ _ _ h => h) (Or.inl ⟨by rfl, ?_⟩) (by assumption) ?_
    rotate_left
    · intro wS hSw
      try dsimp only at hSw
      go_simp
      try with_reducible rfl
    try simp only [Act.put, List.setIfInBounds_toArray, List.set_cons_zero, List.set_cons_succ]
    refine wpAnyH_take (i := 8) (oi := { dst := some 102, op := Op.load 29 (Operand.tmp 4), type := 29, pos := "law.go:119", after := #[{ on := 6, ground := Ground.guard }], guard := some (6, true) }) (v := ?_) rfl (by kernel_rfl) (by kernel_rfl) (by kernel_rfl) (fun _ _ _ h => h) (Or.inl ⟨by rfl, ?_⟩) (by assumption) ?_
    rotate_left
    · intro wS hSw
      try dsimp only at hSw
      go_simp
      try with_reducible rfl
    try simp only [Act.put, List.setIfInBounds_toArray, List.set_cons_zero, List.set_cons_succ]
    refine wpAnyH_ready (rs := [9]) (by kernel_rfl) (by simp) ?_
    refine AllReadyH.cons (o := { dst := some 103, op := Op.call { callee := Callee.value (Operand.func 17), args := #[Operand.tmp 102], argTypes := #[29] }, type := 29, pos := "law.go:119", after := #[{ on := 8, ground := Ground.data }, { on := 6, ground := Ground.chain }, { on := 6, ground := Ground.guard }], guard := some (6, true) }) rfl (fun K hK => ?_) ?_
    ·
      go_simp
      go_at_call 17
      (with_reducible refine (turnF _ op fs fd ff ft).mono ?_)
      rintro e z23 ⟨rfl, b⟩
      have HZ23 := hide (show Below w21.heap.size w21 z23 from HZ0.out.trans (Below.mono b HZ0.out.size))
      clear b
      refine hK.out _ _ (⟨cell_at (below_block HZ23.out HG.out (Nat.le_refl _)) 0 rfl, cell_at (below_block HZ23.out HG.out (Nat.le_refl _)) 1 rfl, cell_at (below_block HZ23.out HG.out (Nat.le_refl _)) 2 rfl, cell_at (below_block HZ23.out HG.out (Nat.le_refl _)) 3 rfl, cell_at (below_block HZ23.out HG.out (Nat.le_refl _)) 4 rfl, cell_at (below_block HZ23.out HF.out (Nat.le_refl _)) 0 rfl, cell_at (below_block HZ23.out HF.out (Nat.le_refl _)) 1 rfl, cell_at (below_block HZ23.out HF.out (Nat.le_refl _)) 2 rfl, cell_at (below_block HZ23.out HF.out (Nat.le_refl _)) 3 rfl, cell_at (below_block HZ23.out HF.out (Nat.le_refl _)) 4 rfl, cell_at (below_block HZ23.out HY.out (Nat.le_refl _)) 0 rfl, cell_at (below_block HZ23.out HY.out (Nat.le_refl _)) 1 rfl, cell_at (below_block HZ23.out HY.out (Nat.le_refl _)) 2 rfl, cell_at (below_block HZ23.out HY.out (Nat.le_refl _)) 3 rfl, cell_at (below_block HZ23.out HY.out (Nat.le_refl _)) 4 rfl, cell_at (below_block HZ23.out HY.out (Nat.le_refl _)) 5 rfl, cell_at (below_block HZ23.out HO.out (Nat.le_refl _)) 0 rfl, cell_at (below_block HZ23.out HO.out (Nat.le_refl _)) 1 rfl, cell_at (below_block HZ23.out HO.out (Nat.le_refl _)) 2 rfl, cell_at (below_block HZ23.out HO.out (Nat.le_refl _)) 3 rfl, cell_at (below_block HZ23.out HO.out (Nat.le_refl _)) 4 rfl⟩) (fun hHeld23 => ?_)
      clear hK K
      try simp only [Act.put, List.setIfInBounds_toArray, List.set_cons_zero, List.set_cons_succ]
      refine wpAnyH_take (i := 10) (oi := { dst := some 104, op := Op.binOp BinOp.eql 29 (Operand.tmp 101) (Operand.tmp 103) 29, type := 4, pos := "law.go:119", after := #[{ on := 7, ground := Ground.data }, { on := 9, ground := Ground.data }, { on := 6, ground := Ground.guard }], guard := some (6, true) }) (v := ?_) rfl (by kernel_rfl) (by kernel_rfl) (by kernel_rfl) (fun _ _ _ h => h) (Or.inl ⟨by rfl, ?_⟩) (by assumption) ?_
      rotate_left
      · intro wS hSw
        try dsimp only at hSw
        go_simp
        try with_reducible rfl
      try simp only [Act.put, List.setIfInBounds_toArray, List.set_cons_zero, List.set_cons_succ]
      refine wpAnyH_take (i := 11) (oi := { dst := some 105, op := Op.pick (Operand.tmp 100) (Operand.tmp 104) (Operand.const (Value.bool false)), type := 4, pos := "law.go:119", after := #[{ on := 6, ground := Ground.data }, { on := 10, ground := Ground.data }], guard := none }) (v := ?_) rfl (by kernel_rfl) (by kernel_rfl) (by kernel_rfl) (fun _ _ _ h => h) (Or.inl ⟨by rfl, ?_⟩) (by assumption) ?_
      rotate_left
      · intro wS hSw
        try dsimp only at hSw
        go_simp
        try with_reducible rfl
      try simp only [Act.put, List.setIfInBounds_toArray, List.set_cons_zero, List.set_cons_succ]
      refine wpAnyH_take (i := 12) (oi := { dst := some 106, op := Op.move (Operand.tmp 105), type := 4, pos := "law.go:119", after := #[{ on := 11, ground := Ground.data }, { on := 9, ground := Ground.chain }], guard := none }) (v := ?_) rfl (by kernel_rfl) (by kernel_rfl) (by kernel_rfl) (fun _ _ _ h => h) (Or.inl ⟨by rfl, ?_⟩) (by assumption) ?_
      rotate_left
      · intro wS hSw
        try dsimp only at hSw
        go_simp
        try with_reducible rfl
      try simp only [Act.put, List.setIfInBounds_toArray, List.set_cons_zero, List.set_cons_succ]
      refine wpAnyH_take (i := 13) (oi := { dst := some 107, op := Op.fieldAddr 27 (Operand.tmp 15) 4, type := 0, pos := "law.go:119", after := #[{ on := 12, ground := Ground.guard }], guard := some (12, true) }) (v := ?_) rfl (by kernel_rfl) (by kernel_rfl) (by kernel_rfl) (fun _ _ _ h => h) (Or.inl ⟨by rfl, ?_⟩) (by assumption) ?_
      rotate_left
      · intro wS hSw
        try dsimp only at hSw
        go_simp
        try with_reducible rfl
      try simp only [Act.put, List.setIfInBounds_toArray, List.set_cons_zero, List.set_cons_succ]
      refine wpAnyH_take (i := 14) (oi := { dst := some 108, op := Op.load 24 (Operand.tmp 107), type := 24, pos := "law.go:119", after := #[{ on := 13, ground := Ground.data }, { on := 12, ground := Ground.guard }], guard := some (12, true) }) (v := ?_) rfl (by kernel_rfl) (by kernel_rfl) (by kernel_rfl) (fun _ _ _ h => h) (Or.inl ⟨by rfl, ?_⟩) (by assumption) ?_
      rotate_left
      · intro wS hSw
        try dsimp only at hSw
        go_simp
        try with_reducible rfl
      try simp only [Act.put, List.setIfInBounds_toArray, List.set_cons_zero, List.set_cons_succ]
      refine wpAnyH_take (i := 15) (oi := { dst := some 109, op := Op.fieldAddr 29 (Operand.tmp 4) 1, type := 0, pos := "law.go:119", after := #[{ on := 12, ground := Ground.guard }], guard := some (12, true) }) (v := ?_) rfl (by kernel_rfl) (by kernel_rfl) (by kernel_rfl) (fun _ _ _ h => h) (Or.inl ⟨by rfl, ?_⟩) (by assumption) ?_
      rotate_left
      · intro wS hSw
        try dsimp only at hSw
        go_simp
        try with_reducible rfl
      try simp only [Act.put, List.setIfInBounds_toArray, List.set_cons_zero, List.set_cons_succ]
      refine wpAnyH_take (i := 16) (oi := { dst := some 110, op := Op.load 24 (Operand.tmp 109), type := 24, pos := "law.go:119", after := #[{ on := 15, ground := Ground.data }, { on := 12, ground := Ground.guard }], guard := some (12, true) }) (v := ?_) rfl (by kernel_rfl) (by kernel_rfl) (by kernel_rfl) (fun _ _ _ h => h) (Or.inl ⟨by rfl, ?_⟩) (by assumption) ?_
      rotate_left
      · intro wS hSw
        try dsimp only at hSw
        go_simp
        try with_reducible rfl
      try simp only [Act.put, List.setIfInBounds_toArray, List.set_cons_zero, List.set_cons_succ]
      refine wpAnyH_take (i := 17) (oi := { dst := some 111, op := Op.binOp BinOp.eql 24 (Operand.tmp 108) (Operand.tmp 110) 24, type := 4, pos := "law.go:119", after := #[{ on := 14, ground := Ground.data }, { on := 16, ground := Ground.data }, { on := 12, ground := Ground.guard }], guard := some (12, true) }) (v := ?_) rfl (by kernel_rfl) (by kernel_rfl) (by kernel_rfl) (fun _ _ _ h => h) (Or.inl ⟨by rfl, ?_⟩) (by assumption) ?_
      rotate_left
      · intro wS hSw
        try dsimp only at hSw
        go_simp
        try with_reducible rfl
      try simp only [Act.put, List.setIfInBounds_toArray, List.set_cons_zero, List.set_cons_succ]
      refine wpAnyH_take (i := 18) (oi := { dst := some 112, op := Op.pick (Operand.tmp 106) (Operand.tmp 111) (Operand.const (Value.bool false)), type := 4, pos := "law.go:119", after := #[{ on := 12, ground := Ground.data }, { on := 17, ground := Ground.data }], guard := none }) (v := ?_) rfl (by kernel_rfl) (by kernel_rfl) (by kernel_rfl) (fun _ _ _ h => h) (Or.inl ⟨by rfl, ?_⟩) (by assumption) ?_
      rotate_left
      · intro wS hSw
        try dsimp only at hSw
        go_simp
        try with_reducible rfl
      try simp only [Act.put, List.setIfInBounds_toArray, List.set_cons_zero, List.set_cons_succ]
      refine wpAnyH_take (i := 19) (oi := { dst := some 113, op := Op.move (Operand.tmp 112), type := 4, pos := "law.go:119", after := #[{ on := 18, ground := Ground.data }, { on := 12, ground := Ground.chain }], guard := none }) (v := ?_) rfl (by kernel_rfl) (by kernel_rfl) (by kernel_rfl) (fun _ _ _ h => h) (Or.inl ⟨by rfl, ?_⟩) (by assumption) ?_
      rotate_left
      · intro wS hSw
        try dsimp only at hSw
        go_simp
        try with_reducible rfl
      try simp only [Act.put, List.setIfInBounds_toArray, List.set_cons_zero, List.set_cons_succ]
      refine wpAnyH_take (i := 20) (oi := { dst := some 114, op := Op.fieldAddr 27 (Operand.tmp 15) 3, type := 0, pos := "law.go:119", after := #[{ on := 19, ground := Ground.guard }], guard := some (19, true) }) (v := ?_) rfl (by kernel_rfl) (by kernel_rfl) (by kernel_rfl) (fun _ _ _ h => h) (Or.inl ⟨by rfl, ?_⟩) (by assumption) ?_
      rotate_left
      · intro wS hSw
        try dsimp only at hSw
        go_simp
        try with_reducible rfl
      try simp only [Act.put, List.setIfInBounds_toArray, List.set_cons_zero, List.set_cons_succ]
      refine wpAnyH_take (i := 21) (oi := { dst := some 115, op := Op.load 24 (Operand.tmp 114), type := 24, pos := "law.go:119", after := #[{ on := 20, ground := Ground.data }, { on := 19, ground := Ground.guard }], guard := some (19, true) }) (v := ?_) rfl (by kernel_rfl) (by kernel_rfl) (by kernel_rfl) (fun _ _ _ h => h) (Or.inl ⟨by rfl, ?_⟩) (by assumption) ?_
      rotate_left
      · intro wS hSw
        try dsimp only at hSw
        go_simp
        try with_reducible rfl
      try simp only [Act.put, List.setIfInBounds_toArray, List.set_cons_zero, List.set_cons_succ]
      refine wpAnyH_take (i := 22) (oi := { dst := some 116, op := Op.binOp BinOp.eql 24 (Operand.tmp 115) (Operand.const (Value.int IntKind.u32 77)) 24, type := 4, pos := "law.go:119", after := #[{ on := 21, ground := Ground.data }, { on := 19, ground := Ground.guard }], guard := some (19, true) }) (v := ?_) rfl (by kernel_rfl) (by kernel_rfl) (by kernel_rfl) (fun _ _ _ h => h) (Or.inl ⟨by rfl, ?_⟩) (by assumption) ?_
      rotate_left
      · intro wS hSw
        try dsimp only at hSw
        go_simp
        try with_reducible rfl
      try simp only [Act.put, List.setIfInBounds_toArray, List.set_cons_zero, List.set_cons_succ]
      refine wpAnyH_take (i := 23) (oi := { dst := some 117, op := Op.move (Operand.tmp 116), type := 4, pos := "law.go:119", after := #[{ on := 22, ground := Ground.data }, { on := 19, ground := Ground.chain }, { on := 19, ground := Ground.guard }], guard := some (19, true) }) (v := ?_) rfl (by kernel_rfl) (by kernel_rfl) (by kernel_rfl) (fun _ _ _ h => h) (Or.inl ⟨by rfl, ?_⟩) (by assumption) ?_
      rotate_left
      · intro wS hSw
        try dsimp only at hSw
        go_simp
        try with_reducible rfl
      try simp only [Act.put, List.setIfInBounds_toArray, List.set_cons_zero, List.set_cons_succ]
      refine wpAnyH_take (i := 24) (oi := { dst := some 118, op := Op.fieldAddr 29 (Operand.tmp 7) 2, type := 0, pos := "law.go:119", after := #[{ on := 23, ground := Ground.guard }], guard := some (23, false) }) (v := ?_) rfl (by kernel_rfl) (by kernel_rfl) (by kernel_rfl) (fun _ _ _ h => h) (Or.inl ⟨by rfl, ?_⟩) (by assumption) ?_
      rotate_left
      · intro wS hSw
        try dsimp only at hSw
        go_simp
        try with_reducible rfl
      try simp only [Act.put, List.setIfInBounds_toArray, List.set_cons_zero, List.set_cons_succ]
      refine wpAnyH_take (i := 25) (oi := { dst := some 119, op := Op.load 24 (Operand.tmp 118), type := 24, pos := "law.go:119", after := #[{ on := 24, ground := Ground.data }, { on := 23, ground := Ground.guard }], guard := some (23, false) }) (v := ?_) rfl (by kernel_rfl) (by kernel_rfl) (by kernel_rfl) (fun _ _ _ h => h) (Or.inl ⟨by rfl, ?_⟩) (by assumption) ?_
      rotate_left
      · intro wS hSw
        try dsimp only at hSw
        go_simp
        try with_reducible rfl
      try simp only [Act.put, List.setIfInBounds_toArray, List.set_cons_zero, List.set_cons_succ]
      refine wpAnyH_take (i := 26) (oi := { dst := some 120, op := Op.binOp BinOp.eql 24 (Operand.tmp 119) (Operand.const (Value.int IntKind.u32 77)) 24, type := 4, pos := "law.go:119", after := #[{ on := 25, ground := Ground.data }, { on := 23, ground := Ground.guard }], guard := some (23, false) }) (v := ?_) rfl (by kernel_rfl) (by kernel_rfl) (by kernel_rfl) (fun _ _ _ h => h) (Or.inl ⟨by rfl, ?_⟩) (by assumption) ?_
      rotate_left
      · intro wS hSw
        try dsimp only at hSw
        go_simp
        try with_reducible rfl
      try simp only [Act.put, List.setIfInBounds_toArray, List.set_cons_zero, List.set_cons_succ]
      refine wpAnyH_take (i := 27) (oi := { dst := some 121, op := Op.pick (Operand.tmp 117) (Operand.const (Value.bool true)) (Operand.tmp 120), type := 4, pos := "law.go:119", after := #[{ on := 23, ground := Ground.data }, { on := 26, ground := Ground.data }, { on := 19, ground := Ground.guard }], guard := some (19, true) }) (v := ?_) rfl (by kernel_rfl) (by kernel_rfl) (by kernel_rfl) (fun _ _ _ h => h) (Or.inl ⟨by rfl, ?_⟩) (by assumption) ?_
      rotate_left
      · intro wS hSw
        try dsimp only at hSw
        go_simp
        try with_reducible rfl
      try simp only [Act.put, List.setIfInBounds_toArray, List.set_cons_zero, List.set_cons_succ]
      refine wpAnyH_take (i := 28) (oi := { dst := some 122, op := Op.pick (Operand.tmp 113) (Operand.tmp 121) (Operand.const (Value.bool false)), type := 4, pos := "law.go:119", after := #[{ on := 19, ground := Ground.data }, { on := 27, ground := Ground.data }], guard := none }) (v := ?_) rfl (by kernel_rfl) (by kernel_rfl) (by kernel_rfl) (fun _ _ _ h => h) (Or.inl ⟨by rfl, ?_⟩) (by assumption) ?_
      rotate_left
      · intro wS hSw
        try dsimp only at hSw
        go_simp
        try with_reducible rfl
      try simp only [Act.put, List.setIfInBounds_toArray, List.set_cons_zero, List.set_cons_succ]
      refine wpAnyH_take (i := 29) (oi := { dst := some 6, op := Op.assign (Operand.tmp 122), type := 4, pos := "law.go:119", after := #[{ on := 28, ground := Ground.data }, { on := 23, ground := Ground.chain }, { on := 0, ground := Ground.phase }, { on := 1, ground := Ground.phase }, { on := 2, ground := Ground.phase }, { on := 3, ground := Ground.phase }, { on := 4, ground := Ground.phase }, { on := 5, ground := Ground.phase }, { on := 6, ground := Ground.phase }, { on := 7, ground := Ground.phase }, { on := 8, ground := Ground.phase }, { on := 9, ground := Ground.phase }, { on := 10, ground := Ground.phase }, { on := 11, ground := Ground.phase }, { on := 12, ground := Ground.phase }, { on := 13, ground := Ground.phase }, { on := 14, ground := Ground.phase }, { on := 15, ground := Ground.phase }, { on := 16, ground := Ground.phase }, { on := 17, ground := Ground.phase }, { on := 18, ground := Ground.phase }, { on := 19, ground := Ground.phase }, { on := 20, ground := Ground.phase }, { on := 21, ground := Ground.phase }, { on := 22, ground := Ground.phase }, { on := 23, ground := Ground.phase }, { on := 24, ground := Ground.phase }, { on := 25, ground := Ground.phase }, { on := 26, ground := Ground.phase }, { on := 27, ground := Ground.phase }, { on := 28, ground := Ground.phase }], guard := none }) (v := ?_) rfl (by kernel_rfl) (by kernel_rfl) (by kernel_rfl) (fun _ _ _ h => h) (Or.inl ⟨by rfl, ?_⟩) (by assumption) ?_
      rotate_left
      · intro wS hSw
        try dsimp only at hSw
        go_simp
        try with_reducible rfl
      try simp only [Act.put, List.setIfInBounds_toArray, List.set_cons_zero, List.set_cons_succ]
      refine wpAnyH_done (by kernel_rfl) ?_ _
      try go_wp2_with fail
      go_ret
      exact ⟨by simp, HB.out.trans (HZ23.out.mono HB.out.size)⟩
    exact AllReadyH.nil
set_option maxHeartbeats 4000000 in
theorem flowErrors_query (w : World) (tt P id S D : Nat) (da : Option Addr) (xs : List Int) (n dc : Nat) (fp fs fd ff ft : Nat) (mo : Int) (hLx : Lies w da xs n dc) (hl : xs.length = n) (hb : ∀ x ∈ xs, 0 ≤ x ∧ x ≤ 255) (hS : S ≤ 4294967295) (hD : D ≤ 4294967295) (ht : tt ≤ 255) (hid : id ≤ 65535) (hP : P ≤ 255) (hfs : fs ≤ 4294967295) (hfd : fd ≤ 4294967295) (hff : ff ≤ 65535) (hft : ft ≤ 65535) (hn : ¬ 1400 < n) (he : ofErr P S D xs = 0) (hk : ofKind P S D xs = 2) :
    Calls Try.prog 5 #[.agg #[.int .u8 (tt : Int), .int .u8 (P : Int), .int .u16 (id : Int), .int .u32 (S : Int), .int .u32 (D : Int), .slice da n dc], .agg #[.int .u8 (fp : Int), .int .u32 (fs : Int), .int .u32 (fd : Int), .int .u16 (ff : Int), .int .u16 (ft : Int)], .int .i64 mo] w fun e w' => e = .returned (.bool true) ∧ Below w.heap.size w w' := by
  have hd3 : decide ((1400 : Int) < (n : Int)) = false := by simp; omega
  have hk3 : ofKind P S D xs ≠ 3 := by omega
  have h8 : 8 ≤ n := by
    have he := he
    rw [← hl]
    unfold ofErr at he
    split at he
    · unfold segCode at he
      split at he
      · omega
      · omega
    split at he
    · unfold dgmCode at he
      split at he
      · omega
      · omega
    split at he
    · have hmc : msgCode xs = 0 := by
        unfold icErr at he
        by_cases hc0 : msgCode xs = 0
        · exact hc0
        · rw [if_neg hc0] at he; exact absurd he hc0
      unfold msgCode at hmc
      split at hmc
      · omega
      · omega
    · omega
  obtain ⟨K, hK, hKb⟩ := and_maskF mo 1023 (by omega)
  have hKb : bits .and .i64 mo 1023 = (K : Int) := hKb
  obtain ⟨MM, hMM⟩ : ∃ m, min (20 + n) (28 + K) = m := ⟨_, rfl⟩
  have hM28 : 28 ≤ MM ∧ MM ≤ 20 + n ∧ MM ≤ 1051 := by omega
  have HOF := hide (fun (W : World) (hL : Lies W da xs n dc) => of_any W (tt : Int) (id : Int) P S D da n dc xs hL hl hb hS hD)
  rw [he, hk] at HOF
  obtain ⟨o1, o2, o3, o4, o5, o6, o7⟩ := of_plain P S D xs hb hP hS hD he hk3
  obtain ⟨tf1, tf2⟩ := tell_flow tt P id S D xs MM hb hS hD he hk3 (by omega) (by omega)
  have HTL := hide (fun (W : World) (hL : Lies W da xs n dc) => tells_any W 77 S tt P id S D da xs n dc (28 + K) MM hL hl hb (by omega) (by omega) hMM.symm ht hP hid hS hD)
  have hTT : ∀ x ∈ (ipG tt P id S D xs).take MM, 0 ≤ x ∧ x ≤ 255 := by
    intro x hx
    have hx := List.mem_of_mem_take hx
    unfold ipG at hx
    rcases List.mem_append.1 hx with h | h
    · exact ipH_rng _ _ _ _ _ _ _ ht hP x h
    · exact hb x h
  have hTL : ((ipG tt P id S D xs).take MM).length = MM := by rw [List.length_take, ipG_len, hl]; omega
  have hQ20 : P = 1 → fld ((ipG tt P id S D xs).take MM) 20 1 = (msgOf xs).p := by
    intro h1
    have he := he
    rw [fld_cut _ MM 20 1 (by omega), show (20 : Nat) = 20 + 0 by rfl, ipG_fb tt P id S D xs 0 1]
    unfold ofErr at he
    rw [if_neg (by omega), if_neg (by omega), if_pos h1] at he
    have hk1 : icKind xs ≠ 3 := by
      have he2 : ofErr P S D xs = 0 := by unfold ofErr; rw [if_neg (by omega), if_neg (by omega), if_pos h1, he]
      unfold ofKind at hk3
      rw [he2, if_pos rfl, if_neg (by omega)] at hk3
      exact hk3
    have q1 := (qry_cases xs he hk1).1
    unfold msgOf
    rw [if_pos q1]
  generalize (ipG tt P id S D xs).take MM = ds at *
  have hdt : tok ds ds.length = true := by rw [hTL]; exact tf1
  have hdf : tfl ds ds.length = ofFl P S D xs := by rw [hTL]; exact tf2
  obtain ⟨e1, e2, e3⟩ := err_of 3 1 77 S ds MM rfl (by omega) (by omega) hTT hTL (by omega) tf1
  rw [tf2] at e3
  obtain ⟨O, hO⟩ : ∃ y, ofFl P S D xs = y := ⟨_, rfl⟩
  rw [hO] at HOF o1 o2 o3 o4 o5 e3 hdf
  obtain ⟨op, os, od, of, ot⟩ := O
  dsimp only at o2 o3 o4
  have hvo : (⟨op, fs, fd, (of &&& ff), (ot &&& ft)⟩ : Fl).Ok := ⟨o1.p, hfs, hfd, Nat.le_trans Nat.and_le_left o1.f, Nat.le_trans Nat.and_le_left o1.t⟩
  have hvq : (tfl ds ds.length).p = 1 → (if fld ds 20 1 = 8 then (ot &&& ft) = 0 else (of &&& ff) = 0) := by
    rw [hdf]
    intro h1
    have h1 : op = 1 := h1
    rw [hQ20 (by omega)]
    have := o5 (by omega)
    dsimp only at this ⊢
    split at this
    · rename_i h8; rw [if_pos h8, this]; simp
    · rename_i h8; rw [if_neg h8, this]; simp
  obtain ⟨r1, r2, r3, r4⟩ := reT_flow ds ⟨op, fs, fd, (of &&& ff), (ot &&& ft)⟩ hdt hTT hvo (by rw [hdf]) hvq
  have HO2 := hide (fun (W : World) (a : Option Addr) (c : Nat) (hL : Lies W a (icmpB 3 1 0 ds) (8 + MM) c) => of_any W 9 0 1 77 S a (8 + MM) c (icmpB 3 1 0 ds) hL (by rw [icmpB_len, hTL]) (icmpB_rng 3 1 0 ds (by omega) (by omega) hTT) (by omega) hS)
  rw [e1, e2, e3] at HO2
  have hcd := icmpB_code 3 1 0 ds (by omega) (by omega) hTT (by omega)
  have hof := icmpB_of 3 1 0 ds (by omega) (by omega) (by omega) hTT (by omega)
  have hie : icErr (icmpB 3 1 0 ds) = 0 := by
    unfold ofErr at e1
    rw [if_neg (by omega), if_neg (by omega), if_pos rfl] at e1
    exact e1
  have hie2 : isErr (msgOf (icmpB 3 1 0 ds)).p = true := by rw [hof]; rfl
  have HRW := hide (fun (W : World) (a : Option Addr) (c : Nat) (hL : Lies W a (icmpB 3 1 0 ds) (8 + MM) c) => rewrite_tell W 9 0 77 S a (icmpB 3 1 0 ds) (8 + MM) c op fd fs (ot &&& ft) (of &&& ff) hL (by rw [icmpB_len, hTL]) (icmpB_rng 3 1 0 ds (by omega) (by omega) hTT) (by omega) hS hfd hfs (Nat.le_trans Nat.and_le_left o1.t) (Nat.le_trans Nat.and_le_left o1.f) hie hie2 (by rw [hof]; dsimp only; rw [hdf]))
  rw [hof] at HRW
  dsimp only at HRW
  rw [hTL] at hdf HRW r2 r3 r4
  rw [hdf] at HRW
  unfold Fl.turn at HRW
  dsimp only at HRW
  rw [show (if S = os then fs else S) = fs by rw [if_pos o3.symm]] at HRW
  obtain ⟨s2, hs2⟩ : ∃ x, (if 77 = od then fd else 77) = x := ⟨_, rfl⟩
  rw [hs2] at HRW
  rw [show ((9 : Nat) : Int) = 9 from rfl, show ((77 : Nat) : Int) = 77 from rfl, show ((0 : Nat) : Int) = 0 from rfl] at HRW
  have hs2b : s2 ≤ 4294967295 := by rw [← hs2]; split <;> omega
  have hx7 : (((s2 : Int) == 77) || ((od : Int) == 77)) = true := by
    rw [← hs2]
    by_cases h : 77 = od
    · rw [← h]; simp
    · rw [if_neg h]; simp
  obtain ⟨g1, g2, g3⟩ := err_of 3 1 s2 fs (reT ds ⟨op, fs, fd, (of &&& ff), (ot &&& ft)⟩) MM rfl (by omega) (by omega) r1 r2 (by omega) r3
  rw [r4] at g3
  have HO3 := hide (fun (W : World) (a : Option Addr) (c : Nat) (hL : Lies W a (icmpB 3 1 0 (reT ds ⟨op, fs, fd, (of &&& ff), (ot &&& ft)⟩)) (8 + MM) c) => of_any W 9 0 1 s2 fs a (8 + MM) c (icmpB 3 1 0 (reT ds ⟨op, fs, fd, (of &&& ff), (ot &&& ft)⟩)) hL (by rw [icmpB_len, r2]) (icmpB_rng 3 1 0 _ (by omega) (by omega) r1) hs2b hfs)
  rw [g1, g2, g3] at HO3
  generalize icmpB 3 1 0 (reT ds ⟨op, fs, fd, (of &&& ff), (ot &&& ft)⟩) = bR at *
  have hb9 : 5 < (icmpB 3 1 0 ds).length := by rw [icmpB_len, hTL]; omega
  generalize icmpB 3 1 0 ds = bT at *
  have HB9 := hide hb9
  clear hb9
  unfold Fl.turn at HO2 HO3
  unfold Fl.v at HOF HO2 HO3
  dsimp only at HOF HO2 HO3
  have hA1 : bits .and .u16 (of : Int) (ff : Int) = ((of &&& ff : Nat) : Int) := u16_and_nat of ff (by have := o1.f; dsimp only at this; omega) (by omega)
  have hA2 : bits .and .u16 (ot : Int) (ft : Int) = ((ot &&& ft : Nat) : Int) := u16_and_nat ot ft (by have := o1.t; dsimp only at this; omega) (by omega)
  generalize of &&& ff = gf at *
  generalize ot &&& ft = gt at *
  have HAA := hide (And.intro hA1 hA2)
  clear hA1 hA2
  have hK28 : IntKind.i64.wrap (28 + (K : Int)) = ((28 + K : Nat) : Int) := by rw [IntKind.wrap_i64]; omega
  obtain ⟨k28, hk28⟩ : ∃ k : Nat, 28 + K = k := ⟨_, rfl⟩
  rw [hk28] at hK28 HTL
  obtain ⟨N8, hN8⟩ : ∃ k : Nat, 8 + MM = k := ⟨_, rfl⟩
  rw [hN8] at HTL HO2 HO3 HRW
  have HX7 := hide hx7
  clear hx7 hl hb hn he hk hk3 h8 hK hMM hM28 o1 o2 o3 o4 o5 o6 o7 tf1 tf2 hTT hTL hQ20 hdt hdf e1 e2 e3 hO hvo hvq r1 r2 r3 r4 hcd hof hie hie2 hs2 hs2b g1 g2 g3 hk28 hN8
  obtain ⟨V1, hV1⟩ : ∃ V, w.alloc (.cells #[.int .u8 (tt : Int), .int .u8 (P : Int), .int .u16 (id : Int), .int .u32 (S : Int), .int .u32 (D : Int), .slice da n dc] 27) = V := ⟨_, rfl⟩
  obtain ⟨V2, hV2⟩ : ∃ V, V1.alloc (.cells #[.int .u8 (fp : Int), .int .u32 (fs : Int), .int .u32 (fd : Int), .int .u16 (ff : Int), .int .u16 (ft : Int)] 29) = V := ⟨_, rfl⟩
  have hz1 : V1.heap.size = w.heap.size + 1 := by rw [← hV1]; simp
  have hz2 : V2.heap.size = w.heap.size + 1 + 1 := by rw [← hV2]; simp [hz1]
  have hb1 : Below w.heap.size w V1 := by rw [← hV1]; exact (Below.refl _ _).alloc (Nat.le_refl _) _
  have hc2 : Below V1.heap.size V1 V2 := by rw [← hV2]; exact (Below.refl _ _).alloc (Nat.le_refl _) _
  have hb2 := hb1.trans (hc2.mono hb1.size)
  have hp1_1 : V1.heap[w.heap.size]? = some (.cells #[.int .u8 (tt : Int), .int .u8 (P : Int), .int .u16 (id : Int), .int .u32 (S : Int), .int .u32 (D : Int), .slice da n dc] 27 (0, 0)) := by rw [← hV1]; exact heap_alloc_new _ _
  have hp1_2 := below_block hc2 hp1_1 (Nat.le_refl _)
  have hp2_2 : V2.heap[w.heap.size + 1]? = some (.cells #[.int .u8 (fp : Int), .int .u32 (fs : Int), .int .u32 (fd : Int), .int .u16 (ff : Int), .int .u16 (ft : Int)] 29 (0, 0)) := by rw [← hV2, ← hz1]; exact heap_alloc_new _ _
  obtain ⟨BX, hBX⟩ : ∃ B, w.heap.size = B := ⟨_, rfl⟩
  obtain ⟨BF, hBF⟩ : ∃ B, w.heap.size + 1 = B := ⟨_, rfl⟩
  have hw0 : w.heap.size ≤ BX ∧ w.heap.size ≤ BF := by omega
  have HX := hide (show V2.heap[BX]? = some (.cells #[.int .u8 (tt : Int), .int .u8 (P : Int), .int .u16 (id : Int), .int .u32 (S : Int), .int .u32 (D : Int), .slice da n dc] 27 (0, 0)) by rw [← hBX]; exact hp1_2)
  have NX : Hid (w.heap.size ≤ BX) := hide hw0.1
  have HF := hide (show V2.heap[BF]? = some (.cells #[.int .u8 (fp : Int), .int .u32 (fs : Int), .int .u32 (fd : Int), .int .u16 (ff : Int), .int .u16 (ft : Int)] 29 (0, 0)) by rw [← hBF]; exact hp2_2)
  have NF : Hid (w.heap.size ≤ BF) := hide hw0.2
  have nqX_F : Hid (BX ≠ BF) := hide (by omega)
  have AP := hide hLx
  have RP := hide (hLx.below hb2 (Nat.le_refl _))
  have HB := hide hb2
  have HE := hide (And.intro (And.intro trivial trivial) (And.intro hV1 ( And.intro hV2 (And.intro hBX ( And.intro hBF (trivial))))))
  clear hw0 hV1 hz1 hb1 hV2 hz2 hb2 hc2 hp1_1 hp1_2 hp2_2 hBX hBF hLx
  go_enter Try.func5, Try.ntmps5
  go_upto_region 1 with (fail)
  rw [HE.out.2.1]
  try rw [HE.out.2.2.1]
  try rw [HE.out.2.2.2.2.1]
  try rw [HE.out.2.2.2.1]
  clear HE
  go_wp2_with fail
  refine (speaks_any _).mono ?_
  rintro e w1 ⟨rfl, b⟩
  replace HX := hide (below_block b HX.out (Nat.le_refl _))
  replace HF := hide (below_block b HF.out (Nat.le_refl _))
  replace RP := hide (RP.out.below b (Nat.le_refl _))
  replace HB := hide (HB.out.trans (b.mono HB.out.size))
  clear b 
  have qX_5 : w1.cell? ⟨BX, 5, none⟩ = some (.slice da n dc) := cell_at HX.out 5 rfl
  go_upto_region 5 with (fail)
  clear qX_5
  go_wp2_with ((refine ld_whole (o := ⟨some 27, _, _, _, _, _⟩) 27 (.tmp 3) rfl (by rfl) BX rfl #[.int .u8 (tt : Int), .int .u8 (P : Int), .int .u16 (id : Int), .int .u32 (S : Int), .int .u32 (D : Int), .slice da n dc] 27 HX.out Try.underlying27 (by kernel_rfl) ?_; try simp only [Act.put, List.setIfInBounds_toArray, List.set_cons_zero, List.set_cons_succ]))
  refine (HOF.out _ RP.out).mono ?_
  rintro e w2 ⟨rfl, b⟩
  replace HX := hide (below_block b HX.out (Nat.le_refl _))
  replace HF := hide (below_block b HF.out (Nat.le_refl _))
  replace RP := hide (RP.out.below b (Nat.le_refl _))
  replace HB := hide (HB.out.trans (b.mono HB.out.size))
  clear b 
  obtain ⟨w3, hwn, wb, HN1⟩ : ∃ W, w2.alloc (.cells #[.int .u8 (op : Int), .int .u32 (os : Int), .int .u32 (od : Int), .int .u16 (of : Int), .int .u16 (ot : Int)] 29) = W ∧ Below w2.heap.size w2 W ∧ Hid (W.heap[w2.heap.size]? = some (.cells #[.int .u8 (op : Int), .int .u32 (os : Int), .int .u32 (od : Int), .int .u16 (of : Int), .int .u16 (ot : Int)] 29 (0, 0))) := ⟨_, rfl, (Below.refl w2.heap.size w2).alloc (Nat.le_refl _) _, hide (heap_alloc_new w2 _)⟩
  obtain ⟨BO, hBn⟩ : ∃ B, w2.heap.size = B := ⟨_, rfl⟩
  rw [hBn] at HN1
  have HW := hide (And.intro hwn hBn)
  have HBo := HB
  have nqX_O := hide (blk_ne HX.out hBn)
  have nqF_O := hide (blk_ne HF.out hBn)
  clear hwn hBn
  replace HX := hide (below_block wb HX.out (Nat.le_refl _))
  replace HF := hide (below_block wb HF.out (Nat.le_refl _))
  replace RP := hide (RP.out.below wb (Nat.le_refl _))
  replace HB := hide (HB.out.trans (wb.mono HB.out.size))
  have HO := HN1
  have NO := hide (show w.heap.size ≤ BO by rw [← HW.out.2]; exact HBo.out.size)
  clear wb HN1 HBo
  go_upto_region 6 with (fail)
  rw [HW.out.1]
  try rw [HW.out.2]
  clear HW
  go_upto_region 9 with (fail)
  have qX_3 : w3.cell? ⟨BX, 3, none⟩ = some (.int .u32 (S : Int)) := cell_at HX.out 3 rfl
  go_wp2_with ((refine ld_whole (o := ⟨some 43, _, _, _, _, _⟩) 27 (.tmp 3) rfl (by rfl) BX rfl #[.int .u8 (tt : Int), .int .u8 (P : Int), .int .u16 (id : Int), .int .u32 (S : Int), .int .u32 (D : Int), .slice da n dc] 27 HX.out Try.underlying27 (by kernel_rfl) ?_; try simp only [Act.put, List.setIfInBounds_toArray, List.set_cons_zero, List.set_cons_succ]))
  refine (HTL.out _ RP.out).mono ?_
  rintro e w4 ⟨a1, c1, rfl, o, b⟩
  clear qX_3
  replace HX := hide (below_block b HX.out (Nat.le_refl _))
  replace HF := hide (below_block b HF.out (Nat.le_refl _))
  replace HO := hide (below_block b HO.out (Nat.le_refl _))
  replace RP := hide (RP.out.below b (Nat.le_refl _))
  replace HB := hide (HB.out.trans (b.mono HB.out.size))
  have RT1 := hide (o)
  clear b o
  obtain ⟨w5, hwn, wb, HN1⟩ : ∃ W, w4.alloc (.cells #[.int .u8 9, .int .u8 1, .int .u16 0, .int .u32 77, .int .u32 (S : Int), .slice a1 N8 c1] 27) = W ∧ Below w4.heap.size w4 W ∧ Hid (W.heap[w4.heap.size]? = some (.cells #[.int .u8 9, .int .u8 1, .int .u16 0, .int .u32 77, .int .u32 (S : Int), .slice a1 N8 c1] 27 (0, 0))) := ⟨_, rfl, (Below.refl w4.heap.size w4).alloc (Nat.le_refl _) _, hide (heap_alloc_new w4 _)⟩
  obtain ⟨BQ, hBn⟩ : ∃ B, w4.heap.size = B := ⟨_, rfl⟩
  rw [hBn] at HN1
  have HW := hide (And.intro hwn hBn)
  have HBo := HB
  have nqX_Q := hide (blk_ne HX.out hBn)
  have nqF_Q := hide (blk_ne HF.out hBn)
  have nqO_Q := hide (blk_ne HO.out hBn)
  clear hwn hBn
  replace HX := hide (below_block wb HX.out (Nat.le_refl _))
  replace HF := hide (below_block wb HF.out (Nat.le_refl _))
  replace HO := hide (below_block wb HO.out (Nat.le_refl _))
  replace RP := hide (RP.out.below wb (Nat.le_refl _))
  replace RT1 := hide (RT1.out.below wb (Nat.le_refl _))
  replace HB := hide (HB.out.trans (wb.mono HB.out.size))
  have HQ := HN1
  have NQ := hide (show w.heap.size ≤ BQ by rw [← HW.out.2]; exact HBo.out.size)
  clear wb HN1 HBo
  go_upto_region 10 with (fail)
  rw [HW.out.1]
  try rw [HW.out.2]
  clear HW
  go_wp2_with ((refine ld_whole (o := ⟨some 47, _, _, _, _, _⟩) 27 (.tmp 11) rfl (by rfl) BQ rfl #[.int .u8 9, .int .u8 1, .int .u16 0, .int .u32 77, .int .u32 (S : Int), .slice a1 N8 c1] 27 HQ.out Try.underlying27 (by kernel_rfl) ?_; try simp only [Act.put, List.setIfInBounds_toArray, List.set_cons_zero, List.set_cons_succ]))
  refine (HO2.out _ a1 c1 RT1.out).mono ?_
  rintro e w6 ⟨rfl, b⟩
  replace HX := hide (below_block b HX.out (Nat.le_refl _))
  replace HF := hide (below_block b HF.out (Nat.le_refl _))
  replace HO := hide (below_block b HO.out (Nat.le_refl _))
  replace HQ := hide (below_block b HQ.out (Nat.le_refl _))
  replace RP := hide (RP.out.below b (Nat.le_refl _))
  replace RT1 := hide (RT1.out.below b (Nat.le_refl _))
  replace HB := hide (HB.out.trans (b.mono HB.out.size))
  clear b 
  obtain ⟨w7, hwn, wb, HN1⟩ : ∃ W, w6.alloc (.cells #[.int .u8 (op : Int), .int .u32 (od : Int), .int .u32 (os : Int), .int .u16 (ot : Int), .int .u16 (of : Int)] 29) = W ∧ Below w6.heap.size w6 W ∧ Hid (W.heap[w6.heap.size]? = some (.cells #[.int .u8 (op : Int), .int .u32 (od : Int), .int .u32 (os : Int), .int .u16 (ot : Int), .int .u16 (of : Int)] 29 (0, 0))) := ⟨_, rfl, (Below.refl w6.heap.size w6).alloc (Nat.le_refl _) _, hide (heap_alloc_new w6 _)⟩
  obtain ⟨BN, hBn⟩ : ∃ B, w6.heap.size = B := ⟨_, rfl⟩
  rw [hBn] at HN1
  have HW := hide (And.intro hwn hBn)
  have HBo := HB
  have nqX_N := hide (blk_ne HX.out hBn)
  have nqF_N := hide (blk_ne HF.out hBn)
  have nqO_N := hide (blk_ne HO.out hBn)
  have nqQ_N := hide (blk_ne HQ.out hBn)
  clear hwn hBn
  replace HX := hide (below_block wb HX.out (Nat.le_refl _))
  replace HF := hide (below_block wb HF.out (Nat.le_refl _))
  replace HO := hide (below_block wb HO.out (Nat.le_refl _))
  replace HQ := hide (below_block wb HQ.out (Nat.le_refl _))
  replace RP := hide (RP.out.below wb (Nat.le_refl _))
  replace RT1 := hide (RT1.out.below wb (Nat.le_refl _))
  replace HB := hide (HB.out.trans (wb.mono HB.out.size))
  have HN := HN1
  have NN := hide (show w.heap.size ≤ BN by rw [← HW.out.2]; exact HBo.out.size)
  clear wb HN1 HBo
  go_upto_region 11 with (fail)
  rw [HW.out.1]
  try rw [HW.out.2]
  clear HW
  have k0N0 : w7.cell? ⟨BN, 0, none⟩ = some (.int .u8 (op : Int)) := cell_at HN.out 0 rfl
  have k0N1 : w7.cell? ⟨BN, 1, none⟩ = some (.int .u32 (od : Int)) := cell_at HN.out 1 rfl
  have k0N2 : w7.cell? ⟨BN, 2, none⟩ = some (.int .u32 (os : Int)) := cell_at HN.out 2 rfl
  have k0N3 : w7.cell? ⟨BN, 3, none⟩ = some (.int .u16 (ot : Int)) := cell_at HN.out 3 rfl
  have k0N4 : w7.cell? ⟨BN, 4, none⟩ = some (.int .u16 (of : Int)) := cell_at HN.out 4 rfl
  have k0O0 : w7.cell? ⟨BO, 0, none⟩ = some (.int .u8 (op : Int)) := cell_at HO.out 0 rfl
  have k0O1 : w7.cell? ⟨BO, 1, none⟩ = some (.int .u32 (os : Int)) := cell_at HO.out 1 rfl
  have k0O2 : w7.cell? ⟨BO, 2, none⟩ = some (.int .u32 (od : Int)) := cell_at HO.out 2 rfl
  have k0O3 : w7.cell? ⟨BO, 3, none⟩ = some (.int .u16 (of : Int)) := cell_at HO.out 3 rfl
  have k0O4 : w7.cell? ⟨BO, 4, none⟩ = some (.int .u16 (ot : Int)) := cell_at HO.out 4 rfl
  have hlN := lt_of_block HN.out
  have hlO := lt_of_block HO.out
  have HBB := hide (Below.refl w7.heap.size w7)
  go_region_held3 (fun w' => w'.cell? ⟨BN, 0, none⟩ = some (.int .u8 (op : Int)) ∧ w'.cell? ⟨BN, 1, none⟩ = some (.int .u32 (od : Int)) ∧ w'.cell? ⟨BN, 2, none⟩ = some (.int .u32 (os : Int)) ∧ w'.cell? ⟨BN, 3, none⟩ = some (.int .u16 (ot : Int)) ∧ w'.cell? ⟨BN, 4, none⟩ = some (.int .u16 (of : Int)) ∧ w'.cell? ⟨BO, 0, none⟩ = some (.int .u8 (op : Int)) ∧ w'.cell? ⟨BO, 1, none⟩ = some (.int .u32 (os : Int)) ∧ w'.cell? ⟨BO, 2, none⟩ = some (.int .u32 (od : Int)) ∧ w'.cell? ⟨BO, 3, none⟩ = some (.int .u16 (of : Int)) ∧ w'.cell? ⟨BO, 4, none⟩ = some (.int .u16 (ot : Int))) (go_keep) (first
      | (go_at_call 17; (with_reducible refine (turnF _ op os od of ot).mono ?_); rintro e z1 ⟨rfl, b⟩; (try replace b := below_of_drew b); have HBB := hide (HBB.out.trans (b.mono HBB.out.size)); have k1N0 := (bcell HBB.out BN 0 hlN).trans k0N0; have k1N1 := (bcell HBB.out BN 1 hlN).trans k0N1; have k1N2 := (bcell HBB.out BN 2 hlN).trans k0N2; have k1N3 := (bcell HBB.out BN 3 hlN).trans k0N3; have k1N4 := (bcell HBB.out BN 4 hlN).trans k0N4; have k1O0 := (bcell HBB.out BO 0 hlO).trans k0O0; have k1O1 := (bcell HBB.out BO 1 hlO).trans k0O1; have k1O2 := (bcell HBB.out BO 2 hlO).trans k0O2; have k1O3 := (bcell HBB.out BO 3 hlO).trans k0O3; have k1O4 := (bcell HBB.out BO 4 hlO).trans k0O4; clear b)
      | fail)
  have hbz := HBB.out
  clear HBB k0N0 k1N0 k0N1 k1N1 k0N2 k1N2 k0N3 k1N3 k0N4 k1N4 k0O0 k1O0 k0O1 k1O1 k0O2 k1O2 k0O3 k1O3 k0O4 k1O4 hlN hlO
  replace HX := hide (below_block hbz HX.out (Nat.le_refl _))
  replace HF := hide (below_block hbz HF.out (Nat.le_refl _))
  replace HO := hide (below_block hbz HO.out (Nat.le_refl _))
  replace HQ := hide (below_block hbz HQ.out (Nat.le_refl _))
  replace HN := hide (below_block hbz HN.out (Nat.le_refl _))
  replace RP := hide (RP.out.below hbz (Nat.le_refl _))
  replace RT1 := hide (RT1.out.below hbz (Nat.le_refl _))
  replace HB := hide (HB.out.trans (hbz.mono HB.out.size))
  clear hbz
  clear HN NN RP HX NX
  go_upto_region 13 with (fail)
  have qO_0 : z1.cell? ⟨BO, 0, none⟩ = some (.int .u8 (op : Int)) := cell_at HO.out 0 rfl
  have fz := free_at HF.out 0
  have qF_0 : z1.cell? ⟨BF, 0, none⟩ = some (.int .u8 (fp : Int)) := cell_at HF.out 0 rfl
  obtain ⟨w8, hVn, hVH, hVB, hVo, hVs⟩ := set1 (i := 0) (.int .u8 (op : Int)) (c' := #[.int .u8 (op : Int), .int .u32 (fs : Int), .int .u32 (fd : Int), .int .u16 (ff : Int), .int .u16 (ft : Int)]) HF.out HB.out NF.out (by kernel_rfl)
  have HVn := hide hVn
  clear hVn
  have HG := hide (gb_part HB.out hVB hVo hVs)
  have HFn := hide hVH
  have HOn := hide ((hVo _ nqF_O.out.symm).trans HO.out)
  have HQn := hide ((hVo _ nqF_Q.out.symm).trans HQ.out)
  have RT1n := hide (lies_gbE RT1.out HG.out (lies_ne RT1.out HB9.out HF.out rfl))
  have HBn := hide hVB
  clear hVH hVB hVo hVs HG
  go_upto_region 15 with (fail)
  rw [HVn.out]
  clear HVn fz
  clear qO_0 qF_0
  replace HF := HFn
  clear HFn
  replace HO := HOn
  clear HOn
  replace HQ := HQn
  clear HQn
  replace RT1 := RT1n
  clear RT1n
  replace HB := HBn
  clear HBn
  have qO_3 : w8.cell? ⟨BO, 3, none⟩ = some (.int .u16 (of : Int)) := cell_at HO.out 3 rfl
  have qO_4 : w8.cell? ⟨BO, 4, none⟩ = some (.int .u16 (ot : Int)) := cell_at HO.out 4 rfl
  have qF_3 : w8.cell? ⟨BF, 3, none⟩ = some (.int .u16 (ff : Int)) := cell_at HF.out 3 rfl
  have qF_4 : w8.cell? ⟨BF, 4, none⟩ = some (.int .u16 (ft : Int)) := cell_at HF.out 4 rfl
  have fz := free_at HF.out
  obtain ⟨w9, hVa, hVH, hVB, hVo, hVs⟩ := set1 (i := 4) (.int .u16 (gt : Int)) (c' := #[.int .u8 (op : Int), .int .u32 (fs : Int), .int .u32 (fd : Int), .int .u16 (ff : Int), .int .u16 (gt : Int)]) HF.out HB.out NF.out (by kernel_rfl)
  obtain ⟨w10, hVb, hUH, hUB, hUo, hUs⟩ := set1 (i := 3) (.int .u16 (gf : Int)) (c' := #[.int .u8 (op : Int), .int .u32 (fs : Int), .int .u32 (fd : Int), .int .u16 (gf : Int), .int .u16 (gt : Int)]) hVH hVB NF.out (by kernel_rfl)
  obtain ⟨w11, hVc, wb⟩ : ∃ V, w10.drew = V ∧ Below w10.heap.size w10 V := ⟨_, rfl, (Below.refl _ _).drew⟩
  have HVn := hide (And.intro hVa (And.intro hVb hVc))
  clear hVa hVb hVc
  have HG := hide (gb_trans (gb_part HB.out hVB hVo hVs) (gb_part hVB hUB hUo hUs))
  have HFn := hide (below_block wb hUH (Nat.le_refl _))
  have HOn := hide (below_block wb ((hUo _ nqF_O.out.symm).trans ((hVo _ nqF_O.out.symm).trans HO.out)) (Nat.le_refl _))
  have HQn := hide (below_block wb ((hUo _ nqF_Q.out.symm).trans ((hVo _ nqF_Q.out.symm).trans HQ.out)) (Nat.le_refl _))
  have HBn := hide (hUB.trans (wb.mono hUB.size))
  have RT1n := hide ((lies_gbE RT1.out HG.out (lies_ne RT1.out HB9.out HF.out rfl)).below wb (Nat.le_refl _))
  clear hVH hVB hVo hVs hUH hUB hUo hUs wb HG
  go_region
  rw [HAA.out.1, HAA.out.2, HVn.out.1, HVn.out.2.1, HVn.out.2.2]
  clear HVn fz HAA
  clear qO_3 qO_4 qF_3 qF_4
  replace HF := HFn
  clear HFn
  replace HO := HOn
  clear HOn
  replace HQ := HQn
  clear HQn
  replace HB := HBn
  clear HBn
  replace RT1 := RT1n
  clear RT1n
  go_upto_region 16 with (fail)
  go_cut [15, 16] (fun p p2 wx => ∃ B a2 c2, p = .pointer (some ⟨B, 0, none⟩) ∧ p2 = .int .i64 0 ∧ Hid (wx.heap[B]? = some (.cells #[.int .u8 9, .int .u8 1, .int .u16 0, .int .u32 (s2 : Int), .int .u32 (fs : Int), .slice a2 N8 c2] 27 (0, 0))) ∧ Hid (w11.heap.size ≤ B) ∧ Hid (Lies wx a2 bR N8 c2) ∧ Hid (Below w11.heap.size w11 wx))
  case first =>
    have HZ0 := hide (show Below w11.heap.size w11 w11.drew from (Below.refl _ _).drew)
    refine wp_region_held_drew (S := fun w' => w'.cell? ⟨BQ, 0, none⟩ = some (.int .u8 9) ∧ w'.cell? ⟨BQ, 1, none⟩ = some (.int .u8 1) ∧ w'.cell? ⟨BQ, 2, none⟩ = some (.int .u16 0) ∧ w'.cell? ⟨BQ, 3, none⟩ = some (.int .u32 77) ∧ w'.cell? ⟨BQ, 4, none⟩ = some (.int .u32 (S : Int)) ∧ w'.cell? ⟨BQ, 5, none⟩ = some (.slice a1 N8 c1) ∧ w'.cell? ⟨BF, 0, none⟩ = some (.int .u8 (op : Int)) ∧ w'.cell? ⟨BF, 1, none⟩ = some (.int .u32 (fs : Int)) ∧ w'.cell? ⟨BF, 2, none⟩ = some (.int .u32 (fd : Int)) ∧ w'.cell? ⟨BF, 3, none⟩ = some (.int .u16 (gf : Int)) ∧ w'.cell? ⟨BF, 4, none⟩ = some (.int .u16 (gt : Int))) (by kernel_rfl) (by exact ⟨cell_at (below_block HZ0.out HQ.out (Nat.le_refl _)) 0 rfl, cell_at (below_block HZ0.out HQ.out (Nat.le_refl _)) 1 rfl, cell_at (below_block HZ0.out HQ.out (Nat.le_refl _)) 2 rfl, cell_at (below_block HZ0.out HQ.out (Nat.le_refl _)) 3 rfl, cell_at (below_block HZ0.out HQ.out (Nat.le_refl _)) 4 rfl, cell_at (below_block HZ0.out HQ.out (Nat.le_refl _)) 5 rfl, cell_at (below_block HZ0.out HF.out (Nat.le_refl _)) 0 rfl, cell_at (below_block HZ0.out HF.out (Nat.le_refl _)) 1 rfl, cell_at (below_block HZ0.out HF.out (Nat.le_refl _)) 2 rfl, cell_at (below_block HZ0.out HF.out (Nat.le_refl _)) 3 rfl, cell_at (below_block HZ0.out HF.out (Nat.le_refl _)) 4 rfl⟩) (fun hHeld => ?_)
    refine wpAnyH_take (i := 0) (oi := { dst := some 82, op := Op.load 27 (Operand.tmp 11), type := 27, pos := "law.go:117", after := #[], guard := none }) (v := ?_) rfl (by kernel_rfl) (by kernel_rfl) (by kernel_rfl) (fun _ _ _ h => h) (Or.inl ⟨by rfl, ?_⟩) (by assumption) ?_
    rotate_left
    · intro wS hSw
      try dsimp only at hSw
      go_simp
      try with_reducible rfl
    try simp only [Act.put, List.setIfInBounds_toArray, List.set_cons_zero, List.set_cons_succ]
    refine wpAnyH_take (i := 1) (oi := { dst := some 83, op := Op.load 29 (Operand.tmp 4), type := 29, pos := "law.go:117", after := #[], guard := none }) (v := ?_) rfl (by kernel_rfl) (by kernel_rfl) (by kernel_rfl) (fun _ _ _ h => h) (Or.inl ⟨by rfl, ?_⟩) (by assumption) ?_
    rotate_left
    · intro wS hSw
      try dsimp only at hSw
      go_simp
      try with_reducible rfl
    try simp only [Act.put, List.setIfInBounds_toArray, List.set_cons_zero, List.set_cons_succ]
    refine wpAnyH_ready (rs := [2, 7]) (by kernel_rfl) (by simp) ?_
    refine AllReadyH.cons (o := { dst := some 84, op := Op.call { callee := Callee.value (Operand.func 17), args := #[Operand.tmp 83], argTypes := #[29] }, type := 29, pos := "law.go:117", after := #[{ on := 1, ground := Ground.data }], guard := none }) rfl (fun K hK => ?_) ?_
    ·
      go_simp
      go_at_call 17
      (with_reducible refine (turnF _ op fs fd gf gt).mono ?_)
      rintro e z12 ⟨rfl, b⟩
      have HZ12 := hide (show Below w11.heap.size w11 z12 from HZ0.out.trans (Below.mono b HZ0.out.size))
      clear b
      refine hK.out _ _ (⟨cell_at (below_block HZ12.out HQ.out (Nat.le_refl _)) 0 rfl, cell_at (below_block HZ12.out HQ.out (Nat.le_refl _)) 1 rfl, cell_at (below_block HZ12.out HQ.out (Nat.le_refl _)) 2 rfl, cell_at (below_block HZ12.out HQ.out (Nat.le_refl _)) 3 rfl, cell_at (below_block HZ12.out HQ.out (Nat.le_refl _)) 4 rfl, cell_at (below_block HZ12.out HQ.out (Nat.le_refl _)) 5 rfl, cell_at (below_block HZ12.out HF.out (Nat.le_refl _)) 0 rfl, cell_at (below_block HZ12.out HF.out (Nat.le_refl _)) 1 rfl, cell_at (below_block HZ12.out HF.out (Nat.le_refl _)) 2 rfl, cell_at (below_block HZ12.out HF.out (Nat.le_refl _)) 3 rfl, cell_at (below_block HZ12.out HF.out (Nat.le_refl _)) 4 rfl⟩) (fun hHeld12 => ?_)
      clear hK K
      try simp only [Act.put, List.setIfInBounds_toArray, List.set_cons_zero, List.set_cons_succ]
      refine wpAnyH_ready (rs := [3, 7]) (by kernel_rfl) (by simp) ?_
      refine AllReadyH.cons (o := { dst := some 85, op := Op.call { callee := Callee.value (Operand.func 11), args := #[Operand.tmp 82, Operand.tmp 84], argTypes := #[27, 29] }, type := 32, pos := "law.go:117", after := #[{ on := 0, ground := Ground.data }, { on := 2, ground := Ground.data }, { on := 2, ground := Ground.chain }], guard := none }) rfl (fun K hK => ?_) ?_
      ·
        go_simp
        go_at_call 11
        (with_reducible refine (HRW.out _ a1 c1 (RT1.out.below HZ12.out (Nat.le_refl _))).mono ?_)
        rintro e z13 ⟨a2, c2, rfl, o, b⟩
        have HZ13 := hide (show Below w11.heap.size w11 z13 from HZ12.out.trans (Below.mono b HZ12.out.size))
        have OY13 := hide o
        clear o
        clear b
        refine hK.out _ _ (⟨cell_at (below_block HZ13.out HQ.out (Nat.le_refl _)) 0 rfl, cell_at (below_block HZ13.out HQ.out (Nat.le_refl _)) 1 rfl, cell_at (below_block HZ13.out HQ.out (Nat.le_refl _)) 2 rfl, cell_at (below_block HZ13.out HQ.out (Nat.le_refl _)) 3 rfl, cell_at (below_block HZ13.out HQ.out (Nat.le_refl _)) 4 rfl, cell_at (below_block HZ13.out HQ.out (Nat.le_refl _)) 5 rfl, cell_at (below_block HZ13.out HF.out (Nat.le_refl _)) 0 rfl, cell_at (below_block HZ13.out HF.out (Nat.le_refl _)) 1 rfl, cell_at (below_block HZ13.out HF.out (Nat.le_refl _)) 2 rfl, cell_at (below_block HZ13.out HF.out (Nat.le_refl _)) 3 rfl, cell_at (below_block HZ13.out HF.out (Nat.le_refl _)) 4 rfl⟩) (fun hHeld13 => ?_)
        clear hK K
        try simp only [Act.put, List.setIfInBounds_toArray, List.set_cons_zero, List.set_cons_succ]
        refine wpAnyH_take (i := 4) (oi := { dst := some 81, op := Op.move (Operand.tmp 85), type := 32, pos := "law.go:117", after := #[{ on := 3, ground := Ground.data }], guard := none }) (v := ?_) rfl (by kernel_rfl) (by kernel_rfl) (by kernel_rfl) (fun _ _ _ h => h) (Or.inl ⟨by rfl, ?_⟩) (by assumption) ?_
        rotate_left
        · intro wS hSw
          try dsimp only at hSw
          go_simp
          try with_reducible rfl
        try simp only [Act.put, List.setIfInBounds_toArray, List.set_cons_zero, List.set_cons_succ]
        refine wpAnyH_take (i := 5) (oi := { dst := some 86, op := Op.extract (Operand.tmp 81) 0, type := 27, pos := "law.go:117", after := #[{ on := 4, ground := Ground.data }], guard := none }) (v := ?_) rfl (by kernel_rfl) (by kernel_rfl) (by kernel_rfl) (fun _ _ _ h => h) (Or.inl ⟨by rfl, ?_⟩) (by assumption) ?_
        rotate_left
        · intro wS hSw
          try dsimp only at hSw
          go_simp
          try with_reducible rfl
        try simp only [Act.put, List.setIfInBounds_toArray, List.set_cons_zero, List.set_cons_succ]
        refine wpAnyH_take (i := 6) (oi := { dst := some 87, op := Op.extract (Operand.tmp 81) 1, type := 31, pos := "law.go:117", after := #[{ on := 4, ground := Ground.data }, { on := 8, ground := Ground.gcOnly Departure.lateStores }], guard := none }) (v := ?_) rfl (by kernel_rfl) (by kernel_rfl) (by kernel_rfl) (fun _ _ _ h => h) (Or.inl ⟨by rfl, ?_⟩) (by assumption) ?_
        rotate_left
        · intro wS hSw
          try dsimp only at hSw
          go_simp
          try with_reducible rfl
        try simp only [Act.put, List.setIfInBounds_toArray, List.set_cons_zero, List.set_cons_succ]
        refine wpAnyH_ready (rs := [7]) (by kernel_rfl) (by simp) ?_
        refine AllReadyH.cons (o := { dst := some 15, op := Op.alloc 27, type := 0, pos := "law.go:117", after := #[], guard := none }) rfl (fun K hK => ?_) ?_
        ·
          go_simp
          have HN14_7 := hide (show (z13.alloc (.cells #[.int .u8 0, .int .u8 0, .int .u16 0, .int .u32 0, .int .u32 0, .slice none 0 0] 27)).heap[z13.heap.size]? = some (.cells #[.int .u8 0, .int .u8 0, .int .u16 0, .int .u32 0, .int .u32 0, .slice none 0 0] 27 (0, 0)) from heap_alloc_new _ _)
          have HG14 : w11.heap.size ≤ z13.heap.size := HZ13.out.size
          have HZ14 : Hid (Below w11.heap.size w11 (z13.alloc (.cells #[.int .u8 0, .int .u8 0, .int .u16 0, .int .u32 0, .int .u32 0, .slice none 0 0] 27))) := hide (HZ13.out.alloc HG14 (.cells #[.int .u8 0, .int .u8 0, .int .u16 0, .int .u32 0, .int .u32 0, .slice none 0 0] 27))
          have neY_7 := hide (own_ne (L := z13.heap.size) OY13.out (Nat.le_refl _))
          have OY14 := hide (owns_below OY13.out ((Below.refl z13.heap.size z13).alloc (Nat.le_refl _) (.cells #[.int .u8 0, .int .u8 0, .int .u16 0, .int .u32 0, .int .u32 0, .slice none 0 0] 27)) (Nat.le_refl _))
          refine hK.out _ _ (⟨cell_at (below_block HZ14.out HQ.out (Nat.le_refl _)) 0 rfl, cell_at (below_block HZ14.out HQ.out (Nat.le_refl _)) 1 rfl, cell_at (below_block HZ14.out HQ.out (Nat.le_refl _)) 2 rfl, cell_at (below_block HZ14.out HQ.out (Nat.le_refl _)) 3 rfl, cell_at (below_block HZ14.out HQ.out (Nat.le_refl _)) 4 rfl, cell_at (below_block HZ14.out HQ.out (Nat.le_refl _)) 5 rfl, cell_at (below_block HZ14.out HF.out (Nat.le_refl _)) 0 rfl, cell_at (below_block HZ14.out HF.out (Nat.le_refl _)) 1 rfl, cell_at (below_block HZ14.out HF.out (Nat.le_refl _)) 2 rfl, cell_at (below_block HZ14.out HF.out (Nat.le_refl _)) 3 rfl, cell_at (below_block HZ14.out HF.out (Nat.le_refl _)) 4 rfl⟩) (fun hHeld14 => ?_)
          clear hK K
          try simp only [Act.put, List.setIfInBounds_toArray, List.set_cons_zero, List.set_cons_succ]
          refine wpAnyH_ready (rs := [8]) (by kernel_rfl) (by simp) ?_
          refine AllReadyH.cons (o := { dst := none, op := Op.store 27 (Operand.tmp 15) (Operand.tmp 86), type := 0, pos := "law.go:117", after := #[{ on := 7, ground := Ground.data }, { on := 5, ground := Ground.data }, { on := 3, ground := Ground.chain }, { on := 0, ground := Ground.phase }, { on := 1, ground := Ground.phase }, { on := 2, ground := Ground.phase }, { on := 3, ground := Ground.phase }, { on := 4, ground := Ground.phase }, { on := 5, ground := Ground.phase }, { on := 6, ground := Ground.textOnly Departure.lateStores }, { on := 7, ground := Ground.phase }], guard := none }) rfl (fun K hK => ?_) ?_
          ·
            rw [if_pos (by rfl)]
            refine wp_store_mid 27 (.tmp 15) (.tmp 86) rfl z13.heap.size 0 #[.int .u8 9, .int .u8 1, .int .u16 0, .int .u32 (s2 : Int), .int .u32 (fs : Int), .slice a2 N8 c2] rfl rfl (there_of HN14_7.out (Nat.le_of_ble_eq_true (by kernel_rfl))) (by kernel_rfl) (by kernel_rfl) ?_
            have hX15 := heap_setCells z13.heap.size 27 (#[.int .u8 9, .int .u8 1, .int .u16 0, .int .u32 (s2 : Int), .int .u32 (fs : Int), .slice a2 N8 c2] : Array Value).toList 0 (z13.alloc (.cells #[.int .u8 0, .int .u8 0, .int .u16 0, .int .u32 0, .int .u32 0, .slice none 0 0] 27)) #[.int .u8 0, .int .u8 0, .int .u16 0, .int .u32 0, .int .u32 0, .slice none 0 0] HN14_7.out
            rw [upd_whole (by rfl)] at hX15
            have HN15_7 := hide hX15
            have hZ15 := below_setCells z13.heap.size HG14 (#[.int .u8 9, .int .u8 1, .int .u16 0, .int .u32 (s2 : Int), .int .u32 (fs : Int), .slice a2 N8 c2] : Array Value).toList 0 _ HZ14.out
            have HZ15 := hide hZ15
            have hgb15 := gb_part HZ14.out hZ15 (fun k hk => setCells_other z13.heap.size _ _ _ k hk) (setCells_size z13.heap.size _ _ _)
            have OY15 := hide (owns_kept OY14.out hgb15 neY_7.out)
            skip
            clear hX15 hZ15 hgb15
            refine hK.out _ _ (⟨cell_at (below_block HZ15.out HQ.out (Nat.le_refl _)) 0 rfl, cell_at (below_block HZ15.out HQ.out (Nat.le_refl _)) 1 rfl, cell_at (below_block HZ15.out HQ.out (Nat.le_refl _)) 2 rfl, cell_at (below_block HZ15.out HQ.out (Nat.le_refl _)) 3 rfl, cell_at (below_block HZ15.out HQ.out (Nat.le_refl _)) 4 rfl, cell_at (below_block HZ15.out HQ.out (Nat.le_refl _)) 5 rfl, cell_at (below_block HZ15.out HF.out (Nat.le_refl _)) 0 rfl, cell_at (below_block HZ15.out HF.out (Nat.le_refl _)) 1 rfl, cell_at (below_block HZ15.out HF.out (Nat.le_refl _)) 2 rfl, cell_at (below_block HZ15.out HF.out (Nat.le_refl _)) 3 rfl, cell_at (below_block HZ15.out HF.out (Nat.le_refl _)) 4 rfl⟩) (fun hHeld15 => ?_)
            clear hK K
            try simp only [Act.put, List.setIfInBounds_toArray, List.set_cons_zero, List.set_cons_succ]
            refine wpAnyH_take (i := 9) (oi := { dst := some 16, op := Op.assign (Operand.tmp 87), type := 31, pos := "law.go:117", after := #[{ on := 6, ground := Ground.data }, { on := 8, ground := Ground.chain }, { on := 0, ground := Ground.phase }, { on := 1, ground := Ground.phase }, { on := 2, ground := Ground.phase }, { on := 3, ground := Ground.phase }, { on := 4, ground := Ground.phase }, { on := 5, ground := Ground.phase }, { on := 6, ground := Ground.phase }, { on := 7, ground := Ground.phase }, { on := 8, ground := Ground.phase }], guard := none }) (v := ?_) rfl (by kernel_rfl) (by kernel_rfl) (by kernel_rfl) (fun _ _ _ h => h) (Or.inl ⟨by rfl, ?_⟩) (by assumption) ?_
            rotate_left
            · intro wS hSw
              try dsimp only at hSw
              go_simp
              try with_reducible rfl
            try simp only [Act.put, List.setIfInBounds_toArray, List.set_cons_zero, List.set_cons_succ]
            refine wpAnyH_done (by kernel_rfl) ?_ _
            try go_wp2_with fail
            go_meet
            exact ⟨_, a2, c2, rfl, rfl, HN15_7, hide HG14, hide (Lies.of_owns OY15.out), HZ15⟩
          exact AllReadyH.nil
        exact AllReadyH.nil
      refine AllReadyH.cons (o := { dst := some 15, op := Op.alloc 27, type := 0, pos := "law.go:117", after := #[], guard := none }) rfl (fun K hK => ?_) ?_
      ·
        go_simp
        have HN16_7 := hide (show (z12.alloc (.cells #[.int .u8 0, .int .u8 0, .int .u16 0, .int .u32 0, .int .u32 0, .slice none 0 0] 27)).heap[z12.heap.size]? = some (.cells #[.int .u8 0, .int .u8 0, .int .u16 0, .int .u32 0, .int .u32 0, .slice none 0 0] 27 (0, 0)) from heap_alloc_new _ _)
        have HG16 : w11.heap.size ≤ z12.heap.size := HZ12.out.size
        have HZ16 : Hid (Below w11.heap.size w11 (z12.alloc (.cells #[.int .u8 0, .int .u8 0, .int .u16 0, .int .u32 0, .int .u32 0, .slice none 0 0] 27))) := hide (HZ12.out.alloc HG16 (.cells #[.int .u8 0, .int .u8 0, .int .u16 0, .int .u32 0, .int .u32 0, .slice none 0 0] 27))
        refine hK.out _ _ (⟨cell_at (below_block HZ16.out HQ.out (Nat.le_refl _)) 0 rfl, cell_at (below_block HZ16.out HQ.out (Nat.le_refl _)) 1 rfl, cell_at (below_block HZ16.out HQ.out (Nat.le_refl _)) 2 rfl, cell_at (below_block HZ16.out HQ.out (Nat.le_refl _)) 3 rfl, cell_at (below_block HZ16.out HQ.out (Nat.le_refl _)) 4 rfl, cell_at (below_block HZ16.out HQ.out (Nat.le_refl _)) 5 rfl, cell_at (below_block HZ16.out HF.out (Nat.le_refl _)) 0 rfl, cell_at (below_block HZ16.out HF.out (Nat.le_refl _)) 1 rfl, cell_at (below_block HZ16.out HF.out (Nat.le_refl _)) 2 rfl, cell_at (below_block HZ16.out HF.out (Nat.le_refl _)) 3 rfl, cell_at (below_block HZ16.out HF.out (Nat.le_refl _)) 4 rfl⟩) (fun hHeld16 => ?_)
        clear hK K
        try simp only [Act.put, List.setIfInBounds_toArray, List.set_cons_zero, List.set_cons_succ]
        refine wpAnyH_ready (rs := [3]) (by kernel_rfl) (by simp) ?_
        refine AllReadyH.cons (o := { dst := some 85, op := Op.call { callee := Callee.value (Operand.func 11), args := #[Operand.tmp 82, Operand.tmp 84], argTypes := #[27, 29] }, type := 32, pos := "law.go:117", after := #[{ on := 0, ground := Ground.data }, { on := 2, ground := Ground.data }, { on := 2, ground := Ground.chain }], guard := none }) rfl (fun K hK => ?_) ?_
        ·
          go_simp
          go_at_call 11
          (with_reducible refine (HRW.out _ a1 c1 (RT1.out.below HZ16.out (Nat.le_refl _))).mono ?_)
          rintro e z17 ⟨a2, c2, rfl, o, b⟩
          have HZ17 := hide (show Below w11.heap.size w11 z17 from HZ16.out.trans (Below.mono b HZ16.out.size))
          have hlt17_7 := hide (lt_of_block HN16_7.out)
          have HN17_7 := hide (below_block b HN16_7.out (by first | exact Nat.le_refl _ | simp))
          have OY17 := hide o
          have neY_7 := hide (own_ne_lt (L := z12.heap.size) o hlt17_7.out)
          clear o
          clear b
          refine hK.out _ _ (⟨cell_at (below_block HZ17.out HQ.out (Nat.le_refl _)) 0 rfl, cell_at (below_block HZ17.out HQ.out (Nat.le_refl _)) 1 rfl, cell_at (below_block HZ17.out HQ.out (Nat.le_refl _)) 2 rfl, cell_at (below_block HZ17.out HQ.out (Nat.le_refl _)) 3 rfl, cell_at (below_block HZ17.out HQ.out (Nat.le_refl _)) 4 rfl, cell_at (below_block HZ17.out HQ.out (Nat.le_refl _)) 5 rfl, cell_at (below_block HZ17.out HF.out (Nat.le_refl _)) 0 rfl, cell_at (below_block HZ17.out HF.out (Nat.le_refl _)) 1 rfl, cell_at (below_block HZ17.out HF.out (Nat.le_refl _)) 2 rfl, cell_at (below_block HZ17.out HF.out (Nat.le_refl _)) 3 rfl, cell_at (below_block HZ17.out HF.out (Nat.le_refl _)) 4 rfl⟩) (fun hHeld17 => ?_)
          clear hK K
          try simp only [Act.put, List.setIfInBounds_toArray, List.set_cons_zero, List.set_cons_succ]
          refine wpAnyH_take (i := 4) (oi := { dst := some 81, op := Op.move (Operand.tmp 85), type := 32, pos := "law.go:117", after := #[{ on := 3, ground := Ground.data }], guard := none }) (v := ?_) rfl (by kernel_rfl) (by kernel_rfl) (by kernel_rfl) (fun _ _ _ h => h) (Or.inl ⟨by rfl, ?_⟩) (by assumption) ?_
          rotate_left
          · intro wS hSw
            try dsimp only at hSw
            go_simp
            try with_reducible rfl
          try simp only [Act.put, List.setIfInBounds_toArray, List.set_cons_zero, List.set_cons_succ]
          refine wpAnyH_take (i := 5) (oi := { dst := some 86, op := Op.extract (Operand.tmp 81) 0, type := 27, pos := "law.go:117", after := #[{ on := 4, ground := Ground.data }], guard := none }) (v := ?_) rfl (by kernel_rfl) (by kernel_rfl) (by kernel_rfl) (fun _ _ _ h => h) (Or.inl ⟨by rfl, ?_⟩) (by assumption) ?_
          rotate_left
          · intro wS hSw
            try dsimp only at hSw
            go_simp
            try with_reducible rfl
          try simp only [Act.put, List.setIfInBounds_toArray, List.set_cons_zero, List.set_cons_succ]
          refine wpAnyH_take (i := 6) (oi := { dst := some 87, op := Op.extract (Operand.tmp 81) 1, type := 31, pos := "law.go:117", after := #[{ on := 4, ground := Ground.data }, { on := 8, ground := Ground.gcOnly Departure.lateStores }], guard := none }) (v := ?_) rfl (by kernel_rfl) (by kernel_rfl) (by kernel_rfl) (fun _ _ _ h => h) (Or.inl ⟨by rfl, ?_⟩) (by assumption) ?_
          rotate_left
          · intro wS hSw
            try dsimp only at hSw
            go_simp
            try with_reducible rfl
          try simp only [Act.put, List.setIfInBounds_toArray, List.set_cons_zero, List.set_cons_succ]
          refine wpAnyH_ready (rs := [8]) (by kernel_rfl) (by simp) ?_
          refine AllReadyH.cons (o := { dst := none, op := Op.store 27 (Operand.tmp 15) (Operand.tmp 86), type := 0, pos := "law.go:117", after := #[{ on := 7, ground := Ground.data }, { on := 5, ground := Ground.data }, { on := 3, ground := Ground.chain }, { on := 0, ground := Ground.phase }, { on := 1, ground := Ground.phase }, { on := 2, ground := Ground.phase }, { on := 3, ground := Ground.phase }, { on := 4, ground := Ground.phase }, { on := 5, ground := Ground.phase }, { on := 6, ground := Ground.textOnly Departure.lateStores }, { on := 7, ground := Ground.phase }], guard := none }) rfl (fun K hK => ?_) ?_
          ·
            rw [if_pos (by rfl)]
            refine wp_store_mid 27 (.tmp 15) (.tmp 86) rfl z12.heap.size 0 #[.int .u8 9, .int .u8 1, .int .u16 0, .int .u32 (s2 : Int), .int .u32 (fs : Int), .slice a2 N8 c2] rfl rfl (there_of HN17_7.out (Nat.le_of_ble_eq_true (by kernel_rfl))) (by kernel_rfl) (by kernel_rfl) ?_
            have hX18 := heap_setCells z12.heap.size 27 (#[.int .u8 9, .int .u8 1, .int .u16 0, .int .u32 (s2 : Int), .int .u32 (fs : Int), .slice a2 N8 c2] : Array Value).toList 0 z17 #[.int .u8 0, .int .u8 0, .int .u16 0, .int .u32 0, .int .u32 0, .slice none 0 0] HN17_7.out
            rw [upd_whole (by rfl)] at hX18
            have HN18_7 := hide hX18
            have hZ18 := below_setCells z12.heap.size HG16 (#[.int .u8 9, .int .u8 1, .int .u16 0, .int .u32 (s2 : Int), .int .u32 (fs : Int), .slice a2 N8 c2] : Array Value).toList 0 _ HZ17.out
            have HZ18 := hide hZ18
            have hgb18 := gb_part HZ17.out hZ18 (fun k hk => setCells_other z12.heap.size _ _ _ k hk) (setCells_size z12.heap.size _ _ _)
            have OY18 := hide (owns_kept OY17.out hgb18 neY_7.out)
            skip
            clear hX18 hZ18 hgb18
            refine hK.out _ _ (⟨cell_at (below_block HZ18.out HQ.out (Nat.le_refl _)) 0 rfl, cell_at (below_block HZ18.out HQ.out (Nat.le_refl _)) 1 rfl, cell_at (below_block HZ18.out HQ.out (Nat.le_refl _)) 2 rfl, cell_at (below_block HZ18.out HQ.out (Nat.le_refl _)) 3 rfl, cell_at (below_block HZ18.out HQ.out (Nat.le_refl _)) 4 rfl, cell_at (below_block HZ18.out HQ.out (Nat.le_refl _)) 5 rfl, cell_at (below_block HZ18.out HF.out (Nat.le_refl _)) 0 rfl, cell_at (below_block HZ18.out HF.out (Nat.le_refl _)) 1 rfl, cell_at (below_block HZ18.out HF.out (Nat.le_refl _)) 2 rfl, cell_at (below_block HZ18.out HF.out (Nat.le_refl _)) 3 rfl, cell_at (below_block HZ18.out HF.out (Nat.le_refl _)) 4 rfl⟩) (fun hHeld18 => ?_)
            clear hK K
            try simp only [Act.put, List.setIfInBounds_toArray, List.set_cons_zero, List.set_cons_succ]
            refine wpAnyH_take (i := 9) (oi := { dst := some 16, op := Op.assign (Operand.tmp 87), type := 31, pos := "law.go:117", after := #[{ on := 6, ground := Ground.data }, { on := 8, ground := Ground.chain }, { on := 0, ground := Ground.phase }, { on := 1, ground := Ground.phase }, { on := 2, ground := Ground.phase }, { on := 3, ground := Ground.phase }, { on := 4, ground := Ground.phase }, { on := 5, ground := Ground.phase }, { on := 6, ground := Ground.phase }, { on := 7, ground := Ground.phase }, { on := 8, ground := Ground.phase }], guard := none }) (v := ?_) rfl (by kernel_rfl) (by kernel_rfl) (by kernel_rfl) (fun _ _ _ h => h) (Or.inl ⟨by rfl, ?_⟩) (by assumption) ?_
            rotate_left
            · intro wS hSw
              try dsimp only at hSw
              go_simp
              try with_reducible rfl
            try simp only [Act.put, List.setIfInBounds_toArray, List.set_cons_zero, List.set_cons_succ]
            refine wpAnyH_done (by kernel_rfl) ?_ _
            try go_wp2_with fail
            go_meet
            exact ⟨_, a2, c2, rfl, rfl, HN18_7, hide HG16, hide (Lies.of_owns OY18.out), HZ18⟩
          exact AllReadyH.nil
        exact AllReadyH.nil
      exact AllReadyH.nil
    refine AllReadyH.cons (o := { dst := some 15, op := Op.alloc 27, type := 0, pos := "law.go:117", after := #[], guard := none }) rfl (fun K hK => ?_) ?_
    ·
      go_simp
      have HN19_7 := hide (show (w11.alloc (.cells #[.int .u8 0, .int .u8 0, .int .u16 0, .int .u32 0, .int .u32 0, .slice none 0 0] 27)).drew.heap[w11.heap.size]? = some (.cells #[.int .u8 0, .int .u8 0, .int .u16 0, .int .u32 0, .int .u32 0, .slice none 0 0] 27 (0, 0)) from heap_alloc_new _ _)
      have HG19 : w11.heap.size ≤ w11.heap.size := HZ0.out.size
      have HZ19 : Hid (Below w11.heap.size w11 (w11.alloc (.cells #[.int .u8 0, .int .u8 0, .int .u16 0, .int .u32 0, .int .u32 0, .slice none 0 0] 27)).drew) := hide (HZ0.out.alloc HG19 (.cells #[.int .u8 0, .int .u8 0, .int .u16 0, .int .u32 0, .int .u32 0, .slice none 0 0] 27))
      refine hK.out _ _ (⟨cell_at (below_block HZ19.out HQ.out (Nat.le_refl _)) 0 rfl, cell_at (below_block HZ19.out HQ.out (Nat.le_refl _)) 1 rfl, cell_at (below_block HZ19.out HQ.out (Nat.le_refl _)) 2 rfl, cell_at (below_block HZ19.out HQ.out (Nat.le_refl _)) 3 rfl, cell_at (below_block HZ19.out HQ.out (Nat.le_refl _)) 4 rfl, cell_at (below_block HZ19.out HQ.out (Nat.le_refl _)) 5 rfl, cell_at (below_block HZ19.out HF.out (Nat.le_refl _)) 0 rfl, cell_at (below_block HZ19.out HF.out (Nat.le_refl _)) 1 rfl, cell_at (below_block HZ19.out HF.out (Nat.le_refl _)) 2 rfl, cell_at (below_block HZ19.out HF.out (Nat.le_refl _)) 3 rfl, cell_at (below_block HZ19.out HF.out (Nat.le_refl _)) 4 rfl⟩) (fun hHeld19 => ?_)
      clear hK K
      try simp only [Act.put, List.setIfInBounds_toArray, List.set_cons_zero, List.set_cons_succ]
      refine wpAnyH_ready (rs := [2]) (by kernel_rfl) (by simp) ?_
      refine AllReadyH.cons (o := { dst := some 84, op := Op.call { callee := Callee.value (Operand.func 17), args := #[Operand.tmp 83], argTypes := #[29] }, type := 29, pos := "law.go:117", after := #[{ on := 1, ground := Ground.data }], guard := none }) rfl (fun K hK => ?_) ?_
      ·
        go_simp
        go_at_call 17
        (with_reducible refine (turnF _ op fs fd gf gt).mono ?_)
        rintro e z20 ⟨rfl, b⟩
        have HZ20 := hide (show Below w11.heap.size w11 z20 from HZ19.out.trans (Below.mono b HZ19.out.size))
        have hlt20_7 := hide (lt_of_block HN19_7.out)
        have HN20_7 := hide (below_block b HN19_7.out (by first | exact Nat.le_refl _ | simp))
        clear b
        refine hK.out _ _ (⟨cell_at (below_block HZ20.out HQ.out (Nat.le_refl _)) 0 rfl, cell_at (below_block HZ20.out HQ.out (Nat.le_refl _)) 1 rfl, cell_at (below_block HZ20.out HQ.out (Nat.le_refl _)) 2 rfl, cell_at (below_block HZ20.out HQ.out (Nat.le_refl _)) 3 rfl, cell_at (below_block HZ20.out HQ.out (Nat.le_refl _)) 4 rfl, cell_at (below_block HZ20.out HQ.out (Nat.le_refl _)) 5 rfl, cell_at (below_block HZ20.out HF.out (Nat.le_refl _)) 0 rfl, cell_at (below_block HZ20.out HF.out (Nat.le_refl _)) 1 rfl, cell_at (below_block HZ20.out HF.out (Nat.le_refl _)) 2 rfl, cell_at (below_block HZ20.out HF.out (Nat.le_refl _)) 3 rfl, cell_at (below_block HZ20.out HF.out (Nat.le_refl _)) 4 rfl⟩) (fun hHeld20 => ?_)
        clear hK K
        try simp only [Act.put, List.setIfInBounds_toArray, List.set_cons_zero, List.set_cons_succ]
        refine wpAnyH_ready (rs := [3]) (by kernel_rfl) (by simp) ?_
        refine AllReadyH.cons (o := { dst := some 85, op := Op.call { callee := Callee.value (Operand.func 11), args := #[Operand.tmp 82, Operand.tmp 84], argTypes := #[27, 29] }, type := 32, pos := "law.go:117", after := #[{ on := 0, ground := Ground.data }, { on := 2, ground := Ground.data }, { on := 2, ground := Ground.chain }], guard := none }) rfl (fun K hK => ?_) ?_
        ·
          go_simp
          go_at_call 11
          (with_reducible refine (HRW.out _ a1 c1 (RT1.out.below HZ20.out (Nat.le_refl _))).mono ?_)
          rintro e z21 ⟨a2, c2, rfl, o, b⟩
          have HZ21 := hide (show Below w11.heap.size w11 z21 from HZ20.out.trans (Below.mono b HZ20.out.size))
          have hlt21_7 := hide (lt_of_block HN20_7.out)
          have HN21_7 := hide (below_block b HN20_7.out (by first | exact Nat.le_refl _ | simp))
          have OY21 := hide o
          have neY_7 := hide (own_ne_lt (L := w11.heap.size) o hlt21_7.out)
          clear o
          clear b
          refine hK.out _ _ (⟨cell_at (below_block HZ21.out HQ.out (Nat.le_refl _)) 0 rfl, cell_at (below_block HZ21.out HQ.out (Nat.le_refl _)) 1 rfl, cell_at (below_block HZ21.out HQ.out (Nat.le_refl _)) 2 rfl, cell_at (below_block HZ21.out HQ.out (Nat.le_refl _)) 3 rfl, cell_at (below_block HZ21.out HQ.out (Nat.le_refl _)) 4 rfl, cell_at (below_block HZ21.out HQ.out (Nat.le_refl _)) 5 rfl, cell_at (below_block HZ21.out HF.out (Nat.le_refl _)) 0 rfl, cell_at (below_block HZ21.out HF.out (Nat.le_refl _)) 1 rfl, cell_at (below_block HZ21.out HF.out (Nat.le_refl _)) 2 rfl, cell_at (below_block HZ21.out HF.out (Nat.le_refl _)) 3 rfl, cell_at (below_block HZ21.out HF.out (Nat.le_refl _)) 4 rfl⟩) (fun hHeld21 => ?_)
          clear hK K
          try simp only [Act.put, List.setIfInBounds_toArray, List.set_cons_zero, List.set_cons_succ]
          refine wpAnyH_take (i := 4) (oi := { dst := some 81, op := Op.move (Operand.tmp 85), type := 32, pos := "law.go:117", after := #[{ on := 3, ground := Ground.data }], guard := none }) (v := ?_) rfl (by kernel_rfl) (by kernel_rfl) (by kernel_rfl) (fun _ _ _ h => h) (Or.inl ⟨by rfl, ?_⟩) (by assumption) ?_
          rotate_left
          · intro wS hSw
            try dsimp only at hSw
            go_simp
            try with_reducible rfl
          try simp only [Act.put, List.setIfInBounds_toArray, List.set_cons_zero, List.set_cons_succ]
          refine wpAnyH_take (i := 5) (oi := { dst := some 86, op := Op.extract (Operand.tmp 81) 0, type := 27, pos := "law.go:117", after := #[{ on := 4, ground := Ground.data }], guard := none }) (v := ?_) rfl (by kernel_rfl) (by kernel_rfl) (by kernel_rfl) (fun _ _ _ h => h) (Or.inl ⟨by rfl, ?_⟩) (by assumption) ?_
          rotate_left
          · intro wS hSw
            try dsimp only at hSw
            go_simp
            try with_reducible rfl
          try simp only [Act.put, List.setIfInBounds_toArray, List.set_cons_zero, List.set_cons_succ]
          refine wpAnyH_take (i := 6) (oi := { dst := some 87, op := Op.extract (Operand.tmp 81) 1, type := 31, pos := "law.go:117", after := #[{ on := 4, ground := Ground.data }, { on := 8, ground := Ground.gcOnly Departure.lateStores }], guard := none }) (v := ?_) rfl (by kernel_rfl) (by kernel_rfl) (by kernel_rfl) (fun _ _ _ h => h) (Or.inl ⟨by rfl, ?_⟩) (by assumption) ?_
          rotate_left
          · intro wS hSw
            try dsimp only at hSw
            go_simp
            try with_reducible rfl
          try simp only [Act.put, List.setIfInBounds_toArray, List.set_cons_zero, List.set_cons_succ]
          refine wpAnyH_ready (rs := [8]) (by kernel_rfl) (by simp) ?_
          refine AllReadyH.cons (o := { dst := none, op := Op.store 27 (Operand.tmp 15) (Operand.tmp 86), type := 0, pos := "law.go:117", after := #[{ on := 7, ground := Ground.data }, { on := 5, ground := Ground.data }, { on := 3, ground := Ground.chain }, { on := 0, ground := Ground.phase }, { on := 1, ground := Ground.phase }, { on := 2, ground := Ground.phase }, { on := 3, ground := Ground.phase }, { on := 4, ground := Ground.phase }, { on := 5, ground := Ground.phase }, { on := 6, ground := Ground.textOnly Departure.lateStores }, { on := 7, ground := Ground.phase }], guard := none }) rfl (fun K hK => ?_) ?_
          ·
            rw [if_pos (by rfl)]
            refine wp_store_mid 27 (.tmp 15) (.tmp 86) rfl w11.heap.size 0 #[.int .u8 9, .int .u8 1, .int .u16 0, .int .u32 (s2 : Int), .int .u32 (fs : Int), .slice a2 N8 c2] rfl rfl (there_of HN21_7.out (Nat.le_of_ble_eq_true (by kernel_rfl))) (by kernel_rfl) (by kernel_rfl) ?_
            have hX22 := heap_setCells w11.heap.size 27 (#[.int .u8 9, .int .u8 1, .int .u16 0, .int .u32 (s2 : Int), .int .u32 (fs : Int), .slice a2 N8 c2] : Array Value).toList 0 z21 #[.int .u8 0, .int .u8 0, .int .u16 0, .int .u32 0, .int .u32 0, .slice none 0 0] HN21_7.out
            rw [upd_whole (by rfl)] at hX22
            have HN22_7 := hide hX22
            have hZ22 := below_setCells w11.heap.size HG19 (#[.int .u8 9, .int .u8 1, .int .u16 0, .int .u32 (s2 : Int), .int .u32 (fs : Int), .slice a2 N8 c2] : Array Value).toList 0 _ HZ21.out
            have HZ22 := hide hZ22
            have hgb22 := gb_part HZ21.out hZ22 (fun k hk => setCells_other w11.heap.size _ _ _ k hk) (setCells_size w11.heap.size _ _ _)
            have OY22 := hide (owns_kept OY21.out hgb22 neY_7.out)
            skip
            clear hX22 hZ22 hgb22
            refine hK.out _ _ (⟨cell_at (below_block HZ22.out HQ.out (Nat.le_refl _)) 0 rfl, cell_at (below_block HZ22.out HQ.out (Nat.le_refl _)) 1 rfl, cell_at (below_block HZ22.out HQ.out (Nat.le_refl _)) 2 rfl, cell_at (below_block HZ22.out HQ.out (Nat.le_refl _)) 3 rfl, cell_at (below_block HZ22.out HQ.out (Nat.le_refl _)) 4 rfl, cell_at (below_block HZ22.out HQ.out (Nat.le_refl _)) 5 rfl, cell_at (below_block HZ22.out HF.out (Nat.le_refl _)) 0 rfl, cell_at (below_block HZ22.out HF.out (Nat.le_refl _)) 1 rfl, cell_at (below_block HZ22.out HF.out (Nat.le_refl _)) 2 rfl, cell_at (below_block HZ22.out HF.out (Nat.le_refl _)) 3 rfl, cell_at (below_block HZ22.out HF.out (Nat.le_refl _)) 4 rfl⟩) (fun hHeld22 => ?_)
            clear hK K
            try simp only [Act.put, List.setIfInBounds_toArray, List.set_cons_zero, List.set_cons_succ]
            refine wpAnyH_take (i := 9) (oi := { dst := some 16, op := Op.assign (Operand.tmp 87), type := 31, pos := "law.go:117", after := #[{ on := 6, ground := Ground.data }, { on := 8, ground := Ground.chain }, { on := 0, ground := Ground.phase }, { on := 1, ground := Ground.phase }, { on := 2, ground := Ground.phase }, { on := 3, ground := Ground.phase }, { on := 4, ground := Ground.phase }, { on := 5, ground := Ground.phase }, { on := 6, ground := Ground.phase }, { on := 7, ground := Ground.phase }, { on := 8, ground := Ground.phase }], guard := none }) (v := ?_) rfl (by kernel_rfl) (by kernel_rfl) (by kernel_rfl) (fun _ _ _ h => h) (Or.inl ⟨by rfl, ?_⟩) (by assumption) ?_
            rotate_left
            · intro wS hSw
              try dsimp only at hSw
              go_simp
              try with_reducible rfl
            try simp only [Act.put, List.setIfInBounds_toArray, List.set_cons_zero, List.set_cons_succ]
            refine wpAnyH_done (by kernel_rfl) ?_ _
            try go_wp2_with fail
            go_meet
            exact ⟨_, a2, c2, rfl, rfl, HN22_7, hide HG19, hide (Lies.of_owns OY22.out), HZ22⟩
          exact AllReadyH.nil
        exact AllReadyH.nil
      exact AllReadyH.nil
    exact AllReadyH.nil
  case rest =>
  obtain ⟨BY, a2, c2, rfl, rfl, HY, NYw, RY1, HBc⟩ := hcut
  obtain ⟨y0, rfl⟩ : ∃ wz, wz = wc := ⟨_, rfl⟩
  have hbc := HBc.out
  have NY := hide (Nat.le_trans HB.out.size NYw.out)
  replace HF := hide (below_block hbc HF.out (Nat.le_refl _))
  replace HO := hide (below_block hbc HO.out (Nat.le_refl _))
  replace HQ := hide (below_block hbc HQ.out (Nat.le_refl _))
  replace RT1 := hide (RT1.out.below hbc (Nat.le_refl _))
  replace HB := hide (HB.out.trans (hbc.mono HB.out.size))
  clear hbc HBc NYw HRW
  clear RT1
  go_wp2_with ((refine ld_whole (o := ⟨some 89, _, _, _, _, _⟩) 27 (.tmp 15) rfl (by rfl) BY rfl #[.int .u8 9, .int .u8 1, .int .u16 0, .int .u32 (s2 : Int), .int .u32 (fs : Int), .slice a2 N8 c2] 27 HY.out Try.underlying27 (by kernel_rfl) ?_; try simp only [Act.put, List.setIfInBounds_toArray, List.set_cons_zero, List.set_cons_succ]))
  refine (HO3.out _ a2 c2 RY1.out).mono ?_
  rintro e w23 ⟨rfl, b⟩
  replace HF := hide (below_block b HF.out (Nat.le_refl _))
  replace HO := hide (below_block b HO.out (Nat.le_refl _))
  replace HQ := hide (below_block b HQ.out (Nat.le_refl _))
  replace HY := hide (below_block b HY.out (Nat.le_refl _))
  replace RY1 := hide (RY1.out.below b (Nat.le_refl _))
  replace HB := hide (HB.out.trans (b.mono HB.out.size))
  clear b 
  clear RY1
  obtain ⟨w24, hwn, wb, HN1⟩ : ∃ W, w23.alloc (.cells #[.int .u8 (op : Int), .int .u32 (fd : Int), .int .u32 (fs : Int), .int .u16 (gt : Int), .int .u16 (gf : Int)] 29) = W ∧ Below w23.heap.size w23 W ∧ Hid (W.heap[w23.heap.size]? = some (.cells #[.int .u8 (op : Int), .int .u32 (fd : Int), .int .u32 (fs : Int), .int .u16 (gt : Int), .int .u16 (gf : Int)] 29 (0, 0))) := ⟨_, rfl, (Below.refl w23.heap.size w23).alloc (Nat.le_refl _) _, hide (heap_alloc_new w23 _)⟩
  obtain ⟨BG, hBn⟩ : ∃ B, w23.heap.size = B := ⟨_, rfl⟩
  rw [hBn] at HN1
  have HW := hide (And.intro hwn hBn)
  have HBo := HB
  have nqF_G := hide (blk_ne HF.out hBn)
  have nqO_G := hide (blk_ne HO.out hBn)
  have nqQ_G := hide (blk_ne HQ.out hBn)
  have nqY_G := hide (blk_ne HY.out hBn)
  clear hwn hBn
  replace HF := hide (below_block wb HF.out (Nat.le_refl _))
  replace HO := hide (below_block wb HO.out (Nat.le_refl _))
  replace HQ := hide (below_block wb HQ.out (Nat.le_refl _))
  replace HY := hide (below_block wb HY.out (Nat.le_refl _))
  replace HB := hide (HB.out.trans (wb.mono HB.out.size))
  have HG := HN1
  have NG := hide (show w.heap.size ≤ BG by rw [← HW.out.2]; exact HBo.out.size)
  clear wb HN1 HBo
  go_upto_region 18 with (fail)
  rw [HW.out.1]
  try rw [HW.out.2]
  clear HW
  have hor : (((s2 : Int) == 77) = true) ∨ (((s2 : Int) == 77) = false ∧ ((od : Int) == 77) = true) := by have := HX7.out; cases h : ((s2 : Int) == 77) <;> simp_all
  have HQT := hide (fun (W : World) (_ : Below w24.heap.size w24 W) => turnF W op fs fd gf gt)
  clear HX7 HO3
  rcases hor with hx1 | ⟨hx1, hx2⟩
  ·
    have HZ0 := hide (show Below w24.heap.size w24 w24.drew from (Below.refl _ _).drew)
    refine wp_region_held_drew (S := fun w' => w'.cell? ⟨BG, 0, none⟩ = some (.int .u8 (op : Int)) ∧ w'.cell? ⟨BG, 1, none⟩ = some (.int .u32 (fd : Int)) ∧ w'.cell? ⟨BG, 2, none⟩ = some (.int .u32 (fs : Int)) ∧ w'.cell? ⟨BG, 3, none⟩ = some (.int .u16 (gt : Int)) ∧ w'.cell? ⟨BG, 4, none⟩ = some (.int .u16 (gf : Int)) ∧ w'.cell? ⟨BF, 0, none⟩ = some (.int .u8 (op : Int)) ∧ w'.cell? ⟨BF, 1, none⟩ = some (.int .u32 (fs : Int)) ∧ w'.cell? ⟨BF, 2, none⟩ = some (.int .u32 (fd : Int)) ∧ w'.cell? ⟨BF, 3, none⟩ = some (.int .u16 (gf : Int)) ∧ w'.cell? ⟨BF, 4, none⟩ = some (.int .u16 (gt : Int)) ∧ w'.cell? ⟨BY, 0, none⟩ = some (.int .u8 9) ∧ w'.cell? ⟨BY, 1, none⟩ = some (.int .u8 1) ∧ w'.cell? ⟨BY, 2, none⟩ = some (.int .u16 0) ∧ w'.cell? ⟨BY, 3, none⟩ = some (.int .u32 (s2 : Int)) ∧ w'.cell? ⟨BY, 4, none⟩ = some (.int .u32 (fs : Int)) ∧ w'.cell? ⟨BY, 5, none⟩ = some (.slice a2 N8 c2) ∧ w'.cell? ⟨BO, 0, none⟩ = some (.int .u8 (op : Int)) ∧ w'.cell? ⟨BO, 1, none⟩ = some (.int .u32 (os : Int)) ∧ w'.cell? ⟨BO, 2, none⟩ = some (.int .u32 (od : Int)) ∧ w'.cell? ⟨BO, 3, none⟩ = some (.int .u16 (of : Int)) ∧ w'.cell? ⟨BO, 4, none⟩ = some (.int .u16 (ot : Int))) (by kernel_rfl) (by exact ⟨cell_at (below_block HZ0.out HG.out (Nat.le_refl _)) 0 rfl, cell_at (below_block HZ0.out HG.out (Nat.le_refl _)) 1 rfl, cell_at (below_block HZ0.out HG.out (Nat.le_refl _)) 2 rfl, cell_at (below_block HZ0.out HG.out (Nat.le_refl _)) 3 rfl, cell_at (below_block HZ0.out HG.out (Nat.le_refl _)) 4 rfl, cell_at (below_block HZ0.out HF.out (Nat.le_refl _)) 0 rfl, cell_at (below_block HZ0.out HF.out (Nat.le_refl _)) 1 rfl, cell_at (below_block HZ0.out HF.out (Nat.le_refl _)) 2 rfl, cell_at (below_block HZ0.out HF.out (Nat.le_refl _)) 3 rfl, cell_at (below_block HZ0.out HF.out (Nat.le_refl _)) 4 rfl, cell_at (below_block HZ0.out HY.out (Nat.le_refl _)) 0 rfl, cell_at (below_block HZ0.out HY.out (Nat.le_refl _)) 1 rfl, cell_at (below_block HZ0.out HY.out (Nat.le_refl _)) 2 rfl, cell_at (below_block HZ0.out HY.out (Nat.le_refl _)) 3 rfl, cell_at (below_block HZ0.out HY.out (Nat.le_refl _)) 4 rfl, cell_at (below_block HZ0.out HY.out (Nat.le_refl _)) 5 rfl, cell_at (below_block HZ0.out HO.out (Nat.le_refl _)) 0 rfl, cell_at (below_block HZ0.out HO.out (Nat.le_refl _)) 1 rfl, cell_at (below_block HZ0.out HO.out (Nat.le_refl _)) 2 rfl, cell_at (below_block HZ0.out HO.out (Nat.le_refl _)) 3 rfl, cell_at (below_block HZ0.out HO.out (Nat.le_refl _)) 4 rfl⟩) (fun hHeld => ?_)
    refine wpAnyH_take (i := 0) (oi := { dst := some 94, op := Op.move (Operand.tmp 16), type := 31, pos := "law.go:119", after := #[], guard := none }) (v := ?_) rfl (by kernel_rfl) (by kernel_rfl) (by kernel_rfl) (fun _ _ _ h => h) (Or.inl ⟨by rfl, ?_⟩) (by assumption) ?_
    rotate_left
    · intro wS hSw
      try dsimp only at hSw
      go_simp
      try with_reducible rfl
    try simp only [Act.put, List.setIfInBounds_toArray, List.set_cons_zero, List.set_cons_succ]
    refine wpAnyH_take (i := 1) (oi := { dst := some 95, op := Op.binOp BinOp.eql 31 (Operand.tmp 94) (Operand.const (Value.int IntKind.i64 0)) 31, type := 4, pos := "law.go:119", after := #[{ on := 0, ground := Ground.data }], guard := none }) (v := ?_) rfl (by kernel_rfl) (by kernel_rfl) (by kernel_rfl) (fun _ _ _ h => h) (Or.inl ⟨by rfl, ?_⟩) (by assumption) ?_
    rotate_left
    · intro wS hSw
      try dsimp only at hSw
      go_simp
      try with_reducible rfl
    try simp only [Act.put, List.setIfInBounds_toArray, List.set_cons_zero, List.set_cons_succ]
    refine wpAnyH_take (i := 2) (oi := { dst := some 96, op := Op.move (Operand.tmp 95), type := 4, pos := "law.go:119", after := #[{ on := 1, ground := Ground.data }], guard := none }) (v := ?_) rfl (by kernel_rfl) (by kernel_rfl) (by kernel_rfl) (fun _ _ _ h => h) (Or.inl ⟨by rfl, ?_⟩) (by assumption) ?_
    rotate_left
    · intro wS hSw
      try dsimp only at hSw
      go_simp
      try with_reducible rfl
    try simp only [Act.put, List.setIfInBounds_toArray, List.set_cons_zero, List.set_cons_succ]
    refine wpAnyH_take (i := 3) (oi := { dst := some 97, op := Op.move (Operand.tmp 19), type := 31, pos := "law.go:119", after := #[{ on := 2, ground := Ground.guard }], guard := some (2, true) }) (v := ?_) rfl (by kernel_rfl) (by kernel_rfl) (by kernel_rfl) (fun _ _ _ h => h) (Or.inl ⟨by rfl, ?_⟩) (by assumption) ?_
    rotate_left
    · intro wS hSw
      try dsimp only at hSw
      go_simp
      try with_reducible rfl
    try simp only [Act.put, List.setIfInBounds_toArray, List.set_cons_zero, List.set_cons_succ]
    refine wpAnyH_take (i := 4) (oi := { dst := some 98, op := Op.binOp BinOp.eql 31 (Operand.tmp 97) (Operand.const (Value.int IntKind.i64 0)) 31, type := 4, pos := "law.go:119", after := #[{ on := 3, ground := Ground.data }, { on := 2, ground := Ground.guard }], guard := some (2, true) }) (v := ?_) rfl (by kernel_rfl) (by kernel_rfl) (by kernel_rfl) (fun _ _ _ h => h) (Or.inl ⟨by rfl, ?_⟩) (by assumption) ?_
    rotate_left
    · intro wS hSw
      try dsimp only at hSw
      go_simp
      try with_reducible rfl
    try simp only [Act.put, List.setIfInBounds_toArray, List.set_cons_zero, List.set_cons_succ]
    refine wpAnyH_take (i := 5) (oi := { dst := some 99, op := Op.pick (Operand.tmp 96) (Operand.tmp 98) (Operand.const (Value.bool false)), type := 4, pos := "law.go:119", after := #[{ on := 2, ground := Ground.data }, { on := 4, ground := Ground.data }], guard := none }) (v := ?_) rfl (by kernel_rfl) (by kernel_rfl) (by kernel_rfl) (fun _ _ _ h => h) (Or.inl ⟨by rfl, ?_⟩) (by assumption) ?_
    rotate_left
    · intro wS hSw
      try dsimp only at hSw
      go_simp
      try with_reducible rfl
    try simp only [Act.put, List.setIfInBounds_toArray, List.set_cons_zero, List.set_cons_succ]
    refine wpAnyH_take (i := 6) (oi := { dst := some 100, op := Op.move (Operand.tmp 99), type := 4, pos := "law.go:119", after := #[{ on := 5, ground := Ground.data }, { on := 2, ground := Ground.chain }], guard := none }) (v := ?_) rfl (by kernel_rfl) (by kernel_rfl) (by kernel_rfl) (fun _ _ _ h => h) (Or.inl ⟨by rfl, ?_⟩) (by assumption) ?_
    rotate_left
    · intro wS hSw
      try dsimp only at hSw
      go_simp
      try with_reducible rfl
    try simp only [Act.put, List.setIfInBounds_toArray, List.set_cons_zero, List.set_cons_succ]
    refine wpAnyH_take (i := 7) (oi := { dst := some 101, op := Op.load 29 (Operand.tmp 17), type := 29, pos := "law.go:119", after := #[{ on := 6, ground := Ground.guard }], guard := some (6, true) }) (v := ?_) rfl (by kernel_rfl) (by kernel_rfl) (by kernel_rfl) (fun _ _ _ h => h) (Or.inl ⟨by rfl, ?_⟩) (by assumption) ?_
    rotate_left
    · intro wS hSw
      try dsimp only at hSw
      go_simp
      try with_reducible rfl
    try simp only [Act.put, List.setIfInBounds_toArray, List.set_cons_zero, List.set_cons_succ]
    refine wpAnyH_take (i := 8) (oi := { dst := some 102, op := Op.load 29 (Operand.tmp 4), type := 29, pos := "law.go:119", after := #[{ on := 6, ground := Ground.guard }], guard := some (6, true) }) (v := ?_) rfl (by kernel_rfl) (by kernel_rfl) (by kernel_rfl) (fun _ _ _ h => h) (Or.inl ⟨by rfl, ?_⟩) (by assumption) ?_
    rotate_left
    · intro wS hSw
      try dsimp only at hSw
      go_simp
      try with_reducible rfl
    try simp only [Act.put, List.setIfInBounds_toArray, List.set_cons_zero, List.set_cons_succ]
    refine wpAnyH_ready (rs := [9]) (by kernel_rfl) (by simp) ?_
    refine AllReadyH.cons (o := { dst := some 103, op := Op.call { callee := Callee.value (Operand.func 17), args := #[Operand.tmp 102], argTypes := #[29] }, type := 29, pos := "law.go:119", after := #[{ on := 8, ground := Ground.data }, { on := 6, ground := Ground.chain }, { on := 6, ground := Ground.guard }], guard := some (6, true) }) rfl (fun K hK => ?_) ?_
    ·
      go_simp
      go_at_call 17
      (with_reducible refine (turnF _ op fs fd gf gt).mono ?_)
      rintro e z25 ⟨rfl, b⟩
      have HZ25 := hide (show Below w24.heap.size w24 z25 from HZ0.out.trans (Below.mono b HZ0.out.size))
      clear b
      refine hK.out _ _ (⟨cell_at (below_block HZ25.out HG.out (Nat.le_refl _)) 0 rfl, cell_at (below_block HZ25.out HG.out (Nat.le_refl _)) 1 rfl, cell_at (below_block HZ25.out HG.out (Nat.le_refl _)) 2 rfl, cell_at (below_block HZ25.out HG.out (Nat.le_refl _)) 3 rfl, cell_at (below_block HZ25.out HG.out (Nat.le_refl _)) 4 rfl, cell_at (below_block HZ25.out HF.out (Nat.le_refl _)) 0 rfl, cell_at (below_block HZ25.out HF.out (Nat.le_refl _)) 1 rfl, cell_at (below_block HZ25.out HF.out (Nat.le_refl _)) 2 rfl, cell_at (below_block HZ25.out HF.out (Nat.le_refl _)) 3 rfl, cell_at (below_block HZ25.out HF.out (Nat.le_refl _)) 4 rfl, cell_at (below_block HZ25.out HY.out (Nat.le_refl _)) 0 rfl, cell_at (below_block HZ25.out HY.out (Nat.le_refl _)) 1 rfl, cell_at (below_block HZ25.out HY.out (Nat.le_refl _)) 2 rfl, cell_at (below_block HZ25.out HY.out (Nat.le_refl _)) 3 rfl, cell_at (below_block HZ25.out HY.out (Nat.le_refl _)) 4 rfl, cell_at (below_block HZ25.out HY.out (Nat.le_refl _)) 5 rfl, cell_at (below_block HZ25.out HO.out (Nat.le_refl _)) 0 rfl, cell_at (below_block HZ25.out HO.out (Nat.le_refl _)) 1 rfl, cell_at (below_block HZ25.out HO.out (Nat.le_refl _)) 2 rfl, cell_at (below_block HZ25.out HO.out (Nat.le_refl _)) 3 rfl, cell_at (below_block HZ25.out HO.out (Nat.le_refl _)) 4 rfl⟩) (fun hHeld25 => ?_)
      clear hK K
      try simp only [Act.put, List.setIfInBounds_toArray, List.set_cons_zero, List.set_cons_succ]
      refine wpAnyH_take (i := 10) (oi := { dst := some 104, op := Op.binOp BinOp.eql 29 (Operand.tmp 101) (Operand.tmp 103) 29, type := 4, pos := "law.go:119", after := #[{ on := 7, ground := Ground.data }, { on := 9, ground := Ground.data }, { on := 6, ground := Ground.guard }], guard := some (6, true) }) (v := ?_) rfl (by kernel_rfl) (by kernel_rfl) (by kernel_rfl) (fun _ _ _ h => h) (Or.inl ⟨by rfl, ?_⟩) (by assumption) ?_
      rotate_left
      · intro wS hSw
        try dsimp only at hSw
        go_simp
        try with_reducible rfl
      try simp only [Act.put, List.setIfInBounds_toArray, List.set_cons_zero, List.set_cons_succ]
      refine wpAnyH_take (i := 11) (oi := { dst := some 105, op := Op.pick (Operand.tmp 100) (Operand.tmp 104) (Operand.const (Value.bool false)), type := 4, pos := "law.go:119", after := #[{ on := 6, ground := Ground.data }, { on := 10, ground := Ground.data }], guard := none }) (v := ?_) rfl (by kernel_rfl) (by kernel_rfl) (by kernel_rfl) (fun _ _ _ h => h) (Or.inl ⟨by rfl, ?_⟩) (by assumption) ?_
      rotate_left
      · intro wS hSw
        try dsimp only at hSw
        go_simp
        try with_reducible rfl
      try simp only [Act.put, List.setIfInBounds_toArray, List.set_cons_zero, List.set_cons_succ]
      refine wpAnyH_take (i := 12) (oi := { dst := some 106, op := Op.move (Operand.tmp 105), type := 4, pos := "law.go:119", after := #[{ on := 11, ground := Ground.data }, { on := 9, ground := Ground.chain }], guard := none }) (v := ?_) rfl (by kernel_rfl) (by kernel_rfl) (by kernel_rfl) (fun _ _ _ h => h) (Or.inl ⟨by rfl, ?_⟩) (by assumption) ?_
      rotate_left
      · intro wS hSw
        try dsimp only at hSw
        go_simp
        try with_reducible rfl
      try simp only [Act.put, List.setIfInBounds_toArray, List.set_cons_zero, List.set_cons_succ]
      refine wpAnyH_take (i := 13) (oi := { dst := some 107, op := Op.fieldAddr 27 (Operand.tmp 15) 4, type := 0, pos := "law.go:119", after := #[{ on := 12, ground := Ground.guard }], guard := some (12, true) }) (v := ?_) rfl (by kernel_rfl) (by kernel_rfl) (by kernel_rfl) (fun _ _ _ h => h) (Or.inl ⟨by rfl, ?_⟩) (by assumption) ?_
      rotate_left
      · intro wS hSw
        try dsimp only at hSw
        go_simp
        try with_reducible rfl
      try simp only [Act.put, List.setIfInBounds_toArray, List.set_cons_zero, List.set_cons_succ]
      refine wpAnyH_take (i := 14) (oi := { dst := some 108, op := Op.load 24 (Operand.tmp 107), type := 24, pos := "law.go:119", after := #[{ on := 13, ground := Ground.data }, { on := 12, ground := Ground.guard }], guard := some (12, true) }) (v := ?_) rfl (by kernel_rfl) (by kernel_rfl) (by kernel_rfl) (fun _ _ _ h => h) (Or.inl ⟨by rfl, ?_⟩) (by assumption) ?_
      rotate_left
      · intro wS hSw
        try dsimp only at hSw
        go_simp
        try with_reducible rfl
      try simp only [Act.put, List.setIfInBounds_toArray, List.set_cons_zero, List.set_cons_succ]
      refine wpAnyH_take (i := 15) (oi := { dst := some 109, op := Op.fieldAddr 29 (Operand.tmp 4) 1, type := 0, pos := "law.go:119", after := #[{ on := 12, ground := Ground.guard }], guard := some (12, true) }) (v := ?_) rfl (by kernel_rfl) (by kernel_rfl) (by kernel_rfl) (fun _ _ _ h => h) (Or.inl ⟨by rfl, ?_⟩) (by assumption) ?_
      rotate_left
      · intro wS hSw
        try dsimp only at hSw
        go_simp
        try with_reducible rfl
      try simp only [Act.put, List.setIfInBounds_toArray, List.set_cons_zero, List.set_cons_succ]
      refine wpAnyH_take (i := 16) (oi := { dst := some 110, op := Op.load 24 (Operand.tmp 109), type := 24, pos := "law.go:119", after := #[{ on := 15, ground := Ground.data }, { on := 12, ground := Ground.guard }], guard := some (12, true) }) (v := ?_) rfl (by kernel_rfl) (by kernel_rfl) (by kernel_rfl) (fun _ _ _ h => h) (Or.inl ⟨by rfl, ?_⟩) (by assumption) ?_
      rotate_left
      · intro wS hSw
        try dsimp only at hSw
        go_simp
        try with_reducible rfl
      try simp only [Act.put, List.setIfInBounds_toArray, List.set_cons_zero, List.set_cons_succ]
      refine wpAnyH_take (i := 17) (oi := { dst := some 111, op := Op.binOp BinOp.eql 24 (Operand.tmp 108) (Operand.tmp 110) 24, type := 4, pos := "law.go:119", after := #[{ on := 14, ground := Ground.data }, { on := 16, ground := Ground.data }, { on := 12, ground := Ground.guard }], guard := some (12, true) }) (v := ?_) rfl (by kernel_rfl) (by kernel_rfl) (by kernel_rfl) (fun _ _ _ h => h) (Or.inl ⟨by rfl, ?_⟩) (by assumption) ?_
      rotate_left
      · intro wS hSw
        try dsimp only at hSw
        go_simp
        try with_reducible rfl
      try simp only [Act.put, List.setIfInBounds_toArray, List.set_cons_zero, List.set_cons_succ]
      refine wpAnyH_take (i := 18) (oi := { dst := some 112, op := Op.pick (Operand.tmp 106) (Operand.tmp 111) (Operand.const (Value.bool false)), type := 4, pos := "law.go:119", after := #[{ on := 12, ground := Ground.data }, { on := 17, ground := Ground.data }], guard := none }) (v := ?_) rfl (by kernel_rfl) (by kernel_rfl) (by kernel_rfl) (fun _ _ _ h => h) (Or.inl ⟨by rfl, ?_⟩) (by assumption) ?_
      rotate_left
      · intro wS hSw
        try dsimp only at hSw
        go_simp
        try with_reducible rfl
      try simp only [Act.put, List.setIfInBounds_toArray, List.set_cons_zero, List.set_cons_succ]
      refine wpAnyH_take (i := 19) (oi := { dst := some 113, op := Op.move (Operand.tmp 112), type := 4, pos := "law.go:119", after := #[{ on := 18, ground := Ground.data }, { on := 12, ground := Ground.chain }], guard := none }) (v := ?_) rfl (by kernel_rfl) (by kernel_rfl) (by kernel_rfl) (fun _ _ _ h => h) (Or.inl ⟨by rfl, ?_⟩) (by assumption) ?_
      rotate_left
      · intro wS hSw
        try dsimp only at hSw
        go_simp
        try with_reducible rfl
      try simp only [Act.put, List.setIfInBounds_toArray, List.set_cons_zero, List.set_cons_succ]
      refine wpAnyH_take (i := 20) (oi := { dst := some 114, op := Op.fieldAddr 27 (Operand.tmp 15) 3, type := 0, pos := "law.go:119", after := #[{ on := 19, ground := Ground.guard }], guard := some (19, true) }) (v := ?_) rfl (by kernel_rfl) (by kernel_rfl) (by kernel_rfl) (fun _ _ _ h => h) (Or.inl ⟨by rfl, ?_⟩) (by assumption) ?_
      rotate_left
      · intro wS hSw
        try dsimp only at hSw
        go_simp
        try with_reducible rfl
      try simp only [Act.put, List.setIfInBounds_toArray, List.set_cons_zero, List.set_cons_succ]
      refine wpAnyH_take (i := 21) (oi := { dst := some 115, op := Op.load 24 (Operand.tmp 114), type := 24, pos := "law.go:119", after := #[{ on := 20, ground := Ground.data }, { on := 19, ground := Ground.guard }], guard := some (19, true) }) (v := ?_) rfl (by kernel_rfl) (by kernel_rfl) (by kernel_rfl) (fun _ _ _ h => h) (Or.inl ⟨by rfl, ?_⟩) (by assumption) ?_
      rotate_left
      · intro wS hSw
        try dsimp only at hSw
        go_simp
        try with_reducible rfl
      try simp only [Act.put, List.setIfInBounds_toArray, List.set_cons_zero, List.set_cons_succ]
      refine wpAnyH_take (i := 22) (oi := { dst := some 116, op := Op.binOp BinOp.eql 24 (Operand.tmp 115) (Operand.const (Value.int IntKind.u32 77)) 24, type := 4, pos := "law.go:119", after := #[{ on := 21, ground := Ground.data }, { on := 19, ground := Ground.guard }], guard := some (19, true) }) (v := ?_) rfl (by kernel_rfl) (by kernel_rfl) (by kernel_rfl) (fun _ _ _ h => h) (Or.inl ⟨by rfl, ?_⟩) (by assumption) ?_
      rotate_left
      · intro wS hSw
        try dsimp only at hSw
        go_simp
        try with_reducible rfl
      try simp only [Act.put, List.setIfInBounds_toArray, List.set_cons_zero, List.set_cons_succ]
      refine wpAnyH_take (i := 23) (oi := { dst := some 117, op := Op.move (Operand.tmp 116), type := 4, pos := "law.go:119", after := #[{ on := 22, ground := Ground.data }, { on := 19, ground := Ground.chain }, { on := 19, ground := Ground.guard }], guard := some (19, true) }) (v := ?_) rfl (by kernel_rfl) (by kernel_rfl) (by kernel_rfl) (fun _ _ _ h => h) (Or.inl ⟨by rfl, ?_⟩) (by assumption) ?_
      rotate_left
      · intro wS hSw
        try dsimp only at hSw
        go_simp
        try with_reducible rfl
      try simp only [Act.put, List.setIfInBounds_toArray, List.set_cons_zero, List.set_cons_succ]
      refine wpAnyH_take (i := 24) (oi := { dst := some 118, op := Op.fieldAddr 29 (Operand.tmp 7) 2, type := 0, pos := "law.go:119", after := #[{ on := 23, ground := Ground.guard }], guard := some (23, false) }) (v := undef) rfl (by kernel_rfl) (by kernel_rfl) (by kernel_rfl) (fun _ _ _ h => h) (Or.inr ⟨by rfl, rfl⟩) (by assumption) ?_
      try simp only [Act.put, List.setIfInBounds_toArray, List.set_cons_zero, List.set_cons_succ]
      refine wpAnyH_take (i := 25) (oi := { dst := some 119, op := Op.load 24 (Operand.tmp 118), type := 24, pos := "law.go:119", after := #[{ on := 24, ground := Ground.data }, { on := 23, ground := Ground.guard }], guard := some (23, false) }) (v := undef) rfl (by kernel_rfl) (by kernel_rfl) (by kernel_rfl) (fun _ _ _ h => h) (Or.inr ⟨by rfl, rfl⟩) (by assumption) ?_
      try simp only [Act.put, List.setIfInBounds_toArray, List.set_cons_zero, List.set_cons_succ]
      refine wpAnyH_take (i := 26) (oi := { dst := some 120, op := Op.binOp BinOp.eql 24 (Operand.tmp 119) (Operand.const (Value.int IntKind.u32 77)) 24, type := 4, pos := "law.go:119", after := #[{ on := 25, ground := Ground.data }, { on := 23, ground := Ground.guard }], guard := some (23, false) }) (v := undef) rfl (by kernel_rfl) (by kernel_rfl) (by kernel_rfl) (fun _ _ _ h => h) (Or.inr ⟨by rfl, rfl⟩) (by assumption) ?_
      try simp only [Act.put, List.setIfInBounds_toArray, List.set_cons_zero, List.set_cons_succ]
      refine wpAnyH_take (i := 27) (oi := { dst := some 121, op := Op.pick (Operand.tmp 117) (Operand.const (Value.bool true)) (Operand.tmp 120), type := 4, pos := "law.go:119", after := #[{ on := 23, ground := Ground.data }, { on := 26, ground := Ground.data }, { on := 19, ground := Ground.guard }], guard := some (19, true) }) (v := ?_) rfl (by kernel_rfl) (by kernel_rfl) (by kernel_rfl) (fun _ _ _ h => h) (Or.inl ⟨by rfl, ?_⟩) (by assumption) ?_
      rotate_left
      · intro wS hSw
        try dsimp only at hSw
        go_simp
        try with_reducible rfl
      try simp only [Act.put, List.setIfInBounds_toArray, List.set_cons_zero, List.set_cons_succ]
      refine wpAnyH_take (i := 28) (oi := { dst := some 122, op := Op.pick (Operand.tmp 113) (Operand.tmp 121) (Operand.const (Value.bool false)), type := 4, pos := "law.go:119", after := #[{ on := 19, ground := Ground.data }, { on := 27, ground := Ground.data }], guard := none }) (v := ?_) rfl (by kernel_rfl) (by kernel_rfl) (by kernel_rfl) (fun _ _ _ h => h) (Or.inl ⟨by rfl, ?_⟩) (by assumption) ?_
      rotate_left
      · intro wS hSw
        try dsimp only at hSw
        go_simp
        try with_reducible rfl
      try simp only [Act.put, List.setIfInBounds_toArray, List.set_cons_zero, List.set_cons_succ]
      refine wpAnyH_take (i := 29) (oi := { dst := some 6, op := Op.assign (Operand.tmp 122), type := 4, pos := "law.go:119", after := #[{ on := 28, ground := Ground.data }, { on := 23, ground := Ground.chain }, { on := 0, ground := Ground.phase }, { on := 1, ground := Ground.phase }, { on := 2, ground := Ground.phase }, { on := 3, ground := Ground.phase }, { on := 4, ground := Ground.phase }, { on := 5, ground := Ground.phase }, { on := 6, ground := Ground.phase }, { on := 7, ground := Ground.phase }, { on := 8, ground := Ground.phase }, { on := 9, ground := Ground.phase }, { on := 10, ground := Ground.phase }, { on := 11, ground := Ground.phase }, { on := 12, ground := Ground.phase }, { on := 13, ground := Ground.phase }, { on := 14, ground := Ground.phase }, { on := 15, ground := Ground.phase }, { on := 16, ground := Ground.phase }, { on := 17, ground := Ground.phase }, { on := 18, ground := Ground.phase }, { on := 19, ground := Ground.phase }, { on := 20, ground := Ground.phase }, { on := 21, ground := Ground.phase }, { on := 22, ground := Ground.phase }, { on := 23, ground := Ground.phase }, { on := 24, ground := Ground.phase }, { on := 25, ground := Ground.phase }, { on := 26, ground := Ground.phase }, { on := 27, ground := Ground.phase }, { on := 28, ground := Ground.phase }], guard := none }) (v := ?_) rfl (by kernel_rfl) (by kernel_rfl) (by kernel_rfl) (fun _ _ _ h => h) (Or.inl ⟨by rfl, ?_⟩) (by assumption) ?_
      rotate_left
      · intro wS hSw
        try dsimp only at hSw
        go_simp
        try with_reducible rfl
      try simp only [Act.put, List.setIfInBounds_toArray, List.set_cons_zero, List.set_cons_succ]
      refine wpAnyH_done (by kernel_rfl) ?_ _
      try go_wp2_with fail
      go_ret
      exact ⟨by simp, HB.out.trans (HZ25.out.mono HB.out.size)⟩
    exact AllReadyH.nil
  ·
    have HZ0 := hide (show Below w24.heap.size w24 w24.drew from (Below.refl _ _).drew)
    refine wp_region_held_drew (S := fun w' => w'.cell? ⟨BG, 0, none⟩ = some (.int .u8 (op : Int)) ∧ w'.cell? ⟨BG, 1, none⟩ = some (.int .u32 (fd : Int)) ∧ w'.cell? ⟨BG, 2, none⟩ = some (.int .u32 (fs : Int)) ∧ w'.cell? ⟨BG, 3, none⟩ = some (.int .u16 (gt : Int)) ∧ w'.cell? ⟨BG, 4, none⟩ = some (.int .u16 (gf : Int)) ∧ w'.cell? ⟨BF, 0, none⟩ = some (.int .u8 (op : Int)) ∧ w'.cell? ⟨BF, 1, none⟩ = some (.int .u32 (fs : Int)) ∧ w'.cell? ⟨BF, 2, none⟩ = some (.int .u32 (fd : Int)) ∧ w'.cell? ⟨BF, 3, none⟩ = some (.int .u16 (gf : Int)) ∧ w'.cell? ⟨BF, 4, none⟩ = some (.int .u16 (gt : Int)) ∧ w'.cell? ⟨BY, 0, none⟩ = some (.int .u8 9) ∧ w'.cell? ⟨BY, 1, none⟩ = some (.int .u8 1) ∧ w'.cell? ⟨BY, 2, none⟩ = some (.int .u16 0) ∧ w'.cell? ⟨BY, 3, none⟩ = some (.int .u32 (s2 : Int)) ∧ w'.cell? ⟨BY, 4, none⟩ = some (.int .u32 (fs : Int)) ∧ w'.cell? ⟨BY, 5, none⟩ = some (.slice a2 N8 c2) ∧ w'.cell? ⟨BO, 0, none⟩ = some (.int .u8 (op : Int)) ∧ w'.cell? ⟨BO, 1, none⟩ = some (.int .u32 (os : Int)) ∧ w'.cell? ⟨BO, 2, none⟩ = some (.int .u32 (od : Int)) ∧ w'.cell? ⟨BO, 3, none⟩ = some (.int .u16 (of : Int)) ∧ w'.cell? ⟨BO, 4, none⟩ = some (.int .u16 (ot : Int))) (by kernel_rfl) (by exact ⟨cell_at (below_block HZ0.out HG.out (Nat.le_refl _)) 0 rfl, cell_at (below_block HZ0.out HG.out (Nat.le_refl _)) 1 rfl, cell_at (below_block HZ0.out HG.out (Nat.le_refl _)) 2 rfl, cell_at (below_block HZ0.out HG.out (Nat.le_refl _)) 3 rfl, cell_at (below_block HZ0.out HG.out (Nat.le_refl _)) 4 rfl, cell_at (below_block HZ0.out HF.out (Nat.le_refl _)) 0 rfl, cell_at (below_block HZ0.out HF.out (Nat.le_refl _)) 1 rfl, cell_at (below_block HZ0.out HF.out (Nat.le_refl _)) 2 rfl, cell_at (below_block HZ0.out HF.out (Nat.le_refl _)) 3 rfl, cell_at (below_block HZ0.out HF.out (Nat.le_refl _)) 4 rfl, cell_at (below_block HZ0.out HY.out (Nat.le_refl _)) 0 rfl, cell_at (below_block HZ0.out HY.out (Nat.le_refl _)) 1 rfl, cell_at (below_block HZ0.out HY.out (Nat.le_refl _)) 2 rfl, cell_at (below_block HZ0.out HY.out (Nat.le_refl _)) 3 rfl, cell_at (below_block HZ0.out HY.out (Nat.le_refl _)) 4 rfl, cell_at (below_block HZ0.out HY.out (Nat.le_refl _)) 5 rfl, cell_at (below_block HZ0.out HO.out (Nat.le_refl _)) 0 rfl, cell_at (below_block HZ0.out HO.out (Nat.le_refl _)) 1 rfl, cell_at (below_block HZ0.out HO.out (Nat.le_refl _)) 2 rfl, cell_at (below_block HZ0.out HO.out (Nat.le_refl _)) 3 rfl, cell_at (below_block HZ0.out HO.out (Nat.le_refl _)) 4 rfl⟩) (fun hHeld => ?_)
    refine wpAnyH_take (i := 0) (oi := { dst := some 94, op := Op.move (Operand.tmp 16), type := 31, pos := "law.go:119", after := #[], guard := none }) (v := ?_) rfl (by kernel_rfl) (by kernel_rfl) (by kernel_rfl) (fun _ _ _ h => h) (Or.inl ⟨by rfl, ?_⟩) (by assumption) ?_
    rotate_left
    · intro wS hSw
      try dsimp only at hSw
      go_simp
      try with_reducible rfl
    try simp only [Act.put, List.setIfInBounds_toArray, List.set_cons_zero, List.set_cons_succ]
    refine wpAnyH_take (i := 1) (oi := { dst := some 95, op := Op.binOp BinOp.eql 31 (Operand.tmp 94) (Operand.const (Value.int IntKind.i64 0)) 31, type := 4, pos := "law.go:119", after := #[{ on := 0, ground := Ground.data }], guard := none }) (v := ?_) rfl (by kernel_rfl) (by kernel_rfl) (by kernel_rfl) (fun _ _ _ h => h) (Or.inl ⟨by rfl, ?_⟩) (by assumption) ?_
    rotate_left
    · intro wS hSw
      try dsimp only at hSw
      go_simp
      try with_reducible rfl
    try simp only [Act.put, List.setIfInBounds_toArray, List.set_cons_zero, List.set_cons_succ]
    refine wpAnyH_take (i := 2) (oi := { dst := some 96, op := Op.move (Operand.tmp 95), type := 4, pos := "law.go:119", after := #[{ on := 1, ground := Ground.data }], guard := none }) (v := ?_) rfl (by kernel_rfl) (by kernel_rfl) (by kernel_rfl) (fun _ _ _ h => h) (Or.inl ⟨by rfl, ?_⟩) (by assumption) ?_
    rotate_left
    · intro wS hSw
      try dsimp only at hSw
      go_simp
      try with_reducible rfl
    try simp only [Act.put, List.setIfInBounds_toArray, List.set_cons_zero, List.set_cons_succ]
    refine wpAnyH_take (i := 3) (oi := { dst := some 97, op := Op.move (Operand.tmp 19), type := 31, pos := "law.go:119", after := #[{ on := 2, ground := Ground.guard }], guard := some (2, true) }) (v := ?_) rfl (by kernel_rfl) (by kernel_rfl) (by kernel_rfl) (fun _ _ _ h => h) (Or.inl ⟨by rfl, ?_⟩) (by assumption) ?_
    rotate_left
    · intro wS hSw
      try dsimp only at hSw
      go_simp
      try with_reducible rfl
    try simp only [Act.put, List.setIfInBounds_toArray, List.set_cons_zero, List.set_cons_succ]
    refine wpAnyH_take (i := 4) (oi := { dst := some 98, op := Op.binOp BinOp.eql 31 (Operand.tmp 97) (Operand.const (Value.int IntKind.i64 0)) 31, type := 4, pos := "law.go:119", after := #[{ on := 3, ground := Ground.data }, { on := 2, ground := Ground.guard }], guard := some (2, true) }) (v := ?_) rfl (by kernel_rfl) (by kernel_rfl) (by kernel_rfl) (fun _ _ _ h => h) (Or.inl ⟨by rfl, ?_⟩) (by assumption) ?_
    rotate_left
    · intro wS hSw
      try dsimp only at hSw
      go_simp
      try with_reducible rfl
    try simp only [Act.put, List.setIfInBounds_toArray, List.set_cons_zero, List.set_cons_succ]
    refine wpAnyH_take (i := 5) (oi := { dst := some 99, op := Op.pick (Operand.tmp 96) (Operand.tmp 98) (Operand.const (Value.bool false)), type := 4, pos := "law.go:119", after := #[{ on := 2, ground := Ground.data }, { on := 4, ground := Ground.data }], guard := none }) (v := ?_) rfl (by kernel_rfl) (by kernel_rfl) (by kernel_rfl) (fun _ _ _ h => h) (Or.inl ⟨by rfl, ?_⟩) (by assumption) ?_
    rotate_left
    · intro wS hSw
      try dsimp only at hSw
      go_simp
      try with_reducible rfl
    try simp only [Act.put, List.setIfInBounds_toArray, List.set_cons_zero, List.set_cons_succ]
    refine wpAnyH_take (i := 6) (oi := { dst := some 100, op := Op.move (Operand.tmp 99), type := 4, pos := "law.go:119", after := #[{ on := 5, ground := Ground.data }, { on := 2, ground := Ground.chain }], guard := none }) (v := ?_) rfl (by kernel_rfl) (by kernel_rfl) (by kernel_rfl) (fun _ _ _ h => h) (Or.inl ⟨by rfl, ?_⟩) (by assumption) ?_
    rotate_left
    · intro wS hSw
      try dsimp only at hSw
      go_simp
      try with_reducible rfl
    try simp only [Act.put, List.setIfInBounds_toArray, List.set_cons_zero, List.set_cons_succ]
    refine wpAnyH_take (i := 7) (oi := { dst := some 101, op := Op.load 29 (Operand.tmp 17), type := 29, pos := "law.go:119", after := #[{ on := 6, ground := Ground.guard }], guard := some (6, true) }) (v := ?_) rfl (by kernel_rfl) (by kernel_rfl) (by kernel_rfl) (fun _ _ _ h => h) (Or.inl ⟨by rfl, ?_⟩) (by assumption) ?_
    rotate_left
    · intro wS hSw
      try dsimp only at hSw
      go_simp
      try with_reducible rfl
    try simp only [Act.put, List.setIfInBounds_toArray, List.set_cons_zero, List.set_cons_succ]
    refine wpAnyH_take (i := 8) (oi := { dst := some 102, op := Op.load 29 (Operand.tmp 4), type := 29, pos := "law.go:119", after := #[{ on := 6, ground := Ground.guard }], guard := some (6, true) }) (v := ?_) rfl (by kernel_rfl) (by kernel_rfl) (by kernel_rfl) (fun _ _ _ h => h) (Or.inl ⟨by rfl, ?_⟩) (by assumption) ?_
    rotate_left
    · intro wS hSw
      try dsimp only at hSw
      go_simp
      try with_reducible rfl
    try simp only [Act.put, List.setIfInBounds_toArray, List.set_cons_zero, List.set_cons_succ]
    refine wpAnyH_ready (rs := [9]) (by kernel_rfl) (by simp) ?_
    refine AllReadyH.cons (o := { dst := some 103, op := Op.call { callee := Callee.value (Operand.func 17), args := #[Operand.tmp 102], argTypes := #[29] }, type := 29, pos := "law.go:119", after := #[{ on := 8, ground := Ground.data }, { on := 6, ground := Ground.chain }, { on := 6, ground := Ground.guard }], guard := some (6, true) }) rfl (fun K hK => ?_) ?_
    ·
      go_simp
      go_at_call 17
      (with_reducible refine (turnF _ op fs fd gf gt).mono ?_)
      rintro e z26 ⟨rfl, b⟩
      have HZ26 := hide (show Below w24.heap.size w24 z26 from HZ0.out.trans (Below.mono b HZ0.out.size))
      clear b
      refine hK.out _ _ (⟨cell_at (below_block HZ26.out HG.out (Nat.le_refl _)) 0 rfl, cell_at (below_block HZ26.out HG.out (Nat.le_refl _)) 1 rfl, cell_at (below_block HZ26.out HG.out (Nat.le_refl _)) 2 rfl, cell_at (below_block HZ26.out HG.out (Nat.le_refl _)) 3 rfl, cell_at (below_block HZ26.out HG.out (Nat.le_refl _)) 4 rfl, cell_at (below_block HZ26.out HF.out (Nat.le_refl _)) 0 rfl, cell_at (below_block HZ26.out HF.out (Nat.le_refl _)) 1 rfl, cell_at (below_block HZ26.out HF.out (Nat.le_refl _)) 2 rfl, cell_at (below_block HZ26.out HF.out (Nat.le_refl _)) 3 rfl, cell_at (below_block HZ26.out HF.out (Nat.le_refl _)) 4 rfl, cell_at (below_block HZ26.out HY.out (Nat.le_refl _)) 0 rfl, cell_at (below_block HZ26.out HY.out (Nat.le_refl _)) 1 rfl, cell_at (below_block HZ26.out HY.out (Nat.le_refl _)) 2 rfl, cell_at (below_block HZ26.out HY.out (Nat.le_refl _)) 3 rfl, cell_at (below_block HZ26.out HY.out (Nat.le_refl _)) 4 rfl, cell_at (below_block HZ26.out HY.out (Nat.le_refl _)) 5 rfl, cell_at (below_block HZ26.out HO.out (Nat.le_refl _)) 0 rfl, cell_at (below_block HZ26.out HO.out (Nat.le_refl _)) 1 rfl, cell_at (below_block HZ26.out HO.out (Nat.le_refl _)) 2 rfl, cell_at (below_block HZ26.out HO.out (Nat.le_refl _)) 3 rfl, cell_at (below_block HZ26.out HO.out (Nat.le_refl _)) 4 rfl⟩) (fun hHeld26 => ?_)
      clear hK K
      try simp only [Act.put, List.setIfInBounds_toArray, List.set_cons_zero, List.set_cons_succ]
      refine wpAnyH_take (i := 10) (oi := { dst := some 104, op := Op.binOp BinOp.eql 29 (Operand.tmp 101) (Operand.tmp 103) 29, type := 4, pos := "law.go:119", after := #[{ on := 7, ground := Ground.data }, { on := 9, ground := Ground.data }, { on := 6, ground := Ground.guard }], guard := some (6, true) }) (v := ?_) rfl (by kernel_rfl) (by kernel_rfl) (by kernel_rfl) (fun _ _ _ h => h) (Or.inl ⟨by rfl, ?_⟩) (by assumption) ?_
      rotate_left
      · intro wS hSw
        try dsimp only at hSw
        go_simp
        try with_reducible rfl
      try simp only [Act.put, List.setIfInBounds_toArray, List.set_cons_zero, List.set_cons_succ]
      refine wpAnyH_take (i := 11) (oi := { dst := some 105, op := Op.pick (Operand.tmp 100) (Operand.tmp 104) (Operand.const (Value.bool false)), type := 4, pos := "law.go:119", after := #[{ on := 6, ground := Ground.data }, { on := 10, ground := Ground.data }], guard := none }) (v := ?_) rfl (by kernel_rfl) (by kernel_rfl) (by kernel_rfl) (fun _ _ _ h => h) (Or.inl ⟨by rfl, ?_⟩) (by assumption) ?_
      rotate_left
      · intro wS hSw
        try dsimp only at hSw
        go_simp
        try with_reducible rfl
      try simp only [Act.put, List.setIfInBounds_toArray, List.set_cons_zero, List.set_cons_succ]
      refine wpAnyH_take (i := 12) (oi := { dst := some 106, op := Op.move (Operand.tmp 105), type := 4, pos := "law.go:119", after := #[{ on := 11, ground := Ground.data }, { on := 9, ground := Ground.chain }], guard := none }) (v := ?_) rfl (by kernel_rfl) (by kernel_rfl) (by kernel_rfl) (fun _ _ _ h => h) (Or.inl ⟨by rfl, ?_⟩) (by assumption) ?_
      rotate_left
      · intro wS hSw
        try dsimp only at hSw
        go_simp
        try with_reducible rfl
      try simp only [Act.put, List.setIfInBounds_toArray, List.set_cons_zero, List.set_cons_succ]
      refine wpAnyH_take (i := 13) (oi := { dst := some 107, op := Op.fieldAddr 27 (Operand.tmp 15) 4, type := 0, pos := "law.go:119", after := #[{ on := 12, ground := Ground.guard }], guard := some (12, true) }) (v := ?_) rfl (by kernel_rfl) (by kernel_rfl) (by kernel_rfl) (fun _ _ _ h => h) (Or.inl ⟨by rfl, ?_⟩) (by assumption) ?_
      rotate_left
      · intro wS hSw
        try dsimp only at hSw
        go_simp
        try with_reducible rfl
      try simp only [Act.put, List.setIfInBounds_toArray, List.set_cons_zero, List.set_cons_succ]
      refine wpAnyH_take (i := 14) (oi := { dst := some 108, op := Op.load 24 (Operand.tmp 107), type := 24, pos := "law.go:119", after := #[{ on := 13, ground := Ground.data }, { on := 12, ground := Ground.guard }], guard := some (12, true) }) (v := ?_) rfl (by kernel_rfl) (by kernel_rfl) (by kernel_rfl) (fun _ _ _ h => h) (Or.inl ⟨by rfl, ?_⟩) (by assumption) ?_
      rotate_left
      · intro wS hSw
        try dsimp only at hSw
        go_simp
        try with_reducible rfl
      try simp only [Act.put, List.setIfInBounds_toArray, List.set_cons_zero, List.set_cons_succ]
      refine wpAnyH_take (i := 15) (oi := { dst := some 109, op := Op.fieldAddr 29 (Operand.tmp 4) 1, type := 0, pos := "law.go:119", after := #[{ on := 12, ground := Ground.guard }], guard := some (12, true) }) (v := ?_) rfl (by kernel_rfl) (by kernel_rfl) (by kernel_rfl) (fun _ _ _ h => h) (Or.inl ⟨by rfl, ?_⟩) (by assumption) ?_
      rotate_left
      · intro wS hSw
        try dsimp only at hSw
        go_simp
        try with_reducible rfl
      try simp only [Act.put, List.setIfInBounds_toArray, List.set_cons_zero, List.set_cons_succ]
      refine wpAnyH_take (i := 16) (oi := { dst := some 110, op := Op.load 24 (Operand.tmp 109), type := 24, pos := "law.go:119", after := #[{ on := 15, ground := Ground.data }, { on := 12, ground := Ground.guard }], guard := some (12, true) }) (v := ?_) rfl (by kernel_rfl) (by kernel_rfl) (by kernel_rfl) (fun _ _ _ h => h) (Or.inl ⟨by rfl, ?_⟩) (by assumption) ?_
      rotate_left
      · intro wS hSw
        try dsimp only at hSw
        go_simp
        try with_reducible rfl
      try simp only [Act.put, List.setIfInBounds_toArray, List.set_cons_zero, List.set_cons_succ]
      refine wpAnyH_take (i := 17) (oi := { dst := some 111, op := Op.binOp BinOp.eql 24 (Operand.tmp 108) (Operand.tmp 110) 24, type := 4, pos := "law.go:119", after := #[{ on := 14, ground := Ground.data }, { on := 16, ground := Ground.data }, { on := 12, ground := Ground.guard }], guard := some (12, true) }) (v := ?_) rfl (by kernel_rfl) (by kernel_rfl) (by kernel_rfl) (fun _ _ _ h => h) (Or.inl ⟨by rfl, ?_⟩) (by assumption) ?_
      rotate_left
      · intro wS hSw
        try dsimp only at hSw
        go_simp
        try with_reducible rfl
      try simp only [Act.put, List.setIfInBounds_toArray, List.set_cons_zero, List.set_cons_succ]
      refine wpAnyH_take (i := 18) (oi := { dst := some 112, op := Op.pick (Operand.tmp 106) (Operand.tmp 111) (Operand.const (Value.bool false)), type := 4, pos := "law.go:119", after := #[{ on := 12, ground := Ground.data }, { on := 17, ground := Ground.data }], guard := none }) (v := ?_) rfl (by kernel_rfl) (by kernel_rfl) (by kernel_rfl) (fun _ _ _ h => h) (Or.inl ⟨by rfl, ?_⟩) (by assumption) ?_
      rotate_left
      · intro wS hSw
        try dsimp only at hSw
        go_simp
        try with_reducible rfl
      try simp only [Act.put, List.setIfInBounds_toArray, List.set_cons_zero, List.set_cons_succ]
      refine wpAnyH_take (i := 19) (oi := { dst := some 113, op := Op.move (Operand.tmp 112), type := 4, pos := "law.go:119", after := #[{ on := 18, ground := Ground.data }, { on := 12, ground := Ground.chain }], guard := none }) (v := ?_) rfl (by kernel_rfl) (by kernel_rfl) (by kernel_rfl) (fun _ _ _ h => h) (Or.inl ⟨by rfl, ?_⟩) (by assumption) ?_
      rotate_left
      · intro wS hSw
        try dsimp only at hSw
        go_simp
        try with_reducible rfl
      try simp only [Act.put, List.setIfInBounds_toArray, List.set_cons_zero, List.set_cons_succ]
      refine wpAnyH_take (i := 20) (oi := { dst := some 114, op := Op.fieldAddr 27 (Operand.tmp 15) 3, type := 0, pos := "law.go:119", after := #[{ on := 19, ground := Ground.guard }], guard := some (19, true) }) (v := ?_) rfl (by kernel_rfl) (by kernel_rfl) (by kernel_rfl) (fun _ _ _ h => h) (Or.inl ⟨by rfl, ?_⟩) (by assumption) ?_
      rotate_left
      · intro wS hSw
        try dsimp only at hSw
        go_simp
        try with_reducible rfl
      try simp only [Act.put, List.setIfInBounds_toArray, List.set_cons_zero, List.set_cons_succ]
      refine wpAnyH_take (i := 21) (oi := { dst := some 115, op := Op.load 24 (Operand.tmp 114), type := 24, pos := "law.go:119", after := #[{ on := 20, ground := Ground.data }, { on := 19, ground := Ground.guard }], guard := some (19, true) }) (v := ?_) rfl (by kernel_rfl) (by kernel_rfl) (by kernel_rfl) (fun _ _ _ h => h) (Or.inl ⟨by rfl, ?_⟩) (by assumption) ?_
      rotate_left
      · intro wS hSw
        try dsimp only at hSw
        go_simp
        try with_reducible rfl
      try simp only [Act.put, List.setIfInBounds_toArray, List.set_cons_zero, List.set_cons_succ]
      refine wpAnyH_take (i := 22) (oi := { dst := some 116, op := Op.binOp BinOp.eql 24 (Operand.tmp 115) (Operand.const (Value.int IntKind.u32 77)) 24, type := 4, pos := "law.go:119", after := #[{ on := 21, ground := Ground.data }, { on := 19, ground := Ground.guard }], guard := some (19, true) }) (v := ?_) rfl (by kernel_rfl) (by kernel_rfl) (by kernel_rfl) (fun _ _ _ h => h) (Or.inl ⟨by rfl, ?_⟩) (by assumption) ?_
      rotate_left
      · intro wS hSw
        try dsimp only at hSw
        go_simp
        try with_reducible rfl
      try simp only [Act.put, List.setIfInBounds_toArray, List.set_cons_zero, List.set_cons_succ]
      refine wpAnyH_take (i := 23) (oi := { dst := some 117, op := Op.move (Operand.tmp 116), type := 4, pos := "law.go:119", after := #[{ on := 22, ground := Ground.data }, { on := 19, ground := Ground.chain }, { on := 19, ground := Ground.guard }], guard := some (19, true) }) (v := ?_) rfl (by kernel_rfl) (by kernel_rfl) (by kernel_rfl) (fun _ _ _ h => h) (Or.inl ⟨by rfl, ?_⟩) (by assumption) ?_
      rotate_left
      · intro wS hSw
        try dsimp only at hSw
        go_simp
        try with_reducible rfl
      try simp only [Act.put, List.setIfInBounds_toArray, List.set_cons_zero, List.set_cons_succ]
      refine wpAnyH_take (i := 24) (oi := { dst := some 118, op := Op.fieldAddr 29 (Operand.tmp 7) 2, type := 0, pos := "law.go:119", after := #[{ on := 23, ground := Ground.guard }], guard := some (23, false) }) (v := ?_) rfl (by kernel_rfl) (by kernel_rfl) (by kernel_rfl) (fun _ _ _ h => h) (Or.inl ⟨by rfl, ?_⟩) (by assumption) ?_
      rotate_left
      · intro wS hSw
        try dsimp only at hSw
        go_simp
        try with_reducible rfl
      try simp only [Act.put, List.setIfInBounds_toArray, List.set_cons_zero, List.set_cons_succ]
      refine wpAnyH_take (i := 25) (oi := { dst := some 119, op := Op.load 24 (Operand.tmp 118), type := 24, pos := "law.go:119", after := #[{ on := 24, ground := Ground.data }, { on := 23, ground := Ground.guard }], guard := some (23, false) }) (v := ?_) rfl (by kernel_rfl) (by kernel_rfl) (by kernel_rfl) (fun _ _ _ h => h) (Or.inl ⟨by rfl, ?_⟩) (by assumption) ?_
      rotate_left
      · intro wS hSw
        try dsimp only at hSw
        go_simp
        try with_reducible rfl
      try simp only [Act.put, List.setIfInBounds_toArray, List.set_cons_zero, List.set_cons_succ]
      refine wpAnyH_take (i := 26) (oi := { dst := some 120, op := Op.binOp BinOp.eql 24 (Operand.tmp 119) (Operand.const (Value.int IntKind.u32 77)) 24, type := 4, pos := "law.go:119", after := #[{ on := 25, ground := Ground.data }, { on := 23, ground := Ground.guard }], guard := some (23, false) }) (v := ?_) rfl (by kernel_rfl) (by kernel_rfl) (by kernel_rfl) (fun _ _ _ h => h) (Or.inl ⟨by rfl, ?_⟩) (by assumption) ?_
      rotate_left
      · intro wS hSw
        try dsimp only at hSw
        go_simp
        try with_reducible rfl
      try simp only [Act.put, List.setIfInBounds_toArray, List.set_cons_zero, List.set_cons_succ]
      refine wpAnyH_take (i := 27) (oi := { dst := some 121, op := Op.pick (Operand.tmp 117) (Operand.const (Value.bool true)) (Operand.tmp 120), type := 4, pos := "law.go:119", after := #[{ on := 23, ground := Ground.data }, { on := 26, ground := Ground.data }, { on := 19, ground := Ground.guard }], guard := some (19, true) }) (v := ?_) rfl (by kernel_rfl) (by kernel_rfl) (by kernel_rfl) (fun _ _ _ h => h) (Or.inl ⟨by rfl, ?_⟩) (by assumption) ?_
      rotate_left
      · intro wS hSw
        try dsimp only at hSw
        go_simp
        try with_reducible rfl
      try simp only [Act.put, List.setIfInBounds_toArray, List.set_cons_zero, List.set_cons_succ]
      refine wpAnyH_take (i := 28) (oi := { dst := some 122, op := Op.pick (Operand.tmp 113) (Operand.tmp 121) (Operand.const (Value.bool false)), type := 4, pos := "law.go:119", after := #[{ on := 19, ground := Ground.data }, { on := 27, ground := Ground.data }], guard := none }) (v := ?_) rfl (by kernel_rfl) (by kernel_rfl) (by kernel_rfl) (fun _ _ _ h => h) (Or.inl ⟨by rfl, ?_⟩) (by assumption) ?_
      rotate_left
      · intro wS hSw
        try dsimp only at hSw
        go_simp
        try with_reducible rfl
      try simp only [Act.put, List.setIfInBounds_toArray, List.set_cons_zero, List.set_cons_succ]
      refine wpAnyH_take (i := 29) (oi := { dst := some 6, op := Op.assign (Operand.tmp 122), type := 4, pos := "law.go:119", after := #[{ on := 28, ground := Ground.data }, { on := 23, ground := Ground.chain }, { on := 0, ground := Ground.phase }, { on := 1, ground := Ground.phase }, { on := 2, ground := Ground.phase }, { on := 3, ground := Ground.phase }, { on := 4, ground := Ground.phase }, { on := 5, ground := Ground.phase }, { on := 6, ground := Ground.phase }, { on := 7, ground := Ground.phase }, { on := 8, ground := Ground.phase }, { on := 9, ground := Ground.phase }, { on := 10, ground := Ground.phase }, { on := 11, ground := Ground.phase }, { on := 12, ground := Ground.phase }, { on := 13, ground := Ground.phase }, { on := 14, ground := Ground.phase }, { on := 15, ground := Ground.phase }, { on := 16, ground := Ground.phase }, { on := 17, ground := Ground.phase }, { on := 18, ground := Ground.phase }, { on := 19, ground := Ground.phase }, { on := 20, ground := Ground.phase }, { on := 21, ground := Ground.phase }, { on := 22, ground := Ground.phase }, { on := 23, ground := Ground.phase }, { on := 24, ground := Ground.phase }, { on := 25, ground := Ground.phase }, { on := 26, ground := Ground.phase }, { on := 27, ground := Ground.phase }, { on := 28, ground := Ground.phase }], guard := none }) (v := ?_) rfl (by kernel_rfl) (by kernel_rfl) (by kernel_rfl) (fun _ _ _ h => h) (Or.inl ⟨by rfl, ?_⟩) (by assumption) ?_
      rotate_left
      · intro wS hSw
        try dsimp only at hSw
        go_simp
        try with_reducible rfl
      try simp only [Act.put, List.setIfInBounds_toArray, List.set_cons_zero, List.set_cons_succ]
      refine wpAnyH_done (by kernel_rfl) ?_ _
      try go_wp2_with fail
      go_ret
      exact ⟨by simp, HB.out.trans (HZ26.out.mono HB.out.size)⟩
    exact AllReadyH.nil
theorem flowErrors_any (w : World) (tt P id S D : Nat) (da : Option Addr) (xs : List Int) (n dc : Nat) (fp fs fd ff ft : Nat) (mo : Int) (hLx : Lies w da xs n dc) (hl : xs.length = n) (hb : ∀ x ∈ xs, 0 ≤ x ∧ x ≤ 255) (hS : S ≤ 4294967295) (hD : D ≤ 4294967295) (ht : tt ≤ 255) (hid : id ≤ 65535) (hP : P ≤ 255) (hfs : fs ≤ 4294967295) (hfd : fd ≤ 4294967295) (hff : ff ≤ 65535) (hft : ft ≤ 65535) :
    Calls Try.prog 5 #[.agg #[.int .u8 (tt : Int), .int .u8 (P : Int), .int .u16 (id : Int), .int .u32 (S : Int), .int .u32 (D : Int), .slice da n dc], .agg #[.int .u8 (fp : Int), .int .u32 (fs : Int), .int .u32 (fd : Int), .int .u16 (ff : Int), .int .u16 (ft : Int)], .int .i64 mo] w fun e w' => e = .returned (.bool true) ∧ Below w.heap.size w w' := by
  by_cases h : 1400 < n
  · exact flowErrors_long w tt P id S D da xs n dc fp fs fd ff ft mo h
  by_cases hx : ofErr P S D xs ≠ 0 ∨ ofKind P S D xs = 3
  · exact flowErrors_other w tt P id S D da xs n dc fp fs fd ff ft mo hLx hl hb hS hD h hx
  have he : ofErr P S D xs = 0 := by omega
  have hk : ofKind P S D xs ≠ 3 := fun h => hx (.inr h)
  rcases (of_plain P S D xs hb hP hS hD he hk).2.2.2.2.2.1 with h1 | h2
  · exact flowErrors_data w tt P id S D da xs n dc fp fs fd ff ft mo hLx hl hb hS hD ht hid hP hfs hfd hff hft h he h1
  · exact flowErrors_query w tt P id S D da xs n dc fp fs fd ff ft mo hLx hl hb hS hD ht hid hP hfs hfd hff hft h he h2
end Go.Proofs.Ytgggcapgaikbeaa
