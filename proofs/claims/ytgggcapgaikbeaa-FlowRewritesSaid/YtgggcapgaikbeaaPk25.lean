/- Flows: a packet is let go between other ends: the document. -/
import Derived.Test.YtgggcapgaikbeaaPk23
import Derived.Test.YtgggcapgaikbeaaPk24
namespace Go.Proofs.Ytgggcapgaikbeaa
open Go.RowKit
set_option linter.unusedVariables false
set_option linter.unusedSimpArgs false
set_option maxRecDepth 100000
theorem drw_udp (w : World) (src dst p q : Nat) (pl : Bool) (da : Option Addr) (xs : List Int) (n dc : Nat) (hL : Lies w da xs n dc) (hl : xs.length = n) (hb : ∀ x ∈ xs, 0 ≤ x ∧ x ≤ 255) (h1 : n ≤ 1472) (hs : src ≤ 4294967295) (hd : dst ≤ 4294967295) (hp : p ≤ 65535) (hq : q ≤ 65535) :
    Calls Try.prog 36 #[.int .u32 src, .int .u32 dst, .agg #[.int .u16 (p : Int), .int .u16 (q : Int), .bool pl, .slice da n dc]] w fun e w' => ∃ a c,
      e = .returned (.tuple #[.slice a (8 + n) c, .int .i64 0]) ∧ w'.ownsRow w.heap.size 5 1 (.slice a (8 + n) c) (8 + n) ((udpB src dst p q ⟨p, q, pl, xs⟩).map (Value.int .u8)) ∧ Below w.heap.size w w' := by
  cases pl with
  | true => exact rwudp_plain w src dst p q da xs n dc hL.row hL.no hl h1 hs hd hp hq
  | false => exact rwudp_sum w src dst p q da xs n dc hL.row hL.no hl hb h1 hs hd hp hq
theorem turnD (w : World) (yp ys yd yf yt : Nat) : Calls Try.prog 38 #[.agg #[.int .u8 (yp : Int), .int .u32 (ys : Int), .int .u32 (yd : Int), .int .u16 (yf : Int), .int .u16 (yt : Int)]] w fun e w' => e = .returned (.agg #[.int .u8 (yp : Int), .int .u32 (yd : Int), .int .u32 (ys : Int), .int .u16 (yt : Int), .int .u16 (yf : Int)]) ∧ Below w.heap.size w w' := turnR_any ⟨yp, ys, yd, yf, yt⟩ w
set_option maxHeartbeats 4000000 in
theorem drewrite_err (w : World) (tt P id S D : Nat) (da : Option Addr) (xs : List Int) (n dc : Nat) (fp fs fd ff ft : Nat) (hLx : Lies w da xs n dc) (hl : xs.length = n) (hb : ∀ x ∈ xs, 0 ≤ x ∧ x ≤ 255) (hS : S ≤ 4294967295) (hD : D ≤ 4294967295) (he : ofErr P S D xs ≠ 0) :
    Calls Try.prog 12 #[.agg #[.int .u8 (tt : Int), .int .u8 (P : Int), .int .u16 (id : Int), .int .u32 (S : Int), .int .u32 (D : Int), .slice da n dc], .agg #[.int .u8 (fp : Int), .int .u32 (fs : Int), .int .u32 (fd : Int), .int .u16 (ff : Int), .int .u16 (ft : Int)]] w fun e w' => e = .returned (.tuple #[.agg #[.int .u8 0, .int .u8 0, .int .u16 0, .int .u32 0, .int .u32 0, .slice none 0 0], .int .i64 (ofErr P S D xs : Nat)]) ∧ Below w.heap.size w w' := by
  have HOF := hide (fun (W : World) (hL : Lies W da xs n dc) => rof_any W (tt : Int) (id : Int) P S D da n dc xs hL hl hb hS hD)
  have hne : (((ofErr P S D xs : Nat) : Int) != 0) = true := (ne_dec2 _ 0).trans (by simpa using he)
  obtain ⟨O, hO⟩ : ∃ y, ofFl P S D xs = y := ⟨_, rfl⟩
  rw [hO] at HOF
  obtain ⟨op, os, od, of, ot⟩ := O
  unfold Fl.v at HOF
  dsimp only at HOF
  generalize ofErr P S D xs = er at *
  generalize ofKind P S D xs = kk at *
  obtain ⟨er', hee⟩ : ∃ x, (er : Int) = x := ⟨_, rfl⟩
  rw [hee] at HOF hne ⊢
  clear hl hb hee he hO
  obtain ⟨V1, hV1⟩ : ∃ V, w.alloc (.cells #[.int .u8 (tt : Int), .int .u8 (P : Int), .int .u16 (id : Int), .int .u32 (S : Int), .int .u32 (D : Int), .slice da n dc] 27) = V := ⟨_, rfl⟩
  obtain ⟨V2, hV2⟩ : ∃ V, V1.alloc (.cells #[.int .u8 (fp : Int), .int .u32 (fs : Int), .int .u32 (fd : Int), .int .u16 (ff : Int), .int .u16 (ft : Int)] 29) = V := ⟨_, rfl⟩
  obtain ⟨V3, hV3⟩ : ∃ V, V2.alloc (.cells #[.int .u8 0, .int .u8 0, .int .u16 0, .int .u32 0, .int .u32 0, .slice none 0 0] 27) = V := ⟨_, rfl⟩
  have hz1 : V1.heap.size = w.heap.size + 1 := by rw [← hV1]; simp
  have hz2 : V2.heap.size = w.heap.size + 1 + 1 := by rw [← hV2]; simp [hz1]
  have hz3 : V3.heap.size = w.heap.size + 1 + 1 + 1 := by rw [← hV3]; simp [hz2]
  have hb1 : Below w.heap.size w V1 := by rw [← hV1]; exact (Below.refl _ _).alloc (Nat.le_refl _) _
  have hc2 : Below V1.heap.size V1 V2 := by rw [← hV2]; exact (Below.refl _ _).alloc (Nat.le_refl _) _
  have hb2 := hb1.trans (hc2.mono hb1.size)
  have hc3 : Below V2.heap.size V2 V3 := by rw [← hV3]; exact (Below.refl _ _).alloc (Nat.le_refl _) _
  have hb3 := hb2.trans (hc3.mono hb2.size)
  have hp1_1 : V1.heap[w.heap.size]? = some (.cells #[.int .u8 (tt : Int), .int .u8 (P : Int), .int .u16 (id : Int), .int .u32 (S : Int), .int .u32 (D : Int), .slice da n dc] 27 (0, 0)) := by rw [← hV1]; exact heap_alloc_new _ _
  have hp1_2 := below_block hc2 hp1_1 (Nat.le_refl _)
  have hp1_3 := below_block hc3 hp1_2 (Nat.le_refl _)
  have hp2_2 : V2.heap[w.heap.size + 1]? = some (.cells #[.int .u8 (fp : Int), .int .u32 (fs : Int), .int .u32 (fd : Int), .int .u16 (ff : Int), .int .u16 (ft : Int)] 29 (0, 0)) := by rw [← hV2, ← hz1]; exact heap_alloc_new _ _
  have hp2_3 := below_block hc3 hp2_2 (Nat.le_refl _)
  have hp3_3 : V3.heap[w.heap.size + 1 + 1]? = some (.cells #[.int .u8 0, .int .u8 0, .int .u16 0, .int .u32 0, .int .u32 0, .slice none 0 0] 27 (0, 0)) := by rw [← hV3, ← hz2]; exact heap_alloc_new _ _
  obtain ⟨BX, hBX⟩ : ∃ B, w.heap.size = B := ⟨_, rfl⟩
  obtain ⟨BF, hBF⟩ : ∃ B, w.heap.size + 1 = B := ⟨_, rfl⟩
  obtain ⟨BR, hBR⟩ : ∃ B, w.heap.size + 1 + 1 = B := ⟨_, rfl⟩
  have hw0 : w.heap.size ≤ BX ∧ w.heap.size ≤ BF ∧ w.heap.size ≤ BR := by omega
  have HX := hide (show V3.heap[BX]? = some (.cells #[.int .u8 (tt : Int), .int .u8 (P : Int), .int .u16 (id : Int), .int .u32 (S : Int), .int .u32 (D : Int), .slice da n dc] 27 (0, 0)) by rw [← hBX]; exact hp1_3)
  have NX : Hid (w.heap.size ≤ BX) := hide hw0.1
  have HF := hide (show V3.heap[BF]? = some (.cells #[.int .u8 (fp : Int), .int .u32 (fs : Int), .int .u32 (fd : Int), .int .u16 (ff : Int), .int .u16 (ft : Int)] 29 (0, 0)) by rw [← hBF]; exact hp2_3)
  have NF : Hid (w.heap.size ≤ BF) := hide hw0.2.1
  have HR := hide (show V3.heap[BR]? = some (.cells #[.int .u8 0, .int .u8 0, .int .u16 0, .int .u32 0, .int .u32 0, .slice none 0 0] 27 (0, 0)) by rw [← hBR]; exact hp3_3)
  have NR : Hid (w.heap.size ≤ BR) := hide hw0.2.2
  have nqX_F : Hid (BX ≠ BF) := hide (by omega)
  have nqX_R : Hid (BX ≠ BR) := hide (by omega)
  have nqF_R : Hid (BF ≠ BR) := hide (by omega)
  have AP := hide hLx
  have RP := hide (hLx.below hb3 (Nat.le_refl _))
  have HB := hide hb3
  have HE := hide (And.intro (And.intro trivial trivial) (And.intro hV1 ( And.intro hV2 ( And.intro hV3 (And.intro hBX ( And.intro hBF ( And.intro hBR (trivial))))))))
  clear hw0 hV1 hz1 hb1 hV2 hz2 hb2 hV3 hz3 hb3 hc2 hc3 hp1_1 hp1_2 hp1_3 hp2_2 hp2_3 hp3_3 hBX hBF hBR hLx
  go_enter Try.func12, Try.ntmps12
  go_upto_region 1 with (fail)
  rw [HE.out.2.1]
  try rw [HE.out.2.2.1]
  try rw [HE.out.2.2.2.1]
  try rw [HE.out.2.2.2.2.2.2.1]
  try rw [HE.out.2.2.2.2.2.1]
  try rw [HE.out.2.2.2.2.1]
  clear HE
  go_wp2_with ((refine ld_whole (o := ⟨some 17, _, _, _, _, _⟩) 27 (.tmp 2) rfl (by rfl) BX rfl #[.int .u8 (tt : Int), .int .u8 (P : Int), .int .u16 (id : Int), .int .u32 (S : Int), .int .u32 (D : Int), .slice da n dc] 27 HX.out Try.underlying27 (by kernel_rfl) ?_; try simp only [Act.put, List.setIfInBounds_toArray, List.set_cons_zero, List.set_cons_succ]))
  refine (HOF.out _ RP.out).mono ?_
  rintro e w1 ⟨rfl, b⟩
  replace HX := hide (below_block b HX.out (Nat.le_refl _))
  replace HF := hide (below_block b HF.out (Nat.le_refl _))
  replace HR := hide (below_block b HR.out (Nat.le_refl _))
  replace RP := hide (RP.out.below b (Nat.le_refl _))
  replace HB := hide (HB.out.trans (b.mono HB.out.size))
  clear b 
  obtain ⟨w2, hwn, wb, HN1⟩ : ∃ W, w1.alloc (.cells #[.int .u8 (op : Int), .int .u32 (os : Int), .int .u32 (od : Int), .int .u16 (of : Int), .int .u16 (ot : Int)] 29) = W ∧ Below w1.heap.size w1 W ∧ Hid (W.heap[w1.heap.size]? = some (.cells #[.int .u8 (op : Int), .int .u32 (os : Int), .int .u32 (od : Int), .int .u16 (of : Int), .int .u16 (ot : Int)] 29 (0, 0))) := ⟨_, rfl, (Below.refl w1.heap.size w1).alloc (Nat.le_refl _) _, hide (heap_alloc_new w1 _)⟩
  obtain ⟨BO, hBn⟩ : ∃ B, w1.heap.size = B := ⟨_, rfl⟩
  rw [hBn] at HN1
  have HW := hide (And.intro hwn hBn)
  have HBo := HB
  have nqX_O := hide (blk_ne HX.out hBn)
  have nqF_O := hide (blk_ne HF.out hBn)
  have nqR_O := hide (blk_ne HR.out hBn)
  clear hwn hBn
  replace HX := hide (below_block wb HX.out (Nat.le_refl _))
  replace HF := hide (below_block wb HF.out (Nat.le_refl _))
  replace HR := hide (below_block wb HR.out (Nat.le_refl _))
  replace RP := hide (RP.out.below wb (Nat.le_refl _))
  replace HB := hide (HB.out.trans (wb.mono HB.out.size))
  have HO := HN1
  have NO := hide (show w.heap.size ≤ BO by rw [← HW.out.2]; exact HBo.out.size)
  clear wb HN1 HBo
  go_upto_region 2 with (fail)
  rw [HW.out.1]
  try rw [HW.out.2]
  clear HW
  go_wp2_with ((refine st_part (o := ⟨none, _, _, _, _, _⟩) 27 (.tmp 4) (.tmp 24) rfl (by rfl) BR 0 rfl #[.int .u8 0, .int .u8 0, .int .u16 0, .int .u32 0, .int .u32 0, .slice none 0 0] 27 #[.int .u8 0, .int .u8 0, .int .u16 0, .int .u32 0, .int .u32 0, .slice none 0 0] rfl HR.out rfl (by kernel_rfl) (by kernel_rfl) HB.out NR.out ?_; rintro w9 w9h w9b w9o w9s; try simp only [Act.put, List.setIfInBounds_toArray, List.set_cons_zero, List.set_cons_succ]))
  rw [upd_whole (by rfl)] at w9h
  exact bodyPost_ret (v := .tuple #[.agg #[.int .u8 0, .int .u8 0, .int .u16 0, .int .u32 0, .int .u32 0, .slice none 0 0], .int .i64 er']) (results_cell_tmp Try.results12 _ w9 BR _ _ _ _ rfl w9h Try.underlying27 rfl (by kernel_rfl) _ rfl) rfl ⟨rfl, w9b⟩
set_option maxHeartbeats 4000000 in
theorem drewrite_arg (w : World) (tt P id S D : Nat) (da : Option Addr) (xs : List Int) (n dc : Nat) (fp fs fd ff ft : Nat) (hLx : Lies w da xs n dc) (hl : xs.length = n) (hb : ∀ x ∈ xs, 0 ≤ x ∧ x ≤ 255) (hS : S ≤ 4294967295) (hD : D ≤ 4294967295) (he : ofErr P S D xs = 0) (hp : fp ≠ (ofFl P S D xs).p) :
    Calls Try.prog 12 #[.agg #[.int .u8 (tt : Int), .int .u8 (P : Int), .int .u16 (id : Int), .int .u32 (S : Int), .int .u32 (D : Int), .slice da n dc], .agg #[.int .u8 (fp : Int), .int .u32 (fs : Int), .int .u32 (fd : Int), .int .u16 (ff : Int), .int .u16 (ft : Int)]] w fun e w' => e = .returned (.tuple #[.agg #[.int .u8 0, .int .u8 0, .int .u16 0, .int .u32 0, .int .u32 0, .slice none 0 0], .int .i64 1]) ∧ Below w.heap.size w w' := by
  have HOF := hide (fun (W : World) (hL : Lies W da xs n dc) => rof_any W (tt : Int) (id : Int) P S D da n dc xs hL hl hb hS hD)
  have hpp : ((fp : Int) != ((ofFl P S D xs).p : Int)) = true := (ne_dec2 _ _).trans (by simpa using hp)
  rw [he] at HOF
  obtain ⟨O, hO⟩ : ∃ y, ofFl P S D xs = y := ⟨_, rfl⟩
  rw [hO] at HOF
  obtain ⟨op, os, od, of, ot⟩ := O
  unfold Fl.v at HOF
  dsimp only at HOF
  rw [hO] at hpp
  dsimp only at hpp
  generalize ofKind P S D xs = kk at *
  clear hl hb he hp hO
  obtain ⟨V1, hV1⟩ : ∃ V, w.alloc (.cells #[.int .u8 (tt : Int), .int .u8 (P : Int), .int .u16 (id : Int), .int .u32 (S : Int), .int .u32 (D : Int), .slice da n dc] 27) = V := ⟨_, rfl⟩
  obtain ⟨V2, hV2⟩ : ∃ V, V1.alloc (.cells #[.int .u8 (fp : Int), .int .u32 (fs : Int), .int .u32 (fd : Int), .int .u16 (ff : Int), .int .u16 (ft : Int)] 29) = V := ⟨_, rfl⟩
  obtain ⟨V3, hV3⟩ : ∃ V, V2.alloc (.cells #[.int .u8 0, .int .u8 0, .int .u16 0, .int .u32 0, .int .u32 0, .slice none 0 0] 27) = V := ⟨_, rfl⟩
  have hz1 : V1.heap.size = w.heap.size + 1 := by rw [← hV1]; simp
  have hz2 : V2.heap.size = w.heap.size + 1 + 1 := by rw [← hV2]; simp [hz1]
  have hz3 : V3.heap.size = w.heap.size + 1 + 1 + 1 := by rw [← hV3]; simp [hz2]
  have hb1 : Below w.heap.size w V1 := by rw [← hV1]; exact (Below.refl _ _).alloc (Nat.le_refl _) _
  have hc2 : Below V1.heap.size V1 V2 := by rw [← hV2]; exact (Below.refl _ _).alloc (Nat.le_refl _) _
  have hb2 := hb1.trans (hc2.mono hb1.size)
  have hc3 : Below V2.heap.size V2 V3 := by rw [← hV3]; exact (Below.refl _ _).alloc (Nat.le_refl _) _
  have hb3 := hb2.trans (hc3.mono hb2.size)
  have hp1_1 : V1.heap[w.heap.size]? = some (.cells #[.int .u8 (tt : Int), .int .u8 (P : Int), .int .u16 (id : Int), .int .u32 (S : Int), .int .u32 (D : Int), .slice da n dc] 27 (0, 0)) := by rw [← hV1]; exact heap_alloc_new _ _
  have hp1_2 := below_block hc2 hp1_1 (Nat.le_refl _)
  have hp1_3 := below_block hc3 hp1_2 (Nat.le_refl _)
  have hp2_2 : V2.heap[w.heap.size + 1]? = some (.cells #[.int .u8 (fp : Int), .int .u32 (fs : Int), .int .u32 (fd : Int), .int .u16 (ff : Int), .int .u16 (ft : Int)] 29 (0, 0)) := by rw [← hV2, ← hz1]; exact heap_alloc_new _ _
  have hp2_3 := below_block hc3 hp2_2 (Nat.le_refl _)
  have hp3_3 : V3.heap[w.heap.size + 1 + 1]? = some (.cells #[.int .u8 0, .int .u8 0, .int .u16 0, .int .u32 0, .int .u32 0, .slice none 0 0] 27 (0, 0)) := by rw [← hV3, ← hz2]; exact heap_alloc_new _ _
  obtain ⟨BX, hBX⟩ : ∃ B, w.heap.size = B := ⟨_, rfl⟩
  obtain ⟨BF, hBF⟩ : ∃ B, w.heap.size + 1 = B := ⟨_, rfl⟩
  obtain ⟨BR, hBR⟩ : ∃ B, w.heap.size + 1 + 1 = B := ⟨_, rfl⟩
  have hw0 : w.heap.size ≤ BX ∧ w.heap.size ≤ BF ∧ w.heap.size ≤ BR := by omega
  have HX := hide (show V3.heap[BX]? = some (.cells #[.int .u8 (tt : Int), .int .u8 (P : Int), .int .u16 (id : Int), .int .u32 (S : Int), .int .u32 (D : Int), .slice da n dc] 27 (0, 0)) by rw [← hBX]; exact hp1_3)
  have NX : Hid (w.heap.size ≤ BX) := hide hw0.1
  have HF := hide (show V3.heap[BF]? = some (.cells #[.int .u8 (fp : Int), .int .u32 (fs : Int), .int .u32 (fd : Int), .int .u16 (ff : Int), .int .u16 (ft : Int)] 29 (0, 0)) by rw [← hBF]; exact hp2_3)
  have NF : Hid (w.heap.size ≤ BF) := hide hw0.2.1
  have HR := hide (show V3.heap[BR]? = some (.cells #[.int .u8 0, .int .u8 0, .int .u16 0, .int .u32 0, .int .u32 0, .slice none 0 0] 27 (0, 0)) by rw [← hBR]; exact hp3_3)
  have NR : Hid (w.heap.size ≤ BR) := hide hw0.2.2
  have nqX_F : Hid (BX ≠ BF) := hide (by omega)
  have nqX_R : Hid (BX ≠ BR) := hide (by omega)
  have nqF_R : Hid (BF ≠ BR) := hide (by omega)
  have AP := hide hLx
  have RP := hide (hLx.below hb3 (Nat.le_refl _))
  have HB := hide hb3
  have HE := hide (And.intro (And.intro trivial trivial) (And.intro hV1 ( And.intro hV2 ( And.intro hV3 (And.intro hBX ( And.intro hBF ( And.intro hBR (trivial))))))))
  clear hw0 hV1 hz1 hb1 hV2 hz2 hb2 hV3 hz3 hb3 hc2 hc3 hp1_1 hp1_2 hp1_3 hp2_2 hp2_3 hp3_3 hBX hBF hBR hLx
  go_enter Try.func12, Try.ntmps12
  go_upto_region 1 with (fail)
  rw [HE.out.2.1]
  try rw [HE.out.2.2.1]
  try rw [HE.out.2.2.2.1]
  try rw [HE.out.2.2.2.2.2.2.1]
  try rw [HE.out.2.2.2.2.2.1]
  try rw [HE.out.2.2.2.2.1]
  clear HE
  go_wp2_with ((refine ld_whole (o := ⟨some 17, _, _, _, _, _⟩) 27 (.tmp 2) rfl (by rfl) BX rfl #[.int .u8 (tt : Int), .int .u8 (P : Int), .int .u16 (id : Int), .int .u32 (S : Int), .int .u32 (D : Int), .slice da n dc] 27 HX.out Try.underlying27 (by kernel_rfl) ?_; try simp only [Act.put, List.setIfInBounds_toArray, List.set_cons_zero, List.set_cons_succ]))
  refine (HOF.out _ RP.out).mono ?_
  rintro e w1 ⟨rfl, b⟩
  replace HX := hide (below_block b HX.out (Nat.le_refl _))
  replace HF := hide (below_block b HF.out (Nat.le_refl _))
  replace HR := hide (below_block b HR.out (Nat.le_refl _))
  replace RP := hide (RP.out.below b (Nat.le_refl _))
  replace HB := hide (HB.out.trans (b.mono HB.out.size))
  clear b 
  obtain ⟨w2, hwn, wb, HN1⟩ : ∃ W, w1.alloc (.cells #[.int .u8 (op : Int), .int .u32 (os : Int), .int .u32 (od : Int), .int .u16 (of : Int), .int .u16 (ot : Int)] 29) = W ∧ Below w1.heap.size w1 W ∧ Hid (W.heap[w1.heap.size]? = some (.cells #[.int .u8 (op : Int), .int .u32 (os : Int), .int .u32 (od : Int), .int .u16 (of : Int), .int .u16 (ot : Int)] 29 (0, 0))) := ⟨_, rfl, (Below.refl w1.heap.size w1).alloc (Nat.le_refl _) _, hide (heap_alloc_new w1 _)⟩
  obtain ⟨BO, hBn⟩ : ∃ B, w1.heap.size = B := ⟨_, rfl⟩
  rw [hBn] at HN1
  have HW := hide (And.intro hwn hBn)
  have HBo := HB
  have nqX_O := hide (blk_ne HX.out hBn)
  have nqF_O := hide (blk_ne HF.out hBn)
  have nqR_O := hide (blk_ne HR.out hBn)
  clear hwn hBn
  replace HX := hide (below_block wb HX.out (Nat.le_refl _))
  replace HF := hide (below_block wb HF.out (Nat.le_refl _))
  replace HR := hide (below_block wb HR.out (Nat.le_refl _))
  replace RP := hide (RP.out.below wb (Nat.le_refl _))
  replace HB := hide (HB.out.trans (wb.mono HB.out.size))
  have HO := HN1
  have NO := hide (show w.heap.size ≤ BO by rw [← HW.out.2]; exact HBo.out.size)
  clear wb HN1 HBo
  go_upto_region 2 with (fail)
  rw [HW.out.1]
  try rw [HW.out.2]
  clear HW
  have qF_0 : w2.cell? ⟨BF, 0, none⟩ = some (.int .u8 (fp : Int)) := cell_at HF.out 0 rfl
  have qO_0 : w2.cell? ⟨BO, 0, none⟩ = some (.int .u8 (op : Int)) := cell_at HO.out 0 rfl
  go_wp2_with ((refine st_part (o := ⟨none, _, _, _, _, _⟩) 27 (.tmp 4) (.tmp 31) rfl (by rfl) BR 0 rfl #[.int .u8 0, .int .u8 0, .int .u16 0, .int .u32 0, .int .u32 0, .slice none 0 0] 27 #[.int .u8 0, .int .u8 0, .int .u16 0, .int .u32 0, .int .u32 0, .slice none 0 0] rfl HR.out rfl (by kernel_rfl) (by kernel_rfl) HB.out NR.out ?_; rintro w9 w9h w9b w9o w9s; try simp only [Act.put, List.setIfInBounds_toArray, List.set_cons_zero, List.set_cons_succ]))
  rw [upd_whole (by rfl)] at w9h
  exact bodyPost_ret (v := .tuple #[.agg #[.int .u8 0, .int .u8 0, .int .u16 0, .int .u32 0, .int .u32 0, .slice none 0 0], .int .i64 1]) (results_cell_tmp Try.results12 _ w9 BR _ _ _ _ rfl w9h Try.underlying27 rfl (by kernel_rfl) _ rfl) rfl ⟨rfl, w9b⟩
set_option maxHeartbeats 4000000 in
theorem drewrite_tcp (w : World) (tt id S D : Nat) (da : Option Addr) (xs : List Int) (n dc : Nat) (fp fs fd ff ft : Nat) (hLx : Lies w da xs n dc) (hl : xs.length = n) (hb : ∀ x ∈ xs, 0 ≤ x ∧ x ≤ 255) (hS : S ≤ 4294967295) (hD : D ≤ 4294967295) (hfs : fs ≤ 4294967295) (hfd : fd ≤ 4294967295) (hff : ff ≤ 65535) (hft : ft ≤ 65535) (hc : segCode S D xs = 0) (hfp : fp = 6) :
    Calls Try.prog 12 #[.agg #[.int .u8 (tt : Int), .int .u8 6, .int .u16 (id : Int), .int .u32 (S : Int), .int .u32 (D : Int), .slice da n dc], .agg #[.int .u8 (fp : Int), .int .u32 (fs : Int), .int .u32 (fd : Int), .int .u16 (ff : Int), .int .u16 (ft : Int)]] w fun e w' => ∃ a9 c9, e = .returned (.tuple #[.agg #[.int .u8 (tt : Int), .int .u8 6, .int .u16 (id : Int), .int .u32 (fs : Int), .int .u32 (fd : Int), .slice a9 (20 + (segOf S D xs).os.length + (segOf S D xs).ds.length) c9], .int .i64 0]) ∧ w'.ownsRow w.heap.size 5 1 (.slice a9 (20 + (segOf S D xs).os.length + (segOf S D xs).ds.length) c9) (20 + (segOf S D xs).os.length + (segOf S D xs).ds.length) ((tcpB fs fd ff ft (segOf S D xs)).map (Value.int .u8)) ∧ Below w.heap.size w w' := by
  obtain ⟨P, hPn⟩ : ∃ P : Nat, P = 6 := ⟨_, rfl⟩
  have HOF := hide (fun (W : World) (hL : Lies W da xs n dc) => rof_any W (tt : Int) (id : Int) P S D da n dc xs hL hl hb hS hD)
  have hofE : ofErr P S D xs = 0 := by unfold ofErr; rw [if_pos hPn, hc]
  have hofK : ofKind P S D xs = 1 := by unfold ofKind; rw [hofE, if_pos rfl, if_pos (.inl hPn)]
  have hofP : (ofFl P S D xs).p = 6 := by unfold ofFl; rw [hofE, if_pos rfl, if_pos hPn]
  rw [hofE, hofK] at HOF
  obtain ⟨O, hO⟩ : ∃ y, ofFl P S D xs = y := ⟨_, rfl⟩
  rw [hO] at HOF
  obtain ⟨op, os, od, of, ot⟩ := O
  unfold Fl.v at HOF
  dsimp only at HOF
  rw [hO] at hofP
  dsimp only at hofP
  have hfe : ((fp : Int) != (op : Int)) = false := by rw [hfp, hofP]; simp
  have HFE := hide hfe
  rw [show (P : Int) = 6 by rw [hPn]; rfl] at HOF
  have hft0 := seg_fit S D xs hb hc
  have HRD := hide (fun (W : World) (hL : Lies W da xs n dc) => (readTCP_both S D xs n hl hb hS hD).2 W da dc hL)
  unfold SegAns TcpAns at HRD
  rw [hc] at HRD
  unfold tcpB
  generalize segOf S D xs = sg at *
  obtain ⟨p, q, u, v, f, g, h, os', ds⟩ := sg
  dsimp only at *
  have HWT := hide (fun (W : World) (a1 : Option Addr) (c1 : Nat) (a2 : Option Addr) (c2 : Nat) (h1 : Lies W a1 os' os'.length c1) (h2 : Lies W a2 ds ds.length c2) => rwtcp_ok W fs fd ff ft u v f g h a1 os' os'.length c1 a2 ds ds.length c2 h1.row h1.no rfl h2.row h2.no rfl hft0.ob hft0.db hft0.o hft0.o4 hft0.d hfs hfd hff hft hft0.u hft0.v hft0.f hft0.g hft0.h)
  clear hft0 hc hl hb hofE hofK hofP hO hfe hfp hPn hfs hfd hff hft
  obtain ⟨V1, hV1⟩ : ∃ V, w.alloc (.cells #[.int .u8 (tt : Int), .int .u8 6, .int .u16 (id : Int), .int .u32 (S : Int), .int .u32 (D : Int), .slice da n dc] 27) = V := ⟨_, rfl⟩
  obtain ⟨V2, hV2⟩ : ∃ V, V1.alloc (.cells #[.int .u8 (fp : Int), .int .u32 (fs : Int), .int .u32 (fd : Int), .int .u16 (ff : Int), .int .u16 (ft : Int)] 29) = V := ⟨_, rfl⟩
  obtain ⟨V3, hV3⟩ : ∃ V, V2.alloc (.cells #[.int .u8 0, .int .u8 0, .int .u16 0, .int .u32 0, .int .u32 0, .slice none 0 0] 27) = V := ⟨_, rfl⟩
  have hz1 : V1.heap.size = w.heap.size + 1 := by rw [← hV1]; simp
  have hz2 : V2.heap.size = w.heap.size + 1 + 1 := by rw [← hV2]; simp [hz1]
  have hz3 : V3.heap.size = w.heap.size + 1 + 1 + 1 := by rw [← hV3]; simp [hz2]
  have hb1 : Below w.heap.size w V1 := by rw [← hV1]; exact (Below.refl _ _).alloc (Nat.le_refl _) _
  have hc2 : Below V1.heap.size V1 V2 := by rw [← hV2]; exact (Below.refl _ _).alloc (Nat.le_refl _) _
  have hb2 := hb1.trans (hc2.mono hb1.size)
  have hc3 : Below V2.heap.size V2 V3 := by rw [← hV3]; exact (Below.refl _ _).alloc (Nat.le_refl _) _
  have hb3 := hb2.trans (hc3.mono hb2.size)
  have hp1_1 : V1.heap[w.heap.size]? = some (.cells #[.int .u8 (tt : Int), .int .u8 6, .int .u16 (id : Int), .int .u32 (S : Int), .int .u32 (D : Int), .slice da n dc] 27 (0, 0)) := by rw [← hV1]; exact heap_alloc_new _ _
  have hp1_2 := below_block hc2 hp1_1 (Nat.le_refl _)
  have hp1_3 := below_block hc3 hp1_2 (Nat.le_refl _)
  have hp2_2 : V2.heap[w.heap.size + 1]? = some (.cells #[.int .u8 (fp : Int), .int .u32 (fs : Int), .int .u32 (fd : Int), .int .u16 (ff : Int), .int .u16 (ft : Int)] 29 (0, 0)) := by rw [← hV2, ← hz1]; exact heap_alloc_new _ _
  have hp2_3 := below_block hc3 hp2_2 (Nat.le_refl _)
  have hp3_3 : V3.heap[w.heap.size + 1 + 1]? = some (.cells #[.int .u8 0, .int .u8 0, .int .u16 0, .int .u32 0, .int .u32 0, .slice none 0 0] 27 (0, 0)) := by rw [← hV3, ← hz2]; exact heap_alloc_new _ _
  obtain ⟨BX, hBX⟩ : ∃ B, w.heap.size = B := ⟨_, rfl⟩
  obtain ⟨BF, hBF⟩ : ∃ B, w.heap.size + 1 = B := ⟨_, rfl⟩
  obtain ⟨BR, hBR⟩ : ∃ B, w.heap.size + 1 + 1 = B := ⟨_, rfl⟩
  have hw0 : w.heap.size ≤ BX ∧ w.heap.size ≤ BF ∧ w.heap.size ≤ BR := by omega
  have HX := hide (show V3.heap[BX]? = some (.cells #[.int .u8 (tt : Int), .int .u8 6, .int .u16 (id : Int), .int .u32 (S : Int), .int .u32 (D : Int), .slice da n dc] 27 (0, 0)) by rw [← hBX]; exact hp1_3)
  have NX : Hid (w.heap.size ≤ BX) := hide hw0.1
  have HF := hide (show V3.heap[BF]? = some (.cells #[.int .u8 (fp : Int), .int .u32 (fs : Int), .int .u32 (fd : Int), .int .u16 (ff : Int), .int .u16 (ft : Int)] 29 (0, 0)) by rw [← hBF]; exact hp2_3)
  have NF : Hid (w.heap.size ≤ BF) := hide hw0.2.1
  have HR := hide (show V3.heap[BR]? = some (.cells #[.int .u8 0, .int .u8 0, .int .u16 0, .int .u32 0, .int .u32 0, .slice none 0 0] 27 (0, 0)) by rw [← hBR]; exact hp3_3)
  have NR : Hid (w.heap.size ≤ BR) := hide hw0.2.2
  have nqX_F : Hid (BX ≠ BF) := hide (by omega)
  have nqX_R : Hid (BX ≠ BR) := hide (by omega)
  have nqF_R : Hid (BF ≠ BR) := hide (by omega)
  have AP := hide hLx
  have RP := hide (hLx.below hb3 (Nat.le_refl _))
  have HB := hide hb3
  have HE := hide (And.intro (And.intro trivial trivial) (And.intro hV1 ( And.intro hV2 ( And.intro hV3 (And.intro hBX ( And.intro hBF ( And.intro hBR (trivial))))))))
  clear hw0 hV1 hz1 hb1 hV2 hz2 hb2 hV3 hz3 hb3 hc2 hc3 hp1_1 hp1_2 hp1_3 hp2_2 hp2_3 hp3_3 hBX hBF hBR hLx
  go_enter Try.func12, Try.ntmps12
  go_upto_region 1 with (fail)
  rw [HE.out.2.1]
  try rw [HE.out.2.2.1]
  try rw [HE.out.2.2.2.1]
  try rw [HE.out.2.2.2.2.2.2.1]
  try rw [HE.out.2.2.2.2.2.1]
  try rw [HE.out.2.2.2.2.1]
  clear HE
  go_wp2_with ((refine ld_whole (o := ⟨some 17, _, _, _, _, _⟩) 27 (.tmp 2) rfl (by rfl) BX rfl #[.int .u8 (tt : Int), .int .u8 6, .int .u16 (id : Int), .int .u32 (S : Int), .int .u32 (D : Int), .slice da n dc] 27 HX.out Try.underlying27 (by kernel_rfl) ?_; try simp only [Act.put, List.setIfInBounds_toArray, List.set_cons_zero, List.set_cons_succ]))
  refine (HOF.out _ RP.out).mono ?_
  rintro e w1 ⟨rfl, b⟩
  replace HX := hide (below_block b HX.out (Nat.le_refl _))
  replace HF := hide (below_block b HF.out (Nat.le_refl _))
  replace HR := hide (below_block b HR.out (Nat.le_refl _))
  replace RP := hide (RP.out.below b (Nat.le_refl _))
  replace HB := hide (HB.out.trans (b.mono HB.out.size))
  clear b 
  obtain ⟨w2, hwn, wb, HN1⟩ : ∃ W, w1.alloc (.cells #[.int .u8 (op : Int), .int .u32 (os : Int), .int .u32 (od : Int), .int .u16 (of : Int), .int .u16 (ot : Int)] 29) = W ∧ Below w1.heap.size w1 W ∧ Hid (W.heap[w1.heap.size]? = some (.cells #[.int .u8 (op : Int), .int .u32 (os : Int), .int .u32 (od : Int), .int .u16 (of : Int), .int .u16 (ot : Int)] 29 (0, 0))) := ⟨_, rfl, (Below.refl w1.heap.size w1).alloc (Nat.le_refl _) _, hide (heap_alloc_new w1 _)⟩
  obtain ⟨BO, hBn⟩ : ∃ B, w1.heap.size = B := ⟨_, rfl⟩
  rw [hBn] at HN1
  have HW := hide (And.intro hwn hBn)
  have HBo := HB
  have nqX_O := hide (blk_ne HX.out hBn)
  have nqF_O := hide (blk_ne HF.out hBn)
  have nqR_O := hide (blk_ne HR.out hBn)
  clear hwn hBn
  replace HX := hide (below_block wb HX.out (Nat.le_refl _))
  replace HF := hide (below_block wb HF.out (Nat.le_refl _))
  replace HR := hide (below_block wb HR.out (Nat.le_refl _))
  replace RP := hide (RP.out.below wb (Nat.le_refl _))
  replace HB := hide (HB.out.trans (wb.mono HB.out.size))
  have HO := HN1
  have NO := hide (show w.heap.size ≤ BO by rw [← HW.out.2]; exact HBo.out.size)
  clear wb HN1 HBo
  go_upto_region 2 with (fail)
  rw [HW.out.1]
  try rw [HW.out.2]
  clear HW
  have qF_0 : w2.cell? ⟨BF, 0, none⟩ = some (.int .u8 (fp : Int)) := cell_at HF.out 0 rfl
  have qO_0 : w2.cell? ⟨BO, 0, none⟩ = some (.int .u8 (op : Int)) := cell_at HO.out 0 rfl
  have hfe := HFE.out
  go_upto_region 6 with (fail)
  clear hfe HFE
  clear qF_0 qO_0
  obtain ⟨w3, hwn, wb, HN1⟩ : ∃ W, w2.alloc (.cells #[.int .u8 (tt : Int), .int .u8 6, .int .u16 (id : Int), .int .u32 (S : Int), .int .u32 (D : Int), .slice da n dc] 27) = W ∧ Below w2.heap.size w2 W ∧ Hid (W.heap[w2.heap.size]? = some (.cells #[.int .u8 (tt : Int), .int .u8 6, .int .u16 (id : Int), .int .u32 (S : Int), .int .u32 (D : Int), .slice da n dc] 27 (0, 0))) := ⟨_, rfl, (Below.refl w2.heap.size w2).alloc (Nat.le_refl _) _, hide (heap_alloc_new w2 _)⟩
  obtain ⟨BY, hBn⟩ : ∃ B, w2.heap.size = B := ⟨_, rfl⟩
  rw [hBn] at HN1
  have HW := hide (And.intro hwn hBn)
  have HBo := HB
  have nqX_Y := hide (blk_ne HX.out hBn)
  have nqF_Y := hide (blk_ne HF.out hBn)
  have nqR_Y := hide (blk_ne HR.out hBn)
  have nqO_Y := hide (blk_ne HO.out hBn)
  clear hwn hBn
  have EX := HX
  have EF := HF
  have ER := HR
  have EO := HO
  replace HX := hide (below_block wb HX.out (Nat.le_refl _))
  replace HF := hide (below_block wb HF.out (Nat.le_refl _))
  replace HR := hide (below_block wb HR.out (Nat.le_refl _))
  replace HO := hide (below_block wb HO.out (Nat.le_refl _))
  replace RP := hide (RP.out.below wb (Nat.le_refl _))
  replace HB := hide (HB.out.trans (wb.mono HB.out.size))
  have HY := HN1
  have NY := hide (show w.heap.size ≤ BY by rw [← HW.out.2]; exact HBo.out.size)
  clear wb HN1 HBo
  go_upto_region 7 with ((refine ld_whole (o := ⟨some 32, _, _, _, _, _⟩) 27 (.tmp 2) rfl (by rfl) BX rfl #[.int .u8 (tt : Int), .int .u8 6, .int .u16 (id : Int), .int .u32 (S : Int), .int .u32 (D : Int), .slice da n dc] 27 EX.out Try.underlying27 (by kernel_rfl) ?_; try simp only [Act.put, List.setIfInBounds_toArray, List.set_cons_zero, List.set_cons_succ]))
  rw [HW.out.1]
  try rw [HW.out.2]
  clear HW
  clear EX EF ER EO
  have qF_1 : w3.cell? ⟨BF, 1, none⟩ = some (.int .u32 (fs : Int)) := cell_at HF.out 1 rfl
  have fz := free_at HY.out 3
  have qY_3 : w3.cell? ⟨BY, 3, none⟩ = some (.int .u32 (S : Int)) := cell_at HY.out 3 rfl
  obtain ⟨w4, hVn, hVH, hVB, hVo, hVs⟩ := set1 (i := 3) (.int .u32 (fs : Int)) (c' := #[.int .u8 (tt : Int), .int .u8 6, .int .u16 (id : Int), .int .u32 (fs : Int), .int .u32 (D : Int), .slice da n dc]) HY.out HB.out NY.out (by kernel_rfl)
  have HVn := hide hVn
  clear hVn
  have HG := hide (gb_part HB.out hVB hVo hVs)
  have HXn := hide ((hVo _ nqX_Y.out).trans HX.out)
  have HFn := hide ((hVo _ nqF_Y.out).trans HF.out)
  have HRn := hide ((hVo _ nqR_Y.out).trans HR.out)
  have HOn := hide ((hVo _ nqO_Y.out).trans HO.out)
  have HYn := hide hVH
  have RPn := hide (AP.out.below hVB (Nat.le_refl _))
  have HBn := hide hVB
  clear hVH hVB hVo hVs HG
  go_upto_region 9 with (fail)
  rw [HVn.out]
  clear HVn fz
  clear qF_1 qY_3
  replace HX := HXn
  clear HXn
  replace HF := HFn
  clear HFn
  replace HR := HRn
  clear HRn
  replace HO := HOn
  clear HOn
  replace HY := HYn
  clear HYn
  replace RP := RPn
  clear RPn
  replace HB := HBn
  clear HBn
  have qF_2 : w4.cell? ⟨BF, 2, none⟩ = some (.int .u32 (fd : Int)) := cell_at HF.out 2 rfl
  have fz := free_at HY.out 4
  have qY_4 : w4.cell? ⟨BY, 4, none⟩ = some (.int .u32 (D : Int)) := cell_at HY.out 4 rfl
  obtain ⟨w5, hVn, hVH, hVB, hVo, hVs⟩ := set1 (i := 4) (.int .u32 (fd : Int)) (c' := #[.int .u8 (tt : Int), .int .u8 6, .int .u16 (id : Int), .int .u32 (fs : Int), .int .u32 (fd : Int), .slice da n dc]) HY.out HB.out NY.out (by kernel_rfl)
  have HVn := hide hVn
  clear hVn
  have HG := hide (gb_part HB.out hVB hVo hVs)
  have HXn := hide ((hVo _ nqX_Y.out).trans HX.out)
  have HFn := hide ((hVo _ nqF_Y.out).trans HF.out)
  have HRn := hide ((hVo _ nqR_Y.out).trans HR.out)
  have HOn := hide ((hVo _ nqO_Y.out).trans HO.out)
  have HYn := hide hVH
  have RPn := hide (AP.out.below hVB (Nat.le_refl _))
  have HBn := hide hVB
  clear hVH hVB hVo hVs HG
  go_upto_region 11 with (fail)
  rw [HVn.out]
  clear HVn fz
  clear qF_2 qY_4
  replace HX := HXn
  clear HXn
  replace HF := HFn
  clear HFn
  replace HR := HRn
  clear HRn
  replace HO := HOn
  clear HOn
  replace HY := HYn
  clear HYn
  replace RP := RPn
  clear RPn
  replace HB := HBn
  clear HBn
  have qX_1 : w5.cell? ⟨BX, 1, none⟩ = some (.int .u8 6) := cell_at HX.out 1 rfl
  go_upto_region 12 with (fail)
  clear qX_1
  have qX_3 : w5.cell? ⟨BX, 3, none⟩ = some (.int .u32 (S : Int)) := cell_at HX.out 3 rfl
  have qX_4 : w5.cell? ⟨BX, 4, none⟩ = some (.int .u32 (D : Int)) := cell_at HX.out 4 rfl
  have qX_5 : w5.cell? ⟨BX, 5, none⟩ = some (.slice da n dc) := cell_at HX.out 5 rfl
  go_wp2_with fail
  have ltQ_X := hide (lt_of_block HX.out)
  have ltQ_F := hide (lt_of_block HF.out)
  have ltQ_R := hide (lt_of_block HR.out)
  have ltQ_O := hide (lt_of_block HO.out)
  have ltQ_Y := hide (lt_of_block HY.out)
  have lbQ := hide HB.out.size
  have ltT_X := hide (lt_of_block HX.out)
  have ltT_F := hide (lt_of_block HF.out)
  have ltT_R := hide (lt_of_block HR.out)
  have ltT_O := hide (lt_of_block HO.out)
  have ltT_Y := hide (lt_of_block HY.out)
  have lbT := hide HB.out.size
  refine (HRD.out _ RP.out).mono ?_
  rintro e w6 ⟨a1, c1, a2, c2, rfl, o1, o2, b⟩
  clear qX_3 qX_4 qX_5
  replace HX := hide (below_block b HX.out (Nat.le_refl _))
  replace HF := hide (below_block b HF.out (Nat.le_refl _))
  replace HR := hide (below_block b HR.out (Nat.le_refl _))
  replace HO := hide (below_block b HO.out (Nat.le_refl _))
  replace HY := hide (below_block b HY.out (Nat.le_refl _))
  replace RP := hide (RP.out.below b (Nat.le_refl _))
  replace HB := hide (HB.out.trans (b.mono HB.out.size))
  have OQ := hide o1
  have neQ_X := hide (own_ne_lt o1 ltQ_X.out)
  clear ltQ_X
  have neQ_F := hide (own_ne_lt o1 ltQ_F.out)
  clear ltQ_F
  have neQ_R := hide (own_ne_lt o1 ltQ_R.out)
  clear ltQ_R
  have neQ_O := hide (own_ne_lt o1 ltQ_O.out)
  clear ltQ_O
  have neQ_Y := hide (own_ne_lt o1 ltQ_Y.out)
  clear ltQ_Y
  have OT := hide o2
  have neT_X := hide (own_ne_lt o2 ltT_X.out)
  clear ltT_X
  have neT_F := hide (own_ne_lt o2 ltT_F.out)
  clear ltT_F
  have neT_R := hide (own_ne_lt o2 ltT_R.out)
  clear ltT_R
  have neT_O := hide (own_ne_lt o2 ltT_O.out)
  clear ltT_O
  have neT_Y := hide (own_ne_lt o2 ltT_Y.out)
  clear ltT_Y
  clear b  o1 o2
  obtain ⟨w7, hwn, wb, HN1⟩ : ∃ W, w6.alloc (.cells #[.int .u16 (p : Int), .int .u16 (q : Int), .int .u32 (u : Int), .int .u32 (v : Int), .int .u8 (f : Int), .int .u16 (g : Int), .int .u16 (h : Int), .slice a1 os'.length c1, .slice a2 ds.length c2] 61) = W ∧ Below w6.heap.size w6 W ∧ Hid (W.heap[w6.heap.size]? = some (.cells #[.int .u16 (p : Int), .int .u16 (q : Int), .int .u32 (u : Int), .int .u32 (v : Int), .int .u8 (f : Int), .int .u16 (g : Int), .int .u16 (h : Int), .slice a1 os'.length c1, .slice a2 ds.length c2] 61 (0, 0))) := ⟨_, rfl, (Below.refl w6.heap.size w6).alloc (Nat.le_refl _) _, hide (heap_alloc_new w6 _)⟩
  obtain ⟨BM, hBn⟩ : ∃ B, w6.heap.size = B := ⟨_, rfl⟩
  rw [hBn] at HN1
  have HW := hide (And.intro hwn hBn)
  have HBo := HB
  have neQ_M := hide (own_ne (L := BM) OQ.out (Nat.le_of_eq hBn))
  have neT_M := hide (own_ne (L := BM) OT.out (Nat.le_of_eq hBn))
  have nqX_M := hide (blk_ne HX.out hBn)
  have nqF_M := hide (blk_ne HF.out hBn)
  have nqR_M := hide (blk_ne HR.out hBn)
  have nqO_M := hide (blk_ne HO.out hBn)
  have nqY_M := hide (blk_ne HY.out hBn)
  clear hwn hBn
  replace HX := hide (below_block wb HX.out (Nat.le_refl _))
  replace HF := hide (below_block wb HF.out (Nat.le_refl _))
  replace HR := hide (below_block wb HR.out (Nat.le_refl _))
  replace HO := hide (below_block wb HO.out (Nat.le_refl _))
  replace HY := hide (below_block wb HY.out (Nat.le_refl _))
  replace RP := hide (RP.out.below wb (Nat.le_refl _))
  replace OQ := hide (owns_below OQ.out wb (Nat.le_refl _))
  replace OT := hide (owns_below OT.out wb (Nat.le_refl _))
  replace HB := hide (HB.out.trans (wb.mono HB.out.size))
  have HM := HN1
  have NM := hide (show w.heap.size ≤ BM by rw [← HW.out.2]; exact HBo.out.size)
  clear wb HN1 HBo
  go_upto_region 13 with (fail)
  rw [HW.out.1]
  try rw [HW.out.2]
  clear HW
  have qF_3 : w7.cell? ⟨BF, 3, none⟩ = some (.int .u16 (ff : Int)) := cell_at HF.out 3 rfl
  have fz := free_at HM.out 0
  have qM_0 : w7.cell? ⟨BM, 0, none⟩ = some (.int .u16 (p : Int)) := cell_at HM.out 0 rfl
  obtain ⟨w8, hVn, hVH, hVB, hVo, hVs⟩ := set1 (i := 0) (.int .u16 (ff : Int)) (c' := #[.int .u16 (ff : Int), .int .u16 (q : Int), .int .u32 (u : Int), .int .u32 (v : Int), .int .u8 (f : Int), .int .u16 (g : Int), .int .u16 (h : Int), .slice a1 os'.length c1, .slice a2 ds.length c2]) HM.out HB.out NM.out (by kernel_rfl)
  have HVn := hide hVn
  clear hVn
  have HG := hide (gb_part HB.out hVB hVo hVs)
  have HXn := hide ((hVo _ nqX_M.out).trans HX.out)
  have HFn := hide ((hVo _ nqF_M.out).trans HF.out)
  have HRn := hide ((hVo _ nqR_M.out).trans HR.out)
  have HOn := hide ((hVo _ nqO_M.out).trans HO.out)
  have HYn := hide ((hVo _ nqY_M.out).trans HY.out)
  have HMn := hide hVH
  have RPn := hide (AP.out.below hVB (Nat.le_refl _))
  have OQn := hide (owns_kept OQ.out HG.out neQ_M.out)
  have OTn := hide (owns_kept OT.out HG.out neT_M.out)
  have HBn := hide hVB
  clear hVH hVB hVo hVs HG
  go_upto_region 14 with (fail)
  rw [HVn.out]
  clear HVn fz
  clear qF_3 qM_0
  replace HX := HXn
  clear HXn
  replace HF := HFn
  clear HFn
  replace HR := HRn
  clear HRn
  replace HO := HOn
  clear HOn
  replace HY := HYn
  clear HYn
  replace HM := HMn
  clear HMn
  replace RP := RPn
  clear RPn
  replace OQ := OQn
  clear OQn
  replace OT := OTn
  clear OTn
  replace HB := HBn
  clear HBn
  have qF_4 : w8.cell? ⟨BF, 4, none⟩ = some (.int .u16 (ft : Int)) := cell_at HF.out 4 rfl
  have fz := free_at HM.out 1
  have qM_1 : w8.cell? ⟨BM, 1, none⟩ = some (.int .u16 (q : Int)) := cell_at HM.out 1 rfl
  obtain ⟨w9, hVn, hVH, hVB, hVo, hVs⟩ := set1 (i := 1) (.int .u16 (ft : Int)) (c' := #[.int .u16 (ff : Int), .int .u16 (ft : Int), .int .u32 (u : Int), .int .u32 (v : Int), .int .u8 (f : Int), .int .u16 (g : Int), .int .u16 (h : Int), .slice a1 os'.length c1, .slice a2 ds.length c2]) HM.out HB.out NM.out (by kernel_rfl)
  have HVn := hide hVn
  clear hVn
  have HG := hide (gb_part HB.out hVB hVo hVs)
  have HXn := hide ((hVo _ nqX_M.out).trans HX.out)
  have HFn := hide ((hVo _ nqF_M.out).trans HF.out)
  have HRn := hide ((hVo _ nqR_M.out).trans HR.out)
  have HOn := hide ((hVo _ nqO_M.out).trans HO.out)
  have HYn := hide ((hVo _ nqY_M.out).trans HY.out)
  have HMn := hide hVH
  have RPn := hide (AP.out.below hVB (Nat.le_refl _))
  have OQn := hide (owns_kept OQ.out HG.out neQ_M.out)
  have OTn := hide (owns_kept OT.out HG.out neT_M.out)
  have HBn := hide hVB
  clear hVH hVB hVo hVs HG
  go_upto_region 15 with (fail)
  rw [HVn.out]
  clear HVn fz
  clear qF_4 qM_1
  replace HX := HXn
  clear HXn
  replace HF := HFn
  clear HFn
  replace HR := HRn
  clear HRn
  replace HO := HOn
  clear HOn
  replace HY := HYn
  clear HYn
  replace HM := HMn
  clear HMn
  replace RP := RPn
  clear RPn
  replace OQ := OQn
  clear OQn
  replace OT := OTn
  clear OTn
  replace HB := HBn
  clear HBn
  have qY_3 : w9.cell? ⟨BY, 3, none⟩ = some (.int .u32 (fs : Int)) := cell_at HY.out 3 rfl
  have qY_4 : w9.cell? ⟨BY, 4, none⟩ = some (.int .u32 (fd : Int)) := cell_at HY.out 4 rfl
  go_wp2_with ((refine ld_whole (o := ⟨some 81, _, _, _, _, _⟩) 61 (.tmp 10) rfl (by rfl) BM rfl #[.int .u16 (ff : Int), .int .u16 (ft : Int), .int .u32 (u : Int), .int .u32 (v : Int), .int .u8 (f : Int), .int .u16 (g : Int), .int .u16 (h : Int), .slice a1 os'.length c1, .slice a2 ds.length c2] 61 HM.out Try.underlying61 (by kernel_rfl) ?_; try simp only [Act.put, List.setIfInBounds_toArray, List.set_cons_zero, List.set_cons_succ]))
  have ltZ_X := hide (lt_of_block HX.out)
  have ltZ_F := hide (lt_of_block HF.out)
  have ltZ_R := hide (lt_of_block HR.out)
  have ltZ_O := hide (lt_of_block HO.out)
  have ltZ_Y := hide (lt_of_block HY.out)
  have ltZ_M := hide (lt_of_block HM.out)
  have lbZ := hide HB.out.size
  refine (HWT.out _ a1 c1 a2 c2 (Lies.of_owns OQ.out) (Lies.of_owns OT.out)).mono ?_
  rintro e w10 ⟨a9, c9, rfl, o, b⟩
  clear qY_3 qY_4
  replace HX := hide (below_block b HX.out (Nat.le_refl _))
  replace HF := hide (below_block b HF.out (Nat.le_refl _))
  replace HR := hide (below_block b HR.out (Nat.le_refl _))
  replace HO := hide (below_block b HO.out (Nat.le_refl _))
  replace HY := hide (below_block b HY.out (Nat.le_refl _))
  replace HM := hide (below_block b HM.out (Nat.le_refl _))
  replace RP := hide (RP.out.below b (Nat.le_refl _))
  replace OQ := hide (owns_below OQ.out b (Nat.le_refl _))
  replace OT := hide (owns_below OT.out b (Nat.le_refl _))
  replace HB := hide (HB.out.trans (b.mono HB.out.size))
  have OZ := hide o
  have neZ_X := hide (own_ne_lt o ltZ_X.out)
  clear ltZ_X
  have neZ_F := hide (own_ne_lt o ltZ_F.out)
  clear ltZ_F
  have neZ_R := hide (own_ne_lt o ltZ_R.out)
  clear ltZ_R
  have neZ_O := hide (own_ne_lt o ltZ_O.out)
  clear ltZ_O
  have neZ_Y := hide (own_ne_lt o ltZ_Y.out)
  clear ltZ_Y
  have neZ_M := hide (own_ne_lt o ltZ_M.out)
  clear ltZ_M
  clear b  o
  have fz := free_at HY.out 5
  have qY_5 : w10.cell? ⟨BY, 5, none⟩ = some (.slice da n dc) := cell_at HY.out 5 rfl
  obtain ⟨w11, hVn, hVH, hVB, hVo, hVs⟩ := set1 (i := 5) (.slice a9 (20 + os'.length + ds.length) c9) (c' := #[.int .u8 (tt : Int), .int .u8 6, .int .u16 (id : Int), .int .u32 (fs : Int), .int .u32 (fd : Int), .slice a9 (20 + os'.length + ds.length) c9]) HY.out HB.out NY.out (by kernel_rfl)
  have HVn := hide hVn
  clear hVn
  have HG := hide (gb_part HB.out hVB hVo hVs)
  have HXn := hide ((hVo _ nqX_Y.out).trans HX.out)
  have HFn := hide ((hVo _ nqF_Y.out).trans HF.out)
  have HRn := hide ((hVo _ nqR_Y.out).trans HR.out)
  have HOn := hide ((hVo _ nqO_Y.out).trans HO.out)
  have HYn := hide hVH
  have HMn := hide ((hVo _ nqY_M.out.symm).trans HM.out)
  have RPn := hide (AP.out.below hVB (Nat.le_refl _))
  have OQn := hide (owns_kept OQ.out HG.out neQ_Y.out)
  have OTn := hide (owns_kept OT.out HG.out neT_Y.out)
  have OZn := hide (owns_kept OZ.out HG.out neZ_Y.out)
  have HBn := hide hVB
  clear hVH hVB hVo hVs HG
  go_upto_region 16 with (fail)
  rw [HVn.out]
  clear HVn fz
  clear qY_5
  replace HX := HXn
  clear HXn
  replace HF := HFn
  clear HFn
  replace HR := HRn
  clear HRn
  replace HO := HOn
  clear HOn
  replace HY := HYn
  clear HYn
  replace HM := HMn
  clear HMn
  replace RP := RPn
  clear RPn
  replace OQ := OQn
  clear OQn
  replace OT := OTn
  clear OTn
  replace OZ := OZn
  clear OZn
  replace HB := HBn
  clear HBn
  go_wp2_with (first | (refine ld_whole (o := ⟨some 86, _, _, _, _, _⟩) 27 (.tmp 9) rfl (by rfl) BY rfl #[.int .u8 (tt : Int), .int .u8 6, .int .u16 (id : Int), .int .u32 (fs : Int), .int .u32 (fd : Int), .slice a9 (20 + os'.length + ds.length) c9] 27 HY.out Try.underlying27 (by kernel_rfl) ?_; try simp only [Act.put, List.setIfInBounds_toArray, List.set_cons_zero, List.set_cons_succ]) | (refine st_part (o := ⟨none, _, _, _, _, _⟩) 27 (.tmp 4) (.tmp 86) rfl (by rfl) BR 0 rfl #[.int .u8 0, .int .u8 0, .int .u16 0, .int .u32 0, .int .u32 0, .slice none 0 0] 27 #[.int .u8 (tt : Int), .int .u8 6, .int .u16 (id : Int), .int .u32 (fs : Int), .int .u32 (fd : Int), .slice a9 (20 + os'.length + ds.length) c9] rfl HR.out rfl (by kernel_rfl) (by kernel_rfl) HB.out NR.out ?_; rintro w9 w9h w9b w9o w9s; try simp only [Act.put, List.setIfInBounds_toArray, List.set_cons_zero, List.set_cons_succ]))
  rw [upd_whole (by rfl)] at w9h
  exact bodyPost_ret (v := .tuple #[.agg #[.int .u8 (tt : Int), .int .u8 6, .int .u16 (id : Int), .int .u32 (fs : Int), .int .u32 (fd : Int), .slice a9 (20 + os'.length + ds.length) c9], .int .i64 0]) (results_cell_tmp Try.results12 _ w9 BR _ _ _ _ rfl w9h Try.underlying27 rfl (by kernel_rfl) _ rfl) rfl ⟨a9, c9, rfl, owns_mono (owns_kept OZ.out (gb_part HB.out w9b w9o w9s) neZ_R.out) lbZ.out, w9b⟩
set_option maxHeartbeats 4000000 in
theorem drewrite_udp (w : World) (tt id S D : Nat) (da : Option Addr) (xs : List Int) (n dc : Nat) (fp fs fd ff ft : Nat) (hLx : Lies w da xs n dc) (hl : xs.length = n) (hb : ∀ x ∈ xs, 0 ≤ x ∧ x ≤ 255) (hS : S ≤ 4294967295) (hD : D ≤ 4294967295) (hfs : fs ≤ 4294967295) (hfd : fd ≤ 4294967295) (hff : ff ≤ 65535) (hft : ft ≤ 65535) (hc : dgmCode S D xs = 0) (hfp : fp = 17) :
    Calls Try.prog 12 #[.agg #[.int .u8 (tt : Int), .int .u8 17, .int .u16 (id : Int), .int .u32 (S : Int), .int .u32 (D : Int), .slice da n dc], .agg #[.int .u8 (fp : Int), .int .u32 (fs : Int), .int .u32 (fd : Int), .int .u16 (ff : Int), .int .u16 (ft : Int)]] w fun e w' => ∃ a9 c9, e = .returned (.tuple #[.agg #[.int .u8 (tt : Int), .int .u8 17, .int .u16 (id : Int), .int .u32 (fs : Int), .int .u32 (fd : Int), .slice a9 (8 + (dgmOf S D xs).ds.length) c9], .int .i64 0]) ∧ w'.ownsRow w.heap.size 5 1 (.slice a9 (8 + (dgmOf S D xs).ds.length) c9) (8 + (dgmOf S D xs).ds.length) ((udpB fs fd ff ft (dgmOf S D xs)).map (Value.int .u8)) ∧ Below w.heap.size w w' := by
  obtain ⟨P, hPn⟩ : ∃ P : Nat, P = 17 := ⟨_, rfl⟩
  have HOF := hide (fun (W : World) (hL : Lies W da xs n dc) => rof_any W (tt : Int) (id : Int) P S D da n dc xs hL hl hb hS hD)
  have hofE : ofErr P S D xs = 0 := by unfold ofErr; rw [if_neg (by omega), if_pos hPn, hc]
  have hofK : ofKind P S D xs = 1 := by unfold ofKind; rw [hofE, if_pos rfl, if_pos (.inr hPn)]
  have hofP : (ofFl P S D xs).p = 17 := by unfold ofFl; rw [hofE, if_pos rfl, if_neg (by omega), if_pos hPn]
  rw [hofE, hofK] at HOF
  obtain ⟨O, hO⟩ : ∃ y, ofFl P S D xs = y := ⟨_, rfl⟩
  rw [hO] at HOF
  obtain ⟨op, os, od, of, ot⟩ := O
  unfold Fl.v at HOF
  dsimp only at HOF
  rw [hO] at hofP
  dsimp only at hofP
  have hfe : ((fp : Int) != (op : Int)) = false := by rw [hfp, hofP]; simp
  have HFE := hide hfe
  rw [show (P : Int) = 17 by rw [hPn]; rfl] at HOF
  have hft0 := dgm_fit S D xs hb hc
  have HRD := hide (fun (W : World) (hL : Lies W da xs n dc) => (readUDP_both S D xs n hl hb hS hD).2 W da dc hL)
  unfold DgmAns UdpAns at HRD
  rw [hc] at HRD
  generalize dgmOf S D xs = sg at *
  obtain ⟨p, q, pl, ds⟩ := sg
  dsimp only at *
  have hub : udpB fs fd ff ft ⟨p, q, pl, ds⟩ = udpB fs fd ff ft ⟨ff, ft, pl, ds⟩ := rfl
  rw [hub]
  have HWT := hide (fun (W : World) (a2 : Option Addr) (c2 : Nat) (h2 : Lies W a2 ds ds.length c2) => drw_udp W fs fd ff ft pl a2 ds ds.length c2 h2 rfl hft0.db hft0.d hfs hfd hff hft)
  generalize udpB fs fd ff ft ⟨ff, ft, pl, ds⟩ = body at *
  clear hft0 hc hl hb hub hofE hofK hofP hO hfe hfp hPn hfs hfd hff hft
  obtain ⟨V1, hV1⟩ : ∃ V, w.alloc (.cells #[.int .u8 (tt : Int), .int .u8 17, .int .u16 (id : Int), .int .u32 (S : Int), .int .u32 (D : Int), .slice da n dc] 27) = V := ⟨_, rfl⟩
  obtain ⟨V2, hV2⟩ : ∃ V, V1.alloc (.cells #[.int .u8 (fp : Int), .int .u32 (fs : Int), .int .u32 (fd : Int), .int .u16 (ff : Int), .int .u16 (ft : Int)] 29) = V := ⟨_, rfl⟩
  obtain ⟨V3, hV3⟩ : ∃ V, V2.alloc (.cells #[.int .u8 0, .int .u8 0, .int .u16 0, .int .u32 0, .int .u32 0, .slice none 0 0] 27) = V := ⟨_, rfl⟩
  have hz1 : V1.heap.size = w.heap.size + 1 := by rw [← hV1]; simp
  have hz2 : V2.heap.size = w.heap.size + 1 + 1 := by rw [← hV2]; simp [hz1]
  have hz3 : V3.heap.size = w.heap.size + 1 + 1 + 1 := by rw [← hV3]; simp [hz2]
  have hb1 : Below w.heap.size w V1 := by rw [← hV1]; exact (Below.refl _ _).alloc (Nat.le_refl _) _
  have hc2 : Below V1.heap.size V1 V2 := by rw [← hV2]; exact (Below.refl _ _).alloc (Nat.le_refl _) _
  have hb2 := hb1.trans (hc2.mono hb1.size)
  have hc3 : Below V2.heap.size V2 V3 := by rw [← hV3]; exact (Below.refl _ _).alloc (Nat.le_refl _) _
  have hb3 := hb2.trans (hc3.mono hb2.size)
  have hp1_1 : V1.heap[w.heap.size]? = some (.cells #[.int .u8 (tt : Int), .int .u8 17, .int .u16 (id : Int), .int .u32 (S : Int), .int .u32 (D : Int), .slice da n dc] 27 (0, 0)) := by rw [← hV1]; exact heap_alloc_new _ _
  have hp1_2 := below_block hc2 hp1_1 (Nat.le_refl _)
  have hp1_3 := below_block hc3 hp1_2 (Nat.le_refl _)
  have hp2_2 : V2.heap[w.heap.size + 1]? = some (.cells #[.int .u8 (fp : Int), .int .u32 (fs : Int), .int .u32 (fd : Int), .int .u16 (ff : Int), .int .u16 (ft : Int)] 29 (0, 0)) := by rw [← hV2, ← hz1]; exact heap_alloc_new _ _
  have hp2_3 := below_block hc3 hp2_2 (Nat.le_refl _)
  have hp3_3 : V3.heap[w.heap.size + 1 + 1]? = some (.cells #[.int .u8 0, .int .u8 0, .int .u16 0, .int .u32 0, .int .u32 0, .slice none 0 0] 27 (0, 0)) := by rw [← hV3, ← hz2]; exact heap_alloc_new _ _
  obtain ⟨BX, hBX⟩ : ∃ B, w.heap.size = B := ⟨_, rfl⟩
  obtain ⟨BF, hBF⟩ : ∃ B, w.heap.size + 1 = B := ⟨_, rfl⟩
  obtain ⟨BR, hBR⟩ : ∃ B, w.heap.size + 1 + 1 = B := ⟨_, rfl⟩
  have hw0 : w.heap.size ≤ BX ∧ w.heap.size ≤ BF ∧ w.heap.size ≤ BR := by omega
  have HX := hide (show V3.heap[BX]? = some (.cells #[.int .u8 (tt : Int), .int .u8 17, .int .u16 (id : Int), .int .u32 (S : Int), .int .u32 (D : Int), .slice da n dc] 27 (0, 0)) by rw [← hBX]; exact hp1_3)
  have NX : Hid (w.heap.size ≤ BX) := hide hw0.1
  have HF := hide (show V3.heap[BF]? = some (.cells #[.int .u8 (fp : Int), .int .u32 (fs : Int), .int .u32 (fd : Int), .int .u16 (ff : Int), .int .u16 (ft : Int)] 29 (0, 0)) by rw [← hBF]; exact hp2_3)
  have NF : Hid (w.heap.size ≤ BF) := hide hw0.2.1
  have HR := hide (show V3.heap[BR]? = some (.cells #[.int .u8 0, .int .u8 0, .int .u16 0, .int .u32 0, .int .u32 0, .slice none 0 0] 27 (0, 0)) by rw [← hBR]; exact hp3_3)
  have NR : Hid (w.heap.size ≤ BR) := hide hw0.2.2
  have nqX_F : Hid (BX ≠ BF) := hide (by omega)
  have nqX_R : Hid (BX ≠ BR) := hide (by omega)
  have nqF_R : Hid (BF ≠ BR) := hide (by omega)
  have AP := hide hLx
  have RP := hide (hLx.below hb3 (Nat.le_refl _))
  have HB := hide hb3
  have HE := hide (And.intro (And.intro trivial trivial) (And.intro hV1 ( And.intro hV2 ( And.intro hV3 (And.intro hBX ( And.intro hBF ( And.intro hBR (trivial))))))))
  clear hw0 hV1 hz1 hb1 hV2 hz2 hb2 hV3 hz3 hb3 hc2 hc3 hp1_1 hp1_2 hp1_3 hp2_2 hp2_3 hp3_3 hBX hBF hBR hLx
  go_enter Try.func12, Try.ntmps12
  go_upto_region 1 with (fail)
  rw [HE.out.2.1]
  try rw [HE.out.2.2.1]
  try rw [HE.out.2.2.2.1]
  try rw [HE.out.2.2.2.2.2.2.1]
  try rw [HE.out.2.2.2.2.2.1]
  try rw [HE.out.2.2.2.2.1]
  clear HE
  go_wp2_with ((refine ld_whole (o := ⟨some 17, _, _, _, _, _⟩) 27 (.tmp 2) rfl (by rfl) BX rfl #[.int .u8 (tt : Int), .int .u8 17, .int .u16 (id : Int), .int .u32 (S : Int), .int .u32 (D : Int), .slice da n dc] 27 HX.out Try.underlying27 (by kernel_rfl) ?_; try simp only [Act.put, List.setIfInBounds_toArray, List.set_cons_zero, List.set_cons_succ]))
  refine (HOF.out _ RP.out).mono ?_
  rintro e w1 ⟨rfl, b⟩
  replace HX := hide (below_block b HX.out (Nat.le_refl _))
  replace HF := hide (below_block b HF.out (Nat.le_refl _))
  replace HR := hide (below_block b HR.out (Nat.le_refl _))
  replace RP := hide (RP.out.below b (Nat.le_refl _))
  replace HB := hide (HB.out.trans (b.mono HB.out.size))
  clear b 
  obtain ⟨w2, hwn, wb, HN1⟩ : ∃ W, w1.alloc (.cells #[.int .u8 (op : Int), .int .u32 (os : Int), .int .u32 (od : Int), .int .u16 (of : Int), .int .u16 (ot : Int)] 29) = W ∧ Below w1.heap.size w1 W ∧ Hid (W.heap[w1.heap.size]? = some (.cells #[.int .u8 (op : Int), .int .u32 (os : Int), .int .u32 (od : Int), .int .u16 (of : Int), .int .u16 (ot : Int)] 29 (0, 0))) := ⟨_, rfl, (Below.refl w1.heap.size w1).alloc (Nat.le_refl _) _, hide (heap_alloc_new w1 _)⟩
  obtain ⟨BO, hBn⟩ : ∃ B, w1.heap.size = B := ⟨_, rfl⟩
  rw [hBn] at HN1
  have HW := hide (And.intro hwn hBn)
  have HBo := HB
  have nqX_O := hide (blk_ne HX.out hBn)
  have nqF_O := hide (blk_ne HF.out hBn)
  have nqR_O := hide (blk_ne HR.out hBn)
  clear hwn hBn
  replace HX := hide (below_block wb HX.out (Nat.le_refl _))
  replace HF := hide (below_block wb HF.out (Nat.le_refl _))
  replace HR := hide (below_block wb HR.out (Nat.le_refl _))
  replace RP := hide (RP.out.below wb (Nat.le_refl _))
  replace HB := hide (HB.out.trans (wb.mono HB.out.size))
  have HO := HN1
  have NO := hide (show w.heap.size ≤ BO by rw [← HW.out.2]; exact HBo.out.size)
  clear wb HN1 HBo
  go_upto_region 2 with (fail)
  rw [HW.out.1]
  try rw [HW.out.2]
  clear HW
  have qF_0 : w2.cell? ⟨BF, 0, none⟩ = some (.int .u8 (fp : Int)) := cell_at HF.out 0 rfl
  have qO_0 : w2.cell? ⟨BO, 0, none⟩ = some (.int .u8 (op : Int)) := cell_at HO.out 0 rfl
  have hfe := HFE.out
  go_upto_region 6 with (fail)
  clear hfe HFE
  clear qF_0 qO_0
  obtain ⟨w3, hwn, wb, HN1⟩ : ∃ W, w2.alloc (.cells #[.int .u8 (tt : Int), .int .u8 17, .int .u16 (id : Int), .int .u32 (S : Int), .int .u32 (D : Int), .slice da n dc] 27) = W ∧ Below w2.heap.size w2 W ∧ Hid (W.heap[w2.heap.size]? = some (.cells #[.int .u8 (tt : Int), .int .u8 17, .int .u16 (id : Int), .int .u32 (S : Int), .int .u32 (D : Int), .slice da n dc] 27 (0, 0))) := ⟨_, rfl, (Below.refl w2.heap.size w2).alloc (Nat.le_refl _) _, hide (heap_alloc_new w2 _)⟩
  obtain ⟨BY, hBn⟩ : ∃ B, w2.heap.size = B := ⟨_, rfl⟩
  rw [hBn] at HN1
  have HW := hide (And.intro hwn hBn)
  have HBo := HB
  have nqX_Y := hide (blk_ne HX.out hBn)
  have nqF_Y := hide (blk_ne HF.out hBn)
  have nqR_Y := hide (blk_ne HR.out hBn)
  have nqO_Y := hide (blk_ne HO.out hBn)
  clear hwn hBn
  have EX := HX
  have EF := HF
  have ER := HR
  have EO := HO
  replace HX := hide (below_block wb HX.out (Nat.le_refl _))
  replace HF := hide (below_block wb HF.out (Nat.le_refl _))
  replace HR := hide (below_block wb HR.out (Nat.le_refl _))
  replace HO := hide (below_block wb HO.out (Nat.le_refl _))
  replace RP := hide (RP.out.below wb (Nat.le_refl _))
  replace HB := hide (HB.out.trans (wb.mono HB.out.size))
  have HY := HN1
  have NY := hide (show w.heap.size ≤ BY by rw [← HW.out.2]; exact HBo.out.size)
  clear wb HN1 HBo
  go_upto_region 7 with ((refine ld_whole (o := ⟨some 32, _, _, _, _, _⟩) 27 (.tmp 2) rfl (by rfl) BX rfl #[.int .u8 (tt : Int), .int .u8 17, .int .u16 (id : Int), .int .u32 (S : Int), .int .u32 (D : Int), .slice da n dc] 27 EX.out Try.underlying27 (by kernel_rfl) ?_; try simp only [Act.put, List.setIfInBounds_toArray, List.set_cons_zero, List.set_cons_succ]))
  rw [HW.out.1]
  try rw [HW.out.2]
  clear HW
  clear EX EF ER EO
  have qF_1 : w3.cell? ⟨BF, 1, none⟩ = some (.int .u32 (fs : Int)) := cell_at HF.out 1 rfl
  have fz := free_at HY.out 3
  have qY_3 : w3.cell? ⟨BY, 3, none⟩ = some (.int .u32 (S : Int)) := cell_at HY.out 3 rfl
  obtain ⟨w4, hVn, hVH, hVB, hVo, hVs⟩ := set1 (i := 3) (.int .u32 (fs : Int)) (c' := #[.int .u8 (tt : Int), .int .u8 17, .int .u16 (id : Int), .int .u32 (fs : Int), .int .u32 (D : Int), .slice da n dc]) HY.out HB.out NY.out (by kernel_rfl)
  have HVn := hide hVn
  clear hVn
  have HG := hide (gb_part HB.out hVB hVo hVs)
  have HXn := hide ((hVo _ nqX_Y.out).trans HX.out)
  have HFn := hide ((hVo _ nqF_Y.out).trans HF.out)
  have HRn := hide ((hVo _ nqR_Y.out).trans HR.out)
  have HOn := hide ((hVo _ nqO_Y.out).trans HO.out)
  have HYn := hide hVH
  have RPn := hide (AP.out.below hVB (Nat.le_refl _))
  have HBn := hide hVB
  clear hVH hVB hVo hVs HG
  go_upto_region 9 with (fail)
  rw [HVn.out]
  clear HVn fz
  clear qF_1 qY_3
  replace HX := HXn
  clear HXn
  replace HF := HFn
  clear HFn
  replace HR := HRn
  clear HRn
  replace HO := HOn
  clear HOn
  replace HY := HYn
  clear HYn
  replace RP := RPn
  clear RPn
  replace HB := HBn
  clear HBn
  have qF_2 : w4.cell? ⟨BF, 2, none⟩ = some (.int .u32 (fd : Int)) := cell_at HF.out 2 rfl
  have fz := free_at HY.out 4
  have qY_4 : w4.cell? ⟨BY, 4, none⟩ = some (.int .u32 (D : Int)) := cell_at HY.out 4 rfl
  obtain ⟨w5, hVn, hVH, hVB, hVo, hVs⟩ := set1 (i := 4) (.int .u32 (fd : Int)) (c' := #[.int .u8 (tt : Int), .int .u8 17, .int .u16 (id : Int), .int .u32 (fs : Int), .int .u32 (fd : Int), .slice da n dc]) HY.out HB.out NY.out (by kernel_rfl)
  have HVn := hide hVn
  clear hVn
  have HG := hide (gb_part HB.out hVB hVo hVs)
  have HXn := hide ((hVo _ nqX_Y.out).trans HX.out)
  have HFn := hide ((hVo _ nqF_Y.out).trans HF.out)
  have HRn := hide ((hVo _ nqR_Y.out).trans HR.out)
  have HOn := hide ((hVo _ nqO_Y.out).trans HO.out)
  have HYn := hide hVH
  have RPn := hide (AP.out.below hVB (Nat.le_refl _))
  have HBn := hide hVB
  clear hVH hVB hVo hVs HG
  go_upto_region 11 with (fail)
  rw [HVn.out]
  clear HVn fz
  clear qF_2 qY_4
  replace HX := HXn
  clear HXn
  replace HF := HFn
  clear HFn
  replace HR := HRn
  clear HRn
  replace HO := HOn
  clear HOn
  replace HY := HYn
  clear HYn
  replace RP := RPn
  clear RPn
  replace HB := HBn
  clear HBn
  have qX_1 : w5.cell? ⟨BX, 1, none⟩ = some (.int .u8 17) := cell_at HX.out 1 rfl
  go_upto_region 18 with (fail)
  clear qX_1
  have qX_3 : w5.cell? ⟨BX, 3, none⟩ = some (.int .u32 (S : Int)) := cell_at HX.out 3 rfl
  have qX_4 : w5.cell? ⟨BX, 4, none⟩ = some (.int .u32 (D : Int)) := cell_at HX.out 4 rfl
  have qX_5 : w5.cell? ⟨BX, 5, none⟩ = some (.slice da n dc) := cell_at HX.out 5 rfl
  go_wp2_with fail
  have ltT_X := hide (lt_of_block HX.out)
  have ltT_F := hide (lt_of_block HF.out)
  have ltT_R := hide (lt_of_block HR.out)
  have ltT_O := hide (lt_of_block HO.out)
  have ltT_Y := hide (lt_of_block HY.out)
  have lbT := hide HB.out.size
  refine (HRD.out _ RP.out).mono ?_
  rintro e w6 ⟨a2, c2, rfl, o2, b⟩
  clear qX_3 qX_4 qX_5
  replace HX := hide (below_block b HX.out (Nat.le_refl _))
  replace HF := hide (below_block b HF.out (Nat.le_refl _))
  replace HR := hide (below_block b HR.out (Nat.le_refl _))
  replace HO := hide (below_block b HO.out (Nat.le_refl _))
  replace HY := hide (below_block b HY.out (Nat.le_refl _))
  replace RP := hide (RP.out.below b (Nat.le_refl _))
  replace HB := hide (HB.out.trans (b.mono HB.out.size))
  have OT := hide o2
  have neT_X := hide (own_ne_lt o2 ltT_X.out)
  clear ltT_X
  have neT_F := hide (own_ne_lt o2 ltT_F.out)
  clear ltT_F
  have neT_R := hide (own_ne_lt o2 ltT_R.out)
  clear ltT_R
  have neT_O := hide (own_ne_lt o2 ltT_O.out)
  clear ltT_O
  have neT_Y := hide (own_ne_lt o2 ltT_Y.out)
  clear ltT_Y
  clear b  o2
  obtain ⟨w7, hwn, wb, HN1⟩ : ∃ W, w6.alloc (.cells #[.int .u16 (p : Int), .int .u16 (q : Int), .bool pl, .slice a2 ds.length c2] 63) = W ∧ Below w6.heap.size w6 W ∧ Hid (W.heap[w6.heap.size]? = some (.cells #[.int .u16 (p : Int), .int .u16 (q : Int), .bool pl, .slice a2 ds.length c2] 63 (0, 0))) := ⟨_, rfl, (Below.refl w6.heap.size w6).alloc (Nat.le_refl _) _, hide (heap_alloc_new w6 _)⟩
  obtain ⟨BM, hBn⟩ : ∃ B, w6.heap.size = B := ⟨_, rfl⟩
  rw [hBn] at HN1
  have HW := hide (And.intro hwn hBn)
  have HBo := HB
  have neT_M := hide (own_ne (L := BM) OT.out (Nat.le_of_eq hBn))
  have nqX_M := hide (blk_ne HX.out hBn)
  have nqF_M := hide (blk_ne HF.out hBn)
  have nqR_M := hide (blk_ne HR.out hBn)
  have nqO_M := hide (blk_ne HO.out hBn)
  have nqY_M := hide (blk_ne HY.out hBn)
  clear hwn hBn
  replace HX := hide (below_block wb HX.out (Nat.le_refl _))
  replace HF := hide (below_block wb HF.out (Nat.le_refl _))
  replace HR := hide (below_block wb HR.out (Nat.le_refl _))
  replace HO := hide (below_block wb HO.out (Nat.le_refl _))
  replace HY := hide (below_block wb HY.out (Nat.le_refl _))
  replace RP := hide (RP.out.below wb (Nat.le_refl _))
  replace OT := hide (owns_below OT.out wb (Nat.le_refl _))
  replace HB := hide (HB.out.trans (wb.mono HB.out.size))
  have HM := HN1
  have NM := hide (show w.heap.size ≤ BM by rw [← HW.out.2]; exact HBo.out.size)
  clear wb HN1 HBo
  go_upto_region 19 with (fail)
  rw [HW.out.1]
  try rw [HW.out.2]
  clear HW
  have qF_3 : w7.cell? ⟨BF, 3, none⟩ = some (.int .u16 (ff : Int)) := cell_at HF.out 3 rfl
  have fz := free_at HM.out 0
  have qM_0 : w7.cell? ⟨BM, 0, none⟩ = some (.int .u16 (p : Int)) := cell_at HM.out 0 rfl
  obtain ⟨w8, hVn, hVH, hVB, hVo, hVs⟩ := set1 (i := 0) (.int .u16 (ff : Int)) (c' := #[.int .u16 (ff : Int), .int .u16 (q : Int), .bool pl, .slice a2 ds.length c2]) HM.out HB.out NM.out (by kernel_rfl)
  have HVn := hide hVn
  clear hVn
  have HG := hide (gb_part HB.out hVB hVo hVs)
  have HXn := hide ((hVo _ nqX_M.out).trans HX.out)
  have HFn := hide ((hVo _ nqF_M.out).trans HF.out)
  have HRn := hide ((hVo _ nqR_M.out).trans HR.out)
  have HOn := hide ((hVo _ nqO_M.out).trans HO.out)
  have HYn := hide ((hVo _ nqY_M.out).trans HY.out)
  have HMn := hide hVH
  have RPn := hide (AP.out.below hVB (Nat.le_refl _))
  have OTn := hide (owns_kept OT.out HG.out neT_M.out)
  have HBn := hide hVB
  clear hVH hVB hVo hVs HG
  go_upto_region 20 with (fail)
  rw [HVn.out]
  clear HVn fz
  clear qF_3 qM_0
  replace HX := HXn
  clear HXn
  replace HF := HFn
  clear HFn
  replace HR := HRn
  clear HRn
  replace HO := HOn
  clear HOn
  replace HY := HYn
  clear HYn
  replace HM := HMn
  clear HMn
  replace RP := RPn
  clear RPn
  replace OT := OTn
  clear OTn
  replace HB := HBn
  clear HBn
  have qF_4 : w8.cell? ⟨BF, 4, none⟩ = some (.int .u16 (ft : Int)) := cell_at HF.out 4 rfl
  have fz := free_at HM.out 1
  have qM_1 : w8.cell? ⟨BM, 1, none⟩ = some (.int .u16 (q : Int)) := cell_at HM.out 1 rfl
  obtain ⟨w9, hVn, hVH, hVB, hVo, hVs⟩ := set1 (i := 1) (.int .u16 (ft : Int)) (c' := #[.int .u16 (ff : Int), .int .u16 (ft : Int), .bool pl, .slice a2 ds.length c2]) HM.out HB.out NM.out (by kernel_rfl)
  have HVn := hide hVn
  clear hVn
  have HG := hide (gb_part HB.out hVB hVo hVs)
  have HXn := hide ((hVo _ nqX_M.out).trans HX.out)
  have HFn := hide ((hVo _ nqF_M.out).trans HF.out)
  have HRn := hide ((hVo _ nqR_M.out).trans HR.out)
  have HOn := hide ((hVo _ nqO_M.out).trans HO.out)
  have HYn := hide ((hVo _ nqY_M.out).trans HY.out)
  have HMn := hide hVH
  have RPn := hide (AP.out.below hVB (Nat.le_refl _))
  have OTn := hide (owns_kept OT.out HG.out neT_M.out)
  have HBn := hide hVB
  clear hVH hVB hVo hVs HG
  go_upto_region 21 with (fail)
  rw [HVn.out]
  clear HVn fz
  clear qF_4 qM_1
  replace HX := HXn
  clear HXn
  replace HF := HFn
  clear HFn
  replace HR := HRn
  clear HRn
  replace HO := HOn
  clear HOn
  replace HY := HYn
  clear HYn
  replace HM := HMn
  clear HMn
  replace RP := RPn
  clear RPn
  replace OT := OTn
  clear OTn
  replace HB := HBn
  clear HBn
  have qY_3 : w9.cell? ⟨BY, 3, none⟩ = some (.int .u32 (fs : Int)) := cell_at HY.out 3 rfl
  have qY_4 : w9.cell? ⟨BY, 4, none⟩ = some (.int .u32 (fd : Int)) := cell_at HY.out 4 rfl
  go_wp2_with ((refine ld_whole (o := ⟨some 112, _, _, _, _, _⟩) 63 (.tmp 12) rfl (by rfl) BM rfl #[.int .u16 (ff : Int), .int .u16 (ft : Int), .bool pl, .slice a2 ds.length c2] 63 HM.out Try.underlying63 (by kernel_rfl) ?_; try simp only [Act.put, List.setIfInBounds_toArray, List.set_cons_zero, List.set_cons_succ]))
  have ltZ_X := hide (lt_of_block HX.out)
  have ltZ_F := hide (lt_of_block HF.out)
  have ltZ_R := hide (lt_of_block HR.out)
  have ltZ_O := hide (lt_of_block HO.out)
  have ltZ_Y := hide (lt_of_block HY.out)
  have ltZ_M := hide (lt_of_block HM.out)
  have lbZ := hide HB.out.size
  refine (HWT.out _ a2 c2 (Lies.of_owns OT.out)).mono ?_
  rintro e w10 ⟨a9, c9, rfl, o, b⟩
  clear qY_3 qY_4
  replace HX := hide (below_block b HX.out (Nat.le_refl _))
  replace HF := hide (below_block b HF.out (Nat.le_refl _))
  replace HR := hide (below_block b HR.out (Nat.le_refl _))
  replace HO := hide (below_block b HO.out (Nat.le_refl _))
  replace HY := hide (below_block b HY.out (Nat.le_refl _))
  replace HM := hide (below_block b HM.out (Nat.le_refl _))
  replace RP := hide (RP.out.below b (Nat.le_refl _))
  replace OT := hide (owns_below OT.out b (Nat.le_refl _))
  replace HB := hide (HB.out.trans (b.mono HB.out.size))
  have OZ := hide o
  have neZ_X := hide (own_ne_lt o ltZ_X.out)
  clear ltZ_X
  have neZ_F := hide (own_ne_lt o ltZ_F.out)
  clear ltZ_F
  have neZ_R := hide (own_ne_lt o ltZ_R.out)
  clear ltZ_R
  have neZ_O := hide (own_ne_lt o ltZ_O.out)
  clear ltZ_O
  have neZ_Y := hide (own_ne_lt o ltZ_Y.out)
  clear ltZ_Y
  have neZ_M := hide (own_ne_lt o ltZ_M.out)
  clear ltZ_M
  clear b  o
  have fz := free_at HY.out 5
  have qY_5 : w10.cell? ⟨BY, 5, none⟩ = some (.slice da n dc) := cell_at HY.out 5 rfl
  obtain ⟨w11, hVn, hVH, hVB, hVo, hVs⟩ := set1 (i := 5) (.slice a9 (8 + ds.length) c9) (c' := #[.int .u8 (tt : Int), .int .u8 17, .int .u16 (id : Int), .int .u32 (fs : Int), .int .u32 (fd : Int), .slice a9 (8 + ds.length) c9]) HY.out HB.out NY.out (by kernel_rfl)
  have HVn := hide hVn
  clear hVn
  have HG := hide (gb_part HB.out hVB hVo hVs)
  have HXn := hide ((hVo _ nqX_Y.out).trans HX.out)
  have HFn := hide ((hVo _ nqF_Y.out).trans HF.out)
  have HRn := hide ((hVo _ nqR_Y.out).trans HR.out)
  have HOn := hide ((hVo _ nqO_Y.out).trans HO.out)
  have HYn := hide hVH
  have HMn := hide ((hVo _ nqY_M.out.symm).trans HM.out)
  have RPn := hide (AP.out.below hVB (Nat.le_refl _))
  have OTn := hide (owns_kept OT.out HG.out neT_Y.out)
  have OZn := hide (owns_kept OZ.out HG.out neZ_Y.out)
  have HBn := hide hVB
  clear hVH hVB hVo hVs HG
  go_upto_region 22 with (fail)
  rw [HVn.out]
  clear HVn fz
  clear qY_5
  replace HX := HXn
  clear HXn
  replace HF := HFn
  clear HFn
  replace HR := HRn
  clear HRn
  replace HO := HOn
  clear HOn
  replace HY := HYn
  clear HYn
  replace HM := HMn
  clear HMn
  replace RP := RPn
  clear RPn
  replace OT := OTn
  clear OTn
  replace OZ := OZn
  clear OZn
  replace HB := HBn
  clear HBn
  go_wp2_with (first | (refine ld_whole (o := ⟨some 117, _, _, _, _, _⟩) 27 (.tmp 9) rfl (by rfl) BY rfl #[.int .u8 (tt : Int), .int .u8 17, .int .u16 (id : Int), .int .u32 (fs : Int), .int .u32 (fd : Int), .slice a9 (8 + ds.length) c9] 27 HY.out Try.underlying27 (by kernel_rfl) ?_; try simp only [Act.put, List.setIfInBounds_toArray, List.set_cons_zero, List.set_cons_succ]) | (refine st_part (o := ⟨none, _, _, _, _, _⟩) 27 (.tmp 4) (.tmp 117) rfl (by rfl) BR 0 rfl #[.int .u8 0, .int .u8 0, .int .u16 0, .int .u32 0, .int .u32 0, .slice none 0 0] 27 #[.int .u8 (tt : Int), .int .u8 17, .int .u16 (id : Int), .int .u32 (fs : Int), .int .u32 (fd : Int), .slice a9 (8 + ds.length) c9] rfl HR.out rfl (by kernel_rfl) (by kernel_rfl) HB.out NR.out ?_; rintro w9 w9h w9b w9o w9s; try simp only [Act.put, List.setIfInBounds_toArray, List.set_cons_zero, List.set_cons_succ]))
  rw [upd_whole (by rfl)] at w9h
  exact bodyPost_ret (v := .tuple #[.agg #[.int .u8 (tt : Int), .int .u8 17, .int .u16 (id : Int), .int .u32 (fs : Int), .int .u32 (fd : Int), .slice a9 (8 + ds.length) c9], .int .i64 0]) (results_cell_tmp Try.results12 _ w9 BR _ _ _ _ rfl w9h Try.underlying27 rfl (by kernel_rfl) _ rfl) rfl ⟨a9, c9, rfl, owns_mono (owns_kept OZ.out (gb_part HB.out w9b w9o w9s) neZ_R.out) lbZ.out, w9b⟩
set_option maxHeartbeats 4000000 in
theorem drewrite_qry8 (w : World) (tt id S D : Nat) (da : Option Addr) (xs : List Int) (n dc : Nat) (fp fs fd ff ft : Nat) (hLx : Lies w da xs n dc) (hl : xs.length = n) (hb : ∀ x ∈ xs, 0 ≤ x ∧ x ≤ 255) (hS : S ≤ 4294967295) (hD : D ≤ 4294967295) (hfs : fs ≤ 4294967295) (hfd : fd ≤ 4294967295) (hff : ff ≤ 65535) (hft : ft ≤ 65535) (hc : icErr xs = 0) (hk : isErr (msgOf xs).p = false) (hfp : fp = 1) (h8 : (msgOf xs).p = 8) :
    Calls Try.prog 12 #[.agg #[.int .u8 (tt : Int), .int .u8 1, .int .u16 (id : Int), .int .u32 (S : Int), .int .u32 (D : Int), .slice da n dc], .agg #[.int .u8 (fp : Int), .int .u32 (fs : Int), .int .u32 (fd : Int), .int .u16 (ff : Int), .int .u16 (ft : Int)]] w fun e w' => ∃ a9 c9, e = .returned (.tuple #[.agg #[.int .u8 (tt : Int), .int .u8 1, .int .u16 (id : Int), .int .u32 (fs : Int), .int .u32 (fd : Int), .slice a9 (8 + (msgOf xs).ds.length) c9], .int .i64 0]) ∧ w'.ownsRow w.heap.size 5 1 (.slice a9 (8 + (msgOf xs).ds.length) c9) (8 + (msgOf xs).ds.length) ((icmpB (msgOf xs).p (msgOf xs).q (qryR (msgOf xs) ff ft) (msgOf xs).ds).map (Value.int .u8)) ∧ Below w.heap.size w w' := by
  obtain ⟨P, hPn⟩ : ∃ P : Nat, P = 1 := ⟨_, rfl⟩
  have HOF := hide (fun (W : World) (hL : Lies W da xs n dc) => rof_any W (tt : Int) (id : Int) P S D da n dc xs hL hl hb hS hD)
  have hok := msgOf_ok xs hb
  have hmc : msgCode xs = 0 := by
    unfold icErr at hc
    by_cases h0 : msgCode xs = 0
    · exact h0
    · rw [if_neg h0] at hc; exact absurd hc h0
  have hofE : ofErr P S D xs = 0 := by unfold ofErr; rw [if_neg (by omega), if_neg (by omega), if_pos hPn, hc]
  have hofK : ofKind P S D xs = 2 := by unfold ofKind; rw [hofE, if_pos rfl, if_neg (by omega)]; unfold icKind msgKind; rw [if_pos hmc, hk]; rfl
  have hofL : ofFl P S D xs = ⟨1, S, D, qfrom (msgOf xs).p (msgOf xs).q ((msgOf xs).r / 65536), qto (msgOf xs).p (msgOf xs).q ((msgOf xs).r / 65536)⟩ := by unfold ofFl; rw [hofE, if_pos rfl, if_neg (by omega), if_neg (by omega)]; unfold icFl msgFl; rw [if_pos hmc, hk]; rfl
  rw [hofE, hofK, hofL] at HOF
  rw [show (P : Int) = 1 by rw [hPn]; rfl] at HOF
  have HRD := hide (fun (W : World) (hL : Lies W da xs n dc) => (readICMP_both xs n hl hb).2 W da dc hL)
  unfold MsgAns IcmpAns at HRD
  rw [hmc] at HRD
  unfold Fl.v at HOF
  dsimp only at HOF
  obtain ⟨op, hop⟩ : ∃ o, 1 = o := ⟨_, rfl⟩
  rw [show ((1 : Nat) : Int) = (op : Int) by rw [← hop]] at HOF
  have hfe : ((fp : Int) != (op : Int)) = false := by rw [hfp, ← hop]; simp
  have HFE := hide hfe
  generalize qfrom (msgOf xs).p (msgOf xs).q ((msgOf xs).r / 65536) = of at *
  generalize qto (msgOf xs).p (msgOf xs).q ((msgOf xs).r / 65536) = ot at *
  generalize msgOf xs = ms at *
  obtain ⟨mp, mq, mr, ds⟩ := ms
  dsimp only at *
  obtain ⟨h1, h2, h3, h4, h5⟩ := hok
  have hRR : qryR ⟨mp, mq, mr, ds⟩ ff ft = (if mp = 8 then ff else ft) * 65536 + mr % 65536 := rfl
  have hRb : qryR ⟨mp, mq, mr, ds⟩ ff ft ≤ 4294967295 := by rw [hRR]; split <;> omega
  obtain ⟨R, hR⟩ : ∃ R, qryR ⟨mp, mq, mr, ds⟩ ff ft = R := ⟨_, rfl⟩
  rw [hR] at hRR hRb ⊢
  have HWT := hide (fun (W : World) (a2 : Option Addr) (c2 : Nat) (hh : Lies W a2 ds ds.length c2) => rwicmp_ok W mp mq R a2 ds ds.length c2 hh.row hh.no rfl h4 h5 h1 h2 hRb)
  rw [if_pos h8] at hRR
  have tq : ((mp : Int) == 8) = true := by simp; omega
  have z1 : (65536 * (ff : Int)) % 4294967296 = 65536 * (ff : Int) := by omega
  have z2 : (mr : Int) % 65536 + 65536 * (ff : Int) = (R : Int) := by omega
  have z3 : (R : Int) % 4294967296 = (R : Int) := by omega
  have HTQ := hide (And.intro tq (And.intro z1 (And.intro z2 z3)))
  clear tq z1 z2 z3 h8 hRR hRb h3
  clear h1 h2 h4 h5 hR hl hb hc hk hmc hofE hofK hofL hfe hfp hop hPn hfs hfd
  obtain ⟨V1, hV1⟩ : ∃ V, w.alloc (.cells #[.int .u8 (tt : Int), .int .u8 1, .int .u16 (id : Int), .int .u32 (S : Int), .int .u32 (D : Int), .slice da n dc] 27) = V := ⟨_, rfl⟩
  obtain ⟨V2, hV2⟩ : ∃ V, V1.alloc (.cells #[.int .u8 (fp : Int), .int .u32 (fs : Int), .int .u32 (fd : Int), .int .u16 (ff : Int), .int .u16 (ft : Int)] 29) = V := ⟨_, rfl⟩
  obtain ⟨V3, hV3⟩ : ∃ V, V2.alloc (.cells #[.int .u8 0, .int .u8 0, .int .u16 0, .int .u32 0, .int .u32 0, .slice none 0 0] 27) = V := ⟨_, rfl⟩
  have hz1 : V1.heap.size = w.heap.size + 1 := by rw [← hV1]; simp
  have hz2 : V2.heap.size = w.heap.size + 1 + 1 := by rw [← hV2]; simp [hz1]
  have hz3 : V3.heap.size = w.heap.size + 1 + 1 + 1 := by rw [← hV3]; simp [hz2]
  have hb1 : Below w.heap.size w V1 := by rw [← hV1]; exact (Below.refl _ _).alloc (Nat.le_refl _) _
  have hc2 : Below V1.heap.size V1 V2 := by rw [← hV2]; exact (Below.refl _ _).alloc (Nat.le_refl _) _
  have hb2 := hb1.trans (hc2.mono hb1.size)
  have hc3 : Below V2.heap.size V2 V3 := by rw [← hV3]; exact (Below.refl _ _).alloc (Nat.le_refl _) _
  have hb3 := hb2.trans (hc3.mono hb2.size)
  have hp1_1 : V1.heap[w.heap.size]? = some (.cells #[.int .u8 (tt : Int), .int .u8 1, .int .u16 (id : Int), .int .u32 (S : Int), .int .u32 (D : Int), .slice da n dc] 27 (0, 0)) := by rw [← hV1]; exact heap_alloc_new _ _
  have hp1_2 := below_block hc2 hp1_1 (Nat.le_refl _)
  have hp1_3 := below_block hc3 hp1_2 (Nat.le_refl _)
  have hp2_2 : V2.heap[w.heap.size + 1]? = some (.cells #[.int .u8 (fp : Int), .int .u32 (fs : Int), .int .u32 (fd : Int), .int .u16 (ff : Int), .int .u16 (ft : Int)] 29 (0, 0)) := by rw [← hV2, ← hz1]; exact heap_alloc_new _ _
  have hp2_3 := below_block hc3 hp2_2 (Nat.le_refl _)
  have hp3_3 : V3.heap[w.heap.size + 1 + 1]? = some (.cells #[.int .u8 0, .int .u8 0, .int .u16 0, .int .u32 0, .int .u32 0, .slice none 0 0] 27 (0, 0)) := by rw [← hV3, ← hz2]; exact heap_alloc_new _ _
  obtain ⟨BX, hBX⟩ : ∃ B, w.heap.size = B := ⟨_, rfl⟩
  obtain ⟨BF, hBF⟩ : ∃ B, w.heap.size + 1 = B := ⟨_, rfl⟩
  obtain ⟨BR, hBR⟩ : ∃ B, w.heap.size + 1 + 1 = B := ⟨_, rfl⟩
  have hw0 : w.heap.size ≤ BX ∧ w.heap.size ≤ BF ∧ w.heap.size ≤ BR := by omega
  have HX := hide (show V3.heap[BX]? = some (.cells #[.int .u8 (tt : Int), .int .u8 1, .int .u16 (id : Int), .int .u32 (S : Int), .int .u32 (D : Int), .slice da n dc] 27 (0, 0)) by rw [← hBX]; exact hp1_3)
  have NX : Hid (w.heap.size ≤ BX) := hide hw0.1
  have HF := hide (show V3.heap[BF]? = some (.cells #[.int .u8 (fp : Int), .int .u32 (fs : Int), .int .u32 (fd : Int), .int .u16 (ff : Int), .int .u16 (ft : Int)] 29 (0, 0)) by rw [← hBF]; exact hp2_3)
  have NF : Hid (w.heap.size ≤ BF) := hide hw0.2.1
  have HR := hide (show V3.heap[BR]? = some (.cells #[.int .u8 0, .int .u8 0, .int .u16 0, .int .u32 0, .int .u32 0, .slice none 0 0] 27 (0, 0)) by rw [← hBR]; exact hp3_3)
  have NR : Hid (w.heap.size ≤ BR) := hide hw0.2.2
  have nqX_F : Hid (BX ≠ BF) := hide (by omega)
  have nqX_R : Hid (BX ≠ BR) := hide (by omega)
  have nqF_R : Hid (BF ≠ BR) := hide (by omega)
  have AP := hide hLx
  have RP := hide (hLx.below hb3 (Nat.le_refl _))
  have HB := hide hb3
  have HE := hide (And.intro (And.intro trivial trivial) (And.intro hV1 ( And.intro hV2 ( And.intro hV3 (And.intro hBX ( And.intro hBF ( And.intro hBR (trivial))))))))
  clear hw0 hV1 hz1 hb1 hV2 hz2 hb2 hV3 hz3 hb3 hc2 hc3 hp1_1 hp1_2 hp1_3 hp2_2 hp2_3 hp3_3 hBX hBF hBR hLx
  go_enter Try.func12, Try.ntmps12
  go_upto_region 1 with (fail)
  rw [HE.out.2.1]
  try rw [HE.out.2.2.1]
  try rw [HE.out.2.2.2.1]
  try rw [HE.out.2.2.2.2.2.2.1]
  try rw [HE.out.2.2.2.2.2.1]
  try rw [HE.out.2.2.2.2.1]
  clear HE
  go_wp2_with ((refine ld_whole (o := ⟨some 17, _, _, _, _, _⟩) 27 (.tmp 2) rfl (by rfl) BX rfl #[.int .u8 (tt : Int), .int .u8 1, .int .u16 (id : Int), .int .u32 (S : Int), .int .u32 (D : Int), .slice da n dc] 27 HX.out Try.underlying27 (by kernel_rfl) ?_; try simp only [Act.put, List.setIfInBounds_toArray, List.set_cons_zero, List.set_cons_succ]))
  refine (HOF.out _ RP.out).mono ?_
  rintro e w1 ⟨rfl, b⟩
  replace HX := hide (below_block b HX.out (Nat.le_refl _))
  replace HF := hide (below_block b HF.out (Nat.le_refl _))
  replace HR := hide (below_block b HR.out (Nat.le_refl _))
  replace RP := hide (RP.out.below b (Nat.le_refl _))
  replace HB := hide (HB.out.trans (b.mono HB.out.size))
  clear b 
  obtain ⟨w2, hwn, wb, HN1⟩ : ∃ W, w1.alloc (.cells #[.int .u8 (op : Int), .int .u32 (S : Int), .int .u32 (D : Int), .int .u16 (of : Int), .int .u16 (ot : Int)] 29) = W ∧ Below w1.heap.size w1 W ∧ Hid (W.heap[w1.heap.size]? = some (.cells #[.int .u8 (op : Int), .int .u32 (S : Int), .int .u32 (D : Int), .int .u16 (of : Int), .int .u16 (ot : Int)] 29 (0, 0))) := ⟨_, rfl, (Below.refl w1.heap.size w1).alloc (Nat.le_refl _) _, hide (heap_alloc_new w1 _)⟩
  obtain ⟨BO, hBn⟩ : ∃ B, w1.heap.size = B := ⟨_, rfl⟩
  rw [hBn] at HN1
  have HW := hide (And.intro hwn hBn)
  have HBo := HB
  have nqX_O := hide (blk_ne HX.out hBn)
  have nqF_O := hide (blk_ne HF.out hBn)
  have nqR_O := hide (blk_ne HR.out hBn)
  clear hwn hBn
  replace HX := hide (below_block wb HX.out (Nat.le_refl _))
  replace HF := hide (below_block wb HF.out (Nat.le_refl _))
  replace HR := hide (below_block wb HR.out (Nat.le_refl _))
  replace RP := hide (RP.out.below wb (Nat.le_refl _))
  replace HB := hide (HB.out.trans (wb.mono HB.out.size))
  have HO := HN1
  have NO := hide (show w.heap.size ≤ BO by rw [← HW.out.2]; exact HBo.out.size)
  clear wb HN1 HBo
  go_upto_region 2 with (fail)
  rw [HW.out.1]
  try rw [HW.out.2]
  clear HW
  have qF_0 : w2.cell? ⟨BF, 0, none⟩ = some (.int .u8 (fp : Int)) := cell_at HF.out 0 rfl
  have qO_0 : w2.cell? ⟨BO, 0, none⟩ = some (.int .u8 (op : Int)) := cell_at HO.out 0 rfl
  have hfe := HFE.out
  go_upto_region 6 with (fail)
  clear hfe HFE
  clear qF_0 qO_0
  obtain ⟨w3, hwn, wb, HN1⟩ : ∃ W, w2.alloc (.cells #[.int .u8 (tt : Int), .int .u8 1, .int .u16 (id : Int), .int .u32 (S : Int), .int .u32 (D : Int), .slice da n dc] 27) = W ∧ Below w2.heap.size w2 W ∧ Hid (W.heap[w2.heap.size]? = some (.cells #[.int .u8 (tt : Int), .int .u8 1, .int .u16 (id : Int), .int .u32 (S : Int), .int .u32 (D : Int), .slice da n dc] 27 (0, 0))) := ⟨_, rfl, (Below.refl w2.heap.size w2).alloc (Nat.le_refl _) _, hide (heap_alloc_new w2 _)⟩
  obtain ⟨BY, hBn⟩ : ∃ B, w2.heap.size = B := ⟨_, rfl⟩
  rw [hBn] at HN1
  have HW := hide (And.intro hwn hBn)
  have HBo := HB
  have nqX_Y := hide (blk_ne HX.out hBn)
  have nqF_Y := hide (blk_ne HF.out hBn)
  have nqR_Y := hide (blk_ne HR.out hBn)
  have nqO_Y := hide (blk_ne HO.out hBn)
  clear hwn hBn
  have EX := HX
  have EF := HF
  have ER := HR
  have EO := HO
  replace HX := hide (below_block wb HX.out (Nat.le_refl _))
  replace HF := hide (below_block wb HF.out (Nat.le_refl _))
  replace HR := hide (below_block wb HR.out (Nat.le_refl _))
  replace HO := hide (below_block wb HO.out (Nat.le_refl _))
  replace RP := hide (RP.out.below wb (Nat.le_refl _))
  replace HB := hide (HB.out.trans (wb.mono HB.out.size))
  have HY := HN1
  have NY := hide (show w.heap.size ≤ BY by rw [← HW.out.2]; exact HBo.out.size)
  clear wb HN1 HBo
  go_upto_region 7 with ((refine ld_whole (o := ⟨some 32, _, _, _, _, _⟩) 27 (.tmp 2) rfl (by rfl) BX rfl #[.int .u8 (tt : Int), .int .u8 1, .int .u16 (id : Int), .int .u32 (S : Int), .int .u32 (D : Int), .slice da n dc] 27 EX.out Try.underlying27 (by kernel_rfl) ?_; try simp only [Act.put, List.setIfInBounds_toArray, List.set_cons_zero, List.set_cons_succ]))
  rw [HW.out.1]
  try rw [HW.out.2]
  clear HW
  clear EX EF ER EO
  have qF_1 : w3.cell? ⟨BF, 1, none⟩ = some (.int .u32 (fs : Int)) := cell_at HF.out 1 rfl
  have fz := free_at HY.out 3
  have qY_3 : w3.cell? ⟨BY, 3, none⟩ = some (.int .u32 (S : Int)) := cell_at HY.out 3 rfl
  obtain ⟨w4, hVn, hVH, hVB, hVo, hVs⟩ := set1 (i := 3) (.int .u32 (fs : Int)) (c' := #[.int .u8 (tt : Int), .int .u8 1, .int .u16 (id : Int), .int .u32 (fs : Int), .int .u32 (D : Int), .slice da n dc]) HY.out HB.out NY.out (by kernel_rfl)
  have HVn := hide hVn
  clear hVn
  have HG := hide (gb_part HB.out hVB hVo hVs)
  have HXn := hide ((hVo _ nqX_Y.out).trans HX.out)
  have HFn := hide ((hVo _ nqF_Y.out).trans HF.out)
  have HRn := hide ((hVo _ nqR_Y.out).trans HR.out)
  have HOn := hide ((hVo _ nqO_Y.out).trans HO.out)
  have HYn := hide hVH
  have RPn := hide (AP.out.below hVB (Nat.le_refl _))
  have HBn := hide hVB
  clear hVH hVB hVo hVs HG
  go_upto_region 9 with (fail)
  rw [HVn.out]
  clear HVn fz
  clear qF_1 qY_3
  replace HX := HXn
  clear HXn
  replace HF := HFn
  clear HFn
  replace HR := HRn
  clear HRn
  replace HO := HOn
  clear HOn
  replace HY := HYn
  clear HYn
  replace RP := RPn
  clear RPn
  replace HB := HBn
  clear HBn
  have qF_2 : w4.cell? ⟨BF, 2, none⟩ = some (.int .u32 (fd : Int)) := cell_at HF.out 2 rfl
  have fz := free_at HY.out 4
  have qY_4 : w4.cell? ⟨BY, 4, none⟩ = some (.int .u32 (D : Int)) := cell_at HY.out 4 rfl
  obtain ⟨w5, hVn, hVH, hVB, hVo, hVs⟩ := set1 (i := 4) (.int .u32 (fd : Int)) (c' := #[.int .u8 (tt : Int), .int .u8 1, .int .u16 (id : Int), .int .u32 (fs : Int), .int .u32 (fd : Int), .slice da n dc]) HY.out HB.out NY.out (by kernel_rfl)
  have HVn := hide hVn
  clear hVn
  have HG := hide (gb_part HB.out hVB hVo hVs)
  have HXn := hide ((hVo _ nqX_Y.out).trans HX.out)
  have HFn := hide ((hVo _ nqF_Y.out).trans HF.out)
  have HRn := hide ((hVo _ nqR_Y.out).trans HR.out)
  have HOn := hide ((hVo _ nqO_Y.out).trans HO.out)
  have HYn := hide hVH
  have RPn := hide (AP.out.below hVB (Nat.le_refl _))
  have HBn := hide hVB
  clear hVH hVB hVo hVs HG
  go_upto_region 11 with (fail)
  rw [HVn.out]
  clear HVn fz
  clear qF_2 qY_4
  replace HX := HXn
  clear HXn
  replace HF := HFn
  clear HFn
  replace HR := HRn
  clear HRn
  replace HO := HOn
  clear HOn
  replace HY := HYn
  clear HYn
  replace RP := RPn
  clear RPn
  replace HB := HBn
  clear HBn
  have qX_1 : w5.cell? ⟨BX, 1, none⟩ = some (.int .u8 1) := cell_at HX.out 1 rfl
  go_upto_region 23 with (fail)
  clear qX_1
  have qX_3 : w5.cell? ⟨BX, 3, none⟩ = some (.int .u32 (S : Int)) := cell_at HX.out 3 rfl
  have qX_4 : w5.cell? ⟨BX, 4, none⟩ = some (.int .u32 (D : Int)) := cell_at HX.out 4 rfl
  have qX_5 : w5.cell? ⟨BX, 5, none⟩ = some (.slice da n dc) := cell_at HX.out 5 rfl
  go_wp2_with fail
  have ltT_X := hide (lt_of_block HX.out)
  have ltT_F := hide (lt_of_block HF.out)
  have ltT_R := hide (lt_of_block HR.out)
  have ltT_O := hide (lt_of_block HO.out)
  have ltT_Y := hide (lt_of_block HY.out)
  have lbT := hide HB.out.size
  refine (HRD.out _ RP.out).mono ?_
  rintro e w6 ⟨a2, c2, rfl, o2, b⟩
  clear qX_3 qX_4 qX_5
  replace HX := hide (below_block b HX.out (Nat.le_refl _))
  replace HF := hide (below_block b HF.out (Nat.le_refl _))
  replace HR := hide (below_block b HR.out (Nat.le_refl _))
  replace HO := hide (below_block b HO.out (Nat.le_refl _))
  replace HY := hide (below_block b HY.out (Nat.le_refl _))
  replace RP := hide (RP.out.below b (Nat.le_refl _))
  replace HB := hide (HB.out.trans (b.mono HB.out.size))
  have OT := hide o2
  have neT_X := hide (own_ne_lt o2 ltT_X.out)
  clear ltT_X
  have neT_F := hide (own_ne_lt o2 ltT_F.out)
  clear ltT_F
  have neT_R := hide (own_ne_lt o2 ltT_R.out)
  clear ltT_R
  have neT_O := hide (own_ne_lt o2 ltT_O.out)
  clear ltT_O
  have neT_Y := hide (own_ne_lt o2 ltT_Y.out)
  clear ltT_Y
  clear b  o2
  obtain ⟨w7, hwn, wb, HN1⟩ : ∃ W, w6.alloc (.cells #[.int .u8 (mp : Int), .int .u8 (mq : Int), .int .u32 (mr : Int), .slice a2 ds.length c2] 55) = W ∧ Below w6.heap.size w6 W ∧ Hid (W.heap[w6.heap.size]? = some (.cells #[.int .u8 (mp : Int), .int .u8 (mq : Int), .int .u32 (mr : Int), .slice a2 ds.length c2] 55 (0, 0))) := ⟨_, rfl, (Below.refl w6.heap.size w6).alloc (Nat.le_refl _) _, hide (heap_alloc_new w6 _)⟩
  obtain ⟨BM, hBn⟩ : ∃ B, w6.heap.size = B := ⟨_, rfl⟩
  rw [hBn] at HN1
  have HW := hide (And.intro hwn hBn)
  have HBo := HB
  have neT_M := hide (own_ne (L := BM) OT.out (Nat.le_of_eq hBn))
  have nqX_M := hide (blk_ne HX.out hBn)
  have nqF_M := hide (blk_ne HF.out hBn)
  have nqR_M := hide (blk_ne HR.out hBn)
  have nqO_M := hide (blk_ne HO.out hBn)
  have nqY_M := hide (blk_ne HY.out hBn)
  clear hwn hBn
  replace HX := hide (below_block wb HX.out (Nat.le_refl _))
  replace HF := hide (below_block wb HF.out (Nat.le_refl _))
  replace HR := hide (below_block wb HR.out (Nat.le_refl _))
  replace HO := hide (below_block wb HO.out (Nat.le_refl _))
  replace HY := hide (below_block wb HY.out (Nat.le_refl _))
  replace RP := hide (RP.out.below wb (Nat.le_refl _))
  replace OT := hide (owns_below OT.out wb (Nat.le_refl _))
  replace HB := hide (HB.out.trans (wb.mono HB.out.size))
  have HM := HN1
  have NM := hide (show w.heap.size ≤ BM by rw [← HW.out.2]; exact HBo.out.size)
  clear wb HN1 HBo
  go_upto_region 24 with (fail)
  rw [HW.out.1]
  try rw [HW.out.2]
  clear HW
  have qM_0 : w7.cell? ⟨BM, 0, none⟩ = some (.int .u8 (mp : Int)) := cell_at HM.out 0 rfl
  have qM_2 : w7.cell? ⟨BM, 2, none⟩ = some (.int .u32 (mr : Int)) := cell_at HM.out 2 rfl
  have qF_3 : w7.cell? ⟨BF, 3, none⟩ = some (.int .u16 (ff : Int)) := cell_at HF.out 3 rfl
  have qF_4 : w7.cell? ⟨BF, 4, none⟩ = some (.int .u16 (ft : Int)) := cell_at HF.out 4 rfl
  obtain ⟨tq, z1, z2, z3⟩ := HTQ.out
  have fz := free_at HM.out 2
  obtain ⟨w8, hVn, hVH, hVB, hVo, hVs⟩ := set1 (i := 2) (.int .u32 (R : Int)) (c' := #[.int .u8 (mp : Int), .int .u8 (mq : Int), .int .u32 (R : Int), .slice a2 ds.length c2]) HM.out HB.out NM.out (by kernel_rfl)
  have HVn := hide hVn
  clear hVn
  have HG := hide (gb_part HB.out hVB hVo hVs)
  have HXn := hide ((hVo _ nqX_M.out).trans HX.out)
  have HFn := hide ((hVo _ nqF_M.out).trans HF.out)
  have HRn := hide ((hVo _ nqR_M.out).trans HR.out)
  have HOn := hide ((hVo _ nqO_M.out).trans HO.out)
  have HYn := hide ((hVo _ nqY_M.out).trans HY.out)
  have HMn := hide hVH
  have RPn := hide (AP.out.below hVB (Nat.le_refl _))
  have OTn := hide (owns_kept OT.out HG.out neT_M.out)
  have HBn := hide hVB
  clear hVH hVB hVo hVs HG
  go_upto_region 29 with (fail)
  rw [HVn.out]
  clear HVn fz
  clear qM_0 qM_2 qF_3 qF_4
  replace HX := HXn
  clear HXn
  replace HF := HFn
  clear HFn
  replace HR := HRn
  clear HRn
  replace HO := HOn
  clear HOn
  replace HY := HYn
  clear HYn
  replace HM := HMn
  clear HMn
  replace RP := RPn
  clear RPn
  replace OT := OTn
  clear OTn
  replace HB := HBn
  clear HBn
  clear tq z1 z2 z3
  have qY_3 : w8.cell? ⟨BY, 3, none⟩ = some (.int .u32 (fs : Int)) := cell_at HY.out 3 rfl
  have qY_4 : w8.cell? ⟨BY, 4, none⟩ = some (.int .u32 (fd : Int)) := cell_at HY.out 4 rfl
  go_wp2_with ((refine ld_whole (o := ⟨some 155, _, _, _, _, _⟩) 55 (.tmp 14) rfl (by rfl) BM rfl #[.int .u8 (mp : Int), .int .u8 (mq : Int), .int .u32 (R : Int), .slice a2 ds.length c2] 55 HM.out Try.underlying55 (by kernel_rfl) ?_; try simp only [Act.put, List.setIfInBounds_toArray, List.set_cons_zero, List.set_cons_succ]))
  have ltZ_X := hide (lt_of_block HX.out)
  have ltZ_F := hide (lt_of_block HF.out)
  have ltZ_R := hide (lt_of_block HR.out)
  have ltZ_O := hide (lt_of_block HO.out)
  have ltZ_Y := hide (lt_of_block HY.out)
  have ltZ_M := hide (lt_of_block HM.out)
  have lbZ := hide HB.out.size
  refine (HWT.out _ a2 c2 (Lies.of_owns OT.out)).mono ?_
  rintro e w9 ⟨a9, c9, rfl, o, b⟩
  clear qY_3 qY_4
  replace HX := hide (below_block b HX.out (Nat.le_refl _))
  replace HF := hide (below_block b HF.out (Nat.le_refl _))
  replace HR := hide (below_block b HR.out (Nat.le_refl _))
  replace HO := hide (below_block b HO.out (Nat.le_refl _))
  replace HY := hide (below_block b HY.out (Nat.le_refl _))
  replace HM := hide (below_block b HM.out (Nat.le_refl _))
  replace RP := hide (RP.out.below b (Nat.le_refl _))
  replace OT := hide (owns_below OT.out b (Nat.le_refl _))
  replace HB := hide (HB.out.trans (b.mono HB.out.size))
  have OZ := hide o
  have neZ_X := hide (own_ne_lt o ltZ_X.out)
  clear ltZ_X
  have neZ_F := hide (own_ne_lt o ltZ_F.out)
  clear ltZ_F
  have neZ_R := hide (own_ne_lt o ltZ_R.out)
  clear ltZ_R
  have neZ_O := hide (own_ne_lt o ltZ_O.out)
  clear ltZ_O
  have neZ_Y := hide (own_ne_lt o ltZ_Y.out)
  clear ltZ_Y
  have neZ_M := hide (own_ne_lt o ltZ_M.out)
  clear ltZ_M
  clear b  o
  have fz := free_at HY.out 5
  have qY_5 : w9.cell? ⟨BY, 5, none⟩ = some (.slice da n dc) := cell_at HY.out 5 rfl
  obtain ⟨w10, hVn, hVH, hVB, hVo, hVs⟩ := set1 (i := 5) (.slice a9 (8 + ds.length) c9) (c' := #[.int .u8 (tt : Int), .int .u8 1, .int .u16 (id : Int), .int .u32 (fs : Int), .int .u32 (fd : Int), .slice a9 (8 + ds.length) c9]) HY.out HB.out NY.out (by kernel_rfl)
  have HVn := hide hVn
  clear hVn
  have HG := hide (gb_part HB.out hVB hVo hVs)
  have HXn := hide ((hVo _ nqX_Y.out).trans HX.out)
  have HFn := hide ((hVo _ nqF_Y.out).trans HF.out)
  have HRn := hide ((hVo _ nqR_Y.out).trans HR.out)
  have HOn := hide ((hVo _ nqO_Y.out).trans HO.out)
  have HYn := hide hVH
  have HMn := hide ((hVo _ nqY_M.out.symm).trans HM.out)
  have RPn := hide (AP.out.below hVB (Nat.le_refl _))
  have OTn := hide (owns_kept OT.out HG.out neT_Y.out)
  have OZn := hide (owns_kept OZ.out HG.out neZ_Y.out)
  have HBn := hide hVB
  clear hVH hVB hVo hVs HG
  go_upto_region 30 with (fail)
  rw [HVn.out]
  clear HVn fz
  clear qY_5
  replace HX := HXn
  clear HXn
  replace HF := HFn
  clear HFn
  replace HR := HRn
  clear HRn
  replace HO := HOn
  clear HOn
  replace HY := HYn
  clear HYn
  replace HM := HMn
  clear HMn
  replace RP := RPn
  clear RPn
  replace OT := OTn
  clear OTn
  replace OZ := OZn
  clear OZn
  replace HB := HBn
  clear HBn
  go_wp2_with (first | (refine ld_whole (o := ⟨some 160, _, _, _, _, _⟩) 27 (.tmp 9) rfl (by rfl) BY rfl #[.int .u8 (tt : Int), .int .u8 1, .int .u16 (id : Int), .int .u32 (fs : Int), .int .u32 (fd : Int), .slice a9 (8 + ds.length) c9] 27 HY.out Try.underlying27 (by kernel_rfl) ?_; try simp only [Act.put, List.setIfInBounds_toArray, List.set_cons_zero, List.set_cons_succ]) | (refine st_part (o := ⟨none, _, _, _, _, _⟩) 27 (.tmp 4) (.tmp 160) rfl (by rfl) BR 0 rfl #[.int .u8 0, .int .u8 0, .int .u16 0, .int .u32 0, .int .u32 0, .slice none 0 0] 27 #[.int .u8 (tt : Int), .int .u8 1, .int .u16 (id : Int), .int .u32 (fs : Int), .int .u32 (fd : Int), .slice a9 (8 + ds.length) c9] rfl HR.out rfl (by kernel_rfl) (by kernel_rfl) HB.out NR.out ?_; rintro w9 w9h w9b w9o w9s; try simp only [Act.put, List.setIfInBounds_toArray, List.set_cons_zero, List.set_cons_succ]))
  rw [upd_whole (by rfl)] at w9h
  exact bodyPost_ret (v := .tuple #[.agg #[.int .u8 (tt : Int), .int .u8 1, .int .u16 (id : Int), .int .u32 (fs : Int), .int .u32 (fd : Int), .slice a9 (8 + ds.length) c9], .int .i64 0]) (results_cell_tmp Try.results12 _ w9 BR _ _ _ _ rfl w9h Try.underlying27 rfl (by kernel_rfl) _ rfl) rfl ⟨a9, c9, rfl, owns_mono (owns_kept OZ.out (gb_part HB.out w9b w9o w9s) neZ_R.out) lbZ.out, w9b⟩
set_option maxHeartbeats 4000000 in
theorem drewrite_qry0 (w : World) (tt id S D : Nat) (da : Option Addr) (xs : List Int) (n dc : Nat) (fp fs fd ff ft : Nat) (hLx : Lies w da xs n dc) (hl : xs.length = n) (hb : ∀ x ∈ xs, 0 ≤ x ∧ x ≤ 255) (hS : S ≤ 4294967295) (hD : D ≤ 4294967295) (hfs : fs ≤ 4294967295) (hfd : fd ≤ 4294967295) (hff : ff ≤ 65535) (hft : ft ≤ 65535) (hc : icErr xs = 0) (hk : isErr (msgOf xs).p = false) (hfp : fp = 1) (h8 : (msgOf xs).p ≠ 8) :
    Calls Try.prog 12 #[.agg #[.int .u8 (tt : Int), .int .u8 1, .int .u16 (id : Int), .int .u32 (S : Int), .int .u32 (D : Int), .slice da n dc], .agg #[.int .u8 (fp : Int), .int .u32 (fs : Int), .int .u32 (fd : Int), .int .u16 (ff : Int), .int .u16 (ft : Int)]] w fun e w' => ∃ a9 c9, e = .returned (.tuple #[.agg #[.int .u8 (tt : Int), .int .u8 1, .int .u16 (id : Int), .int .u32 (fs : Int), .int .u32 (fd : Int), .slice a9 (8 + (msgOf xs).ds.length) c9], .int .i64 0]) ∧ w'.ownsRow w.heap.size 5 1 (.slice a9 (8 + (msgOf xs).ds.length) c9) (8 + (msgOf xs).ds.length) ((icmpB (msgOf xs).p (msgOf xs).q (qryR (msgOf xs) ff ft) (msgOf xs).ds).map (Value.int .u8)) ∧ Below w.heap.size w w' := by
  obtain ⟨P, hPn⟩ : ∃ P : Nat, P = 1 := ⟨_, rfl⟩
  have HOF := hide (fun (W : World) (hL : Lies W da xs n dc) => rof_any W (tt : Int) (id : Int) P S D da n dc xs hL hl hb hS hD)
  have hok := msgOf_ok xs hb
  have hmc : msgCode xs = 0 := by
    unfold icErr at hc
    by_cases h0 : msgCode xs = 0
    · exact h0
    · rw [if_neg h0] at hc; exact absurd hc h0
  have hofE : ofErr P S D xs = 0 := by unfold ofErr; rw [if_neg (by omega), if_neg (by omega), if_pos hPn, hc]
  have hofK : ofKind P S D xs = 2 := by unfold ofKind; rw [hofE, if_pos rfl, if_neg (by omega)]; unfold icKind msgKind; rw [if_pos hmc, hk]; rfl
  have hofL : ofFl P S D xs = ⟨1, S, D, qfrom (msgOf xs).p (msgOf xs).q ((msgOf xs).r / 65536), qto (msgOf xs).p (msgOf xs).q ((msgOf xs).r / 65536)⟩ := by unfold ofFl; rw [hofE, if_pos rfl, if_neg (by omega), if_neg (by omega)]; unfold icFl msgFl; rw [if_pos hmc, hk]; rfl
  rw [hofE, hofK, hofL] at HOF
  rw [show (P : Int) = 1 by rw [hPn]; rfl] at HOF
  have HRD := hide (fun (W : World) (hL : Lies W da xs n dc) => (readICMP_both xs n hl hb).2 W da dc hL)
  unfold MsgAns IcmpAns at HRD
  rw [hmc] at HRD
  unfold Fl.v at HOF
  dsimp only at HOF
  obtain ⟨op, hop⟩ : ∃ o, 1 = o := ⟨_, rfl⟩
  rw [show ((1 : Nat) : Int) = (op : Int) by rw [← hop]] at HOF
  have hfe : ((fp : Int) != (op : Int)) = false := by rw [hfp, ← hop]; simp
  have HFE := hide hfe
  generalize qfrom (msgOf xs).p (msgOf xs).q ((msgOf xs).r / 65536) = of at *
  generalize qto (msgOf xs).p (msgOf xs).q ((msgOf xs).r / 65536) = ot at *
  generalize msgOf xs = ms at *
  obtain ⟨mp, mq, mr, ds⟩ := ms
  dsimp only at *
  obtain ⟨h1, h2, h3, h4, h5⟩ := hok
  have hRR : qryR ⟨mp, mq, mr, ds⟩ ff ft = (if mp = 8 then ff else ft) * 65536 + mr % 65536 := rfl
  have hRb : qryR ⟨mp, mq, mr, ds⟩ ff ft ≤ 4294967295 := by rw [hRR]; split <;> omega
  obtain ⟨R, hR⟩ : ∃ R, qryR ⟨mp, mq, mr, ds⟩ ff ft = R := ⟨_, rfl⟩
  rw [hR] at hRR hRb ⊢
  have HWT := hide (fun (W : World) (a2 : Option Addr) (c2 : Nat) (hh : Lies W a2 ds ds.length c2) => rwicmp_ok W mp mq R a2 ds ds.length c2 hh.row hh.no rfl h4 h5 h1 h2 hRb)
  rw [if_neg h8] at hRR
  have tq : ((mp : Int) == 8) = false := by simp; omega
  have z1 : (65536 * (ft : Int)) % 4294967296 = 65536 * (ft : Int) := by omega
  have z2 : (mr : Int) % 65536 + 65536 * (ft : Int) = (R : Int) := by omega
  have z3 : (R : Int) % 4294967296 = (R : Int) := by omega
  have HTQ := hide (And.intro tq (And.intro z1 (And.intro z2 z3)))
  clear tq z1 z2 z3 h8 hRR hRb h3
  clear h1 h2 h4 h5 hR hl hb hc hk hmc hofE hofK hofL hfe hfp hop hPn hfs hfd
  obtain ⟨V1, hV1⟩ : ∃ V, w.alloc (.cells #[.int .u8 (tt : Int), .int .u8 1, .int .u16 (id : Int), .int .u32 (S : Int), .int .u32 (D : Int), .slice da n dc] 27) = V := ⟨_, rfl⟩
  obtain ⟨V2, hV2⟩ : ∃ V, V1.alloc (.cells #[.int .u8 (fp : Int), .int .u32 (fs : Int), .int .u32 (fd : Int), .int .u16 (ff : Int), .int .u16 (ft : Int)] 29) = V := ⟨_, rfl⟩
  obtain ⟨V3, hV3⟩ : ∃ V, V2.alloc (.cells #[.int .u8 0, .int .u8 0, .int .u16 0, .int .u32 0, .int .u32 0, .slice none 0 0] 27) = V := ⟨_, rfl⟩
  have hz1 : V1.heap.size = w.heap.size + 1 := by rw [← hV1]; simp
  have hz2 : V2.heap.size = w.heap.size + 1 + 1 := by rw [← hV2]; simp [hz1]
  have hz3 : V3.heap.size = w.heap.size + 1 + 1 + 1 := by rw [← hV3]; simp [hz2]
  have hb1 : Below w.heap.size w V1 := by rw [← hV1]; exact (Below.refl _ _).alloc (Nat.le_refl _) _
  have hc2 : Below V1.heap.size V1 V2 := by rw [← hV2]; exact (Below.refl _ _).alloc (Nat.le_refl _) _
  have hb2 := hb1.trans (hc2.mono hb1.size)
  have hc3 : Below V2.heap.size V2 V3 := by rw [← hV3]; exact (Below.refl _ _).alloc (Nat.le_refl _) _
  have hb3 := hb2.trans (hc3.mono hb2.size)
  have hp1_1 : V1.heap[w.heap.size]? = some (.cells #[.int .u8 (tt : Int), .int .u8 1, .int .u16 (id : Int), .int .u32 (S : Int), .int .u32 (D : Int), .slice da n dc] 27 (0, 0)) := by rw [← hV1]; exact heap_alloc_new _ _
  have hp1_2 := below_block hc2 hp1_1 (Nat.le_refl _)
  have hp1_3 := below_block hc3 hp1_2 (Nat.le_refl _)
  have hp2_2 : V2.heap[w.heap.size + 1]? = some (.cells #[.int .u8 (fp : Int), .int .u32 (fs : Int), .int .u32 (fd : Int), .int .u16 (ff : Int), .int .u16 (ft : Int)] 29 (0, 0)) := by rw [← hV2, ← hz1]; exact heap_alloc_new _ _
  have hp2_3 := below_block hc3 hp2_2 (Nat.le_refl _)
  have hp3_3 : V3.heap[w.heap.size + 1 + 1]? = some (.cells #[.int .u8 0, .int .u8 0, .int .u16 0, .int .u32 0, .int .u32 0, .slice none 0 0] 27 (0, 0)) := by rw [← hV3, ← hz2]; exact heap_alloc_new _ _
  obtain ⟨BX, hBX⟩ : ∃ B, w.heap.size = B := ⟨_, rfl⟩
  obtain ⟨BF, hBF⟩ : ∃ B, w.heap.size + 1 = B := ⟨_, rfl⟩
  obtain ⟨BR, hBR⟩ : ∃ B, w.heap.size + 1 + 1 = B := ⟨_, rfl⟩
  have hw0 : w.heap.size ≤ BX ∧ w.heap.size ≤ BF ∧ w.heap.size ≤ BR := by omega
  have HX := hide (show V3.heap[BX]? = some (.cells #[.int .u8 (tt : Int), .int .u8 1, .int .u16 (id : Int), .int .u32 (S : Int), .int .u32 (D : Int), .slice da n dc] 27 (0, 0)) by rw [← hBX]; exact hp1_3)
  have NX : Hid (w.heap.size ≤ BX) := hide hw0.1
  have HF := hide (show V3.heap[BF]? = some (.cells #[.int .u8 (fp : Int), .int .u32 (fs : Int), .int .u32 (fd : Int), .int .u16 (ff : Int), .int .u16 (ft : Int)] 29 (0, 0)) by rw [← hBF]; exact hp2_3)
  have NF : Hid (w.heap.size ≤ BF) := hide hw0.2.1
  have HR := hide (show V3.heap[BR]? = some (.cells #[.int .u8 0, .int .u8 0, .int .u16 0, .int .u32 0, .int .u32 0, .slice none 0 0] 27 (0, 0)) by rw [← hBR]; exact hp3_3)
  have NR : Hid (w.heap.size ≤ BR) := hide hw0.2.2
  have nqX_F : Hid (BX ≠ BF) := hide (by omega)
  have nqX_R : Hid (BX ≠ BR) := hide (by omega)
  have nqF_R : Hid (BF ≠ BR) := hide (by omega)
  have AP := hide hLx
  have RP := hide (hLx.below hb3 (Nat.le_refl _))
  have HB := hide hb3
  have HE := hide (And.intro (And.intro trivial trivial) (And.intro hV1 ( And.intro hV2 ( And.intro hV3 (And.intro hBX ( And.intro hBF ( And.intro hBR (trivial))))))))
  clear hw0 hV1 hz1 hb1 hV2 hz2 hb2 hV3 hz3 hb3 hc2 hc3 hp1_1 hp1_2 hp1_3 hp2_2 hp2_3 hp3_3 hBX hBF hBR hLx
  go_enter Try.func12, Try.ntmps12
  go_upto_region 1 with (fail)
  rw [HE.out.2.1]
  try rw [HE.out.2.2.1]
  try rw [HE.out.2.2.2.1]
  try rw [HE.out.2.2.2.2.2.2.1]
  try rw [HE.out.2.2.2.2.2.1]
  try rw [HE.out.2.2.2.2.1]
  clear HE
  go_wp2_with ((refine ld_whole (o := ⟨some 17, _, _, _, _, _⟩) 27 (.tmp 2) rfl (by rfl) BX rfl #[.int .u8 (tt : Int), .int .u8 1, .int .u16 (id : Int), .int .u32 (S : Int), .int .u32 (D : Int), .slice da n dc] 27 HX.out Try.underlying27 (by kernel_rfl) ?_; try simp only [Act.put, List.setIfInBounds_toArray, List.set_cons_zero, List.set_cons_succ]))
  refine (HOF.out _ RP.out).mono ?_
  rintro e w1 ⟨rfl, b⟩
  replace HX := hide (below_block b HX.out (Nat.le_refl _))
  replace HF := hide (below_block b HF.out (Nat.le_refl _))
  replace HR := hide (below_block b HR.out (Nat.le_refl _))
  replace RP := hide (RP.out.below b (Nat.le_refl _))
  replace HB := hide (HB.out.trans (b.mono HB.out.size))
  clear b 
  obtain ⟨w2, hwn, wb, HN1⟩ : ∃ W, w1.alloc (.cells #[.int .u8 (op : Int), .int .u32 (S : Int), .int .u32 (D : Int), .int .u16 (of : Int), .int .u16 (ot : Int)] 29) = W ∧ Below w1.heap.size w1 W ∧ Hid (W.heap[w1.heap.size]? = some (.cells #[.int .u8 (op : Int), .int .u32 (S : Int), .int .u32 (D : Int), .int .u16 (of : Int), .int .u16 (ot : Int)] 29 (0, 0))) := ⟨_, rfl, (Below.refl w1.heap.size w1).alloc (Nat.le_refl _) _, hide (heap_alloc_new w1 _)⟩
  obtain ⟨BO, hBn⟩ : ∃ B, w1.heap.size = B := ⟨_, rfl⟩
  rw [hBn] at HN1
  have HW := hide (And.intro hwn hBn)
  have HBo := HB
  have nqX_O := hide (blk_ne HX.out hBn)
  have nqF_O := hide (blk_ne HF.out hBn)
  have nqR_O := hide (blk_ne HR.out hBn)
  clear hwn hBn
  replace HX := hide (below_block wb HX.out (Nat.le_refl _))
  replace HF := hide (below_block wb HF.out (Nat.le_refl _))
  replace HR := hide (below_block wb HR.out (Nat.le_refl _))
  replace RP := hide (RP.out.below wb (Nat.le_refl _))
  replace HB := hide (HB.out.trans (wb.mono HB.out.size))
  have HO := HN1
  have NO := hide (show w.heap.size ≤ BO by rw [← HW.out.2]; exact HBo.out.size)
  clear wb HN1 HBo
  go_upto_region 2 with (fail)
  rw [HW.out.1]
  try rw [HW.out.2]
  clear HW
  have qF_0 : w2.cell? ⟨BF, 0, none⟩ = some (.int .u8 (fp : Int)) := cell_at HF.out 0 rfl
  have qO_0 : w2.cell? ⟨BO, 0, none⟩ = some (.int .u8 (op : Int)) := cell_at HO.out 0 rfl
  have hfe := HFE.out
  go_upto_region 6 with (fail)
  clear hfe HFE
  clear qF_0 qO_0
  obtain ⟨w3, hwn, wb, HN1⟩ : ∃ W, w2.alloc (.cells #[.int .u8 (tt : Int), .int .u8 1, .int .u16 (id : Int), .int .u32 (S : Int), .int .u32 (D : Int), .slice da n dc] 27) = W ∧ Below w2.heap.size w2 W ∧ Hid (W.heap[w2.heap.size]? = some (.cells #[.int .u8 (tt : Int), .int .u8 1, .int .u16 (id : Int), .int .u32 (S : Int), .int .u32 (D : Int), .slice da n dc] 27 (0, 0))) := ⟨_, rfl, (Below.refl w2.heap.size w2).alloc (Nat.le_refl _) _, hide (heap_alloc_new w2 _)⟩
  obtain ⟨BY, hBn⟩ : ∃ B, w2.heap.size = B := ⟨_, rfl⟩
  rw [hBn] at HN1
  have HW := hide (And.intro hwn hBn)
  have HBo := HB
  have nqX_Y := hide (blk_ne HX.out hBn)
  have nqF_Y := hide (blk_ne HF.out hBn)
  have nqR_Y := hide (blk_ne HR.out hBn)
  have nqO_Y := hide (blk_ne HO.out hBn)
  clear hwn hBn
  have EX := HX
  have EF := HF
  have ER := HR
  have EO := HO
  replace HX := hide (below_block wb HX.out (Nat.le_refl _))
  replace HF := hide (below_block wb HF.out (Nat.le_refl _))
  replace HR := hide (below_block wb HR.out (Nat.le_refl _))
  replace HO := hide (below_block wb HO.out (Nat.le_refl _))
  replace RP := hide (RP.out.below wb (Nat.le_refl _))
  replace HB := hide (HB.out.trans (wb.mono HB.out.size))
  have HY := HN1
  have NY := hide (show w.heap.size ≤ BY by rw [← HW.out.2]; exact HBo.out.size)
  clear wb HN1 HBo
  go_upto_region 7 with ((refine ld_whole (o := ⟨some 32, _, _, _, _, _⟩) 27 (.tmp 2) rfl (by rfl) BX rfl #[.int .u8 (tt : Int), .int .u8 1, .int .u16 (id : Int), .int .u32 (S : Int), .int .u32 (D : Int), .slice da n dc] 27 EX.out Try.underlying27 (by kernel_rfl) ?_; try simp only [Act.put, List.setIfInBounds_toArray, List.set_cons_zero, List.set_cons_succ]))
  rw [HW.out.1]
  try rw [HW.out.2]
  clear HW
  clear EX EF ER EO
  have qF_1 : w3.cell? ⟨BF, 1, none⟩ = some (.int .u32 (fs : Int)) := cell_at HF.out 1 rfl
  have fz := free_at HY.out 3
  have qY_3 : w3.cell? ⟨BY, 3, none⟩ = some (.int .u32 (S : Int)) := cell_at HY.out 3 rfl
  obtain ⟨w4, hVn, hVH, hVB, hVo, hVs⟩ := set1 (i := 3) (.int .u32 (fs : Int)) (c' := #[.int .u8 (tt : Int), .int .u8 1, .int .u16 (id : Int), .int .u32 (fs : Int), .int .u32 (D : Int), .slice da n dc]) HY.out HB.out NY.out (by kernel_rfl)
  have HVn := hide hVn
  clear hVn
  have HG := hide (gb_part HB.out hVB hVo hVs)
  have HXn := hide ((hVo _ nqX_Y.out).trans HX.out)
  have HFn := hide ((hVo _ nqF_Y.out).trans HF.out)
  have HRn := hide ((hVo _ nqR_Y.out).trans HR.out)
  have HOn := hide ((hVo _ nqO_Y.out).trans HO.out)
  have HYn := hide hVH
  have RPn := hide (AP.out.below hVB (Nat.le_refl _))
  have HBn := hide hVB
  clear hVH hVB hVo hVs HG
  go_upto_region 9 with (fail)
  rw [HVn.out]
  clear HVn fz
  clear qF_1 qY_3
  replace HX := HXn
  clear HXn
  replace HF := HFn
  clear HFn
  replace HR := HRn
  clear HRn
  replace HO := HOn
  clear HOn
  replace HY := HYn
  clear HYn
  replace RP := RPn
  clear RPn
  replace HB := HBn
  clear HBn
  have qF_2 : w4.cell? ⟨BF, 2, none⟩ = some (.int .u32 (fd : Int)) := cell_at HF.out 2 rfl
  have fz := free_at HY.out 4
  have qY_4 : w4.cell? ⟨BY, 4, none⟩ = some (.int .u32 (D : Int)) := cell_at HY.out 4 rfl
  obtain ⟨w5, hVn, hVH, hVB, hVo, hVs⟩ := set1 (i := 4) (.int .u32 (fd : Int)) (c' := #[.int .u8 (tt : Int), .int .u8 1, .int .u16 (id : Int), .int .u32 (fs : Int), .int .u32 (fd : Int), .slice da n dc]) HY.out HB.out NY.out (by kernel_rfl)
  have HVn := hide hVn
  clear hVn
  have HG := hide (gb_part HB.out hVB hVo hVs)
  have HXn := hide ((hVo _ nqX_Y.out).trans HX.out)
  have HFn := hide ((hVo _ nqF_Y.out).trans HF.out)
  have HRn := hide ((hVo _ nqR_Y.out).trans HR.out)
  have HOn := hide ((hVo _ nqO_Y.out).trans HO.out)
  have HYn := hide hVH
  have RPn := hide (AP.out.below hVB (Nat.le_refl _))
  have HBn := hide hVB
  clear hVH hVB hVo hVs HG
  go_upto_region 11 with (fail)
  rw [HVn.out]
  clear HVn fz
  clear qF_2 qY_4
  replace HX := HXn
  clear HXn
  replace HF := HFn
  clear HFn
  replace HR := HRn
  clear HRn
  replace HO := HOn
  clear HOn
  replace HY := HYn
  clear HYn
  replace RP := RPn
  clear RPn
  replace HB := HBn
  clear HBn
  have qX_1 : w5.cell? ⟨BX, 1, none⟩ = some (.int .u8 1) := cell_at HX.out 1 rfl
  go_upto_region 23 with (fail)
  clear qX_1
  have qX_3 : w5.cell? ⟨BX, 3, none⟩ = some (.int .u32 (S : Int)) := cell_at HX.out 3 rfl
  have qX_4 : w5.cell? ⟨BX, 4, none⟩ = some (.int .u32 (D : Int)) := cell_at HX.out 4 rfl
  have qX_5 : w5.cell? ⟨BX, 5, none⟩ = some (.slice da n dc) := cell_at HX.out 5 rfl
  go_wp2_with fail
  have ltT_X := hide (lt_of_block HX.out)
  have ltT_F := hide (lt_of_block HF.out)
  have ltT_R := hide (lt_of_block HR.out)
  have ltT_O := hide (lt_of_block HO.out)
  have ltT_Y := hide (lt_of_block HY.out)
  have lbT := hide HB.out.size
  refine (HRD.out _ RP.out).mono ?_
  rintro e w6 ⟨a2, c2, rfl, o2, b⟩
  clear qX_3 qX_4 qX_5
  replace HX := hide (below_block b HX.out (Nat.le_refl _))
  replace HF := hide (below_block b HF.out (Nat.le_refl _))
  replace HR := hide (below_block b HR.out (Nat.le_refl _))
  replace HO := hide (below_block b HO.out (Nat.le_refl _))
  replace HY := hide (below_block b HY.out (Nat.le_refl _))
  replace RP := hide (RP.out.below b (Nat.le_refl _))
  replace HB := hide (HB.out.trans (b.mono HB.out.size))
  have OT := hide o2
  have neT_X := hide (own_ne_lt o2 ltT_X.out)
  clear ltT_X
  have neT_F := hide (own_ne_lt o2 ltT_F.out)
  clear ltT_F
  have neT_R := hide (own_ne_lt o2 ltT_R.out)
  clear ltT_R
  have neT_O := hide (own_ne_lt o2 ltT_O.out)
  clear ltT_O
  have neT_Y := hide (own_ne_lt o2 ltT_Y.out)
  clear ltT_Y
  clear b  o2
  obtain ⟨w7, hwn, wb, HN1⟩ : ∃ W, w6.alloc (.cells #[.int .u8 (mp : Int), .int .u8 (mq : Int), .int .u32 (mr : Int), .slice a2 ds.length c2] 55) = W ∧ Below w6.heap.size w6 W ∧ Hid (W.heap[w6.heap.size]? = some (.cells #[.int .u8 (mp : Int), .int .u8 (mq : Int), .int .u32 (mr : Int), .slice a2 ds.length c2] 55 (0, 0))) := ⟨_, rfl, (Below.refl w6.heap.size w6).alloc (Nat.le_refl _) _, hide (heap_alloc_new w6 _)⟩
  obtain ⟨BM, hBn⟩ : ∃ B, w6.heap.size = B := ⟨_, rfl⟩
  rw [hBn] at HN1
  have HW := hide (And.intro hwn hBn)
  have HBo := HB
  have neT_M := hide (own_ne (L := BM) OT.out (Nat.le_of_eq hBn))
  have nqX_M := hide (blk_ne HX.out hBn)
  have nqF_M := hide (blk_ne HF.out hBn)
  have nqR_M := hide (blk_ne HR.out hBn)
  have nqO_M := hide (blk_ne HO.out hBn)
  have nqY_M := hide (blk_ne HY.out hBn)
  clear hwn hBn
  replace HX := hide (below_block wb HX.out (Nat.le_refl _))
  replace HF := hide (below_block wb HF.out (Nat.le_refl _))
  replace HR := hide (below_block wb HR.out (Nat.le_refl _))
  replace HO := hide (below_block wb HO.out (Nat.le_refl _))
  replace HY := hide (below_block wb HY.out (Nat.le_refl _))
  replace RP := hide (RP.out.below wb (Nat.le_refl _))
  replace OT := hide (owns_below OT.out wb (Nat.le_refl _))
  replace HB := hide (HB.out.trans (wb.mono HB.out.size))
  have HM := HN1
  have NM := hide (show w.heap.size ≤ BM by rw [← HW.out.2]; exact HBo.out.size)
  clear wb HN1 HBo
  go_upto_region 24 with (fail)
  rw [HW.out.1]
  try rw [HW.out.2]
  clear HW
  have qM_0 : w7.cell? ⟨BM, 0, none⟩ = some (.int .u8 (mp : Int)) := cell_at HM.out 0 rfl
  have qM_2 : w7.cell? ⟨BM, 2, none⟩ = some (.int .u32 (mr : Int)) := cell_at HM.out 2 rfl
  have qF_3 : w7.cell? ⟨BF, 3, none⟩ = some (.int .u16 (ff : Int)) := cell_at HF.out 3 rfl
  have qF_4 : w7.cell? ⟨BF, 4, none⟩ = some (.int .u16 (ft : Int)) := cell_at HF.out 4 rfl
  obtain ⟨tq, z1, z2, z3⟩ := HTQ.out
  have fz := free_at HM.out 2
  obtain ⟨w8, hVn, hVH, hVB, hVo, hVs⟩ := set1 (i := 2) (.int .u32 (R : Int)) (c' := #[.int .u8 (mp : Int), .int .u8 (mq : Int), .int .u32 (R : Int), .slice a2 ds.length c2]) HM.out HB.out NM.out (by kernel_rfl)
  have HVn := hide hVn
  clear hVn
  have HG := hide (gb_part HB.out hVB hVo hVs)
  have HXn := hide ((hVo _ nqX_M.out).trans HX.out)
  have HFn := hide ((hVo _ nqF_M.out).trans HF.out)
  have HRn := hide ((hVo _ nqR_M.out).trans HR.out)
  have HOn := hide ((hVo _ nqO_M.out).trans HO.out)
  have HYn := hide ((hVo _ nqY_M.out).trans HY.out)
  have HMn := hide hVH
  have RPn := hide (AP.out.below hVB (Nat.le_refl _))
  have OTn := hide (owns_kept OT.out HG.out neT_M.out)
  have HBn := hide hVB
  clear hVH hVB hVo hVs HG
  go_upto_region 29 with (fail)
  rw [HVn.out]
  clear HVn fz
  clear qM_0 qM_2 qF_3 qF_4
  replace HX := HXn
  clear HXn
  replace HF := HFn
  clear HFn
  replace HR := HRn
  clear HRn
  replace HO := HOn
  clear HOn
  replace HY := HYn
  clear HYn
  replace HM := HMn
  clear HMn
  replace RP := RPn
  clear RPn
  replace OT := OTn
  clear OTn
  replace HB := HBn
  clear HBn
  clear tq z1 z2 z3
  have qY_3 : w8.cell? ⟨BY, 3, none⟩ = some (.int .u32 (fs : Int)) := cell_at HY.out 3 rfl
  have qY_4 : w8.cell? ⟨BY, 4, none⟩ = some (.int .u32 (fd : Int)) := cell_at HY.out 4 rfl
  go_wp2_with ((refine ld_whole (o := ⟨some 155, _, _, _, _, _⟩) 55 (.tmp 14) rfl (by rfl) BM rfl #[.int .u8 (mp : Int), .int .u8 (mq : Int), .int .u32 (R : Int), .slice a2 ds.length c2] 55 HM.out Try.underlying55 (by kernel_rfl) ?_; try simp only [Act.put, List.setIfInBounds_toArray, List.set_cons_zero, List.set_cons_succ]))
  have ltZ_X := hide (lt_of_block HX.out)
  have ltZ_F := hide (lt_of_block HF.out)
  have ltZ_R := hide (lt_of_block HR.out)
  have ltZ_O := hide (lt_of_block HO.out)
  have ltZ_Y := hide (lt_of_block HY.out)
  have ltZ_M := hide (lt_of_block HM.out)
  have lbZ := hide HB.out.size
  refine (HWT.out _ a2 c2 (Lies.of_owns OT.out)).mono ?_
  rintro e w9 ⟨a9, c9, rfl, o, b⟩
  clear qY_3 qY_4
  replace HX := hide (below_block b HX.out (Nat.le_refl _))
  replace HF := hide (below_block b HF.out (Nat.le_refl _))
  replace HR := hide (below_block b HR.out (Nat.le_refl _))
  replace HO := hide (below_block b HO.out (Nat.le_refl _))
  replace HY := hide (below_block b HY.out (Nat.le_refl _))
  replace HM := hide (below_block b HM.out (Nat.le_refl _))
  replace RP := hide (RP.out.below b (Nat.le_refl _))
  replace OT := hide (owns_below OT.out b (Nat.le_refl _))
  replace HB := hide (HB.out.trans (b.mono HB.out.size))
  have OZ := hide o
  have neZ_X := hide (own_ne_lt o ltZ_X.out)
  clear ltZ_X
  have neZ_F := hide (own_ne_lt o ltZ_F.out)
  clear ltZ_F
  have neZ_R := hide (own_ne_lt o ltZ_R.out)
  clear ltZ_R
  have neZ_O := hide (own_ne_lt o ltZ_O.out)
  clear ltZ_O
  have neZ_Y := hide (own_ne_lt o ltZ_Y.out)
  clear ltZ_Y
  have neZ_M := hide (own_ne_lt o ltZ_M.out)
  clear ltZ_M
  clear b  o
  have fz := free_at HY.out 5
  have qY_5 : w9.cell? ⟨BY, 5, none⟩ = some (.slice da n dc) := cell_at HY.out 5 rfl
  obtain ⟨w10, hVn, hVH, hVB, hVo, hVs⟩ := set1 (i := 5) (.slice a9 (8 + ds.length) c9) (c' := #[.int .u8 (tt : Int), .int .u8 1, .int .u16 (id : Int), .int .u32 (fs : Int), .int .u32 (fd : Int), .slice a9 (8 + ds.length) c9]) HY.out HB.out NY.out (by kernel_rfl)
  have HVn := hide hVn
  clear hVn
  have HG := hide (gb_part HB.out hVB hVo hVs)
  have HXn := hide ((hVo _ nqX_Y.out).trans HX.out)
  have HFn := hide ((hVo _ nqF_Y.out).trans HF.out)
  have HRn := hide ((hVo _ nqR_Y.out).trans HR.out)
  have HOn := hide ((hVo _ nqO_Y.out).trans HO.out)
  have HYn := hide hVH
  have HMn := hide ((hVo _ nqY_M.out.symm).trans HM.out)
  have RPn := hide (AP.out.below hVB (Nat.le_refl _))
  have OTn := hide (owns_kept OT.out HG.out neT_Y.out)
  have OZn := hide (owns_kept OZ.out HG.out neZ_Y.out)
  have HBn := hide hVB
  clear hVH hVB hVo hVs HG
  go_upto_region 30 with (fail)
  rw [HVn.out]
  clear HVn fz
  clear qY_5
  replace HX := HXn
  clear HXn
  replace HF := HFn
  clear HFn
  replace HR := HRn
  clear HRn
  replace HO := HOn
  clear HOn
  replace HY := HYn
  clear HYn
  replace HM := HMn
  clear HMn
  replace RP := RPn
  clear RPn
  replace OT := OTn
  clear OTn
  replace OZ := OZn
  clear OZn
  replace HB := HBn
  clear HBn
  go_wp2_with (first | (refine ld_whole (o := ⟨some 160, _, _, _, _, _⟩) 27 (.tmp 9) rfl (by rfl) BY rfl #[.int .u8 (tt : Int), .int .u8 1, .int .u16 (id : Int), .int .u32 (fs : Int), .int .u32 (fd : Int), .slice a9 (8 + ds.length) c9] 27 HY.out Try.underlying27 (by kernel_rfl) ?_; try simp only [Act.put, List.setIfInBounds_toArray, List.set_cons_zero, List.set_cons_succ]) | (refine st_part (o := ⟨none, _, _, _, _, _⟩) 27 (.tmp 4) (.tmp 160) rfl (by rfl) BR 0 rfl #[.int .u8 0, .int .u8 0, .int .u16 0, .int .u32 0, .int .u32 0, .slice none 0 0] 27 #[.int .u8 (tt : Int), .int .u8 1, .int .u16 (id : Int), .int .u32 (fs : Int), .int .u32 (fd : Int), .slice a9 (8 + ds.length) c9] rfl HR.out rfl (by kernel_rfl) (by kernel_rfl) HB.out NR.out ?_; rintro w9 w9h w9b w9o w9s; try simp only [Act.put, List.setIfInBounds_toArray, List.set_cons_zero, List.set_cons_succ]))
  rw [upd_whole (by rfl)] at w9h
  exact bodyPost_ret (v := .tuple #[.agg #[.int .u8 (tt : Int), .int .u8 1, .int .u16 (id : Int), .int .u32 (fs : Int), .int .u32 (fd : Int), .slice a9 (8 + ds.length) c9], .int .i64 0]) (results_cell_tmp Try.results12 _ w9 BR _ _ _ _ rfl w9h Try.underlying27 rfl (by kernel_rfl) _ rfl) rfl ⟨a9, c9, rfl, owns_mono (owns_kept OZ.out (gb_part HB.out w9b w9o w9s) neZ_R.out) lbZ.out, w9b⟩
set_option maxHeartbeats 4000000 in
theorem drewrite_tell (w : World) (tt id S D : Nat) (da : Option Addr) (xs : List Int) (n dc : Nat) (fp fs fd ff ft : Nat) (hLx : Lies w da xs n dc) (hl : xs.length = n) (hb : ∀ x ∈ xs, 0 ≤ x ∧ x ≤ 255) (hS : S ≤ 4294967295) (hD : D ≤ 4294967295) (hfs : fs ≤ 4294967295) (hfd : fd ≤ 4294967295) (hff : ff ≤ 65535) (hft : ft ≤ 65535) (hc : icErr xs = 0) (hk : isErr (msgOf xs).p = true) (hfp : fp = (tfl (msgOf xs).ds (msgOf xs).ds.length).p) :
    Calls Try.prog 12 #[.agg #[.int .u8 (tt : Int), .int .u8 1, .int .u16 (id : Int), .int .u32 (S : Int), .int .u32 (D : Int), .slice da n dc], .agg #[.int .u8 (fp : Int), .int .u32 (fs : Int), .int .u32 (fd : Int), .int .u16 (ff : Int), .int .u16 (ft : Int)]] w fun e w' => ∃ a9 c9, e = .returned (.tuple #[.agg #[.int .u8 (tt : Int), .int .u8 1, .int .u16 (id : Int), .int .u32 (((if S = (tfl (msgOf xs).ds (msgOf xs).ds.length).d then fs else S) : Nat) : Int), .int .u32 (((if D = (tfl (msgOf xs).ds (msgOf xs).ds.length).s then fd else D) : Nat) : Int), .slice a9 (8 + (msgOf xs).ds.length) c9], .int .i64 0]) ∧ w'.ownsRow w.heap.size 5 1 (.slice a9 (8 + (msgOf xs).ds.length) c9) (8 + (msgOf xs).ds.length) ((icmpB (msgOf xs).p (msgOf xs).q (msgOf xs).r (reT (msgOf xs).ds (Fl.turn ⟨fp, fs, fd, ff, ft⟩))).map (Value.int .u8)) ∧ Below w.heap.size w w' := by
  obtain ⟨P, hPn⟩ : ∃ P : Nat, P = 1 := ⟨_, rfl⟩
  have HOF := hide (fun (W : World) (hL : Lies W da xs n dc) => rof_any W (tt : Int) (id : Int) P S D da n dc xs hL hl hb hS hD)
  have hok := msgOf_ok xs hb
  have hmc : msgCode xs = 0 := by
    unfold icErr at hc
    by_cases h0 : msgCode xs = 0
    · exact h0
    · rw [if_neg h0] at hc; exact absurd hc h0
  have hofE : ofErr P S D xs = 0 := by unfold ofErr; rw [if_neg (by omega), if_neg (by omega), if_pos hPn, hc]
  have hofK : ofKind P S D xs = 3 := by unfold ofKind; rw [hofE, if_pos rfl, if_neg (by omega)]; unfold icKind msgKind; rw [if_pos hmc, hk]; rfl
  have hofL : ofFl P S D xs = (tfl (msgOf xs).ds (msgOf xs).ds.length).turn := by unfold ofFl; rw [hofE, if_pos rfl, if_neg (by omega), if_neg (by omega)]; unfold icFl msgFl; rw [if_pos hmc, hk]; rfl
  rw [hofE, hofK, hofL] at HOF
  rw [show (P : Int) = 1 by rw [hPn]; rfl] at HOF
  have HRD := hide (fun (W : World) (hL : Lies W da xs n dc) => (readICMP_both xs n hl hb).2 W da dc hL)
  unfold MsgAns IcmpAns at HRD
  rw [hmc] at HRD
  have htk : tok (msgOf xs).ds (msgOf xs).ds.length = true := by
    unfold icErr msgOk at hc
    rw [if_pos hmc, hk, if_pos rfl] at hc
    by_cases h0 : tok (msgOf xs).ds (msgOf xs).ds.length = true
    · exact h0
    · rw [if_neg h0] at hc; omega
  generalize msgOf xs = ms at *
  obtain ⟨mp, mq, mr, ds⟩ := ms
  dsimp only at *
  obtain ⟨h1, h2, h3, h4, h5⟩ := hok
  obtain ⟨g1, g2, _⟩ := tok_p ds ds.length htk
  obtain ⟨g5, g6, g7, g8, g9⟩ := tfl_ok ds ds.length htk h4
  have hfv : (Fl.turn ⟨fp, fs, fd, ff, ft⟩) = ⟨fp, fd, fs, ft, ff⟩ := rfl
  rw [hfv]
  obtain ⟨r1, r2⟩ : (∀ x ∈ reT ds ⟨fp, fd, fs, ft, ff⟩, 0 ≤ x ∧ x ≤ 255) ∧ (reT ds ⟨fp, fd, fs, ft, ff⟩).length = ds.length := ⟨rtl_rng _ _ _ _ _ _ _ h4, rtl_len _ _ _ _ _ _ _ g1 rfl⟩
  obtain ⟨m, hm⟩ : ∃ m, ds.length = m := ⟨_, rfl⟩
  have HRT := hide (fun (W : World) (a2 : Option Addr) (c2 : Nat) (hh : Lies W a2 ds m c2) => retR_any W a2 ds m c2 fp fd fs ft ff hh hm h4 (by omega) htk hfd hfs hft hff)
  generalize tfl ds ds.length = y at *
  obtain ⟨op, od, os, ot, of⟩ := y
  unfold Fl.turn Fl.v at HOF
  dsimp only at *
  have hfe : ((fp : Int) != (op : Int)) = false := by rw [hfp]; simp
  have HFE := hide hfe
  obtain ⟨S2, hS2⟩ : ∃ x, (if S = os then fs else S) = x := ⟨_, rfl⟩
  obtain ⟨D2, hD2⟩ : ∃ x, (if D = od then fd else D) = x := ⟨_, rfl⟩
  rw [hS2, hD2]
  have HSD := hide (And.intro hS2 hD2)
  obtain ⟨RL, hRL⟩ : ∃ L, reT ds ⟨fp, fd, fs, ft, ff⟩ = L := ⟨_, rfl⟩
  rw [hRL] at HRT r1 r2 ⊢
  rw [hm] at HRD r2 h5 g1 ⊢
  have HWT := hide (fun (W : World) (a2 : Option Addr) (c2 : Nat) (hh : Lies W a2 RL m c2) => rwicmp_ok W mp mq mr a2 RL m c2 hh.row hh.no r2 r1 h5 h1 h2 h3)
  clear hS2 hD2 h1 h2 h3 h4 h5 g2 g5 g6 g7 g8 g9 htk hRL r1 r2 hm hl hb hc hk hmc hofE hofK hofL hfe hfp hPn hfs hfd hff hft hS hD hfv
  obtain ⟨V1, hV1⟩ : ∃ V, w.alloc (.cells #[.int .u8 (tt : Int), .int .u8 1, .int .u16 (id : Int), .int .u32 (S : Int), .int .u32 (D : Int), .slice da n dc] 27) = V := ⟨_, rfl⟩
  obtain ⟨V2, hV2⟩ : ∃ V, V1.alloc (.cells #[.int .u8 (fp : Int), .int .u32 (fs : Int), .int .u32 (fd : Int), .int .u16 (ff : Int), .int .u16 (ft : Int)] 29) = V := ⟨_, rfl⟩
  obtain ⟨V3, hV3⟩ : ∃ V, V2.alloc (.cells #[.int .u8 0, .int .u8 0, .int .u16 0, .int .u32 0, .int .u32 0, .slice none 0 0] 27) = V := ⟨_, rfl⟩
  have hz1 : V1.heap.size = w.heap.size + 1 := by rw [← hV1]; simp
  have hz2 : V2.heap.size = w.heap.size + 1 + 1 := by rw [← hV2]; simp [hz1]
  have hz3 : V3.heap.size = w.heap.size + 1 + 1 + 1 := by rw [← hV3]; simp [hz2]
  have hb1 : Below w.heap.size w V1 := by rw [← hV1]; exact (Below.refl _ _).alloc (Nat.le_refl _) _
  have hc2 : Below V1.heap.size V1 V2 := by rw [← hV2]; exact (Below.refl _ _).alloc (Nat.le_refl _) _
  have hb2 := hb1.trans (hc2.mono hb1.size)
  have hc3 : Below V2.heap.size V2 V3 := by rw [← hV3]; exact (Below.refl _ _).alloc (Nat.le_refl _) _
  have hb3 := hb2.trans (hc3.mono hb2.size)
  have hp1_1 : V1.heap[w.heap.size]? = some (.cells #[.int .u8 (tt : Int), .int .u8 1, .int .u16 (id : Int), .int .u32 (S : Int), .int .u32 (D : Int), .slice da n dc] 27 (0, 0)) := by rw [← hV1]; exact heap_alloc_new _ _
  have hp1_2 := below_block hc2 hp1_1 (Nat.le_refl _)
  have hp1_3 := below_block hc3 hp1_2 (Nat.le_refl _)
  have hp2_2 : V2.heap[w.heap.size + 1]? = some (.cells #[.int .u8 (fp : Int), .int .u32 (fs : Int), .int .u32 (fd : Int), .int .u16 (ff : Int), .int .u16 (ft : Int)] 29 (0, 0)) := by rw [← hV2, ← hz1]; exact heap_alloc_new _ _
  have hp2_3 := below_block hc3 hp2_2 (Nat.le_refl _)
  have hp3_3 : V3.heap[w.heap.size + 1 + 1]? = some (.cells #[.int .u8 0, .int .u8 0, .int .u16 0, .int .u32 0, .int .u32 0, .slice none 0 0] 27 (0, 0)) := by rw [← hV3, ← hz2]; exact heap_alloc_new _ _
  obtain ⟨BX, hBX⟩ : ∃ B, w.heap.size = B := ⟨_, rfl⟩
  obtain ⟨BF, hBF⟩ : ∃ B, w.heap.size + 1 = B := ⟨_, rfl⟩
  obtain ⟨BR, hBR⟩ : ∃ B, w.heap.size + 1 + 1 = B := ⟨_, rfl⟩
  have hw0 : w.heap.size ≤ BX ∧ w.heap.size ≤ BF ∧ w.heap.size ≤ BR := by omega
  have HX := hide (show V3.heap[BX]? = some (.cells #[.int .u8 (tt : Int), .int .u8 1, .int .u16 (id : Int), .int .u32 (S : Int), .int .u32 (D : Int), .slice da n dc] 27 (0, 0)) by rw [← hBX]; exact hp1_3)
  have NX : Hid (w.heap.size ≤ BX) := hide hw0.1
  have HF := hide (show V3.heap[BF]? = some (.cells #[.int .u8 (fp : Int), .int .u32 (fs : Int), .int .u32 (fd : Int), .int .u16 (ff : Int), .int .u16 (ft : Int)] 29 (0, 0)) by rw [← hBF]; exact hp2_3)
  have NF : Hid (w.heap.size ≤ BF) := hide hw0.2.1
  have HR := hide (show V3.heap[BR]? = some (.cells #[.int .u8 0, .int .u8 0, .int .u16 0, .int .u32 0, .int .u32 0, .slice none 0 0] 27 (0, 0)) by rw [← hBR]; exact hp3_3)
  have NR : Hid (w.heap.size ≤ BR) := hide hw0.2.2
  have nqX_F : Hid (BX ≠ BF) := hide (by omega)
  have nqX_R : Hid (BX ≠ BR) := hide (by omega)
  have nqF_R : Hid (BF ≠ BR) := hide (by omega)
  have AP := hide hLx
  have RP := hide (hLx.below hb3 (Nat.le_refl _))
  have HB := hide hb3
  have HE := hide (And.intro (And.intro trivial trivial) (And.intro hV1 ( And.intro hV2 ( And.intro hV3 (And.intro hBX ( And.intro hBF ( And.intro hBR (trivial))))))))
  clear hw0 hV1 hz1 hb1 hV2 hz2 hb2 hV3 hz3 hb3 hc2 hc3 hp1_1 hp1_2 hp1_3 hp2_2 hp2_3 hp3_3 hBX hBF hBR hLx
  go_enter Try.func12, Try.ntmps12
  go_upto_region 1 with (fail)
  rw [HE.out.2.1]
  try rw [HE.out.2.2.1]
  try rw [HE.out.2.2.2.1]
  try rw [HE.out.2.2.2.2.2.2.1]
  try rw [HE.out.2.2.2.2.2.1]
  try rw [HE.out.2.2.2.2.1]
  clear HE
  go_wp2_with ((refine ld_whole (o := ⟨some 17, _, _, _, _, _⟩) 27 (.tmp 2) rfl (by rfl) BX rfl #[.int .u8 (tt : Int), .int .u8 1, .int .u16 (id : Int), .int .u32 (S : Int), .int .u32 (D : Int), .slice da n dc] 27 HX.out Try.underlying27 (by kernel_rfl) ?_; try simp only [Act.put, List.setIfInBounds_toArray, List.set_cons_zero, List.set_cons_succ]))
  refine (HOF.out _ RP.out).mono ?_
  rintro e w1 ⟨rfl, b⟩
  replace HX := hide (below_block b HX.out (Nat.le_refl _))
  replace HF := hide (below_block b HF.out (Nat.le_refl _))
  replace HR := hide (below_block b HR.out (Nat.le_refl _))
  replace RP := hide (RP.out.below b (Nat.le_refl _))
  replace HB := hide (HB.out.trans (b.mono HB.out.size))
  clear b 
  obtain ⟨w2, hwn, wb, HN1⟩ : ∃ W, w1.alloc (.cells #[.int .u8 (op : Int), .int .u32 (os : Int), .int .u32 (od : Int), .int .u16 (of : Int), .int .u16 (ot : Int)] 29) = W ∧ Below w1.heap.size w1 W ∧ Hid (W.heap[w1.heap.size]? = some (.cells #[.int .u8 (op : Int), .int .u32 (os : Int), .int .u32 (od : Int), .int .u16 (of : Int), .int .u16 (ot : Int)] 29 (0, 0))) := ⟨_, rfl, (Below.refl w1.heap.size w1).alloc (Nat.le_refl _) _, hide (heap_alloc_new w1 _)⟩
  obtain ⟨BO, hBn⟩ : ∃ B, w1.heap.size = B := ⟨_, rfl⟩
  rw [hBn] at HN1
  have HW := hide (And.intro hwn hBn)
  have HBo := HB
  have nqX_O := hide (blk_ne HX.out hBn)
  have nqF_O := hide (blk_ne HF.out hBn)
  have nqR_O := hide (blk_ne HR.out hBn)
  clear hwn hBn
  replace HX := hide (below_block wb HX.out (Nat.le_refl _))
  replace HF := hide (below_block wb HF.out (Nat.le_refl _))
  replace HR := hide (below_block wb HR.out (Nat.le_refl _))
  replace RP := hide (RP.out.below wb (Nat.le_refl _))
  replace HB := hide (HB.out.trans (wb.mono HB.out.size))
  have HO := HN1
  have NO := hide (show w.heap.size ≤ BO by rw [← HW.out.2]; exact HBo.out.size)
  clear wb HN1 HBo
  go_upto_region 2 with (fail)
  rw [HW.out.1]
  try rw [HW.out.2]
  clear HW
  have qF_0 : w2.cell? ⟨BF, 0, none⟩ = some (.int .u8 (fp : Int)) := cell_at HF.out 0 rfl
  have qO_0 : w2.cell? ⟨BO, 0, none⟩ = some (.int .u8 (op : Int)) := cell_at HO.out 0 rfl
  have hfe := HFE.out
  go_upto_region 6 with (fail)
  clear hfe HFE
  clear qF_0 qO_0
  obtain ⟨w3, hwn, wb, HN1⟩ : ∃ W, w2.alloc (.cells #[.int .u8 (tt : Int), .int .u8 1, .int .u16 (id : Int), .int .u32 (S : Int), .int .u32 (D : Int), .slice da n dc] 27) = W ∧ Below w2.heap.size w2 W ∧ Hid (W.heap[w2.heap.size]? = some (.cells #[.int .u8 (tt : Int), .int .u8 1, .int .u16 (id : Int), .int .u32 (S : Int), .int .u32 (D : Int), .slice da n dc] 27 (0, 0))) := ⟨_, rfl, (Below.refl w2.heap.size w2).alloc (Nat.le_refl _) _, hide (heap_alloc_new w2 _)⟩
  obtain ⟨BY, hBn⟩ : ∃ B, w2.heap.size = B := ⟨_, rfl⟩
  rw [hBn] at HN1
  have HW := hide (And.intro hwn hBn)
  have HBo := HB
  have nqX_Y := hide (blk_ne HX.out hBn)
  have nqF_Y := hide (blk_ne HF.out hBn)
  have nqR_Y := hide (blk_ne HR.out hBn)
  have nqO_Y := hide (blk_ne HO.out hBn)
  clear hwn hBn
  have EX := HX
  have EF := HF
  have ER := HR
  have EO := HO
  replace HX := hide (below_block wb HX.out (Nat.le_refl _))
  replace HF := hide (below_block wb HF.out (Nat.le_refl _))
  replace HR := hide (below_block wb HR.out (Nat.le_refl _))
  replace HO := hide (below_block wb HO.out (Nat.le_refl _))
  replace RP := hide (RP.out.below wb (Nat.le_refl _))
  replace HB := hide (HB.out.trans (wb.mono HB.out.size))
  have HY := HN1
  have NY := hide (show w.heap.size ≤ BY by rw [← HW.out.2]; exact HBo.out.size)
  clear wb HN1 HBo
  go_upto_region 7 with ((refine ld_whole (o := ⟨some 32, _, _, _, _, _⟩) 27 (.tmp 2) rfl (by rfl) BX rfl #[.int .u8 (tt : Int), .int .u8 1, .int .u16 (id : Int), .int .u32 (S : Int), .int .u32 (D : Int), .slice da n dc] 27 EX.out Try.underlying27 (by kernel_rfl) ?_; try simp only [Act.put, List.setIfInBounds_toArray, List.set_cons_zero, List.set_cons_succ]))
  rw [HW.out.1]
  try rw [HW.out.2]
  clear HW
  clear EX EF ER EO
  by_cases hs : S = os
  ·
    by_cases hd : D = od
    ·
      obtain ⟨hS2, hD2⟩ := HSD.out
      rw [if_pos hs] at hS2
      rw [if_pos hd] at hD2
      subst hS2 hD2
      have tS : ((S : Int) == (os : Int)) = true := by simp; omega
      have tD : ((D : Int) == (od : Int)) = true := by simp; omega
      clear hs hd HSD
      have qX_3 : w3.cell? ⟨BX, 3, none⟩ = some (.int .u32 (S : Int)) := cell_at HX.out 3 rfl
      have qO_1 : w3.cell? ⟨BO, 1, none⟩ = some (.int .u32 (os : Int)) := cell_at HO.out 1 rfl
      have qF_1 : w3.cell? ⟨BF, 1, none⟩ = some (.int .u32 (fs : Int)) := cell_at HF.out 1 rfl
      have fz := free_at HY.out 3
      have qY_3 : w3.cell? ⟨BY, 3, none⟩ = some (.int .u32 (S : Int)) := cell_at HY.out 3 rfl
      obtain ⟨w4, hVn, hVH, hVB, hVo, hVs⟩ := set1 (i := 3) (.int .u32 (fs : Int)) (c' := #[.int .u8 (tt : Int), .int .u8 1, .int .u16 (id : Int), .int .u32 (fs : Int), .int .u32 (D : Int), .slice da n dc]) HY.out HB.out NY.out (by kernel_rfl)
      have HVn := hide hVn
      clear hVn
      have HG := hide (gb_part HB.out hVB hVo hVs)
      have HXn := hide ((hVo _ nqX_Y.out).trans HX.out)
      have HFn := hide ((hVo _ nqF_Y.out).trans HF.out)
      have HRn := hide ((hVo _ nqR_Y.out).trans HR.out)
      have HOn := hide ((hVo _ nqO_Y.out).trans HO.out)
      have HYn := hide hVH
      have RPn := hide (AP.out.below hVB (Nat.le_refl _))
      have HBn := hide hVB
      clear hVH hVB hVo hVs HG
      go_upto_region 9 with (fail)
      rw [HVn.out]
      clear HVn fz
      clear qX_3 qO_1 qF_1 qY_3
      replace HX := HXn
      clear HXn
      replace HF := HFn
      clear HFn
      replace HR := HRn
      clear HRn
      replace HO := HOn
      clear HOn
      replace HY := HYn
      clear HYn
      replace RP := RPn
      clear RPn
      replace HB := HBn
      clear HBn
      have qX_4 : w4.cell? ⟨BX, 4, none⟩ = some (.int .u32 (D : Int)) := cell_at HX.out 4 rfl
      have qO_2 : w4.cell? ⟨BO, 2, none⟩ = some (.int .u32 (od : Int)) := cell_at HO.out 2 rfl
      have qF_2 : w4.cell? ⟨BF, 2, none⟩ = some (.int .u32 (fd : Int)) := cell_at HF.out 2 rfl
      have fz := free_at HY.out 4
      have qY_4 : w4.cell? ⟨BY, 4, none⟩ = some (.int .u32 (D : Int)) := cell_at HY.out 4 rfl
      obtain ⟨w5, hVn, hVH, hVB, hVo, hVs⟩ := set1 (i := 4) (.int .u32 (fd : Int)) (c' := #[.int .u8 (tt : Int), .int .u8 1, .int .u16 (id : Int), .int .u32 (fs : Int), .int .u32 (fd : Int), .slice da n dc]) HY.out HB.out NY.out (by kernel_rfl)
      have HVn := hide hVn
      clear hVn
      have HG := hide (gb_part HB.out hVB hVo hVs)
      have HXn := hide ((hVo _ nqX_Y.out).trans HX.out)
      have HFn := hide ((hVo _ nqF_Y.out).trans HF.out)
      have HRn := hide ((hVo _ nqR_Y.out).trans HR.out)
      have HOn := hide ((hVo _ nqO_Y.out).trans HO.out)
      have HYn := hide hVH
      have RPn := hide (AP.out.below hVB (Nat.le_refl _))
      have HBn := hide hVB
      clear hVH hVB hVo hVs HG
      go_upto_region 11 with (fail)
      rw [HVn.out]
      clear HVn fz
      clear qX_4 qO_2 qF_2 qY_4
      replace HX := HXn
      clear HXn
      replace HF := HFn
      clear HFn
      replace HR := HRn
      clear HRn
      replace HO := HOn
      clear HOn
      replace HY := HYn
      clear HYn
      replace RP := RPn
      clear RPn
      replace HB := HBn
      clear HBn
      clear tS tD
      have qX_1 : w5.cell? ⟨BX, 1, none⟩ = some (.int .u8 1) := cell_at HX.out 1 rfl
      go_upto_region 23 with (fail)
      clear qX_1
      have qX_3 : w5.cell? ⟨BX, 3, none⟩ = some (.int .u32 (S : Int)) := cell_at HX.out 3 rfl
      have qX_4 : w5.cell? ⟨BX, 4, none⟩ = some (.int .u32 (D : Int)) := cell_at HX.out 4 rfl
      have qX_5 : w5.cell? ⟨BX, 5, none⟩ = some (.slice da n dc) := cell_at HX.out 5 rfl
      go_wp2_with fail
      have ltT_X := hide (lt_of_block HX.out)
      have ltT_F := hide (lt_of_block HF.out)
      have ltT_R := hide (lt_of_block HR.out)
      have ltT_O := hide (lt_of_block HO.out)
      have ltT_Y := hide (lt_of_block HY.out)
      have lbT := hide HB.out.size
      refine (HRD.out _ RP.out).mono ?_
      rintro e w6 ⟨a2, c2, rfl, o2, b⟩
      clear qX_3 qX_4 qX_5
      replace HX := hide (below_block b HX.out (Nat.le_refl _))
      replace HF := hide (below_block b HF.out (Nat.le_refl _))
      replace HR := hide (below_block b HR.out (Nat.le_refl _))
      replace HO := hide (below_block b HO.out (Nat.le_refl _))
      replace HY := hide (below_block b HY.out (Nat.le_refl _))
      replace RP := hide (RP.out.below b (Nat.le_refl _))
      replace HB := hide (HB.out.trans (b.mono HB.out.size))
      have OT := hide o2
      have neT_X := hide (own_ne_lt o2 ltT_X.out)
      clear ltT_X
      have neT_F := hide (own_ne_lt o2 ltT_F.out)
      clear ltT_F
      have neT_R := hide (own_ne_lt o2 ltT_R.out)
      clear ltT_R
      have neT_O := hide (own_ne_lt o2 ltT_O.out)
      clear ltT_O
      have neT_Y := hide (own_ne_lt o2 ltT_Y.out)
      clear ltT_Y
      clear b  o2
      obtain ⟨g, rfl⟩ := slice_someT OT.out (by omega)
      obtain ⟨w7, hwn, wb, HN1⟩ : ∃ W, w6.alloc (.cells #[.int .u8 (mp : Int), .int .u8 (mq : Int), .int .u32 (mr : Int), .slice (some ⟨g, 0, none⟩) m c2] 55) = W ∧ Below w6.heap.size w6 W ∧ Hid (W.heap[w6.heap.size]? = some (.cells #[.int .u8 (mp : Int), .int .u8 (mq : Int), .int .u32 (mr : Int), .slice (some ⟨g, 0, none⟩) m c2] 55 (0, 0))) := ⟨_, rfl, (Below.refl w6.heap.size w6).alloc (Nat.le_refl _) _, hide (heap_alloc_new w6 _)⟩
      obtain ⟨BM, hBn⟩ : ∃ B, w6.heap.size = B := ⟨_, rfl⟩
      rw [hBn] at HN1
      have HW := hide (And.intro hwn hBn)
      have HBo := HB
      have neT_M := hide (own_ne (L := BM) OT.out (Nat.le_of_eq hBn))
      have nqX_M := hide (blk_ne HX.out hBn)
      have nqF_M := hide (blk_ne HF.out hBn)
      have nqR_M := hide (blk_ne HR.out hBn)
      have nqO_M := hide (blk_ne HO.out hBn)
      have nqY_M := hide (blk_ne HY.out hBn)
      clear hwn hBn
      replace HX := hide (below_block wb HX.out (Nat.le_refl _))
      replace HF := hide (below_block wb HF.out (Nat.le_refl _))
      replace HR := hide (below_block wb HR.out (Nat.le_refl _))
      replace HO := hide (below_block wb HO.out (Nat.le_refl _))
      replace HY := hide (below_block wb HY.out (Nat.le_refl _))
      replace RP := hide (RP.out.below wb (Nat.le_refl _))
      replace OT := hide (owns_below OT.out wb (Nat.le_refl _))
      replace HB := hide (HB.out.trans (wb.mono HB.out.size))
      have HM := HN1
      have NM := hide (show w.heap.size ≤ BM by rw [← HW.out.2]; exact HBo.out.size)
      clear wb HN1 HBo
      go_upto_region 24 with (fail)
      rw [HW.out.1]
      try rw [HW.out.2]
      clear HW
      go_upto_region 25 with (fail)
      have HZ0 := hide (show Below w7.heap.size w7 w7.drew from (Below.refl _ _).drew)
      refine wp_region_U (S := fun w' => w'.cell? ⟨BM, 0, none⟩ = some (.int .u8 (mp : Int)) ∧ w'.cell? ⟨BM, 1, none⟩ = some (.int .u8 (mq : Int)) ∧ w'.cell? ⟨BM, 2, none⟩ = some (.int .u32 (mr : Int)) ∧ w'.cell? ⟨BM, 3, none⟩ = some (.slice (some ⟨g, 0, none⟩) m c2) ∧ w'.cell? ⟨BF, 0, none⟩ = some (.int .u8 (fp : Int)) ∧ w'.cell? ⟨BF, 1, none⟩ = some (.int .u32 (fs : Int)) ∧ w'.cell? ⟨BF, 2, none⟩ = some (.int .u32 (fd : Int)) ∧ w'.cell? ⟨BF, 3, none⟩ = some (.int .u16 (ff : Int)) ∧ w'.cell? ⟨BF, 4, none⟩ = some (.int .u16 (ft : Int))) (t := 6) (by kernel_rfl) (by exact ⟨cell_at (below_block HZ0.out HM.out (Nat.le_refl _)) 0 rfl, cell_at (below_block HZ0.out HM.out (Nat.le_refl _)) 1 rfl, cell_at (below_block HZ0.out HM.out (Nat.le_refl _)) 2 rfl, cell_at (below_block HZ0.out HM.out (Nat.le_refl _)) 3 rfl, cell_at (below_block HZ0.out HF.out (Nat.le_refl _)) 0 rfl, cell_at (below_block HZ0.out HF.out (Nat.le_refl _)) 1 rfl, cell_at (below_block HZ0.out HF.out (Nat.le_refl _)) 2 rfl, cell_at (below_block HZ0.out HF.out (Nat.le_refl _)) 3 rfl, cell_at (below_block HZ0.out HF.out (Nat.le_refl _)) 4 rfl⟩) (fun hHeld => ?_)
      refine wpAnyU_take (i := 0) (oi := { dst := some 127, op := Op.fieldAddr 55 (Operand.tmp 14) 3, type := 0, pos := "ref.go:171", after := #[], guard := none }) (v := ?_) rfl (by kernel_rfl) (by kernel_rfl) (by kernel_rfl) (by kernel_rfl) (fun _ _ _ h => h) (Or.inl ⟨by rfl, ?_⟩) (by assumption) ?_
      rotate_left
      · intro wS hSw
        try dsimp only at hSw
        go_simp
        try with_reducible rfl
      try simp only [Act.put, List.setIfInBounds_toArray, List.set_cons_zero, List.set_cons_succ]
      refine wpAnyU_take (i := 1) (oi := { dst := some 128, op := Op.load 25 (Operand.tmp 127), type := 25, pos := "ref.go:171", after := #[{ on := 0, ground := Ground.data }], guard := none }) (v := ?_) rfl (by kernel_rfl) (by kernel_rfl) (by kernel_rfl) (by kernel_rfl) (fun _ _ _ h => h) (Or.inl ⟨by rfl, ?_⟩) (by assumption) ?_
      rotate_left
      · intro wS hSw
        try dsimp only at hSw
        go_simp
        try with_reducible rfl
      try simp only [Act.put, List.setIfInBounds_toArray, List.set_cons_zero, List.set_cons_succ]
      refine wpAnyU_take (i := 2) (oi := { dst := some 129, op := Op.load 29 (Operand.tmp 3), type := 29, pos := "ref.go:171", after := #[], guard := none }) (v := ?_) rfl (by kernel_rfl) (by kernel_rfl) (by kernel_rfl) (by kernel_rfl) (fun _ _ _ h => h) (Or.inl ⟨by rfl, ?_⟩) (by assumption) ?_
      rotate_left
      · intro wS hSw
        try dsimp only at hSw
        go_simp
        try with_reducible rfl
      try simp only [Act.put, List.setIfInBounds_toArray, List.set_cons_zero, List.set_cons_succ]
      refine wpAnyU_one (i := 3) (o := { dst := some 130, op := Op.call { callee := Callee.value (Operand.func 38), args := #[Operand.tmp 129], argTypes := #[29] }, type := 29, pos := "ref.go:171", after := #[{ on := 2, ground := Ground.data }], guard := none }) (by kernel_rfl) rfl (fun K hK => ?_)
      go_simp
      go_at_call 38
      (with_reducible refine (turnD _ fp fs fd ff ft).mono ?_)
      rintro e zA ⟨rfl, b⟩
      have HzA := hide (show Below w7.heap.size w7 zA from HZ0.out.trans (Below.mono b HZ0.out.size))
      clear b
      refine hK.out _ _ (fun _ => ⟨cell_at (below_block HzA.out HM.out (Nat.le_refl _)) 0 rfl, cell_at (below_block HzA.out HM.out (Nat.le_refl _)) 1 rfl, cell_at (below_block HzA.out HM.out (Nat.le_refl _)) 2 rfl, cell_at (below_block HzA.out HM.out (Nat.le_refl _)) 3 rfl, cell_at (below_block HzA.out HF.out (Nat.le_refl _)) 0 rfl, cell_at (below_block HzA.out HF.out (Nat.le_refl _)) 1 rfl, cell_at (below_block HzA.out HF.out (Nat.le_refl _)) 2 rfl, cell_at (below_block HzA.out HF.out (Nat.le_refl _)) 3 rfl, cell_at (below_block HzA.out HF.out (Nat.le_refl _)) 4 rfl⟩) (fun hHeld1 => ?_)
      clear hK K
      try simp only [Act.put, List.setIfInBounds_toArray, List.set_cons_zero, List.set_cons_succ]
      refine wpAnyU_one (i := 4) (o := { dst := some 131, op := Op.call { callee := Callee.value (Operand.func 37), args := #[Operand.tmp 128, Operand.tmp 130], argTypes := #[25, 29] }, type := 25, pos := "ref.go:171", after := #[{ on := 1, ground := Ground.data }, { on := 3, ground := Ground.data }, { on := 3, ground := Ground.chain }], guard := none }) (by kernel_rfl) rfl (fun K hK => ?_)
      go_simp
      go_at_call 37
      (with_reducible refine (HRT.out zA (some ⟨g, 0, none⟩) c2 ((Lies.of_owns OT.out).below HzA.out (Nat.le_refl _))).mono ?_)
      rintro e zB ⟨g2, c3, rfl, o, b⟩
      have HzB := hide (show Below w7.heap.size w7 zB from HzA.out.trans (Below.mono b HzA.out.size))
      have OU := hide o
      have neU_X := hide (own_ne_lt o (lt_of_block (below_block HzA.out HX.out (Nat.le_refl _))))
      have neU_F := hide (own_ne_lt o (lt_of_block (below_block HzA.out HF.out (Nat.le_refl _))))
      have neU_R := hide (own_ne_lt o (lt_of_block (below_block HzA.out HR.out (Nat.le_refl _))))
      have neU_O := hide (own_ne_lt o (lt_of_block (below_block HzA.out HO.out (Nat.le_refl _))))
      have neU_Y := hide (own_ne_lt o (lt_of_block (below_block HzA.out HY.out (Nat.le_refl _))))
      have neU_M := hide (own_ne_lt o (lt_of_block (below_block HzA.out HM.out (Nat.le_refl _))))
      have lbU := hide (show w.heap.size ≤ zA.heap.size from Nat.le_trans HB.out.size HzA.out.size)
      clear b o
      refine hK.out _ _ (fun _ => ⟨cell_at (below_block HzB.out HM.out (Nat.le_refl _)) 0 rfl, cell_at (below_block HzB.out HM.out (Nat.le_refl _)) 1 rfl, cell_at (below_block HzB.out HM.out (Nat.le_refl _)) 2 rfl, cell_at (below_block HzB.out HM.out (Nat.le_refl _)) 3 rfl, cell_at (below_block HzB.out HF.out (Nat.le_refl _)) 0 rfl, cell_at (below_block HzB.out HF.out (Nat.le_refl _)) 1 rfl, cell_at (below_block HzB.out HF.out (Nat.le_refl _)) 2 rfl, cell_at (below_block HzB.out HF.out (Nat.le_refl _)) 3 rfl, cell_at (below_block HzB.out HF.out (Nat.le_refl _)) 4 rfl⟩) (fun hHeld2 => ?_)
      clear hK K
      try simp only [Act.put, List.setIfInBounds_toArray, List.set_cons_zero, List.set_cons_succ]
      have hHX := hHeld2 (by decide)
      refine wpAnyU_take (i := 5) (oi := { dst := some 132, op := Op.fieldAddr 55 (Operand.tmp 14) 3, type := 0, pos := "ref.go:171", after := #[{ on := 0, ground := Ground.phase }, { on := 1, ground := Ground.phase }, { on := 2, ground := Ground.phase }, { on := 3, ground := Ground.phase }, { on := 4, ground := Ground.phase }], guard := none }) (v := ?_) rfl (by kernel_rfl) (by kernel_rfl) (by kernel_rfl) (by kernel_rfl) (fun _ _ _ h => h) (Or.inl ⟨by rfl, ?_⟩) (by assumption) ?_
      rotate_left
      · intro wS hSw
        try dsimp only at hSw
        go_simp
        try with_reducible rfl
      try simp only [Act.put, List.setIfInBounds_toArray, List.set_cons_zero, List.set_cons_succ]
      have hbz := HzB.out
      replace HX := hide (below_block hbz HX.out (Nat.le_refl _))
      replace HF := hide (below_block hbz HF.out (Nat.le_refl _))
      replace HR := hide (below_block hbz HR.out (Nat.le_refl _))
      replace HO := hide (below_block hbz HO.out (Nat.le_refl _))
      replace HY := hide (below_block hbz HY.out (Nat.le_refl _))
      replace HM := hide (below_block hbz HM.out (Nat.le_refl _))
      replace RP := hide (RP.out.below hbz (Nat.le_refl _))
      replace OT := hide (owns_below OT.out hbz (Nat.le_refl _))
      replace HB := hide (HB.out.trans (hbz.mono HB.out.size))
      have RU := hide (Lies.of_owns OU.out)
      clear hbz
      have fz := free_at HM.out 3
      have qM_3 : zB.cell? ⟨BM, 3, none⟩ = some (.slice (some ⟨g, 0, none⟩) m c2) := cell_at HM.out 3 rfl
      obtain ⟨w8, hVn, hVH, hVB, hVo, hVs⟩ := set1 (i := 3) (.slice (some ⟨g2, 0, none⟩) m c3) (c' := #[.int .u8 (mp : Int), .int .u8 (mq : Int), .int .u32 (mr : Int), .slice (some ⟨g2, 0, none⟩) m c3]) HM.out HB.out NM.out (by kernel_rfl)
      have HVn := hide hVn
      clear hVn
      have HG := hide (gb_part HB.out hVB hVo hVs)
      have HXn := hide ((hVo _ nqX_M.out).trans HX.out)
      have HFn := hide ((hVo _ nqF_M.out).trans HF.out)
      have HRn := hide ((hVo _ nqR_M.out).trans HR.out)
      have HOn := hide ((hVo _ nqO_M.out).trans HO.out)
      have HYn := hide ((hVo _ nqY_M.out).trans HY.out)
      have HMn := hide hVH
      have RPn := hide (AP.out.below hVB (Nat.le_refl _))
      have RUn := hide (Lies.of_owns (owns_kept OU.out HG.out neU_M.out))
      have OTn := hide (owns_kept OT.out HG.out neT_M.out)
      have OUn := hide (owns_kept OU.out HG.out neU_M.out)
      have HBn := hide hVB
      clear hVH hVB hVo hVs HG
      refine wpAnyU_one (i := 6) (o := { dst := none, op := Op.store 25 (Operand.tmp 132) (Operand.tmp 131), type := 0, pos := "ref.go:171", after := #[{ on := 5, ground := Ground.data }, { on := 4, ground := Ground.data }, { on := 4, ground := Ground.chain }, { on := 0, ground := Ground.phase }, { on := 1, ground := Ground.phase }, { on := 2, ground := Ground.phase }, { on := 3, ground := Ground.phase }, { on := 4, ground := Ground.phase }], guard := none }) (by kernel_rfl) rfl (fun K hK => ?_)
      go_simp
      refine hK.out _ _ (fun h => absurd h (by decide)) (fun _ => ?_)
      clear hK K
      try simp only [Act.put, List.setIfInBounds_toArray, List.set_cons_zero, List.set_cons_succ]
      refine wpAnyU_done (by kernel_rfl) ?_ _
      rw [HVn.out]
      clear HVn fz
      clear qM_3
      replace HX := HXn
      clear HXn
      replace HF := HFn
      clear HFn
      replace HR := HRn
      clear HRn
      replace HO := HOn
      clear HOn
      replace HY := HYn
      clear HYn
      replace HM := HMn
      clear HMn
      replace RP := RPn
      clear RPn
      replace RU := RUn
      clear RUn
      replace OT := OTn
      clear OTn
      replace OU := OUn
      clear OUn
      replace HB := HBn
      clear HBn
      clear hHeld hHeld1 hHeld2 hHX HZ0 HzA HzB HRT
      go_upto_region 29 with (fail)
      have qY_3 : w8.cell? ⟨BY, 3, none⟩ = some (.int .u32 (fs : Int)) := cell_at HY.out 3 rfl
      have qY_4 : w8.cell? ⟨BY, 4, none⟩ = some (.int .u32 (fd : Int)) := cell_at HY.out 4 rfl
      go_wp2_with ((refine ld_whole (o := ⟨some 155, _, _, _, _, _⟩) 55 (.tmp 14) rfl (by rfl) BM rfl #[.int .u8 (mp : Int), .int .u8 (mq : Int), .int .u32 (mr : Int), .slice (some ⟨g2, 0, none⟩) m c3] 55 HM.out Try.underlying55 (by kernel_rfl) ?_; try simp only [Act.put, List.setIfInBounds_toArray, List.set_cons_zero, List.set_cons_succ]))
      have ltZ_X := hide (lt_of_block HX.out)
      have ltZ_F := hide (lt_of_block HF.out)
      have ltZ_R := hide (lt_of_block HR.out)
      have ltZ_O := hide (lt_of_block HO.out)
      have ltZ_Y := hide (lt_of_block HY.out)
      have ltZ_M := hide (lt_of_block HM.out)
      have lbZ := hide HB.out.size
      refine (HWT.out _ (some ⟨g2, 0, none⟩) c3 RU.out).mono ?_
      rintro e w9 ⟨a9, c9, rfl, o, b⟩
      clear qY_3 qY_4
      replace HX := hide (below_block b HX.out (Nat.le_refl _))
      replace HF := hide (below_block b HF.out (Nat.le_refl _))
      replace HR := hide (below_block b HR.out (Nat.le_refl _))
      replace HO := hide (below_block b HO.out (Nat.le_refl _))
      replace HY := hide (below_block b HY.out (Nat.le_refl _))
      replace HM := hide (below_block b HM.out (Nat.le_refl _))
      replace RP := hide (RP.out.below b (Nat.le_refl _))
      replace RU := hide (RU.out.below b (Nat.le_refl _))
      replace OT := hide (owns_below OT.out b (Nat.le_refl _))
      replace OU := hide (owns_below OU.out b (Nat.le_refl _))
      replace HB := hide (HB.out.trans (b.mono HB.out.size))
      have OZ := hide o
      have neZ_X := hide (own_ne_lt o ltZ_X.out)
      clear ltZ_X
      have neZ_F := hide (own_ne_lt o ltZ_F.out)
      clear ltZ_F
      have neZ_R := hide (own_ne_lt o ltZ_R.out)
      clear ltZ_R
      have neZ_O := hide (own_ne_lt o ltZ_O.out)
      clear ltZ_O
      have neZ_Y := hide (own_ne_lt o ltZ_Y.out)
      clear ltZ_Y
      have neZ_M := hide (own_ne_lt o ltZ_M.out)
      clear ltZ_M
      clear b  o
      have fz := free_at HY.out 5
      have qY_5 : w9.cell? ⟨BY, 5, none⟩ = some (.slice da n dc) := cell_at HY.out 5 rfl
      obtain ⟨w10, hVn, hVH, hVB, hVo, hVs⟩ := set1 (i := 5) (.slice a9 (8 + m) c9) (c' := #[.int .u8 (tt : Int), .int .u8 1, .int .u16 (id : Int), .int .u32 (fs : Int), .int .u32 (fd : Int), .slice a9 (8 + m) c9]) HY.out HB.out NY.out (by kernel_rfl)
      have HVn := hide hVn
      clear hVn
      have HG := hide (gb_part HB.out hVB hVo hVs)
      have HXn := hide ((hVo _ nqX_Y.out).trans HX.out)
      have HFn := hide ((hVo _ nqF_Y.out).trans HF.out)
      have HRn := hide ((hVo _ nqR_Y.out).trans HR.out)
      have HOn := hide ((hVo _ nqO_Y.out).trans HO.out)
      have HYn := hide hVH
      have HMn := hide ((hVo _ nqY_M.out.symm).trans HM.out)
      have RPn := hide (AP.out.below hVB (Nat.le_refl _))
      have RUn := hide (Lies.of_owns (owns_kept OU.out HG.out neU_Y.out))
      have OTn := hide (owns_kept OT.out HG.out neT_Y.out)
      have OUn := hide (owns_kept OU.out HG.out neU_Y.out)
      have OZn := hide (owns_kept OZ.out HG.out neZ_Y.out)
      have HBn := hide hVB
      clear hVH hVB hVo hVs HG
      go_upto_region 30 with (fail)
      rw [HVn.out]
      clear HVn fz
      clear qY_5
      replace HX := HXn
      clear HXn
      replace HF := HFn
      clear HFn
      replace HR := HRn
      clear HRn
      replace HO := HOn
      clear HOn
      replace HY := HYn
      clear HYn
      replace HM := HMn
      clear HMn
      replace RP := RPn
      clear RPn
      replace RU := RUn
      clear RUn
      replace OT := OTn
      clear OTn
      replace OU := OUn
      clear OUn
      replace OZ := OZn
      clear OZn
      replace HB := HBn
      clear HBn
      go_wp2_with (first | (refine ld_whole (o := ⟨some 160, _, _, _, _, _⟩) 27 (.tmp 9) rfl (by rfl) BY rfl #[.int .u8 (tt : Int), .int .u8 1, .int .u16 (id : Int), .int .u32 (fs : Int), .int .u32 (fd : Int), .slice a9 (8 + m) c9] 27 HY.out Try.underlying27 (by kernel_rfl) ?_; try simp only [Act.put, List.setIfInBounds_toArray, List.set_cons_zero, List.set_cons_succ]) | (refine st_part (o := ⟨none, _, _, _, _, _⟩) 27 (.tmp 4) (.tmp 160) rfl (by rfl) BR 0 rfl #[.int .u8 0, .int .u8 0, .int .u16 0, .int .u32 0, .int .u32 0, .slice none 0 0] 27 #[.int .u8 (tt : Int), .int .u8 1, .int .u16 (id : Int), .int .u32 (fs : Int), .int .u32 (fd : Int), .slice a9 (8 + m) c9] rfl HR.out rfl (by kernel_rfl) (by kernel_rfl) HB.out NR.out ?_; rintro w9 w9h w9b w9o w9s; try simp only [Act.put, List.setIfInBounds_toArray, List.set_cons_zero, List.set_cons_succ]))
      rw [upd_whole (by rfl)] at w9h
      exact bodyPost_ret (v := .tuple #[.agg #[.int .u8 (tt : Int), .int .u8 1, .int .u16 (id : Int), .int .u32 (fs : Int), .int .u32 (fd : Int), .slice a9 (8 + m) c9], .int .i64 0]) (results_cell_tmp Try.results12 _ w9 BR _ _ _ _ rfl w9h Try.underlying27 rfl (by kernel_rfl) _ rfl) rfl ⟨a9, c9, rfl, owns_mono (owns_kept OZ.out (gb_part HB.out w9b w9o w9s) neZ_R.out) lbZ.out, w9b⟩
    ·
      obtain ⟨hS2, hD2⟩ := HSD.out
      rw [if_pos hs] at hS2
      rw [if_neg hd] at hD2
      subst hS2 hD2
      have tS : ((S : Int) == (os : Int)) = true := by simp; omega
      have tD : ((D : Int) == (od : Int)) = false := by simp; omega
      clear hs hd HSD
      have qX_3 : w3.cell? ⟨BX, 3, none⟩ = some (.int .u32 (S : Int)) := cell_at HX.out 3 rfl
      have qO_1 : w3.cell? ⟨BO, 1, none⟩ = some (.int .u32 (os : Int)) := cell_at HO.out 1 rfl
      have qF_1 : w3.cell? ⟨BF, 1, none⟩ = some (.int .u32 (fs : Int)) := cell_at HF.out 1 rfl
      have fz := free_at HY.out 3
      have qY_3 : w3.cell? ⟨BY, 3, none⟩ = some (.int .u32 (S : Int)) := cell_at HY.out 3 rfl
      obtain ⟨w4, hVn, hVH, hVB, hVo, hVs⟩ := set1 (i := 3) (.int .u32 (fs : Int)) (c' := #[.int .u8 (tt : Int), .int .u8 1, .int .u16 (id : Int), .int .u32 (fs : Int), .int .u32 (D : Int), .slice da n dc]) HY.out HB.out NY.out (by kernel_rfl)
      have HVn := hide hVn
      clear hVn
      have HG := hide (gb_part HB.out hVB hVo hVs)
      have HXn := hide ((hVo _ nqX_Y.out).trans HX.out)
      have HFn := hide ((hVo _ nqF_Y.out).trans HF.out)
      have HRn := hide ((hVo _ nqR_Y.out).trans HR.out)
      have HOn := hide ((hVo _ nqO_Y.out).trans HO.out)
      have HYn := hide hVH
      have RPn := hide (AP.out.below hVB (Nat.le_refl _))
      have HBn := hide hVB
      clear hVH hVB hVo hVs HG
      go_upto_region 9 with (fail)
      rw [HVn.out]
      clear HVn fz
      clear qX_3 qO_1 qF_1 qY_3
      replace HX := HXn
      clear HXn
      replace HF := HFn
      clear HFn
      replace HR := HRn
      clear HRn
      replace HO := HOn
      clear HOn
      replace HY := HYn
      clear HYn
      replace RP := RPn
      clear RPn
      replace HB := HBn
      clear HBn
      have qX_4 : w4.cell? ⟨BX, 4, none⟩ = some (.int .u32 (D : Int)) := cell_at HX.out 4 rfl
      have qO_2 : w4.cell? ⟨BO, 2, none⟩ = some (.int .u32 (od : Int)) := cell_at HO.out 2 rfl
      go_upto_region 11 with (fail)
      clear qX_4 qO_2
      clear tS tD
      have qX_1 : w4.cell? ⟨BX, 1, none⟩ = some (.int .u8 1) := cell_at HX.out 1 rfl
      go_upto_region 23 with (fail)
      clear qX_1
      have qX_3 : w4.cell? ⟨BX, 3, none⟩ = some (.int .u32 (S : Int)) := cell_at HX.out 3 rfl
      have qX_4 : w4.cell? ⟨BX, 4, none⟩ = some (.int .u32 (D : Int)) := cell_at HX.out 4 rfl
      have qX_5 : w4.cell? ⟨BX, 5, none⟩ = some (.slice da n dc) := cell_at HX.out 5 rfl
      go_wp2_with fail
      have ltT_X := hide (lt_of_block HX.out)
      have ltT_F := hide (lt_of_block HF.out)
      have ltT_R := hide (lt_of_block HR.out)
      have ltT_O := hide (lt_of_block HO.out)
      have ltT_Y := hide (lt_of_block HY.out)
      have lbT := hide HB.out.size
      refine (HRD.out _ RP.out).mono ?_
      rintro e w5 ⟨a2, c2, rfl, o2, b⟩
      clear qX_3 qX_4 qX_5
      replace HX := hide (below_block b HX.out (Nat.le_refl _))
      replace HF := hide (below_block b HF.out (Nat.le_refl _))
      replace HR := hide (below_block b HR.out (Nat.le_refl _))
      replace HO := hide (below_block b HO.out (Nat.le_refl _))
      replace HY := hide (below_block b HY.out (Nat.le_refl _))
      replace RP := hide (RP.out.below b (Nat.le_refl _))
      replace HB := hide (HB.out.trans (b.mono HB.out.size))
      have OT := hide o2
      have neT_X := hide (own_ne_lt o2 ltT_X.out)
      clear ltT_X
      have neT_F := hide (own_ne_lt o2 ltT_F.out)
      clear ltT_F
      have neT_R := hide (own_ne_lt o2 ltT_R.out)
      clear ltT_R
      have neT_O := hide (own_ne_lt o2 ltT_O.out)
      clear ltT_O
      have neT_Y := hide (own_ne_lt o2 ltT_Y.out)
      clear ltT_Y
      clear b  o2
      obtain ⟨g, rfl⟩ := slice_someT OT.out (by omega)
      obtain ⟨w6, hwn, wb, HN1⟩ : ∃ W, w5.alloc (.cells #[.int .u8 (mp : Int), .int .u8 (mq : Int), .int .u32 (mr : Int), .slice (some ⟨g, 0, none⟩) m c2] 55) = W ∧ Below w5.heap.size w5 W ∧ Hid (W.heap[w5.heap.size]? = some (.cells #[.int .u8 (mp : Int), .int .u8 (mq : Int), .int .u32 (mr : Int), .slice (some ⟨g, 0, none⟩) m c2] 55 (0, 0))) := ⟨_, rfl, (Below.refl w5.heap.size w5).alloc (Nat.le_refl _) _, hide (heap_alloc_new w5 _)⟩
      obtain ⟨BM, hBn⟩ : ∃ B, w5.heap.size = B := ⟨_, rfl⟩
      rw [hBn] at HN1
      have HW := hide (And.intro hwn hBn)
      have HBo := HB
      have neT_M := hide (own_ne (L := BM) OT.out (Nat.le_of_eq hBn))
      have nqX_M := hide (blk_ne HX.out hBn)
      have nqF_M := hide (blk_ne HF.out hBn)
      have nqR_M := hide (blk_ne HR.out hBn)
      have nqO_M := hide (blk_ne HO.out hBn)
      have nqY_M := hide (blk_ne HY.out hBn)
      clear hwn hBn
      replace HX := hide (below_block wb HX.out (Nat.le_refl _))
      replace HF := hide (below_block wb HF.out (Nat.le_refl _))
      replace HR := hide (below_block wb HR.out (Nat.le_refl _))
      replace HO := hide (below_block wb HO.out (Nat.le_refl _))
      replace HY := hide (below_block wb HY.out (Nat.le_refl _))
      replace RP := hide (RP.out.below wb (Nat.le_refl _))
      replace OT := hide (owns_below OT.out wb (Nat.le_refl _))
      replace HB := hide (HB.out.trans (wb.mono HB.out.size))
      have HM := HN1
      have NM := hide (show w.heap.size ≤ BM by rw [← HW.out.2]; exact HBo.out.size)
      clear wb HN1 HBo
      go_upto_region 24 with (fail)
      rw [HW.out.1]
      try rw [HW.out.2]
      clear HW
      go_upto_region 25 with (fail)
      have HZ0 := hide (show Below w6.heap.size w6 w6.drew from (Below.refl _ _).drew)
      refine wp_region_U (S := fun w' => w'.cell? ⟨BM, 0, none⟩ = some (.int .u8 (mp : Int)) ∧ w'.cell? ⟨BM, 1, none⟩ = some (.int .u8 (mq : Int)) ∧ w'.cell? ⟨BM, 2, none⟩ = some (.int .u32 (mr : Int)) ∧ w'.cell? ⟨BM, 3, none⟩ = some (.slice (some ⟨g, 0, none⟩) m c2) ∧ w'.cell? ⟨BF, 0, none⟩ = some (.int .u8 (fp : Int)) ∧ w'.cell? ⟨BF, 1, none⟩ = some (.int .u32 (fs : Int)) ∧ w'.cell? ⟨BF, 2, none⟩ = some (.int .u32 (fd : Int)) ∧ w'.cell? ⟨BF, 3, none⟩ = some (.int .u16 (ff : Int)) ∧ w'.cell? ⟨BF, 4, none⟩ = some (.int .u16 (ft : Int))) (t := 6) (by kernel_rfl) (by exact ⟨cell_at (below_block HZ0.out HM.out (Nat.le_refl _)) 0 rfl, cell_at (below_block HZ0.out HM.out (Nat.le_refl _)) 1 rfl, cell_at (below_block HZ0.out HM.out (Nat.le_refl _)) 2 rfl, cell_at (below_block HZ0.out HM.out (Nat.le_refl _)) 3 rfl, cell_at (below_block HZ0.out HF.out (Nat.le_refl _)) 0 rfl, cell_at (below_block HZ0.out HF.out (Nat.le_refl _)) 1 rfl, cell_at (below_block HZ0.out HF.out (Nat.le_refl _)) 2 rfl, cell_at (below_block HZ0.out HF.out (Nat.le_refl _)) 3 rfl, cell_at (below_block HZ0.out HF.out (Nat.le_refl _)) 4 rfl⟩) (fun hHeld => ?_)
      refine wpAnyU_take (i := 0) (oi := { dst := some 127, op := Op.fieldAddr 55 (Operand.tmp 14) 3, type := 0, pos := "ref.go:171", after := #[], guard := none }) (v := ?_) rfl (by kernel_rfl) (by kernel_rfl) (by kernel_rfl) (by kernel_rfl) (fun _ _ _ h => h) (Or.inl ⟨by rfl, ?_⟩) (by assumption) ?_
      rotate_left
      · intro wS hSw
        try dsimp only at hSw
        go_simp
        try with_reducible rfl
      try simp only [Act.put, List.setIfInBounds_toArray, List.set_cons_zero, List.set_cons_succ]
      refine wpAnyU_take (i := 1) (oi := { dst := some 128, op := Op.load 25 (Operand.tmp 127), type := 25, pos := "ref.go:171", after := #[{ on := 0, ground := Ground.data }], guard := none }) (v := ?_) rfl (by kernel_rfl) (by kernel_rfl) (by kernel_rfl) (by kernel_rfl) (fun _ _ _ h => h) (Or.inl ⟨by rfl, ?_⟩) (by assumption) ?_
      rotate_left
      · intro wS hSw
        try dsimp only at hSw
        go_simp
        try with_reducible rfl
      try simp only [Act.put, List.setIfInBounds_toArray, List.set_cons_zero, List.set_cons_succ]
      refine wpAnyU_take (i := 2) (oi := { dst := some 129, op := Op.load 29 (Operand.tmp 3), type := 29, pos := "ref.go:171", after := #[], guard := none }) (v := ?_) rfl (by kernel_rfl) (by kernel_rfl) (by kernel_rfl) (by kernel_rfl) (fun _ _ _ h => h) (Or.inl ⟨by rfl, ?_⟩) (by assumption) ?_
      rotate_left
      · intro wS hSw
        try dsimp only at hSw
        go_simp
        try with_reducible rfl
      try simp only [Act.put, List.setIfInBounds_toArray, List.set_cons_zero, List.set_cons_succ]
      refine wpAnyU_one (i := 3) (o := { dst := some 130, op := Op.call { callee := Callee.value (Operand.func 38), args := #[Operand.tmp 129], argTypes := #[29] }, type := 29, pos := "ref.go:171", after := #[{ on := 2, ground := Ground.data }], guard := none }) (by kernel_rfl) rfl (fun K hK => ?_)
      go_simp
      go_at_call 38
      (with_reducible refine (turnD _ fp fs fd ff ft).mono ?_)
      rintro e zA ⟨rfl, b⟩
      have HzA := hide (show Below w6.heap.size w6 zA from HZ0.out.trans (Below.mono b HZ0.out.size))
      clear b
      refine hK.out _ _ (fun _ => ⟨cell_at (below_block HzA.out HM.out (Nat.le_refl _)) 0 rfl, cell_at (below_block HzA.out HM.out (Nat.le_refl _)) 1 rfl, cell_at (below_block HzA.out HM.out (Nat.le_refl _)) 2 rfl, cell_at (below_block HzA.out HM.out (Nat.le_refl _)) 3 rfl, cell_at (below_block HzA.out HF.out (Nat.le_refl _)) 0 rfl, cell_at (below_block HzA.out HF.out (Nat.le_refl _)) 1 rfl, cell_at (below_block HzA.out HF.out (Nat.le_refl _)) 2 rfl, cell_at (below_block HzA.out HF.out (Nat.le_refl _)) 3 rfl, cell_at (below_block HzA.out HF.out (Nat.le_refl _)) 4 rfl⟩) (fun hHeld1 => ?_)
      clear hK K
      try simp only [Act.put, List.setIfInBounds_toArray, List.set_cons_zero, List.set_cons_succ]
      refine wpAnyU_one (i := 4) (o := { dst := some 131, op := Op.call { callee := Callee.value (Operand.func 37), args := #[Operand.tmp 128, Operand.tmp 130], argTypes := #[25, 29] }, type := 25, pos := "ref.go:171", after := #[{ on := 1, ground := Ground.data }, { on := 3, ground := Ground.data }, { on := 3, ground := Ground.chain }], guard := none }) (by kernel_rfl) rfl (fun K hK => ?_)
      go_simp
      go_at_call 37
      (with_reducible refine (HRT.out zA (some ⟨g, 0, none⟩) c2 ((Lies.of_owns OT.out).below HzA.out (Nat.le_refl _))).mono ?_)
      rintro e zB ⟨g2, c3, rfl, o, b⟩
      have HzB := hide (show Below w6.heap.size w6 zB from HzA.out.trans (Below.mono b HzA.out.size))
      have OU := hide o
      have neU_X := hide (own_ne_lt o (lt_of_block (below_block HzA.out HX.out (Nat.le_refl _))))
      have neU_F := hide (own_ne_lt o (lt_of_block (below_block HzA.out HF.out (Nat.le_refl _))))
      have neU_R := hide (own_ne_lt o (lt_of_block (below_block HzA.out HR.out (Nat.le_refl _))))
      have neU_O := hide (own_ne_lt o (lt_of_block (below_block HzA.out HO.out (Nat.le_refl _))))
      have neU_Y := hide (own_ne_lt o (lt_of_block (below_block HzA.out HY.out (Nat.le_refl _))))
      have neU_M := hide (own_ne_lt o (lt_of_block (below_block HzA.out HM.out (Nat.le_refl _))))
      have lbU := hide (show w.heap.size ≤ zA.heap.size from Nat.le_trans HB.out.size HzA.out.size)
      clear b o
      refine hK.out _ _ (fun _ => ⟨cell_at (below_block HzB.out HM.out (Nat.le_refl _)) 0 rfl, cell_at (below_block HzB.out HM.out (Nat.le_refl _)) 1 rfl, cell_at (below_block HzB.out HM.out (Nat.le_refl _)) 2 rfl, cell_at (below_block HzB.out HM.out (Nat.le_refl _)) 3 rfl, cell_at (below_block HzB.out HF.out (Nat.le_refl _)) 0 rfl, cell_at (below_block HzB.out HF.out (Nat.le_refl _)) 1 rfl, cell_at (below_block HzB.out HF.out (Nat.le_refl _)) 2 rfl, cell_at (below_block HzB.out HF.out (Nat.le_refl _)) 3 rfl, cell_at (below_block HzB.out HF.out (Nat.le_refl _)) 4 rfl⟩) (fun hHeld2 => ?_)
      clear hK K
      try simp only [Act.put, List.setIfInBounds_toArray, List.set_cons_zero, List.set_cons_succ]
      have hHX := hHeld2 (by decide)
      refine wpAnyU_take (i := 5) (oi := { dst := some 132, op := Op.fieldAddr 55 (Operand.tmp 14) 3, type := 0, pos := "ref.go:171", after := #[{ on := 0, ground := Ground.phase }, { on := 1, ground := Ground.phase }, { on := 2, ground := Ground.phase }, { on := 3, ground := Ground.phase }, { on := 4, ground := Ground.phase }], guard := none }) (v := ?_) rfl (by kernel_rfl) (by kernel_rfl) (by kernel_rfl) (by kernel_rfl) (fun _ _ _ h => h) (Or.inl ⟨by rfl, ?_⟩) (by assumption) ?_
      rotate_left
      · intro wS hSw
        try dsimp only at hSw
        go_simp
        try with_reducible rfl
      try simp only [Act.put, List.setIfInBounds_toArray, List.set_cons_zero, List.set_cons_succ]
      have hbz := HzB.out
      replace HX := hide (below_block hbz HX.out (Nat.le_refl _))
      replace HF := hide (below_block hbz HF.out (Nat.le_refl _))
      replace HR := hide (below_block hbz HR.out (Nat.le_refl _))
      replace HO := hide (below_block hbz HO.out (Nat.le_refl _))
      replace HY := hide (below_block hbz HY.out (Nat.le_refl _))
      replace HM := hide (below_block hbz HM.out (Nat.le_refl _))
      replace RP := hide (RP.out.below hbz (Nat.le_refl _))
      replace OT := hide (owns_below OT.out hbz (Nat.le_refl _))
      replace HB := hide (HB.out.trans (hbz.mono HB.out.size))
      have RU := hide (Lies.of_owns OU.out)
      clear hbz
      have fz := free_at HM.out 3
      have qM_3 : zB.cell? ⟨BM, 3, none⟩ = some (.slice (some ⟨g, 0, none⟩) m c2) := cell_at HM.out 3 rfl
      obtain ⟨w7, hVn, hVH, hVB, hVo, hVs⟩ := set1 (i := 3) (.slice (some ⟨g2, 0, none⟩) m c3) (c' := #[.int .u8 (mp : Int), .int .u8 (mq : Int), .int .u32 (mr : Int), .slice (some ⟨g2, 0, none⟩) m c3]) HM.out HB.out NM.out (by kernel_rfl)
      have HVn := hide hVn
      clear hVn
      have HG := hide (gb_part HB.out hVB hVo hVs)
      have HXn := hide ((hVo _ nqX_M.out).trans HX.out)
      have HFn := hide ((hVo _ nqF_M.out).trans HF.out)
      have HRn := hide ((hVo _ nqR_M.out).trans HR.out)
      have HOn := hide ((hVo _ nqO_M.out).trans HO.out)
      have HYn := hide ((hVo _ nqY_M.out).trans HY.out)
      have HMn := hide hVH
      have RPn := hide (AP.out.below hVB (Nat.le_refl _))
      have RUn := hide (Lies.of_owns (owns_kept OU.out HG.out neU_M.out))
      have OTn := hide (owns_kept OT.out HG.out neT_M.out)
      have OUn := hide (owns_kept OU.out HG.out neU_M.out)
      have HBn := hide hVB
      clear hVH hVB hVo hVs HG
      refine wpAnyU_one (i := 6) (o := { dst := none, op := Op.store 25 (Operand.tmp 132) (Operand.tmp 131), type := 0, pos := "ref.go:171", after := #[{ on := 5, ground := Ground.data }, { on := 4, ground := Ground.data }, { on := 4, ground := Ground.chain }, { on := 0, ground := Ground.phase }, { on := 1, ground := Ground.phase }, { on := 2, ground := Ground.phase }, { on := 3, ground := Ground.phase }, { on := 4, ground := Ground.phase }], guard := none }) (by kernel_rfl) rfl (fun K hK => ?_)
      go_simp
      refine hK.out _ _ (fun h => absurd h (by decide)) (fun _ => ?_)
      clear hK K
      try simp only [Act.put, List.setIfInBounds_toArray, List.set_cons_zero, List.set_cons_succ]
      refine wpAnyU_done (by kernel_rfl) ?_ _
      rw [HVn.out]
      clear HVn fz
      clear qM_3
      replace HX := HXn
      clear HXn
      replace HF := HFn
      clear HFn
      replace HR := HRn
      clear HRn
      replace HO := HOn
      clear HOn
      replace HY := HYn
      clear HYn
      replace HM := HMn
      clear HMn
      replace RP := RPn
      clear RPn
      replace RU := RUn
      clear RUn
      replace OT := OTn
      clear OTn
      replace OU := OUn
      clear OUn
      replace HB := HBn
      clear HBn
      clear hHeld hHeld1 hHeld2 hHX HZ0 HzA HzB HRT
      go_upto_region 29 with (fail)
      have qY_3 : w7.cell? ⟨BY, 3, none⟩ = some (.int .u32 (fs : Int)) := cell_at HY.out 3 rfl
      have qY_4 : w7.cell? ⟨BY, 4, none⟩ = some (.int .u32 (D : Int)) := cell_at HY.out 4 rfl
      go_wp2_with ((refine ld_whole (o := ⟨some 155, _, _, _, _, _⟩) 55 (.tmp 14) rfl (by rfl) BM rfl #[.int .u8 (mp : Int), .int .u8 (mq : Int), .int .u32 (mr : Int), .slice (some ⟨g2, 0, none⟩) m c3] 55 HM.out Try.underlying55 (by kernel_rfl) ?_; try simp only [Act.put, List.setIfInBounds_toArray, List.set_cons_zero, List.set_cons_succ]))
      have ltZ_X := hide (lt_of_block HX.out)
      have ltZ_F := hide (lt_of_block HF.out)
      have ltZ_R := hide (lt_of_block HR.out)
      have ltZ_O := hide (lt_of_block HO.out)
      have ltZ_Y := hide (lt_of_block HY.out)
      have ltZ_M := hide (lt_of_block HM.out)
      have lbZ := hide HB.out.size
      refine (HWT.out _ (some ⟨g2, 0, none⟩) c3 RU.out).mono ?_
      rintro e w8 ⟨a9, c9, rfl, o, b⟩
      clear qY_3 qY_4
      replace HX := hide (below_block b HX.out (Nat.le_refl _))
      replace HF := hide (below_block b HF.out (Nat.le_refl _))
      replace HR := hide (below_block b HR.out (Nat.le_refl _))
      replace HO := hide (below_block b HO.out (Nat.le_refl _))
      replace HY := hide (below_block b HY.out (Nat.le_refl _))
      replace HM := hide (below_block b HM.out (Nat.le_refl _))
      replace RP := hide (RP.out.below b (Nat.le_refl _))
      replace RU := hide (RU.out.below b (Nat.le_refl _))
      replace OT := hide (owns_below OT.out b (Nat.le_refl _))
      replace OU := hide (owns_below OU.out b (Nat.le_refl _))
      replace HB := hide (HB.out.trans (b.mono HB.out.size))
      have OZ := hide o
      have neZ_X := hide (own_ne_lt o ltZ_X.out)
      clear ltZ_X
      have neZ_F := hide (own_ne_lt o ltZ_F.out)
      clear ltZ_F
      have neZ_R := hide (own_ne_lt o ltZ_R.out)
      clear ltZ_R
      have neZ_O := hide (own_ne_lt o ltZ_O.out)
      clear ltZ_O
      have neZ_Y := hide (own_ne_lt o ltZ_Y.out)
      clear ltZ_Y
      have neZ_M := hide (own_ne_lt o ltZ_M.out)
      clear ltZ_M
      clear b  o
      have fz := free_at HY.out 5
      have qY_5 : w8.cell? ⟨BY, 5, none⟩ = some (.slice da n dc) := cell_at HY.out 5 rfl
      obtain ⟨w9, hVn, hVH, hVB, hVo, hVs⟩ := set1 (i := 5) (.slice a9 (8 + m) c9) (c' := #[.int .u8 (tt : Int), .int .u8 1, .int .u16 (id : Int), .int .u32 (fs : Int), .int .u32 (D : Int), .slice a9 (8 + m) c9]) HY.out HB.out NY.out (by kernel_rfl)
      have HVn := hide hVn
      clear hVn
      have HG := hide (gb_part HB.out hVB hVo hVs)
      have HXn := hide ((hVo _ nqX_Y.out).trans HX.out)
      have HFn := hide ((hVo _ nqF_Y.out).trans HF.out)
      have HRn := hide ((hVo _ nqR_Y.out).trans HR.out)
      have HOn := hide ((hVo _ nqO_Y.out).trans HO.out)
      have HYn := hide hVH
      have HMn := hide ((hVo _ nqY_M.out.symm).trans HM.out)
      have RPn := hide (AP.out.below hVB (Nat.le_refl _))
      have RUn := hide (Lies.of_owns (owns_kept OU.out HG.out neU_Y.out))
      have OTn := hide (owns_kept OT.out HG.out neT_Y.out)
      have OUn := hide (owns_kept OU.out HG.out neU_Y.out)
      have OZn := hide (owns_kept OZ.out HG.out neZ_Y.out)
      have HBn := hide hVB
      clear hVH hVB hVo hVs HG
      go_upto_region 30 with (fail)
      rw [HVn.out]
      clear HVn fz
      clear qY_5
      replace HX := HXn
      clear HXn
      replace HF := HFn
      clear HFn
      replace HR := HRn
      clear HRn
      replace HO := HOn
      clear HOn
      replace HY := HYn
      clear HYn
      replace HM := HMn
      clear HMn
      replace RP := RPn
      clear RPn
      replace RU := RUn
      clear RUn
      replace OT := OTn
      clear OTn
      replace OU := OUn
      clear OUn
      replace OZ := OZn
      clear OZn
      replace HB := HBn
      clear HBn
      go_wp2_with (first | (refine ld_whole (o := ⟨some 160, _, _, _, _, _⟩) 27 (.tmp 9) rfl (by rfl) BY rfl #[.int .u8 (tt : Int), .int .u8 1, .int .u16 (id : Int), .int .u32 (fs : Int), .int .u32 (D : Int), .slice a9 (8 + m) c9] 27 HY.out Try.underlying27 (by kernel_rfl) ?_; try simp only [Act.put, List.setIfInBounds_toArray, List.set_cons_zero, List.set_cons_succ]) | (refine st_part (o := ⟨none, _, _, _, _, _⟩) 27 (.tmp 4) (.tmp 160) rfl (by rfl) BR 0 rfl #[.int .u8 0, .int .u8 0, .int .u16 0, .int .u32 0, .int .u32 0, .slice none 0 0] 27 #[.int .u8 (tt : Int), .int .u8 1, .int .u16 (id : Int), .int .u32 (fs : Int), .int .u32 (D : Int), .slice a9 (8 + m) c9] rfl HR.out rfl (by kernel_rfl) (by kernel_rfl) HB.out NR.out ?_; rintro w9 w9h w9b w9o w9s; try simp only [Act.put, List.setIfInBounds_toArray, List.set_cons_zero, List.set_cons_succ]))
      rw [upd_whole (by rfl)] at w9h
      exact bodyPost_ret (v := .tuple #[.agg #[.int .u8 (tt : Int), .int .u8 1, .int .u16 (id : Int), .int .u32 (fs : Int), .int .u32 (D : Int), .slice a9 (8 + m) c9], .int .i64 0]) (results_cell_tmp Try.results12 _ w9 BR _ _ _ _ rfl w9h Try.underlying27 rfl (by kernel_rfl) _ rfl) rfl ⟨a9, c9, rfl, owns_mono (owns_kept OZ.out (gb_part HB.out w9b w9o w9s) neZ_R.out) lbZ.out, w9b⟩
  ·
    by_cases hd : D = od
    ·
      obtain ⟨hS2, hD2⟩ := HSD.out
      rw [if_neg hs] at hS2
      rw [if_pos hd] at hD2
      subst hS2 hD2
      have tS : ((S : Int) == (os : Int)) = false := by simp; omega
      have tD : ((D : Int) == (od : Int)) = true := by simp; omega
      clear hs hd HSD
      have qX_3 : w3.cell? ⟨BX, 3, none⟩ = some (.int .u32 (S : Int)) := cell_at HX.out 3 rfl
      have qO_1 : w3.cell? ⟨BO, 1, none⟩ = some (.int .u32 (os : Int)) := cell_at HO.out 1 rfl
      go_upto_region 9 with (fail)
      clear qX_3 qO_1
      have qX_4 : w3.cell? ⟨BX, 4, none⟩ = some (.int .u32 (D : Int)) := cell_at HX.out 4 rfl
      have qO_2 : w3.cell? ⟨BO, 2, none⟩ = some (.int .u32 (od : Int)) := cell_at HO.out 2 rfl
      have qF_2 : w3.cell? ⟨BF, 2, none⟩ = some (.int .u32 (fd : Int)) := cell_at HF.out 2 rfl
      have fz := free_at HY.out 4
      have qY_4 : w3.cell? ⟨BY, 4, none⟩ = some (.int .u32 (D : Int)) := cell_at HY.out 4 rfl
      obtain ⟨w4, hVn, hVH, hVB, hVo, hVs⟩ := set1 (i := 4) (.int .u32 (fd : Int)) (c' := #[.int .u8 (tt : Int), .int .u8 1, .int .u16 (id : Int), .int .u32 (S : Int), .int .u32 (fd : Int), .slice da n dc]) HY.out HB.out NY.out (by kernel_rfl)
      have HVn := hide hVn
      clear hVn
      have HG := hide (gb_part HB.out hVB hVo hVs)
      have HXn := hide ((hVo _ nqX_Y.out).trans HX.out)
      have HFn := hide ((hVo _ nqF_Y.out).trans HF.out)
      have HRn := hide ((hVo _ nqR_Y.out).trans HR.out)
      have HOn := hide ((hVo _ nqO_Y.out).trans HO.out)
      have HYn := hide hVH
      have RPn := hide (AP.out.below hVB (Nat.le_refl _))
      have HBn := hide hVB
      clear hVH hVB hVo hVs HG
      go_upto_region 11 with (fail)
      rw [HVn.out]
      clear HVn fz
      clear qX_4 qO_2 qF_2 qY_4
      replace HX := HXn
      clear HXn
      replace HF := HFn
      clear HFn
      replace HR := HRn
      clear HRn
      replace HO := HOn
      clear HOn
      replace HY := HYn
      clear HYn
      replace RP := RPn
      clear RPn
      replace HB := HBn
      clear HBn
      clear tS tD
      have qX_1 : w4.cell? ⟨BX, 1, none⟩ = some (.int .u8 1) := cell_at HX.out 1 rfl
      go_upto_region 23 with (fail)
      clear qX_1
      have qX_3 : w4.cell? ⟨BX, 3, none⟩ = some (.int .u32 (S : Int)) := cell_at HX.out 3 rfl
      have qX_4 : w4.cell? ⟨BX, 4, none⟩ = some (.int .u32 (D : Int)) := cell_at HX.out 4 rfl
      have qX_5 : w4.cell? ⟨BX, 5, none⟩ = some (.slice da n dc) := cell_at HX.out 5 rfl
      go_wp2_with fail
      have ltT_X := hide (lt_of_block HX.out)
      have ltT_F := hide (lt_of_block HF.out)
      have ltT_R := hide (lt_of_block HR.out)
      have ltT_O := hide (lt_of_block HO.out)
      have ltT_Y := hide (lt_of_block HY.out)
      have lbT := hide HB.out.size
      refine (HRD.out _ RP.out).mono ?_
      rintro e w5 ⟨a2, c2, rfl, o2, b⟩
      clear qX_3 qX_4 qX_5
      replace HX := hide (below_block b HX.out (Nat.le_refl _))
      replace HF := hide (below_block b HF.out (Nat.le_refl _))
      replace HR := hide (below_block b HR.out (Nat.le_refl _))
      replace HO := hide (below_block b HO.out (Nat.le_refl _))
      replace HY := hide (below_block b HY.out (Nat.le_refl _))
      replace RP := hide (RP.out.below b (Nat.le_refl _))
      replace HB := hide (HB.out.trans (b.mono HB.out.size))
      have OT := hide o2
      have neT_X := hide (own_ne_lt o2 ltT_X.out)
      clear ltT_X
      have neT_F := hide (own_ne_lt o2 ltT_F.out)
      clear ltT_F
      have neT_R := hide (own_ne_lt o2 ltT_R.out)
      clear ltT_R
      have neT_O := hide (own_ne_lt o2 ltT_O.out)
      clear ltT_O
      have neT_Y := hide (own_ne_lt o2 ltT_Y.out)
      clear ltT_Y
      clear b  o2
      obtain ⟨g, rfl⟩ := slice_someT OT.out (by omega)
      obtain ⟨w6, hwn, wb, HN1⟩ : ∃ W, w5.alloc (.cells #[.int .u8 (mp : Int), .int .u8 (mq : Int), .int .u32 (mr : Int), .slice (some ⟨g, 0, none⟩) m c2] 55) = W ∧ Below w5.heap.size w5 W ∧ Hid (W.heap[w5.heap.size]? = some (.cells #[.int .u8 (mp : Int), .int .u8 (mq : Int), .int .u32 (mr : Int), .slice (some ⟨g, 0, none⟩) m c2] 55 (0, 0))) := ⟨_, rfl, (Below.refl w5.heap.size w5).alloc (Nat.le_refl _) _, hide (heap_alloc_new w5 _)⟩
      obtain ⟨BM, hBn⟩ : ∃ B, w5.heap.size = B := ⟨_, rfl⟩
      rw [hBn] at HN1
      have HW := hide (And.intro hwn hBn)
      have HBo := HB
      have neT_M := hide (own_ne (L := BM) OT.out (Nat.le_of_eq hBn))
      have nqX_M := hide (blk_ne HX.out hBn)
      have nqF_M := hide (blk_ne HF.out hBn)
      have nqR_M := hide (blk_ne HR.out hBn)
      have nqO_M := hide (blk_ne HO.out hBn)
      have nqY_M := hide (blk_ne HY.out hBn)
      clear hwn hBn
      replace HX := hide (below_block wb HX.out (Nat.le_refl _))
      replace HF := hide (below_block wb HF.out (Nat.le_refl _))
      replace HR := hide (below_block wb HR.out (Nat.le_refl _))
      replace HO := hide (below_block wb HO.out (Nat.le_refl _))
      replace HY := hide (below_block wb HY.out (Nat.le_refl _))
      replace RP := hide (RP.out.below wb (Nat.le_refl _))
      replace OT := hide (owns_below OT.out wb (Nat.le_refl _))
      replace HB := hide (HB.out.trans (wb.mono HB.out.size))
      have HM := HN1
      have NM := hide (show w.heap.size ≤ BM by rw [← HW.out.2]; exact HBo.out.size)
      clear wb HN1 HBo
      go_upto_region 24 with (fail)
      rw [HW.out.1]
      try rw [HW.out.2]
      clear HW
      go_upto_region 25 with (fail)
      have HZ0 := hide (show Below w6.heap.size w6 w6.drew from (Below.refl _ _).drew)
      refine wp_region_U (S := fun w' => w'.cell? ⟨BM, 0, none⟩ = some (.int .u8 (mp : Int)) ∧ w'.cell? ⟨BM, 1, none⟩ = some (.int .u8 (mq : Int)) ∧ w'.cell? ⟨BM, 2, none⟩ = some (.int .u32 (mr : Int)) ∧ w'.cell? ⟨BM, 3, none⟩ = some (.slice (some ⟨g, 0, none⟩) m c2) ∧ w'.cell? ⟨BF, 0, none⟩ = some (.int .u8 (fp : Int)) ∧ w'.cell? ⟨BF, 1, none⟩ = some (.int .u32 (fs : Int)) ∧ w'.cell? ⟨BF, 2, none⟩ = some (.int .u32 (fd : Int)) ∧ w'.cell? ⟨BF, 3, none⟩ = some (.int .u16 (ff : Int)) ∧ w'.cell? ⟨BF, 4, none⟩ = some (.int .u16 (ft : Int))) (t := 6) (by kernel_rfl) (by exact ⟨cell_at (below_block HZ0.out HM.out (Nat.le_refl _)) 0 rfl, cell_at (below_block HZ0.out HM.out (Nat.le_refl _)) 1 rfl, cell_at (below_block HZ0.out HM.out (Nat.le_refl _)) 2 rfl, cell_at (below_block HZ0.out HM.out (Nat.le_refl _)) 3 rfl, cell_at (below_block HZ0.out HF.out (Nat.le_refl _)) 0 rfl, cell_at (below_block HZ0.out HF.out (Nat.le_refl _)) 1 rfl, cell_at (below_block HZ0.out HF.out (Nat.le_refl _)) 2 rfl, cell_at (below_block HZ0.out HF.out (Nat.le_refl _)) 3 rfl, cell_at (below_block HZ0.out HF.out (Nat.le_refl _)) 4 rfl⟩) (fun hHeld => ?_)
      refine wpAnyU_take (i := 0) (oi := { dst := some 127, op := Op.fieldAddr 55 (Operand.tmp 14) 3, type := 0, pos := "ref.go:171", after := #[], guard := none }) (v := ?_) rfl (by kernel_rfl) (by kernel_rfl) (by kernel_rfl) (by kernel_rfl) (fun _ _ _ h => h) (Or.inl ⟨by rfl, ?_⟩) (by assumption) ?_
      rotate_left
      · intro wS hSw
        try dsimp only at hSw
        go_simp
        try with_reducible rfl
      try simp only [Act.put, List.setIfInBounds_toArray, List.set_cons_zero, List.set_cons_succ]
      refine wpAnyU_take (i := 1) (oi := { dst := some 128, op := Op.load 25 (Operand.tmp 127), type := 25, pos := "ref.go:171", after := #[{ on := 0, ground := Ground.data }], guard := none }) (v := ?_) rfl (by kernel_rfl) (by kernel_rfl) (by kernel_rfl) (by kernel_rfl) (fun _ _ _ h => h) (Or.inl ⟨by rfl, ?_⟩) (by assumption) ?_
      rotate_left
      · intro wS hSw
        try dsimp only at hSw
        go_simp
        try with_reducible rfl
      try simp only [Act.put, List.setIfInBounds_toArray, List.set_cons_zero, List.set_cons_succ]
      refine wpAnyU_take (i := 2) (oi := { dst := some 129, op := Op.load 29 (Operand.tmp 3), type := 29, pos := "ref.go:171", after := #[], guard := none }) (v := ?_) rfl (by kernel_rfl) (by kernel_rfl) (by kernel_rfl) (by kernel_rfl) (fun _ _ _ h => h) (Or.inl ⟨by rfl, ?_⟩) (by assumption) ?_
      rotate_left
      · intro wS hSw
        try dsimp only at hSw
        go_simp
        try with_reducible rfl
      try simp only [Act.put, List.setIfInBounds_toArray, List.set_cons_zero, List.set_cons_succ]
      refine wpAnyU_one (i := 3) (o := { dst := some 130, op := Op.call { callee := Callee.value (Operand.func 38), args := #[Operand.tmp 129], argTypes := #[29] }, type := 29, pos := "ref.go:171", after := #[{ on := 2, ground := Ground.data }], guard := none }) (by kernel_rfl) rfl (fun K hK => ?_)
      go_simp
      go_at_call 38
      (with_reducible refine (turnD _ fp fs fd ff ft).mono ?_)
      rintro e zA ⟨rfl, b⟩
      have HzA := hide (show Below w6.heap.size w6 zA from HZ0.out.trans (Below.mono b HZ0.out.size))
      clear b
      refine hK.out _ _ (fun _ => ⟨cell_at (below_block HzA.out HM.out (Nat.le_refl _)) 0 rfl, cell_at (below_block HzA.out HM.out (Nat.le_refl _)) 1 rfl, cell_at (below_block HzA.out HM.out (Nat.le_refl _)) 2 rfl, cell_at (below_block HzA.out HM.out (Nat.le_refl _)) 3 rfl, cell_at (below_block HzA.out HF.out (Nat.le_refl _)) 0 rfl, cell_at (below_block HzA.out HF.out (Nat.le_refl _)) 1 rfl, cell_at (below_block HzA.out HF.out (Nat.le_refl _)) 2 rfl, cell_at (below_block HzA.out HF.out (Nat.le_refl _)) 3 rfl, cell_at (below_block HzA.out HF.out (Nat.le_refl _)) 4 rfl⟩) (fun hHeld1 => ?_)
      clear hK K
      try simp only [Act.put, List.setIfInBounds_toArray, List.set_cons_zero, List.set_cons_succ]
      refine wpAnyU_one (i := 4) (o := { dst := some 131, op := Op.call { callee := Callee.value (Operand.func 37), args := #[Operand.tmp 128, Operand.tmp 130], argTypes := #[25, 29] }, type := 25, pos := "ref.go:171", after := #[{ on := 1, ground := Ground.data }, { on := 3, ground := Ground.data }, { on := 3, ground := Ground.chain }], guard := none }) (by kernel_rfl) rfl (fun K hK => ?_)
      go_simp
      go_at_call 37
      (with_reducible refine (HRT.out zA (some ⟨g, 0, none⟩) c2 ((Lies.of_owns OT.out).below HzA.out (Nat.le_refl _))).mono ?_)
      rintro e zB ⟨g2, c3, rfl, o, b⟩
      have HzB := hide (show Below w6.heap.size w6 zB from HzA.out.trans (Below.mono b HzA.out.size))
      have OU := hide o
      have neU_X := hide (own_ne_lt o (lt_of_block (below_block HzA.out HX.out (Nat.le_refl _))))
      have neU_F := hide (own_ne_lt o (lt_of_block (below_block HzA.out HF.out (Nat.le_refl _))))
      have neU_R := hide (own_ne_lt o (lt_of_block (below_block HzA.out HR.out (Nat.le_refl _))))
      have neU_O := hide (own_ne_lt o (lt_of_block (below_block HzA.out HO.out (Nat.le_refl _))))
      have neU_Y := hide (own_ne_lt o (lt_of_block (below_block HzA.out HY.out (Nat.le_refl _))))
      have neU_M := hide (own_ne_lt o (lt_of_block (below_block HzA.out HM.out (Nat.le_refl _))))
      have lbU := hide (show w.heap.size ≤ zA.heap.size from Nat.le_trans HB.out.size HzA.out.size)
      clear b o
      refine hK.out _ _ (fun _ => ⟨cell_at (below_block HzB.out HM.out (Nat.le_refl _)) 0 rfl, cell_at (below_block HzB.out HM.out (Nat.le_refl _)) 1 rfl, cell_at (below_block HzB.out HM.out (Nat.le_refl _)) 2 rfl, cell_at (below_block HzB.out HM.out (Nat.le_refl _)) 3 rfl, cell_at (below_block HzB.out HF.out (Nat.le_refl _)) 0 rfl, cell_at (below_block HzB.out HF.out (Nat.le_refl _)) 1 rfl, cell_at (below_block HzB.out HF.out (Nat.le_refl _)) 2 rfl, cell_at (below_block HzB.out HF.out (Nat.le_refl _)) 3 rfl, cell_at (below_block HzB.out HF.out (Nat.le_refl _)) 4 rfl⟩) (fun hHeld2 => ?_)
      clear hK K
      try simp only [Act.put, List.setIfInBounds_toArray, List.set_cons_zero, List.set_cons_succ]
      have hHX := hHeld2 (by decide)
      refine wpAnyU_take (i := 5) (oi := { dst := some 132, op := Op.fieldAddr 55 (Operand.tmp 14) 3, type := 0, pos := "ref.go:171", after := #[{ on := 0, ground := Ground.phase }, { on := 1, ground := Ground.phase }, { on := 2, ground := Ground.phase }, { on := 3, ground := Ground.phase }, { on := 4, ground := Ground.phase }], guard := none }) (v := ?_) rfl (by kernel_rfl) (by kernel_rfl) (by kernel_rfl) (by kernel_rfl) (fun _ _ _ h => h) (Or.inl ⟨by rfl, ?_⟩) (by assumption) ?_
      rotate_left
      · intro wS hSw
        try dsimp only at hSw
        go_simp
        try with_reducible rfl
      try simp only [Act.put, List.setIfInBounds_toArray, List.set_cons_zero, List.set_cons_succ]
      have hbz := HzB.out
      replace HX := hide (below_block hbz HX.out (Nat.le_refl _))
      replace HF := hide (below_block hbz HF.out (Nat.le_refl _))
      replace HR := hide (below_block hbz HR.out (Nat.le_refl _))
      replace HO := hide (below_block hbz HO.out (Nat.le_refl _))
      replace HY := hide (below_block hbz HY.out (Nat.le_refl _))
      replace HM := hide (below_block hbz HM.out (Nat.le_refl _))
      replace RP := hide (RP.out.below hbz (Nat.le_refl _))
      replace OT := hide (owns_below OT.out hbz (Nat.le_refl _))
      replace HB := hide (HB.out.trans (hbz.mono HB.out.size))
      have RU := hide (Lies.of_owns OU.out)
      clear hbz
      have fz := free_at HM.out 3
      have qM_3 : zB.cell? ⟨BM, 3, none⟩ = some (.slice (some ⟨g, 0, none⟩) m c2) := cell_at HM.out 3 rfl
      obtain ⟨w7, hVn, hVH, hVB, hVo, hVs⟩ := set1 (i := 3) (.slice (some ⟨g2, 0, none⟩) m c3) (c' := #[.int .u8 (mp : Int), .int .u8 (mq : Int), .int .u32 (mr : Int), .slice (some ⟨g2, 0, none⟩) m c3]) HM.out HB.out NM.out (by kernel_rfl)
      have HVn := hide hVn
      clear hVn
      have HG := hide (gb_part HB.out hVB hVo hVs)
      have HXn := hide ((hVo _ nqX_M.out).trans HX.out)
      have HFn := hide ((hVo _ nqF_M.out).trans HF.out)
      have HRn := hide ((hVo _ nqR_M.out).trans HR.out)
      have HOn := hide ((hVo _ nqO_M.out).trans HO.out)
      have HYn := hide ((hVo _ nqY_M.out).trans HY.out)
      have HMn := hide hVH
      have RPn := hide (AP.out.below hVB (Nat.le_refl _))
      have RUn := hide (Lies.of_owns (owns_kept OU.out HG.out neU_M.out))
      have OTn := hide (owns_kept OT.out HG.out neT_M.out)
      have OUn := hide (owns_kept OU.out HG.out neU_M.out)
      have HBn := hide hVB
      clear hVH hVB hVo hVs HG
      refine wpAnyU_one (i := 6) (o := { dst := none, op := Op.store 25 (Operand.tmp 132) (Operand.tmp 131), type := 0, pos := "ref.go:171", after := #[{ on := 5, ground := Ground.data }, { on := 4, ground := Ground.data }, { on := 4, ground := Ground.chain }, { on := 0, ground := Ground.phase }, { on := 1, ground := Ground.phase }, { on := 2, ground := Ground.phase }, { on := 3, ground := Ground.phase }, { on := 4, ground := Ground.phase }], guard := none }) (by kernel_rfl) rfl (fun K hK => ?_)
      go_simp
      refine hK.out _ _ (fun h => absurd h (by decide)) (fun _ => ?_)
      clear hK K
      try simp only [Act.put, List.setIfInBounds_toArray, List.set_cons_zero, List.set_cons_succ]
      refine wpAnyU_done (by kernel_rfl) ?_ _
      rw [HVn.out]
      clear HVn fz
      clear qM_3
      replace HX := HXn
      clear HXn
      replace HF := HFn
      clear HFn
      replace HR := HRn
      clear HRn
      replace HO := HOn
      clear HOn
      replace HY := HYn
      clear HYn
      replace HM := HMn
      clear HMn
      replace RP := RPn
      clear RPn
      replace RU := RUn
      clear RUn
      replace OT := OTn
      clear OTn
      replace OU := OUn
      clear OUn
      replace HB := HBn
      clear HBn
      clear hHeld hHeld1 hHeld2 hHX HZ0 HzA HzB HRT
      go_upto_region 29 with (fail)
      have qY_3 : w7.cell? ⟨BY, 3, none⟩ = some (.int .u32 (S : Int)) := cell_at HY.out 3 rfl
      have qY_4 : w7.cell? ⟨BY, 4, none⟩ = some (.int .u32 (fd : Int)) := cell_at HY.out 4 rfl
      go_wp2_with ((refine ld_whole (o := ⟨some 155, _, _, _, _, _⟩) 55 (.tmp 14) rfl (by rfl) BM rfl #[.int .u8 (mp : Int), .int .u8 (mq : Int), .int .u32 (mr : Int), .slice (some ⟨g2, 0, none⟩) m c3] 55 HM.out Try.underlying55 (by kernel_rfl) ?_; try simp only [Act.put, List.setIfInBounds_toArray, List.set_cons_zero, List.set_cons_succ]))
      have ltZ_X := hide (lt_of_block HX.out)
      have ltZ_F := hide (lt_of_block HF.out)
      have ltZ_R := hide (lt_of_block HR.out)
      have ltZ_O := hide (lt_of_block HO.out)
      have ltZ_Y := hide (lt_of_block HY.out)
      have ltZ_M := hide (lt_of_block HM.out)
      have lbZ := hide HB.out.size
      refine (HWT.out _ (some ⟨g2, 0, none⟩) c3 RU.out).mono ?_
      rintro e w8 ⟨a9, c9, rfl, o, b⟩
      clear qY_3 qY_4
      replace HX := hide (below_block b HX.out (Nat.le_refl _))
      replace HF := hide (below_block b HF.out (Nat.le_refl _))
      replace HR := hide (below_block b HR.out (Nat.le_refl _))
      replace HO := hide (below_block b HO.out (Nat.le_refl _))
      replace HY := hide (below_block b HY.out (Nat.le_refl _))
      replace HM := hide (below_block b HM.out (Nat.le_refl _))
      replace RP := hide (RP.out.below b (Nat.le_refl _))
      replace RU := hide (RU.out.below b (Nat.le_refl _))
      replace OT := hide (owns_below OT.out b (Nat.le_refl _))
      replace OU := hide (owns_below OU.out b (Nat.le_refl _))
      replace HB := hide (HB.out.trans (b.mono HB.out.size))
      have OZ := hide o
      have neZ_X := hide (own_ne_lt o ltZ_X.out)
      clear ltZ_X
      have neZ_F := hide (own_ne_lt o ltZ_F.out)
      clear ltZ_F
      have neZ_R := hide (own_ne_lt o ltZ_R.out)
      clear ltZ_R
      have neZ_O := hide (own_ne_lt o ltZ_O.out)
      clear ltZ_O
      have neZ_Y := hide (own_ne_lt o ltZ_Y.out)
      clear ltZ_Y
      have neZ_M := hide (own_ne_lt o ltZ_M.out)
      clear ltZ_M
      clear b  o
      have fz := free_at HY.out 5
      have qY_5 : w8.cell? ⟨BY, 5, none⟩ = some (.slice da n dc) := cell_at HY.out 5 rfl
      obtain ⟨w9, hVn, hVH, hVB, hVo, hVs⟩ := set1 (i := 5) (.slice a9 (8 + m) c9) (c' := #[.int .u8 (tt : Int), .int .u8 1, .int .u16 (id : Int), .int .u32 (S : Int), .int .u32 (fd : Int), .slice a9 (8 + m) c9]) HY.out HB.out NY.out (by kernel_rfl)
      have HVn := hide hVn
      clear hVn
      have HG := hide (gb_part HB.out hVB hVo hVs)
      have HXn := hide ((hVo _ nqX_Y.out).trans HX.out)
      have HFn := hide ((hVo _ nqF_Y.out).trans HF.out)
      have HRn := hide ((hVo _ nqR_Y.out).trans HR.out)
      have HOn := hide ((hVo _ nqO_Y.out).trans HO.out)
      have HYn := hide hVH
      have HMn := hide ((hVo _ nqY_M.out.symm).trans HM.out)
      have RPn := hide (AP.out.below hVB (Nat.le_refl _))
      have RUn := hide (Lies.of_owns (owns_kept OU.out HG.out neU_Y.out))
      have OTn := hide (owns_kept OT.out HG.out neT_Y.out)
      have OUn := hide (owns_kept OU.out HG.out neU_Y.out)
      have OZn := hide (owns_kept OZ.out HG.out neZ_Y.out)
      have HBn := hide hVB
      clear hVH hVB hVo hVs HG
      go_upto_region 30 with (fail)
      rw [HVn.out]
      clear HVn fz
      clear qY_5
      replace HX := HXn
      clear HXn
      replace HF := HFn
      clear HFn
      replace HR := HRn
      clear HRn
      replace HO := HOn
      clear HOn
      replace HY := HYn
      clear HYn
      replace HM := HMn
      clear HMn
      replace RP := RPn
      clear RPn
      replace RU := RUn
      clear RUn
      replace OT := OTn
      clear OTn
      replace OU := OUn
      clear OUn
      replace OZ := OZn
      clear OZn
      replace HB := HBn
      clear HBn
      go_wp2_with (first | (refine ld_whole (o := ⟨some 160, _, _, _, _, _⟩) 27 (.tmp 9) rfl (by rfl) BY rfl #[.int .u8 (tt : Int), .int .u8 1, .int .u16 (id : Int), .int .u32 (S : Int), .int .u32 (fd : Int), .slice a9 (8 + m) c9] 27 HY.out Try.underlying27 (by kernel_rfl) ?_; try simp only [Act.put, List.setIfInBounds_toArray, List.set_cons_zero, List.set_cons_succ]) | (refine st_part (o := ⟨none, _, _, _, _, _⟩) 27 (.tmp 4) (.tmp 160) rfl (by rfl) BR 0 rfl #[.int .u8 0, .int .u8 0, .int .u16 0, .int .u32 0, .int .u32 0, .slice none 0 0] 27 #[.int .u8 (tt : Int), .int .u8 1, .int .u16 (id : Int), .int .u32 (S : Int), .int .u32 (fd : Int), .slice a9 (8 + m) c9] rfl HR.out rfl (by kernel_rfl) (by kernel_rfl) HB.out NR.out ?_; rintro w9 w9h w9b w9o w9s; try simp only [Act.put, List.setIfInBounds_toArray, List.set_cons_zero, List.set_cons_succ]))
      rw [upd_whole (by rfl)] at w9h
      exact bodyPost_ret (v := .tuple #[.agg #[.int .u8 (tt : Int), .int .u8 1, .int .u16 (id : Int), .int .u32 (S : Int), .int .u32 (fd : Int), .slice a9 (8 + m) c9], .int .i64 0]) (results_cell_tmp Try.results12 _ w9 BR _ _ _ _ rfl w9h Try.underlying27 rfl (by kernel_rfl) _ rfl) rfl ⟨a9, c9, rfl, owns_mono (owns_kept OZ.out (gb_part HB.out w9b w9o w9s) neZ_R.out) lbZ.out, w9b⟩
    ·
      obtain ⟨hS2, hD2⟩ := HSD.out
      rw [if_neg hs] at hS2
      rw [if_neg hd] at hD2
      subst hS2 hD2
      have tS : ((S : Int) == (os : Int)) = false := by simp; omega
      have tD : ((D : Int) == (od : Int)) = false := by simp; omega
      clear hs hd HSD
      have qX_3 : w3.cell? ⟨BX, 3, none⟩ = some (.int .u32 (S : Int)) := cell_at HX.out 3 rfl
      have qO_1 : w3.cell? ⟨BO, 1, none⟩ = some (.int .u32 (os : Int)) := cell_at HO.out 1 rfl
      go_upto_region 9 with (fail)
      clear qX_3 qO_1
      have qX_4 : w3.cell? ⟨BX, 4, none⟩ = some (.int .u32 (D : Int)) := cell_at HX.out 4 rfl
      have qO_2 : w3.cell? ⟨BO, 2, none⟩ = some (.int .u32 (od : Int)) := cell_at HO.out 2 rfl
      go_upto_region 11 with (fail)
      clear qX_4 qO_2
      clear tS tD
      have qX_1 : w3.cell? ⟨BX, 1, none⟩ = some (.int .u8 1) := cell_at HX.out 1 rfl
      go_upto_region 23 with (fail)
      clear qX_1
      have qX_3 : w3.cell? ⟨BX, 3, none⟩ = some (.int .u32 (S : Int)) := cell_at HX.out 3 rfl
      have qX_4 : w3.cell? ⟨BX, 4, none⟩ = some (.int .u32 (D : Int)) := cell_at HX.out 4 rfl
      have qX_5 : w3.cell? ⟨BX, 5, none⟩ = some (.slice da n dc) := cell_at HX.out 5 rfl
      go_wp2_with fail
      have ltT_X := hide (lt_of_block HX.out)
      have ltT_F := hide (lt_of_block HF.out)
      have ltT_R := hide (lt_of_block HR.out)
      have ltT_O := hide (lt_of_block HO.out)
      have ltT_Y := hide (lt_of_block HY.out)
      have lbT := hide HB.out.size
      refine (HRD.out _ RP.out).mono ?_
      rintro e w4 ⟨a2, c2, rfl, o2, b⟩
      clear qX_3 qX_4 qX_5
      replace HX := hide (below_block b HX.out (Nat.le_refl _))
      replace HF := hide (below_block b HF.out (Nat.le_refl _))
      replace HR := hide (below_block b HR.out (Nat.le_refl _))
      replace HO := hide (below_block b HO.out (Nat.le_refl _))
      replace HY := hide (below_block b HY.out (Nat.le_refl _))
      replace RP := hide (RP.out.below b (Nat.le_refl _))
      replace HB := hide (HB.out.trans (b.mono HB.out.size))
      have OT := hide o2
      have neT_X := hide (own_ne_lt o2 ltT_X.out)
      clear ltT_X
      have neT_F := hide (own_ne_lt o2 ltT_F.out)
      clear ltT_F
      have neT_R := hide (own_ne_lt o2 ltT_R.out)
      clear ltT_R
      have neT_O := hide (own_ne_lt o2 ltT_O.out)
      clear ltT_O
      have neT_Y := hide (own_ne_lt o2 ltT_Y.out)
      clear ltT_Y
      clear b  o2
      obtain ⟨g, rfl⟩ := slice_someT OT.out (by omega)
      obtain ⟨w5, hwn, wb, HN1⟩ : ∃ W, w4.alloc (.cells #[.int .u8 (mp : Int), .int .u8 (mq : Int), .int .u32 (mr : Int), .slice (some ⟨g, 0, none⟩) m c2] 55) = W ∧ Below w4.heap.size w4 W ∧ Hid (W.heap[w4.heap.size]? = some (.cells #[.int .u8 (mp : Int), .int .u8 (mq : Int), .int .u32 (mr : Int), .slice (some ⟨g, 0, none⟩) m c2] 55 (0, 0))) := ⟨_, rfl, (Below.refl w4.heap.size w4).alloc (Nat.le_refl _) _, hide (heap_alloc_new w4 _)⟩
      obtain ⟨BM, hBn⟩ : ∃ B, w4.heap.size = B := ⟨_, rfl⟩
      rw [hBn] at HN1
      have HW := hide (And.intro hwn hBn)
      have HBo := HB
      have neT_M := hide (own_ne (L := BM) OT.out (Nat.le_of_eq hBn))
      have nqX_M := hide (blk_ne HX.out hBn)
      have nqF_M := hide (blk_ne HF.out hBn)
      have nqR_M := hide (blk_ne HR.out hBn)
      have nqO_M := hide (blk_ne HO.out hBn)
      have nqY_M := hide (blk_ne HY.out hBn)
      clear hwn hBn
      replace HX := hide (below_block wb HX.out (Nat.le_refl _))
      replace HF := hide (below_block wb HF.out (Nat.le_refl _))
      replace HR := hide (below_block wb HR.out (Nat.le_refl _))
      replace HO := hide (below_block wb HO.out (Nat.le_refl _))
      replace HY := hide (below_block wb HY.out (Nat.le_refl _))
      replace RP := hide (RP.out.below wb (Nat.le_refl _))
      replace OT := hide (owns_below OT.out wb (Nat.le_refl _))
      replace HB := hide (HB.out.trans (wb.mono HB.out.size))
      have HM := HN1
      have NM := hide (show w.heap.size ≤ BM by rw [← HW.out.2]; exact HBo.out.size)
      clear wb HN1 HBo
      go_upto_region 24 with (fail)
      rw [HW.out.1]
      try rw [HW.out.2]
      clear HW
      go_upto_region 25 with (fail)
      have HZ0 := hide (show Below w5.heap.size w5 w5.drew from (Below.refl _ _).drew)
      refine wp_region_U (S := fun w' => w'.cell? ⟨BM, 0, none⟩ = some (.int .u8 (mp : Int)) ∧ w'.cell? ⟨BM, 1, none⟩ = some (.int .u8 (mq : Int)) ∧ w'.cell? ⟨BM, 2, none⟩ = some (.int .u32 (mr : Int)) ∧ w'.cell? ⟨BM, 3, none⟩ = some (.slice (some ⟨g, 0, none⟩) m c2) ∧ w'.cell? ⟨BF, 0, none⟩ = some (.int .u8 (fp : Int)) ∧ w'.cell? ⟨BF, 1, none⟩ = some (.int .u32 (fs : Int)) ∧ w'.cell? ⟨BF, 2, none⟩ = some (.int .u32 (fd : Int)) ∧ w'.cell? ⟨BF, 3, none⟩ = some (.int .u16 (ff : Int)) ∧ w'.cell? ⟨BF, 4, none⟩ = some (.int .u16 (ft : Int))) (t := 6) (by kernel_rfl) (by exact ⟨cell_at (below_block HZ0.out HM.out (Nat.le_refl _)) 0 rfl, cell_at (below_block HZ0.out HM.out (Nat.le_refl _)) 1 rfl, cell_at (below_block HZ0.out HM.out (Nat.le_refl _)) 2 rfl, cell_at (below_block HZ0.out HM.out (Nat.le_refl _)) 3 rfl, cell_at (below_block HZ0.out HF.out (Nat.le_refl _)) 0 rfl, cell_at (below_block HZ0.out HF.out (Nat.le_refl _)) 1 rfl, cell_at (below_block HZ0.out HF.out (Nat.le_refl _)) 2 rfl, cell_at (below_block HZ0.out HF.out (Nat.le_refl _)) 3 rfl, cell_at (below_block HZ0.out HF.out (Nat.le_refl _)) 4 rfl⟩) (fun hHeld => ?_)
      refine wpAnyU_take (i := 0) (oi := { dst := some 127, op := Op.fieldAddr 55 (Operand.tmp 14) 3, type := 0, pos := "ref.go:171", after := #[], guard := none }) (v := ?_) rfl (by kernel_rfl) (by kernel_rfl) (by kernel_rfl) (by kernel_rfl) (fun _ _ _ h => h) (Or.inl ⟨by rfl, ?_⟩) (by assumption) ?_
      rotate_left
      · intro wS hSw
        try dsimp only at hSw
        go_simp
        try with_reducible rfl
      try simp only [Act.put, List.setIfInBounds_toArray, List.set_cons_zero, List.set_cons_succ]
      refine wpAnyU_take (i := 1) (oi := { dst := some 128, op := Op.load 25 (Operand.tmp 127), type := 25, pos := "ref.go:171", after := #[{ on := 0, ground := Ground.data }], guard := none }) (v := ?_) rfl (by kernel_rfl) (by kernel_rfl) (by kernel_rfl) (by kernel_rfl) (fun _ _ _ h => h) (Or.inl ⟨by rfl, ?_⟩) (by assumption) ?_
      rotate_left
      · intro wS hSw
        try dsimp only at hSw
        go_simp
        try with_reducible rfl
      try simp only [Act.put, List.setIfInBounds_toArray, List.set_cons_zero, List.set_cons_succ]
      refine wpAnyU_take (i := 2) (oi := { dst := some 129, op := Op.load 29 (Operand.tmp 3), type := 29, pos := "ref.go:171", after := #[], guard := none }) (v := ?_) rfl (by kernel_rfl) (by kernel_rfl) (by kernel_rfl) (by kernel_rfl) (fun _ _ _ h => h) (Or.inl ⟨by rfl, ?_⟩) (by assumption) ?_
      rotate_left
      · intro wS hSw
        try dsimp only at hSw
        go_simp
        try with_reducible rfl
      try simp only [Act.put, List.setIfInBounds_toArray, List.set_cons_zero, List.set_cons_succ]
      refine wpAnyU_one (i := 3) (o := { dst := some 130, op := Op.call { callee := Callee.value (Operand.func 38), args := #[Operand.tmp 129], argTypes := #[29] }, type := 29, pos := "ref.go:171", after := #[{ on := 2, ground := Ground.data }], guard := none }) (by kernel_rfl) rfl (fun K hK => ?_)
      go_simp
      go_at_call 38
      (with_reducible refine (turnD _ fp fs fd ff ft).mono ?_)
      rintro e zA ⟨rfl, b⟩
      have HzA := hide (show Below w5.heap.size w5 zA from HZ0.out.trans (Below.mono b HZ0.out.size))
      clear b
      refine hK.out _ _ (fun _ => ⟨cell_at (below_block HzA.out HM.out (Nat.le_refl _)) 0 rfl, cell_at (below_block HzA.out HM.out (Nat.le_refl _)) 1 rfl, cell_at (below_block HzA.out HM.out (Nat.le_refl _)) 2 rfl, cell_at (below_block HzA.out HM.out (Nat.le_refl _)) 3 rfl, cell_at (below_block HzA.out HF.out (Nat.le_refl _)) 0 rfl, cell_at (below_block HzA.out HF.out (Nat.le_refl _)) 1 rfl, cell_at (below_block HzA.out HF.out (Nat.le_refl _)) 2 rfl, cell_at (below_block HzA.out HF.out (Nat.le_refl _)) 3 rfl, cell_at (below_block HzA.out HF.out (Nat.le_refl _)) 4 rfl⟩) (fun hHeld1 => ?_)
      clear hK K
      try simp only [Act.put, List.setIfInBounds_toArray, List.set_cons_zero, List.set_cons_succ]
      refine wpAnyU_one (i := 4) (o := { dst := some 131, op := Op.call { callee := Callee.value (Operand.func 37), args := #[Operand.tmp 128, Operand.tmp 130], argTypes := #[25, 29] }, type := 25, pos := "ref.go:171", after := #[{ on := 1, ground := Ground.data }, { on := 3, ground := Ground.data }, { on := 3, ground := Ground.chain }], guard := none }) (by kernel_rfl) rfl (fun K hK => ?_)
      go_simp
      go_at_call 37
      (with_reducible refine (HRT.out zA (some ⟨g, 0, none⟩) c2 ((Lies.of_owns OT.out).below HzA.out (Nat.le_refl _))).mono ?_)
      rintro e zB ⟨g2, c3, rfl, o, b⟩
      have HzB := hide (show Below w5.heap.size w5 zB from HzA.out.trans (Below.mono b HzA.out.size))
      have OU := hide o
      have neU_X := hide (own_ne_lt o (lt_of_block (below_block HzA.out HX.out (Nat.le_refl _))))
      have neU_F := hide (own_ne_lt o (lt_of_block (below_block HzA.out HF.out (Nat.le_refl _))))
      have neU_R := hide (own_ne_lt o (lt_of_block (below_block HzA.out HR.out (Nat.le_refl _))))
      have neU_O := hide (own_ne_lt o (lt_of_block (below_block HzA.out HO.out (Nat.le_refl _))))
      have neU_Y := hide (own_ne_lt o (lt_of_block (below_block HzA.out HY.out (Nat.le_refl _))))
      have neU_M := hide (own_ne_lt o (lt_of_block (below_block HzA.out HM.out (Nat.le_refl _))))
      have lbU := hide (show w.heap.size ≤ zA.heap.size from Nat.le_trans HB.out.size HzA.out.size)
      clear b o
      refine hK.out _ _ (fun _ => ⟨cell_at (below_block HzB.out HM.out (Nat.le_refl _)) 0 rfl, cell_at (below_block HzB.out HM.out (Nat.le_refl _)) 1 rfl, cell_at (below_block HzB.out HM.out (Nat.le_refl _)) 2 rfl, cell_at (below_block HzB.out HM.out (Nat.le_refl _)) 3 rfl, cell_at (below_block HzB.out HF.out (Nat.le_refl _)) 0 rfl, cell_at (below_block HzB.out HF.out (Nat.le_refl _)) 1 rfl, cell_at (below_block HzB.out HF.out (Nat.le_refl _)) 2 rfl, cell_at (below_block HzB.out HF.out (Nat.le_refl _)) 3 rfl, cell_at (below_block HzB.out HF.out (Nat.le_refl _)) 4 rfl⟩) (fun hHeld2 => ?_)
      clear hK K
      try simp only [Act.put, List.setIfInBounds_toArray, List.set_cons_zero, List.set_cons_succ]
      have hHX := hHeld2 (by decide)
      refine wpAnyU_take (i := 5) (oi := { dst := some 132, op := Op.fieldAddr 55 (Operand.tmp 14) 3, type := 0, pos := "ref.go:171", after := #[{ on := 0, ground := Ground.phase }, { on := 1, ground := Ground.phase }, { on := 2, ground := Ground.phase }, { on := 3, ground := Ground.phase }, { on := 4, ground := Ground.phase }], guard := none }) (v := ?_) rfl (by kernel_rfl) (by kernel_rfl) (by kernel_rfl) (by kernel_rfl) (fun _ _ _ h => h) (Or.inl ⟨by rfl, ?_⟩) (by assumption) ?_
      rotate_left
      · intro wS hSw
        try dsimp only at hSw
        go_simp
        try with_reducible rfl
      try simp only [Act.put, List.setIfInBounds_toArray, List.set_cons_zero, List.set_cons_succ]
      have hbz := HzB.out
      replace HX := hide (below_block hbz HX.out (Nat.le_refl _))
      replace HF := hide (below_block hbz HF.out (Nat.le_refl _))
      replace HR := hide (below_block hbz HR.out (Nat.le_refl _))
      replace HO := hide (below_block hbz HO.out (Nat.le_refl _))
      replace HY := hide (below_block hbz HY.out (Nat.le_refl _))
      replace HM := hide (below_block hbz HM.out (Nat.le_refl _))
      replace RP := hide (RP.out.below hbz (Nat.le_refl _))
      replace OT := hide (owns_below OT.out hbz (Nat.le_refl _))
      replace HB := hide (HB.out.trans (hbz.mono HB.out.size))
      have RU := hide (Lies.of_owns OU.out)
      clear hbz
      have fz := free_at HM.out 3
      have qM_3 : zB.cell? ⟨BM, 3, none⟩ = some (.slice (some ⟨g, 0, none⟩) m c2) := cell_at HM.out 3 rfl
      obtain ⟨w6, hVn, hVH, hVB, hVo, hVs⟩ := set1 (i := 3) (.slice (some ⟨g2, 0, none⟩) m c3) (c' := #[.int .u8 (mp : Int), .int .u8 (mq : Int), .int .u32 (mr : Int), .slice (some ⟨g2, 0, none⟩) m c3]) HM.out HB.out NM.out (by kernel_rfl)
      have HVn := hide hVn
      clear hVn
      have HG := hide (gb_part HB.out hVB hVo hVs)
      have HXn := hide ((hVo _ nqX_M.out).trans HX.out)
      have HFn := hide ((hVo _ nqF_M.out).trans HF.out)
      have HRn := hide ((hVo _ nqR_M.out).trans HR.out)
      have HOn := hide ((hVo _ nqO_M.out).trans HO.out)
      have HYn := hide ((hVo _ nqY_M.out).trans HY.out)
      have HMn := hide hVH
      have RPn := hide (AP.out.below hVB (Nat.le_refl _))
      have RUn := hide (Lies.of_owns (owns_kept OU.out HG.out neU_M.out))
      have OTn := hide (owns_kept OT.out HG.out neT_M.out)
      have OUn := hide (owns_kept OU.out HG.out neU_M.out)
      have HBn := hide hVB
      clear hVH hVB hVo hVs HG
      refine wpAnyU_one (i := 6) (o := { dst := none, op := Op.store 25 (Operand.tmp 132) (Operand.tmp 131), type := 0, pos := "ref.go:171", after := #[{ on := 5, ground := Ground.data }, { on := 4, ground := Ground.data }, { on := 4, ground := Ground.chain }, { on := 0, ground := Ground.phase }, { on := 1, ground := Ground.phase }, { on := 2, ground := Ground.phase }, { on := 3, ground := Ground.phase }, { on := 4, ground := Ground.phase }], guard := none }) (by kernel_rfl) rfl (fun K hK => ?_)
      go_simp
      refine hK.out _ _ (fun h => absurd h (by decide)) (fun _ => ?_)
      clear hK K
      try simp only [Act.put, List.setIfInBounds_toArray, List.set_cons_zero, List.set_cons_succ]
      refine wpAnyU_done (by kernel_rfl) ?_ _
      rw [HVn.out]
      clear HVn fz
      clear qM_3
      replace HX := HXn
      clear HXn
      replace HF := HFn
      clear HFn
      replace HR := HRn
      clear HRn
      replace HO := HOn
      clear HOn
      replace HY := HYn
      clear HYn
      replace HM := HMn
      clear HMn
      replace RP := RPn
      clear RPn
      replace RU := RUn
      clear RUn
      replace OT := OTn
      clear OTn
      replace OU := OUn
      clear OUn
      replace HB := HBn
      clear HBn
      clear hHeld hHeld1 hHeld2 hHX HZ0 HzA HzB HRT
      go_upto_region 29 with (fail)
      have qY_3 : w6.cell? ⟨BY, 3, none⟩ = some (.int .u32 (S : Int)) := cell_at HY.out 3 rfl
      have qY_4 : w6.cell? ⟨BY, 4, none⟩ = some (.int .u32 (D : Int)) := cell_at HY.out 4 rfl
      go_wp2_with ((refine ld_whole (o := ⟨some 155, _, _, _, _, _⟩) 55 (.tmp 14) rfl (by rfl) BM rfl #[.int .u8 (mp : Int), .int .u8 (mq : Int), .int .u32 (mr : Int), .slice (some ⟨g2, 0, none⟩) m c3] 55 HM.out Try.underlying55 (by kernel_rfl) ?_; try simp only [Act.put, List.setIfInBounds_toArray, List.set_cons_zero, List.set_cons_succ]))
      have ltZ_X := hide (lt_of_block HX.out)
      have ltZ_F := hide (lt_of_block HF.out)
      have ltZ_R := hide (lt_of_block HR.out)
      have ltZ_O := hide (lt_of_block HO.out)
      have ltZ_Y := hide (lt_of_block HY.out)
      have ltZ_M := hide (lt_of_block HM.out)
      have lbZ := hide HB.out.size
      refine (HWT.out _ (some ⟨g2, 0, none⟩) c3 RU.out).mono ?_
      rintro e w7 ⟨a9, c9, rfl, o, b⟩
      clear qY_3 qY_4
      replace HX := hide (below_block b HX.out (Nat.le_refl _))
      replace HF := hide (below_block b HF.out (Nat.le_refl _))
      replace HR := hide (below_block b HR.out (Nat.le_refl _))
      replace HO := hide (below_block b HO.out (Nat.le_refl _))
      replace HY := hide (below_block b HY.out (Nat.le_refl _))
      replace HM := hide (below_block b HM.out (Nat.le_refl _))
      replace RP := hide (RP.out.below b (Nat.le_refl _))
      replace RU := hide (RU.out.below b (Nat.le_refl _))
      replace OT := hide (owns_below OT.out b (Nat.le_refl _))
      replace OU := hide (owns_below OU.out b (Nat.le_refl _))
      replace HB := hide (HB.out.trans (b.mono HB.out.size))
      have OZ := hide o
      have neZ_X := hide (own_ne_lt o ltZ_X.out)
      clear ltZ_X
      have neZ_F := hide (own_ne_lt o ltZ_F.out)
      clear ltZ_F
      have neZ_R := hide (own_ne_lt o ltZ_R.out)
      clear ltZ_R
      have neZ_O := hide (own_ne_lt o ltZ_O.out)
      clear ltZ_O
      have neZ_Y := hide (own_ne_lt o ltZ_Y.out)
      clear ltZ_Y
      have neZ_M := hide (own_ne_lt o ltZ_M.out)
      clear ltZ_M
      clear b  o
      have fz := free_at HY.out 5
      have qY_5 : w7.cell? ⟨BY, 5, none⟩ = some (.slice da n dc) := cell_at HY.out 5 rfl
      obtain ⟨w8, hVn, hVH, hVB, hVo, hVs⟩ := set1 (i := 5) (.slice a9 (8 + m) c9) (c' := #[.int .u8 (tt : Int), .int .u8 1, .int .u16 (id : Int), .int .u32 (S : Int), .int .u32 (D : Int), .slice a9 (8 + m) c9]) HY.out HB.out NY.out (by kernel_rfl)
      have HVn := hide hVn
      clear hVn
      have HG := hide (gb_part HB.out hVB hVo hVs)
      have HXn := hide ((hVo _ nqX_Y.out).trans HX.out)
      have HFn := hide ((hVo _ nqF_Y.out).trans HF.out)
      have HRn := hide ((hVo _ nqR_Y.out).trans HR.out)
      have HOn := hide ((hVo _ nqO_Y.out).trans HO.out)
      have HYn := hide hVH
      have HMn := hide ((hVo _ nqY_M.out.symm).trans HM.out)
      have RPn := hide (AP.out.below hVB (Nat.le_refl _))
      have RUn := hide (Lies.of_owns (owns_kept OU.out HG.out neU_Y.out))
      have OTn := hide (owns_kept OT.out HG.out neT_Y.out)
      have OUn := hide (owns_kept OU.out HG.out neU_Y.out)
      have OZn := hide (owns_kept OZ.out HG.out neZ_Y.out)
      have HBn := hide hVB
      clear hVH hVB hVo hVs HG
      go_upto_region 30 with (fail)
      rw [HVn.out]
      clear HVn fz
      clear qY_5
      replace HX := HXn
      clear HXn
      replace HF := HFn
      clear HFn
      replace HR := HRn
      clear HRn
      replace HO := HOn
      clear HOn
      replace HY := HYn
      clear HYn
      replace HM := HMn
      clear HMn
      replace RP := RPn
      clear RPn
      replace RU := RUn
      clear RUn
      replace OT := OTn
      clear OTn
      replace OU := OUn
      clear OUn
      replace OZ := OZn
      clear OZn
      replace HB := HBn
      clear HBn
      go_wp2_with (first | (refine ld_whole (o := ⟨some 160, _, _, _, _, _⟩) 27 (.tmp 9) rfl (by rfl) BY rfl #[.int .u8 (tt : Int), .int .u8 1, .int .u16 (id : Int), .int .u32 (S : Int), .int .u32 (D : Int), .slice a9 (8 + m) c9] 27 HY.out Try.underlying27 (by kernel_rfl) ?_; try simp only [Act.put, List.setIfInBounds_toArray, List.set_cons_zero, List.set_cons_succ]) | (refine st_part (o := ⟨none, _, _, _, _, _⟩) 27 (.tmp 4) (.tmp 160) rfl (by rfl) BR 0 rfl #[.int .u8 0, .int .u8 0, .int .u16 0, .int .u32 0, .int .u32 0, .slice none 0 0] 27 #[.int .u8 (tt : Int), .int .u8 1, .int .u16 (id : Int), .int .u32 (S : Int), .int .u32 (D : Int), .slice a9 (8 + m) c9] rfl HR.out rfl (by kernel_rfl) (by kernel_rfl) HB.out NR.out ?_; rintro w9 w9h w9b w9o w9s; try simp only [Act.put, List.setIfInBounds_toArray, List.set_cons_zero, List.set_cons_succ]))
      rw [upd_whole (by rfl)] at w9h
      exact bodyPost_ret (v := .tuple #[.agg #[.int .u8 (tt : Int), .int .u8 1, .int .u16 (id : Int), .int .u32 (S : Int), .int .u32 (D : Int), .slice a9 (8 + m) c9], .int .i64 0]) (results_cell_tmp Try.results12 _ w9 BR _ _ _ _ rfl w9h Try.underlying27 rfl (by kernel_rfl) _ rfl) rfl ⟨a9, c9, rfl, owns_mono (owns_kept OZ.out (gb_part HB.out w9b w9o w9s) neZ_R.out) lbZ.out, w9b⟩
end Go.Proofs.Ytgggcapgaikbeaa
