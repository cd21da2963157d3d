/- Flows: a packet is let go between other ends: the program. -/
import Derived.Test.YtgggcapgaikbeaaPk13
import Derived.StillTailTactics
import Derived.Test.YtgggcapgaikbeaaPk14
import Derived.Test.YtgggcapgaikbeaaPk16
namespace Go.Proofs.Ytgggcapgaikbeaa
open Go.RowKit
set_option linter.unusedVariables false
set_option linter.unusedSimpArgs false
set_option maxRecDepth 100000
theorem ne_dec2 (a k : Nat) : ((a : Int) != (k : Int)) = decide (a ≠ k) := by by_cases h : a = k <;> simp [h, bne] <;> omega
theorem sib_ne {c : Array Value} {i j : Nat} {v : Value} (h : i ≠ j) : (c.setIfInBounds i v)[j]? = c[j]? := Array.getElem?_setIfInBounds_ne h
theorem sib_eq {c : Array Value} {i : Nat} {v : Value} (h : i < c.size) : (c.setIfInBounds i v)[i]? = some v := Array.getElem?_setIfInBounds_self_of_lt h
theorem moved_same (a is : Nat) (w : World) : Calls Try.prog 30 #[.int .u32 (a : Int), .int .u32 (a : Int), .int .u32 (is : Int)] w fun e w' => e = .returned (.int .u32 (is : Int)) ∧ w' = w := by
  have h := moved_any a a is w
  rw [if_pos rfl] at h
  exact h
def tcpB (s d p q : Nat) (sg : Seg) : List Int := tcpG p q sg.u sg.v sg.f sg.g sg.h sg.os sg.ds (tcpK s d p q sg.u sg.v sg.f sg.g sg.h sg.os sg.ds).toNat
def udpB (s d p q : Nat) (g : Dgm) : List Int := if g.pl then udpZ p q g.ds else udpS s d p q g.ds
def qryR (m : Msg) (f t : Nat) : Nat := (if m.p = 8 then f else t) * 65536 + m.r % 65536
structure SegFit (y : Seg) : Prop where
  u : y.u ≤ 4294967295
  v : y.v ≤ 4294967295
  f : y.f ≤ 255
  g : y.g ≤ 65535
  h : y.h ≤ 65535
  p : y.p ≤ 65535
  q : y.q ≤ 65535
  o : y.os.length ≤ 40
  o4 : y.os.length % 4 = 0
  d : y.ds.length ≤ 1460 - y.os.length
  ob : ∀ x ∈ y.os, 0 ≤ x ∧ x ≤ 255
  db : ∀ x ∈ y.ds, 0 ≤ x ∧ x ≤ 255
theorem seg_fit (S D : Nat) (xs : List Int) (hb : ∀ x ∈ xs, 0 ≤ x ∧ x ≤ 255) (h : segCode S D xs = 0) : SegFit (segOf S D xs) := by
  have hn : 20 ≤ xs.length ∧ xs.length ≤ 1480 ∧ 20 ≤ segHL xs ∧ segHL xs ≤ xs.length := by
    unfold segCode at h
    split at h
    · omega
    split at h
    · omega
    split at h
    · omega
    · omega
  have hh : segHL xs % 4 = 0 ∧ segHL xs ≤ 60 := by
    have := fld_lt xs 12 1 hb
    unfold segHL
    simp at this
    omega
  have l : ∀ K k, fld xs K k < 256 ^ k := fun K k => fld_lt xs K k hb
  have l4 := l 4 4; have l8 := l 8 4; have l13 := l 13 1; have l14 := l 14 2; have l18 := l 18 2; have l0 := l 0 2; have l2 := l 2 2
  simp at l4 l8 l13 l14 l18 l0 l2
  have e1 : ((xs.drop 20).take (segHL xs - 20)).length = segHL xs - 20 := by rw [List.length_take, List.length_drop]; omega
  have e2 : (xs.drop (segHL xs)).length = xs.length - segHL xs := List.length_drop
  unfold segOf
  rw [if_pos h]
  exact ⟨by dsimp only; omega, by dsimp only; omega, by dsimp only; omega, by dsimp only; omega, by dsimp only; omega, by dsimp only; omega, by dsimp only; omega, by dsimp only; rw [e1]; omega, by dsimp only; rw [e1]; omega, by dsimp only; rw [e1, e2]; omega,
    fun x hx => hb x (List.mem_of_mem_drop (List.mem_of_mem_take hx)), fun x hx => hb x (List.mem_of_mem_drop hx)⟩
structure DgmFit (y : Dgm) : Prop where
  p : y.p ≤ 65535
  q : y.q ≤ 65535
  d : y.ds.length ≤ 1472
  db : ∀ x ∈ y.ds, 0 ≤ x ∧ x ≤ 255
theorem dgm_fit (S D : Nat) (xs : List Int) (hb : ∀ x ∈ xs, 0 ≤ x ∧ x ≤ 255) (h : dgmCode S D xs = 0) : DgmFit (dgmOf S D xs) := by
  have hn : xs.length ≤ 1480 ∧ fld xs 4 2 ≤ xs.length := by
    unfold dgmCode at h
    split at h
    · omega
    split at h
    · omega
    split at h
    · omega
    · omega
  have l : ∀ K k, fld xs K k < 256 ^ k := fun K k => fld_lt xs K k hb
  have l0 := l 0 2; have l2 := l 2 2
  simp at l0 l2
  have e1 : ((xs.drop 8).take (fld xs 4 2 - 8)).length ≤ 1472 := by rw [List.length_take, List.length_drop]; omega
  unfold dgmOf
  rw [if_pos h]
  exact ⟨by dsimp only; omega, by dsimp only; omega, by dsimp only; exact e1, fun x hx => hb x (List.mem_of_mem_drop (List.mem_of_mem_take hx))⟩
set_option maxHeartbeats 2000000 in
theorem rewrite_err (w : World) (tt P id S D : Nat) (da : Option Addr) (xs : List Int) (n dc : Nat) (fp fs fd ff ft : Nat) (hLx : Lies w da xs n dc) (hl : xs.length = n) (hb : ∀ x ∈ xs, 0 ≤ x ∧ x ≤ 255) (hS : S ≤ 4294967295) (hD : D ≤ 4294967295) (he : ofErr P S D xs ≠ 0) :
    Calls Try.prog 11 #[.agg #[.int .u8 (tt : Int), .int .u8 (P : Int), .int .u16 (id : Int), .int .u32 (S : Int), .int .u32 (D : Int), .slice da n dc], .agg #[.int .u8 (fp : Int), .int .u32 (fs : Int), .int .u32 (fd : Int), .int .u16 (ff : Int), .int .u16 (ft : Int)]] w fun e w' => e = .returned (.tuple #[.agg #[.int .u8 0, .int .u8 0, .int .u16 0, .int .u32 0, .int .u32 0, .slice none 0 0], .int .i64 (ofErr P S D xs : Nat)]) ∧ Below w.heap.size w w' := by
  have HRD := hide (fun (W : World) (hL : Lies W da xs n dc) => read_any W (tt : Int) (id : Int) P S D da n dc xs hL hl hb hS hD)
  have hne : (((ofErr P S D xs : Nat) : Int) != 0) = true := (ne_dec2 _ 0).trans (by simpa using he)
  generalize ofErr P S D xs = er at *
  obtain ⟨er', hee⟩ : ∃ x, (er : Int) = x := ⟨_, rfl⟩
  rw [hee] at HRD hne ⊢
  clear hl hb hee he
  obtain ⟨V1, hV1⟩ : ∃ V, w.alloc (.cells #[.int .u8 (tt : Int), .int .u8 (P : Int), .int .u16 (id : Int), .int .u32 (S : Int), .int .u32 (D : Int), .slice da n dc] 27) = V := ⟨_, rfl⟩
  obtain ⟨V2, hV2⟩ : ∃ V, V1.alloc (.cells #[.int .u8 (fp : Int), .int .u32 (fs : Int), .int .u32 (fd : Int), .int .u16 (ff : Int), .int .u16 (ft : Int)] 29) = V := ⟨_, rfl⟩
  obtain ⟨V3, hV3⟩ : ∃ V, V2.alloc (.cells #[.int .u8 0, .int .u8 0, .int .u16 0, .int .u32 0, .int .u32 0, .slice none 0 0] 27) = V := ⟨_, rfl⟩
  have hz1 : V1.heap.size = w.heap.size + 1 := by rw [← hV1]; simp
  have hz2 : V2.heap.size = w.heap.size + 1 + 1 := by rw [← hV2]; simp [hz1]
  have hz3 : V3.heap.size = w.heap.size + 1 + 1 + 1 := by rw [← hV3]; simp [hz2]
  have hb1 : Below w.heap.size w V1 := by rw [← hV1]; exact (Below.refl _ _).alloc (Nat.le_refl _) _
  have hc2 : Below V1.heap.size V1 V2 := by rw [← hV2]; exact (Below.refl _ _).alloc (Nat.le_refl _) _
  have hb2 := hb1.trans (hc2.mono hb1.size)
  have hc3 : Below V2.heap.size V2 V3 := by rw [← hV3]; exact (Below.refl _ _).alloc (Nat.le_refl _) _
  have hb3 := hb2.trans (hc3.mono hb2.size)
  have hp1_1 : V1.heap[w.heap.size]? = some (.cells #[.int .u8 (tt : Int), .int .u8 (P : Int), .int .u16 (id : Int), .int .u32 (S : Int), .int .u32 (D : Int), .slice da n dc] 27 (0, 0)) := by rw [← hV1]; exact heap_alloc_new _ _
  have hp1_2 := below_block hc2 hp1_1 (Nat.le_refl _)
  have hp1_3 := below_block hc3 hp1_2 (Nat.le_refl _)
  have hp2_2 : V2.heap[w.heap.size + 1]? = some (.cells #[.int .u8 (fp : Int), .int .u32 (fs : Int), .int .u32 (fd : Int), .int .u16 (ff : Int), .int .u16 (ft : Int)] 29 (0, 0)) := by rw [← hV2, ← hz1]; exact heap_alloc_new _ _
  have hp2_3 := below_block hc3 hp2_2 (Nat.le_refl _)
  have hp3_3 : V3.heap[w.heap.size + 1 + 1]? = some (.cells #[.int .u8 0, .int .u8 0, .int .u16 0, .int .u32 0, .int .u32 0, .slice none 0 0] 27 (0, 0)) := by rw [← hV3, ← hz2]; exact heap_alloc_new _ _
  obtain ⟨BX, hBX⟩ : ∃ B, w.heap.size = B := ⟨_, rfl⟩
  obtain ⟨BF, hBF⟩ : ∃ B, w.heap.size + 1 = B := ⟨_, rfl⟩
  obtain ⟨BR, hBR⟩ : ∃ B, w.heap.size + 1 + 1 = B := ⟨_, rfl⟩
  have hw0 : w.heap.size ≤ BX ∧ w.heap.size ≤ BF ∧ w.heap.size ≤ BR := by omega
  have HX := hide (show V3.heap[BX]? = some (.cells #[.int .u8 (tt : Int), .int .u8 (P : Int), .int .u16 (id : Int), .int .u32 (S : Int), .int .u32 (D : Int), .slice da n dc] 27 (0, 0)) by rw [← hBX]; exact hp1_3)
  have NX : Hid (w.heap.size ≤ BX) := hide hw0.1
  have HF := hide (show V3.heap[BF]? = some (.cells #[.int .u8 (fp : Int), .int .u32 (fs : Int), .int .u32 (fd : Int), .int .u16 (ff : Int), .int .u16 (ft : Int)] 29 (0, 0)) by rw [← hBF]; exact hp2_3)
  have NF : Hid (w.heap.size ≤ BF) := hide hw0.2.1
  have HR := hide (show V3.heap[BR]? = some (.cells #[.int .u8 0, .int .u8 0, .int .u16 0, .int .u32 0, .int .u32 0, .slice none 0 0] 27 (0, 0)) by rw [← hBR]; exact hp3_3)
  have NR : Hid (w.heap.size ≤ BR) := hide hw0.2.2
  have nqX_F : Hid (BX ≠ BF) := hide (by omega)
  have nqX_R : Hid (BX ≠ BR) := hide (by omega)
  have nqF_R : Hid (BF ≠ BR) := hide (by omega)
  have AP := hide hLx
  have RP := hide (hLx.below hb3 (Nat.le_refl _))
  have HB := hide hb3
  have HE := hide (And.intro (And.intro trivial trivial) (And.intro hV1 ( And.intro hV2 ( And.intro hV3 (And.intro hBX ( And.intro hBF ( And.intro hBR (trivial))))))))
  clear hw0 hV1 hz1 hb1 hV2 hz2 hb2 hV3 hz3 hb3 hc2 hc3 hp1_1 hp1_2 hp1_3 hp2_2 hp2_3 hp3_3 hBX hBF hBR hLx
  go_enter Try.func11, Try.ntmps11
  go_upto_region 1 with (fail)
  rw [HE.out.2.1]
  try rw [HE.out.2.2.1]
  try rw [HE.out.2.2.2.1]
  try rw [HE.out.2.2.2.2.2.2.1]
  try rw [HE.out.2.2.2.2.2.1]
  try rw [HE.out.2.2.2.2.1]
  clear HE
  go_wp2_with ((refine ld_whole (o := ⟨some 9, _, _, _, _, _⟩) 27 (.tmp 2) rfl (by rfl) BX rfl #[.int .u8 (tt : Int), .int .u8 (P : Int), .int .u16 (id : Int), .int .u32 (S : Int), .int .u32 (D : Int), .slice da n dc] 27 HX.out Try.underlying27 (by kernel_rfl) ?_; try simp only [Act.put, List.setIfInBounds_toArray, List.set_cons_zero, List.set_cons_succ]))
  refine (HRD.out _ RP.out).mono ?_
  rintro e w1 ⟨LC, rfl, ⟨y, kk, hh, _⟩, b⟩
  replace HX := hide (below_block b HX.out (Nat.le_refl _))
  replace HF := hide (below_block b HF.out (Nat.le_refl _))
  replace HR := hide (below_block b HR.out (Nat.le_refl _))
  replace RP := hide (RP.out.below b (Nat.le_refl _))
  replace HB := hide (HB.out.trans (b.mono HB.out.size))
  clear b 
  have HLs := hide hh.size
  have HLo := hide hh.one
  clear hh
  have hst := run_storeCells_new (P := Try.prog) w1 65 (#[.int .u8 0, .int .u32 0, .int .u32 0, .int .u16 0, .int .u16 0, .int .i64 0, .int .u16 0, .int .u16 0, .int .u32 0, .int .u32 0, .int .u8 0, .int .u16 0, .int .u16 0, .slice none 0 0, .slice none 0 0, .int .u16 0, .int .u16 0, .bool false, .slice none 0 0, .int .u8 0, .int .u8 0, .int .u32 0, .slice none 0 0]) LC (by rw [HLs.out]; kernel_rfl) (by rw [HLs.out]; rfl) HLo.out
  obtain ⟨w2, hwn, wb, HN1⟩ : ∃ W, w1.alloc (.cells LC 65) = W ∧ Below w1.heap.size w1 W ∧ Hid (W.heap[w1.heap.size]? = some (.cells LC 65 (0, 0))) := ⟨_, rfl, (Below.refl w1.heap.size w1).alloc (Nat.le_refl _) _, hide (heap_alloc_new w1 _)⟩
  obtain ⟨BL, hBn⟩ : ∃ B, w1.heap.size = B := ⟨_, rfl⟩
  rw [hBn] at HN1
  have HW := hide (And.intro hwn hBn)
  have HBo := HB
  have nqX_L := hide (blk_ne HX.out hBn)
  have nqF_L := hide (blk_ne HF.out hBn)
  have nqR_L := hide (blk_ne HR.out hBn)
  have hbt := wb
  clear hwn hBn
  replace HX := hide (below_block wb HX.out (Nat.le_refl _))
  replace HF := hide (below_block wb HF.out (Nat.le_refl _))
  replace HR := hide (below_block wb HR.out (Nat.le_refl _))
  replace RP := hide (RP.out.below wb (Nat.le_refl _))
  replace HB := hide (HB.out.trans (wb.mono HB.out.size))
  have HL := HN1
  have NL := hide (show w.heap.size ≤ BL by rw [← HW.out.2]; exact HBo.out.size)
  clear wb hbt HN1 HBo
  go_upto_region 2 with (fail)
  clear hst
  rw [HW.out.1]
  try rw [HW.out.2]
  clear HW
  go_wp2_with ((refine st_part (o := ⟨none, _, _, _, _, _⟩) 27 (.tmp 4) (.tmp 15) rfl (by rfl) BR 0 rfl #[.int .u8 0, .int .u8 0, .int .u16 0, .int .u32 0, .int .u32 0, .slice none 0 0] 27 #[.int .u8 0, .int .u8 0, .int .u16 0, .int .u32 0, .int .u32 0, .slice none 0 0] rfl HR.out rfl (by kernel_rfl) (by kernel_rfl) HB.out NR.out ?_; rintro w9 w9h w9b w9o w9s; try simp only [Act.put, List.setIfInBounds_toArray, List.set_cons_zero, List.set_cons_succ]))
  rw [upd_whole (by rfl)] at w9h
  exact bodyPost_ret (v := .tuple #[.agg #[.int .u8 0, .int .u8 0, .int .u16 0, .int .u32 0, .int .u32 0, .slice none 0 0], .int .i64 er']) (results_cell_tmp Try.results11 _ w9 BR _ _ _ _ rfl w9h Try.underlying27 rfl (by kernel_rfl) _ rfl) rfl ⟨rfl, w9b⟩
set_option maxHeartbeats 2000000 in
theorem rewrite_arg (w : World) (tt P id S D : Nat) (da : Option Addr) (xs : List Int) (n dc : Nat) (fp fs fd ff ft : Nat) (hLx : Lies w da xs n dc) (hl : xs.length = n) (hb : ∀ x ∈ xs, 0 ≤ x ∧ x ≤ 255) (hS : S ≤ 4294967295) (hD : D ≤ 4294967295) (he : ofErr P S D xs = 0) (hp : fp ≠ (ofFl P S D xs).p) :
    Calls Try.prog 11 #[.agg #[.int .u8 (tt : Int), .int .u8 (P : Int), .int .u16 (id : Int), .int .u32 (S : Int), .int .u32 (D : Int), .slice da n dc], .agg #[.int .u8 (fp : Int), .int .u32 (fs : Int), .int .u32 (fd : Int), .int .u16 (ff : Int), .int .u16 (ft : Int)]] w fun e w' => e = .returned (.tuple #[.agg #[.int .u8 0, .int .u8 0, .int .u16 0, .int .u32 0, .int .u32 0, .slice none 0 0], .int .i64 1]) ∧ Below w.heap.size w w' := by
  have HRD := hide (fun (W : World) (hL : Lies W da xs n dc) => read_any W (tt : Int) (id : Int) P S D da n dc xs hL hl hb hS hD)
  rw [he] at HRD
  have hpp : ((fp : Int) != ((ofFl P S D xs).p : Int)) = true := (ne_dec2 _ _).trans (by simpa using hp)
  generalize ofFl P S D xs = yy at *
  clear hl hb he hp
  obtain ⟨V1, hV1⟩ : ∃ V, w.alloc (.cells #[.int .u8 (tt : Int), .int .u8 (P : Int), .int .u16 (id : Int), .int .u32 (S : Int), .int .u32 (D : Int), .slice da n dc] 27) = V := ⟨_, rfl⟩
  obtain ⟨V2, hV2⟩ : ∃ V, V1.alloc (.cells #[.int .u8 (fp : Int), .int .u32 (fs : Int), .int .u32 (fd : Int), .int .u16 (ff : Int), .int .u16 (ft : Int)] 29) = V := ⟨_, rfl⟩
  obtain ⟨V3, hV3⟩ : ∃ V, V2.alloc (.cells #[.int .u8 0, .int .u8 0, .int .u16 0, .int .u32 0, .int .u32 0, .slice none 0 0] 27) = V := ⟨_, rfl⟩
  have hz1 : V1.heap.size = w.heap.size + 1 := by rw [← hV1]; simp
  have hz2 : V2.heap.size = w.heap.size + 1 + 1 := by rw [← hV2]; simp [hz1]
  have hz3 : V3.heap.size = w.heap.size + 1 + 1 + 1 := by rw [← hV3]; simp [hz2]
  have hb1 : Below w.heap.size w V1 := by rw [← hV1]; exact (Below.refl _ _).alloc (Nat.le_refl _) _
  have hc2 : Below V1.heap.size V1 V2 := by rw [← hV2]; exact (Below.refl _ _).alloc (Nat.le_refl _) _
  have hb2 := hb1.trans (hc2.mono hb1.size)
  have hc3 : Below V2.heap.size V2 V3 := by rw [← hV3]; exact (Below.refl _ _).alloc (Nat.le_refl _) _
  have hb3 := hb2.trans (hc3.mono hb2.size)
  have hp1_1 : V1.heap[w.heap.size]? = some (.cells #[.int .u8 (tt : Int), .int .u8 (P : Int), .int .u16 (id : Int), .int .u32 (S : Int), .int .u32 (D : Int), .slice da n dc] 27 (0, 0)) := by rw [← hV1]; exact heap_alloc_new _ _
  have hp1_2 := below_block hc2 hp1_1 (Nat.le_refl _)
  have hp1_3 := below_block hc3 hp1_2 (Nat.le_refl _)
  have hp2_2 : V2.heap[w.heap.size + 1]? = some (.cells #[.int .u8 (fp : Int), .int .u32 (fs : Int), .int .u32 (fd : Int), .int .u16 (ff : Int), .int .u16 (ft : Int)] 29 (0, 0)) := by rw [← hV2, ← hz1]; exact heap_alloc_new _ _
  have hp2_3 := below_block hc3 hp2_2 (Nat.le_refl _)
  have hp3_3 : V3.heap[w.heap.size + 1 + 1]? = some (.cells #[.int .u8 0, .int .u8 0, .int .u16 0, .int .u32 0, .int .u32 0, .slice none 0 0] 27 (0, 0)) := by rw [← hV3, ← hz2]; exact heap_alloc_new _ _
  obtain ⟨BX, hBX⟩ : ∃ B, w.heap.size = B := ⟨_, rfl⟩
  obtain ⟨BF, hBF⟩ : ∃ B, w.heap.size + 1 = B := ⟨_, rfl⟩
  obtain ⟨BR, hBR⟩ : ∃ B, w.heap.size + 1 + 1 = B := ⟨_, rfl⟩
  have hw0 : w.heap.size ≤ BX ∧ w.heap.size ≤ BF ∧ w.heap.size ≤ BR := by omega
  have HX := hide (show V3.heap[BX]? = some (.cells #[.int .u8 (tt : Int), .int .u8 (P : Int), .int .u16 (id : Int), .int .u32 (S : Int), .int .u32 (D : Int), .slice da n dc] 27 (0, 0)) by rw [← hBX]; exact hp1_3)
  have NX : Hid (w.heap.size ≤ BX) := hide hw0.1
  have HF := hide (show V3.heap[BF]? = some (.cells #[.int .u8 (fp : Int), .int .u32 (fs : Int), .int .u32 (fd : Int), .int .u16 (ff : Int), .int .u16 (ft : Int)] 29 (0, 0)) by rw [← hBF]; exact hp2_3)
  have NF : Hid (w.heap.size ≤ BF) := hide hw0.2.1
  have HR := hide (show V3.heap[BR]? = some (.cells #[.int .u8 0, .int .u8 0, .int .u16 0, .int .u32 0, .int .u32 0, .slice none 0 0] 27 (0, 0)) by rw [← hBR]; exact hp3_3)
  have NR : Hid (w.heap.size ≤ BR) := hide hw0.2.2
  have nqX_F : Hid (BX ≠ BF) := hide (by omega)
  have nqX_R : Hid (BX ≠ BR) := hide (by omega)
  have nqF_R : Hid (BF ≠ BR) := hide (by omega)
  have AP := hide hLx
  have RP := hide (hLx.below hb3 (Nat.le_refl _))
  have HB := hide hb3
  have HE := hide (And.intro (And.intro trivial trivial) (And.intro hV1 ( And.intro hV2 ( And.intro hV3 (And.intro hBX ( And.intro hBF ( And.intro hBR (trivial))))))))
  clear hw0 hV1 hz1 hb1 hV2 hz2 hb2 hV3 hz3 hb3 hc2 hc3 hp1_1 hp1_2 hp1_3 hp2_2 hp2_3 hp3_3 hBX hBF hBR hLx
  go_enter Try.func11, Try.ntmps11
  go_upto_region 1 with (fail)
  rw [HE.out.2.1]
  try rw [HE.out.2.2.1]
  try rw [HE.out.2.2.2.1]
  try rw [HE.out.2.2.2.2.2.2.1]
  try rw [HE.out.2.2.2.2.2.1]
  try rw [HE.out.2.2.2.2.1]
  clear HE
  go_wp2_with ((refine ld_whole (o := ⟨some 9, _, _, _, _, _⟩) 27 (.tmp 2) rfl (by rfl) BX rfl #[.int .u8 (tt : Int), .int .u8 (P : Int), .int .u16 (id : Int), .int .u32 (S : Int), .int .u32 (D : Int), .slice da n dc] 27 HX.out Try.underlying27 (by kernel_rfl) ?_; try simp only [Act.put, List.setIfInBounds_toArray, List.set_cons_zero, List.set_cons_succ]))
  refine (HRD.out _ RP.out).mono ?_
  rintro e w1 ⟨LC, rfl, ⟨y, kk, hh, hy⟩, b⟩
  replace HX := hide (below_block b HX.out (Nat.le_refl _))
  replace HF := hide (below_block b HF.out (Nat.le_refl _))
  replace HR := hide (below_block b HR.out (Nat.le_refl _))
  replace RP := hide (RP.out.below b (Nat.le_refl _))
  replace HB := hide (HB.out.trans (b.mono HB.out.size))
  clear b 
  obtain ⟨hy1, _⟩ := hy (by simp)
  subst hy1
  have HLs := hide hh.size
  have HLo := hide hh.one
  have HL0 := hide hh.p
  clear hh
  have hst := run_storeCells_new (P := Try.prog) w1 65 (#[.int .u8 0, .int .u32 0, .int .u32 0, .int .u16 0, .int .u16 0, .int .i64 0, .int .u16 0, .int .u16 0, .int .u32 0, .int .u32 0, .int .u8 0, .int .u16 0, .int .u16 0, .slice none 0 0, .slice none 0 0, .int .u16 0, .int .u16 0, .bool false, .slice none 0 0, .int .u8 0, .int .u8 0, .int .u32 0, .slice none 0 0]) LC (by rw [HLs.out]; kernel_rfl) (by rw [HLs.out]; rfl) HLo.out
  obtain ⟨w2, hwn, wb, HN1⟩ : ∃ W, w1.alloc (.cells LC 65) = W ∧ Below w1.heap.size w1 W ∧ Hid (W.heap[w1.heap.size]? = some (.cells LC 65 (0, 0))) := ⟨_, rfl, (Below.refl w1.heap.size w1).alloc (Nat.le_refl _) _, hide (heap_alloc_new w1 _)⟩
  obtain ⟨BL, hBn⟩ : ∃ B, w1.heap.size = B := ⟨_, rfl⟩
  rw [hBn] at HN1
  have HW := hide (And.intro hwn hBn)
  have HBo := HB
  have nqX_L := hide (blk_ne HX.out hBn)
  have nqF_L := hide (blk_ne HF.out hBn)
  have nqR_L := hide (blk_ne HR.out hBn)
  have hbt := wb
  clear hwn hBn
  replace HX := hide (below_block wb HX.out (Nat.le_refl _))
  replace HF := hide (below_block wb HF.out (Nat.le_refl _))
  replace HR := hide (below_block wb HR.out (Nat.le_refl _))
  replace RP := hide (RP.out.below wb (Nat.le_refl _))
  replace HB := hide (HB.out.trans (wb.mono HB.out.size))
  have HL := HN1
  have NL := hide (show w.heap.size ≤ BL by rw [← HW.out.2]; exact HBo.out.size)
  clear wb hbt HN1 HBo
  go_upto_region 2 with (fail)
  clear hst
  rw [HW.out.1]
  try rw [HW.out.2]
  clear HW
  have qF_0 : w2.cell? ⟨BF, 0, none⟩ = some (.int .u8 (fp : Int)) := cell_at HF.out 0 rfl
  have qL0 : w2.cell? ⟨BL, 0, none⟩ = some (.int .u8 (y.p : Int)) := cell_at HL.out 0 HL0.out
  go_wp2_with ((refine st_part (o := ⟨none, _, _, _, _, _⟩) 27 (.tmp 4) (.tmp 23) rfl (by rfl) BR 0 rfl #[.int .u8 0, .int .u8 0, .int .u16 0, .int .u32 0, .int .u32 0, .slice none 0 0] 27 #[.int .u8 0, .int .u8 0, .int .u16 0, .int .u32 0, .int .u32 0, .slice none 0 0] rfl HR.out rfl (by kernel_rfl) (by kernel_rfl) HB.out NR.out ?_; rintro w9 w9h w9b w9o w9s; try simp only [Act.put, List.setIfInBounds_toArray, List.set_cons_zero, List.set_cons_succ]))
  rw [upd_whole (by rfl)] at w9h
  exact bodyPost_ret (v := .tuple #[.agg #[.int .u8 0, .int .u8 0, .int .u16 0, .int .u32 0, .int .u32 0, .slice none 0 0], .int .i64 1]) (results_cell_tmp Try.results11 _ w9 BR _ _ _ _ rfl w9h Try.underlying27 rfl (by kernel_rfl) _ rfl) rfl ⟨rfl, w9b⟩
set_option maxHeartbeats 4000000 in
theorem rewrite_tcp (w : World) (tt id S D : Nat) (da : Option Addr) (xs : List Int) (n dc : Nat) (fs fd ff ft : Nat) (hLx : Lies w da xs n dc) (hl : xs.length = n) (hb : ∀ x ∈ xs, 0 ≤ x ∧ x ≤ 255) (hS : S ≤ 4294967295) (hD : D ≤ 4294967295) (hfs : fs ≤ 4294967295) (hfd : fd ≤ 4294967295) (hff : ff ≤ 65535) (hft : ft ≤ 65535) (hc : segCode S D xs = 0) :
    Calls Try.prog 11 #[.agg #[.int .u8 (tt : Int), .int .u8 6, .int .u16 (id : Int), .int .u32 (S : Int), .int .u32 (D : Int), .slice da n dc], .agg #[.int .u8 6, .int .u32 (fs : Int), .int .u32 (fd : Int), .int .u16 (ff : Int), .int .u16 (ft : Int)]] w fun e w' => ∃ a9 c9, e = .returned (.tuple #[.agg #[.int .u8 (tt : Int), .int .u8 6, .int .u16 (id : Int), .int .u32 (fs : Int), .int .u32 (fd : Int), .slice a9 (20 + (segOf S D xs).os.length + (segOf S D xs).ds.length) c9], .int .i64 0]) ∧ w'.ownsRow w.heap.size 5 1 (.slice a9 (20 + (segOf S D xs).os.length + (segOf S D xs).ds.length) c9) (20 + (segOf S D xs).os.length + (segOf S D xs).ds.length) ((tcpB fs fd ff ft (segOf S D xs)).map (Value.int .u8)) ∧ Below w.heap.size w w' := by
  have hft0 := seg_fit S D xs hb hc
  have HRD := hide (fun (W : World) (hL : Lies W da xs n dc) => rd_tcp W (tt : Int) (id : Int) S D da n dc xs hL hl hb hS hD)
  rw [hc] at HRD
  unfold tcpB
  generalize segOf S D xs = sg at *
  obtain ⟨p, q, u, v, f, g, h, os, ds⟩ := sg
  dsimp only at *
  have HWT := hide (fun (W : World) (a1 : Option Addr) (c1 : Nat) (a2 : Option Addr) (c2 : Nat) (h1 : Lies W a1 os os.length c1) (h2 : Lies W a2 ds ds.length c2) => wtcp_ok W fs fd ff ft u v f g h a1 os os.length c1 a2 ds ds.length c2 h1.row h1.no rfl h2.row h2.no rfl hft0.ob hft0.db hft0.o hft0.o4 hft0.d hfs hfd hff hft hft0.u hft0.v hft0.f hft0.g hft0.h)
  clear hft0 hc hl hb
  obtain ⟨V1, hV1⟩ : ∃ V, w.alloc (.cells #[.int .u8 (tt : Int), .int .u8 6, .int .u16 (id : Int), .int .u32 (S : Int), .int .u32 (D : Int), .slice da n dc] 27) = V := ⟨_, rfl⟩
  obtain ⟨V2, hV2⟩ : ∃ V, V1.alloc (.cells #[.int .u8 6, .int .u32 (fs : Int), .int .u32 (fd : Int), .int .u16 (ff : Int), .int .u16 (ft : Int)] 29) = V := ⟨_, rfl⟩
  obtain ⟨V3, hV3⟩ : ∃ V, V2.alloc (.cells #[.int .u8 0, .int .u8 0, .int .u16 0, .int .u32 0, .int .u32 0, .slice none 0 0] 27) = V := ⟨_, rfl⟩
  have hz1 : V1.heap.size = w.heap.size + 1 := by rw [← hV1]; simp
  have hz2 : V2.heap.size = w.heap.size + 1 + 1 := by rw [← hV2]; simp [hz1]
  have hz3 : V3.heap.size = w.heap.size + 1 + 1 + 1 := by rw [← hV3]; simp [hz2]
  have hb1 : Below w.heap.size w V1 := by rw [← hV1]; exact (Below.refl _ _).alloc (Nat.le_refl _) _
  have hc2 : Below V1.heap.size V1 V2 := by rw [← hV2]; exact (Below.refl _ _).alloc (Nat.le_refl _) _
  have hb2 := hb1.trans (hc2.mono hb1.size)
  have hc3 : Below V2.heap.size V2 V3 := by rw [← hV3]; exact (Below.refl _ _).alloc (Nat.le_refl _) _
  have hb3 := hb2.trans (hc3.mono hb2.size)
  have hp1_1 : V1.heap[w.heap.size]? = some (.cells #[.int .u8 (tt : Int), .int .u8 6, .int .u16 (id : Int), .int .u32 (S : Int), .int .u32 (D : Int), .slice da n dc] 27 (0, 0)) := by rw [← hV1]; exact heap_alloc_new _ _
  have hp1_2 := below_block hc2 hp1_1 (Nat.le_refl _)
  have hp1_3 := below_block hc3 hp1_2 (Nat.le_refl _)
  have hp2_2 : V2.heap[w.heap.size + 1]? = some (.cells #[.int .u8 6, .int .u32 (fs : Int), .int .u32 (fd : Int), .int .u16 (ff : Int), .int .u16 (ft : Int)] 29 (0, 0)) := by rw [← hV2, ← hz1]; exact heap_alloc_new _ _
  have hp2_3 := below_block hc3 hp2_2 (Nat.le_refl _)
  have hp3_3 : V3.heap[w.heap.size + 1 + 1]? = some (.cells #[.int .u8 0, .int .u8 0, .int .u16 0, .int .u32 0, .int .u32 0, .slice none 0 0] 27 (0, 0)) := by rw [← hV3, ← hz2]; exact heap_alloc_new _ _
  obtain ⟨BX, hBX⟩ : ∃ B, w.heap.size = B := ⟨_, rfl⟩
  obtain ⟨BF, hBF⟩ : ∃ B, w.heap.size + 1 = B := ⟨_, rfl⟩
  obtain ⟨BR, hBR⟩ : ∃ B, w.heap.size + 1 + 1 = B := ⟨_, rfl⟩
  have hw0 : w.heap.size ≤ BX ∧ w.heap.size ≤ BF ∧ w.heap.size ≤ BR := by omega
  have HX := hide (show V3.heap[BX]? = some (.cells #[.int .u8 (tt : Int), .int .u8 6, .int .u16 (id : Int), .int .u32 (S : Int), .int .u32 (D : Int), .slice da n dc] 27 (0, 0)) by rw [← hBX]; exact hp1_3)
  have NX : Hid (w.heap.size ≤ BX) := hide hw0.1
  have HF := hide (show V3.heap[BF]? = some (.cells #[.int .u8 6, .int .u32 (fs : Int), .int .u32 (fd : Int), .int .u16 (ff : Int), .int .u16 (ft : Int)] 29 (0, 0)) by rw [← hBF]; exact hp2_3)
  have NF : Hid (w.heap.size ≤ BF) := hide hw0.2.1
  have HR := hide (show V3.heap[BR]? = some (.cells #[.int .u8 0, .int .u8 0, .int .u16 0, .int .u32 0, .int .u32 0, .slice none 0 0] 27 (0, 0)) by rw [← hBR]; exact hp3_3)
  have NR : Hid (w.heap.size ≤ BR) := hide hw0.2.2
  have nqX_F : Hid (BX ≠ BF) := hide (by omega)
  have nqX_R : Hid (BX ≠ BR) := hide (by omega)
  have nqF_R : Hid (BF ≠ BR) := hide (by omega)
  have AP := hide hLx
  have RP := hide (hLx.below hb3 (Nat.le_refl _))
  have HB := hide hb3
  have HE := hide (And.intro (And.intro trivial trivial) (And.intro hV1 ( And.intro hV2 ( And.intro hV3 (And.intro hBX ( And.intro hBF ( And.intro hBR (trivial))))))))
  clear hw0 hV1 hz1 hb1 hV2 hz2 hb2 hV3 hz3 hb3 hc2 hc3 hp1_1 hp1_2 hp1_3 hp2_2 hp2_3 hp3_3 hBX hBF hBR hLx
  go_enter Try.func11, Try.ntmps11
  go_upto_region 1 with (fail)
  rw [HE.out.2.1]
  try rw [HE.out.2.2.1]
  try rw [HE.out.2.2.2.1]
  try rw [HE.out.2.2.2.2.2.2.1]
  try rw [HE.out.2.2.2.2.2.1]
  try rw [HE.out.2.2.2.2.1]
  clear HE
  go_wp2_with ((refine ld_whole (o := ⟨some 9, _, _, _, _, _⟩) 27 (.tmp 2) rfl (by rfl) BX rfl #[.int .u8 (tt : Int), .int .u8 6, .int .u16 (id : Int), .int .u32 (S : Int), .int .u32 (D : Int), .slice da n dc] 27 HX.out Try.underlying27 (by kernel_rfl) ?_; try simp only [Act.put, List.setIfInBounds_toArray, List.set_cons_zero, List.set_cons_succ]))
  have ltQ_X := hide (lt_of_block HX.out)
  have ltQ_F := hide (lt_of_block HF.out)
  have ltQ_R := hide (lt_of_block HR.out)
  have lbQ := hide HB.out.size
  have ltT_X := hide (lt_of_block HX.out)
  have ltT_F := hide (lt_of_block HF.out)
  have ltT_R := hide (lt_of_block HR.out)
  have lbT := hide HB.out.size
  refine (HRD.out _ RP.out).mono ?_
  rintro e w1 ⟨a1, c1, a2, c2, rfl, o1, o2, b⟩
  replace HX := hide (below_block b HX.out (Nat.le_refl _))
  replace HF := hide (below_block b HF.out (Nat.le_refl _))
  replace HR := hide (below_block b HR.out (Nat.le_refl _))
  replace RP := hide (RP.out.below b (Nat.le_refl _))
  replace HB := hide (HB.out.trans (b.mono HB.out.size))
  have OQ := hide o1
  have neQ_X := hide (own_ne_lt o1 ltQ_X.out)
  clear ltQ_X
  have neQ_F := hide (own_ne_lt o1 ltQ_F.out)
  clear ltQ_F
  have neQ_R := hide (own_ne_lt o1 ltQ_R.out)
  clear ltQ_R
  have OT := hide o2
  have neT_X := hide (own_ne_lt o2 ltT_X.out)
  clear ltT_X
  have neT_F := hide (own_ne_lt o2 ltT_F.out)
  clear ltT_F
  have neT_R := hide (own_ne_lt o2 ltT_R.out)
  clear ltT_R
  clear b  o1 o2
  obtain ⟨LC, hLC⟩ : ∃ c, (#[.int .u8 6, .int .u32 (S : Int), .int .u32 (D : Int), .int .u16 (p : Int), .int .u16 (q : Int), .int .i64 1, .int .u16 (p : Int), .int .u16 (q : Int), .int .u32 (u : Int), .int .u32 (v : Int), .int .u8 (f : Int), .int .u16 (g : Int), .int .u16 (h : Int), .slice a1 os.length c1, .slice a2 ds.length c2, .int .u16 0, .int .u16 0, .bool false, .slice none 0 0, .int .u8 0, .int .u8 0, .int .u32 0, .slice none 0 0] : Array Value) = c := ⟨_, rfl⟩
  rw [hLC]
  have HLs := hide (show LC.size = 23 by rw [← hLC]; rfl)
  have HLo := hide (show LC.all (·.oneCell') = true by rw [← hLC]; kernel_rfl)
  have HL0 := hide (show LC[0]? = some (.int .u8 6) by rw [← hLC]; rfl)
  have HL1 := hide (show LC[1]? = some (.int .u32 (S : Int)) by rw [← hLC]; rfl)
  have HL2 := hide (show LC[2]? = some (.int .u32 (D : Int)) by rw [← hLC]; rfl)
  have HL3 := hide (show LC[3]? = some (.int .u16 (p : Int)) by rw [← hLC]; rfl)
  have HL4 := hide (show LC[4]? = some (.int .u16 (q : Int)) by rw [← hLC]; rfl)
  have HL5 := hide (show LC[5]? = some (.int .i64 1) by rw [← hLC]; rfl)
  have HL6 := hide (show LC[6]? = some (.int .u16 (p : Int)) by rw [← hLC]; rfl)
  have HL7 := hide (show LC[7]? = some (.int .u16 (q : Int)) by rw [← hLC]; rfl)
  have HL8 := hide (show LC[8]? = some (.int .u32 (u : Int)) by rw [← hLC]; rfl)
  have HL9 := hide (show LC[9]? = some (.int .u32 (v : Int)) by rw [← hLC]; rfl)
  have HL10 := hide (show LC[10]? = some (.int .u8 (f : Int)) by rw [← hLC]; rfl)
  have HL11 := hide (show LC[11]? = some (.int .u16 (g : Int)) by rw [← hLC]; rfl)
  have HL12 := hide (show LC[12]? = some (.int .u16 (h : Int)) by rw [← hLC]; rfl)
  have HL13 := hide (show LC[13]? = some (.slice a1 os.length c1) by rw [← hLC]; rfl)
  have HL14 := hide (show LC[14]? = some (.slice a2 ds.length c2) by rw [← hLC]; rfl)
  have HL15 := hide (show LC[15]? = some (.int .u16 0) by rw [← hLC]; rfl)
  have HL16 := hide (show LC[16]? = some (.int .u16 0) by rw [← hLC]; rfl)
  have HL17 := hide (show LC[17]? = some (.bool false) by rw [← hLC]; rfl)
  have HL18 := hide (show LC[18]? = some (.slice none 0 0) by rw [← hLC]; rfl)
  have HL19 := hide (show LC[19]? = some (.int .u8 0) by rw [← hLC]; rfl)
  have HL20 := hide (show LC[20]? = some (.int .u8 0) by rw [← hLC]; rfl)
  have HL21 := hide (show LC[21]? = some (.int .u32 0) by rw [← hLC]; rfl)
  have HL22 := hide (show LC[22]? = some (.slice none 0 0) by rw [← hLC]; rfl)
  clear hLC
  have hst := run_storeCells_new (P := Try.prog) w1 65 (#[.int .u8 0, .int .u32 0, .int .u32 0, .int .u16 0, .int .u16 0, .int .i64 0, .int .u16 0, .int .u16 0, .int .u32 0, .int .u32 0, .int .u8 0, .int .u16 0, .int .u16 0, .slice none 0 0, .slice none 0 0, .int .u16 0, .int .u16 0, .bool false, .slice none 0 0, .int .u8 0, .int .u8 0, .int .u32 0, .slice none 0 0]) LC (by rw [HLs.out]; kernel_rfl) (by rw [HLs.out]; rfl) HLo.out
  obtain ⟨w2, hwn, wb, HN1⟩ : ∃ W, w1.alloc (.cells LC 65) = W ∧ Below w1.heap.size w1 W ∧ Hid (W.heap[w1.heap.size]? = some (.cells LC 65 (0, 0))) := ⟨_, rfl, (Below.refl w1.heap.size w1).alloc (Nat.le_refl _) _, hide (heap_alloc_new w1 _)⟩
  obtain ⟨BL, hBn⟩ : ∃ B, w1.heap.size = B := ⟨_, rfl⟩
  rw [hBn] at HN1
  have HW := hide (And.intro hwn hBn)
  have HBo := HB
  have neQ_L := hide (own_ne (L := BL) OQ.out (Nat.le_of_eq hBn))
  have neT_L := hide (own_ne (L := BL) OT.out (Nat.le_of_eq hBn))
  have nqX_L := hide (blk_ne HX.out hBn)
  have nqF_L := hide (blk_ne HF.out hBn)
  have nqR_L := hide (blk_ne HR.out hBn)
  have hbt := wb
  clear hwn hBn
  replace HX := hide (below_block wb HX.out (Nat.le_refl _))
  replace HF := hide (below_block wb HF.out (Nat.le_refl _))
  replace HR := hide (below_block wb HR.out (Nat.le_refl _))
  replace RP := hide (RP.out.below wb (Nat.le_refl _))
  replace OQ := hide (owns_below OQ.out wb (Nat.le_refl _))
  replace OT := hide (owns_below OT.out wb (Nat.le_refl _))
  replace HB := hide (HB.out.trans (wb.mono HB.out.size))
  have HL := HN1
  have NL := hide (show w.heap.size ≤ BL by rw [← HW.out.2]; exact HBo.out.size)
  clear wb hbt HN1 HBo
  go_upto_region 2 with (fail)
  clear hst
  rw [HW.out.1]
  try rw [HW.out.2]
  clear HW
  have qF_0 : w2.cell? ⟨BF, 0, none⟩ = some (.int .u8 6) := cell_at HF.out 0 rfl
  have qL0 : w2.cell? ⟨BL, 0, none⟩ = some (.int .u8 6) := cell_at HL.out 0 HL0.out
  go_upto_region 6 with (fail)
  clear qF_0 qL0
  have qF_1 : w2.cell? ⟨BF, 1, none⟩ = some (.int .u32 (fs : Int)) := cell_at HF.out 1 rfl
  have qL1 : w2.cell? ⟨BL, 1, none⟩ = some (.int .u32 (S : Int)) := cell_at HL.out 1 HL1.out
  have qF_2 : w2.cell? ⟨BF, 2, none⟩ = some (.int .u32 (fd : Int)) := cell_at HF.out 2 rfl
  have qL2 : w2.cell? ⟨BL, 2, none⟩ = some (.int .u32 (D : Int)) := cell_at HL.out 2 HL2.out
  have qX_3 : w2.cell? ⟨BX, 3, none⟩ = some (.int .u32 (S : Int)) := cell_at HX.out 3 rfl
  have qX_4 : w2.cell? ⟨BX, 4, none⟩ = some (.int .u32 (D : Int)) := cell_at HX.out 4 rfl
  go_still_tail 17, (by kernel_rfl)
  still_call (moved_same S fs _)
  repeat still_step
  still_call (moved_same D fd _)
  repeat still_step
  refine wpStill_nil ?_
  obtain ⟨w3, hVq, wb⟩ : ∃ V, w2.drew = V ∧ Below w2.heap.size w2 V := ⟨_, rfl, (Below.refl _ _).drew⟩
  change wpList _ _ _ _ _ w2.drew
  rw [hVq]
  clear hVq
  clear qF_1 qL1 qF_2 qL2 qX_3 qX_4
  replace HX := hide (below_block wb HX.out (Nat.le_refl _))
  replace HF := hide (below_block wb HF.out (Nat.le_refl _))
  replace HR := hide (below_block wb HR.out (Nat.le_refl _))
  replace HL := hide (below_block wb HL.out (Nat.le_refl _))
  replace RP := hide (RP.out.below wb (Nat.le_refl _))
  replace OQ := hide (owns_below OQ.out wb (Nat.le_refl _))
  replace OT := hide (owns_below OT.out wb (Nat.le_refl _))
  replace HB := hide (HB.out.trans (wb.mono HB.out.size))
  clear wb
  have qX_3 : w3.cell? ⟨BX, 3, none⟩ = some (.int .u32 (S : Int)) := cell_at HX.out 3 rfl
  have qX_4 : w3.cell? ⟨BX, 4, none⟩ = some (.int .u32 (D : Int)) := cell_at HX.out 4 rfl
  have fz := free_at HX.out
  obtain ⟨w4, hVa, hVH, hVB, hVo, hVs⟩ := set1 (i := 3) (.int .u32 (fs : Int)) (c' := #[.int .u8 (tt : Int), .int .u8 6, .int .u16 (id : Int), .int .u32 (fs : Int), .int .u32 (D : Int), .slice da n dc]) HX.out HB.out NX.out (by kernel_rfl)
  obtain ⟨w5, hVb, hUH, hUB, hUo, hUs⟩ := set1 (i := 4) (.int .u32 (fd : Int)) (c' := #[.int .u8 (tt : Int), .int .u8 6, .int .u16 (id : Int), .int .u32 (fs : Int), .int .u32 (fd : Int), .slice da n dc]) hVH hVB NX.out (by kernel_rfl)
  have HVn := hide (And.intro hVa hVb)
  clear hVa hVb
  have HG := hide (gb_trans (gb_part HB.out hVB hVo hVs) (gb_part hVB hUB hUo hUs))
  have HXn := hide hUH
  have HFn := hide ((hUo _ nqX_F.out.symm).trans ((hVo _ nqX_F.out.symm).trans HF.out))
  have HRn := hide ((hUo _ nqX_R.out.symm).trans ((hVo _ nqX_R.out.symm).trans HR.out))
  have HLn := hide ((hUo _ nqX_L.out.symm).trans ((hVo _ nqX_L.out.symm).trans HL.out))
  have RPn := hide (AP.out.below hUB (Nat.le_refl _))
  have OQn := hide (owns_kept OQ.out HG.out neQ_X.out)
  have OTn := hide (owns_kept OT.out HG.out neT_X.out)
  have HBn := hide hUB
  clear hVH hVB hVo hVs hUH hUB hUo hUs HG
  go_upto_region 7 with (fail)
  rw [HVn.out.1, HVn.out.2]
  clear HVn fz
  clear qX_3 qX_4
  replace HX := HXn
  clear HXn
  replace HF := HFn
  clear HFn
  replace HR := HRn
  clear HRn
  replace HL := HLn
  clear HLn
  replace RP := RPn
  clear RPn
  replace OQ := OQn
  clear OQn
  replace OT := OTn
  clear OTn
  replace HB := HBn
  clear HBn
  go_wp2_with ((refine ld_whole (o := ⟨some 42, _, _, _, _, _⟩) 29 (.tmp 3) rfl (by rfl) BF rfl #[.int .u8 6, .int .u32 (fs : Int), .int .u32 (fd : Int), .int .u16 (ff : Int), .int .u16 (ft : Int)] 29 HF.out Try.underlying29 (by kernel_rfl) ?_; try simp only [Act.put, List.setIfInBounds_toArray, List.set_cons_zero, List.set_cons_succ]))
  obtain ⟨LC2, hLC2⟩ : ∃ c, ((((LC.setIfInBounds 6 (.int .u16 (ff : Int))).setIfInBounds 7 (.int .u16 (ft : Int))).setIfInBounds 15 (.int .u16 (ff : Int))).setIfInBounds 16 (.int .u16 (ft : Int))) = c := ⟨_, rfl⟩
  have HMV := hide (move_data _ BL LC _ _ _ _ 6 fs fd ff ft HL.out HL5.out HL6.out HL7.out HL15.out HL16.out)
  rw [hLC2] at HMV
  have G6 := hide (show LC2[6]? = some (.int .u16 (ff : Int)) by rw [← hLC2]; rw [sib_ne (by omega), sib_ne (by omega), sib_ne (by omega), sib_eq (by simp [HLs.out])])
  have G7 := hide (show LC2[7]? = some (.int .u16 (ft : Int)) by rw [← hLC2]; rw [sib_ne (by omega), sib_ne (by omega), sib_eq (by simp [HLs.out])])
  have G8 := hide (show LC2[8]? = some (.int .u32 (u : Int)) by rw [← hLC2]; rw [sib_ne (by omega), sib_ne (by omega), sib_ne (by omega), sib_ne (by omega)]; exact HL8.out)
  have G9 := hide (show LC2[9]? = some (.int .u32 (v : Int)) by rw [← hLC2]; rw [sib_ne (by omega), sib_ne (by omega), sib_ne (by omega), sib_ne (by omega)]; exact HL9.out)
  have G10 := hide (show LC2[10]? = some (.int .u8 (f : Int)) by rw [← hLC2]; rw [sib_ne (by omega), sib_ne (by omega), sib_ne (by omega), sib_ne (by omega)]; exact HL10.out)
  have G11 := hide (show LC2[11]? = some (.int .u16 (g : Int)) by rw [← hLC2]; rw [sib_ne (by omega), sib_ne (by omega), sib_ne (by omega), sib_ne (by omega)]; exact HL11.out)
  have G12 := hide (show LC2[12]? = some (.int .u16 (h : Int)) by rw [← hLC2]; rw [sib_ne (by omega), sib_ne (by omega), sib_ne (by omega), sib_ne (by omega)]; exact HL12.out)
  have G13 := hide (show LC2[13]? = some (.slice a1 os.length c1) by rw [← hLC2]; rw [sib_ne (by omega), sib_ne (by omega), sib_ne (by omega), sib_ne (by omega)]; exact HL13.out)
  have G14 := hide (show LC2[14]? = some (.slice a2 ds.length c2) by rw [← hLC2]; rw [sib_ne (by omega), sib_ne (by omega), sib_ne (by omega), sib_ne (by omega)]; exact HL14.out)
  clear hLC2
  refine (HMV.out).mono ?_
  rintro e w6 ⟨rfl, hL9, hg9⟩
  have HBn := hide (HB.out.grown hg9 HB.out.size (fun k e => by cases e; exact NL.out))
  replace HX := hide (gb_other hg9 HX.out nqX_L.out)
  replace HF := hide (gb_other hg9 HF.out nqF_L.out)
  replace HR := hide (gb_other hg9 HR.out nqR_L.out)
  replace HL := hide hL9
  replace OQ := hide (owns_kept OQ.out hg9 neQ_L.out)
  replace OT := hide (owns_kept OT.out hg9 neT_L.out)
  replace RP := hide (AP.out.below HBn.out (Nat.le_refl _))
  replace HB := HBn
  clear HBn hL9 hg9
  clear HMV
  go_wp2_with ((refine ld_whole (o := ⟨some 44, _, _, _, _, _⟩) 27 (.tmp 2) rfl (by rfl) BX rfl #[.int .u8 (tt : Int), .int .u8 6, .int .u16 (id : Int), .int .u32 (fs : Int), .int .u32 (fd : Int), .slice da n dc] 27 HX.out Try.underlying27 (by kernel_rfl) ?_; try simp only [Act.put, List.setIfInBounds_toArray, List.set_cons_zero, List.set_cons_succ]))
  have ltZ_X := hide (lt_of_block HX.out)
  have ltZ_F := hide (lt_of_block HF.out)
  have ltZ_R := hide (lt_of_block HR.out)
  have ltZ_L := hide (lt_of_block HL.out)
  have lbZ := hide HB.out.size
  refine (write_tcp _ BL LC2 tt id fs fd da n dc ff ft u v f g h a1 os.length c1 a2 ds.length c2 (20 + os.length + ds.length) _ HL.out G6.out G7.out G8.out G9.out G10.out G11.out G12.out G13.out G14.out (hide (fun W hW => HWT.out W a1 c1 a2 c2 ((Lies.of_owns OQ.out).below hW (Nat.le_refl _)) ((Lies.of_owns OT.out).below hW (Nat.le_refl _))))).mono ?_
  rintro e w7 ⟨a9, c9, rfl, o, b⟩
  replace HX := hide (below_block b HX.out (Nat.le_refl _))
  replace HF := hide (below_block b HF.out (Nat.le_refl _))
  replace HR := hide (below_block b HR.out (Nat.le_refl _))
  replace HL := hide (below_block b HL.out (Nat.le_refl _))
  replace RP := hide (RP.out.below b (Nat.le_refl _))
  replace OQ := hide (owns_below OQ.out b (Nat.le_refl _))
  replace OT := hide (owns_below OT.out b (Nat.le_refl _))
  replace HB := hide (HB.out.trans (b.mono HB.out.size))
  have OZ := hide o
  have neZ_X := hide (own_ne_lt o ltZ_X.out)
  clear ltZ_X
  have neZ_F := hide (own_ne_lt o ltZ_F.out)
  clear ltZ_F
  have neZ_R := hide (own_ne_lt o ltZ_R.out)
  clear ltZ_R
  have neZ_L := hide (own_ne_lt o ltZ_L.out)
  clear ltZ_L
  clear b  o
  have fz := free_at HX.out 5
  have qX_5 : w7.cell? ⟨BX, 5, none⟩ = some (.slice da n dc) := cell_at HX.out 5 rfl
  obtain ⟨w8, hVn, hVH, hVB, hVo, hVs⟩ := set1 (i := 5) (.slice a9 (20 + os.length + ds.length) c9) (c' := #[.int .u8 (tt : Int), .int .u8 6, .int .u16 (id : Int), .int .u32 (fs : Int), .int .u32 (fd : Int), .slice a9 (20 + os.length + ds.length) c9]) HX.out HB.out NX.out (by kernel_rfl)
  have HVn := hide hVn
  clear hVn
  have HG := hide (gb_part HB.out hVB hVo hVs)
  have HXn := hide hVH
  have HFn := hide ((hVo _ nqX_F.out.symm).trans HF.out)
  have HRn := hide ((hVo _ nqX_R.out.symm).trans HR.out)
  have HLn := hide ((hVo _ nqX_L.out.symm).trans HL.out)
  have RPn := hide (AP.out.below hVB (Nat.le_refl _))
  have OQn := hide (owns_kept OQ.out HG.out neQ_X.out)
  have OTn := hide (owns_kept OT.out HG.out neT_X.out)
  have OZn := hide (owns_kept OZ.out HG.out neZ_X.out)
  have HBn := hide hVB
  clear hVH hVB hVo hVs HG
  go_upto_region 9 with (fail)
  rw [HVn.out]
  clear HVn fz
  clear qX_5
  replace HX := HXn
  clear HXn
  replace HF := HFn
  clear HFn
  replace HR := HRn
  clear HRn
  replace HL := HLn
  clear HLn
  replace RP := RPn
  clear RPn
  replace OQ := OQn
  clear OQn
  replace OT := OTn
  clear OTn
  replace OZ := OZn
  clear OZn
  replace HB := HBn
  clear HBn
  go_wp2_with (first | (refine ld_whole (o := ⟨some 47, _, _, _, _, _⟩) 27 (.tmp 2) rfl (by rfl) BX rfl #[.int .u8 (tt : Int), .int .u8 6, .int .u16 (id : Int), .int .u32 (fs : Int), .int .u32 (fd : Int), .slice a9 (20 + os.length + ds.length) c9] 27 HX.out Try.underlying27 (by kernel_rfl) ?_; try simp only [Act.put, List.setIfInBounds_toArray, List.set_cons_zero, List.set_cons_succ]) | (refine st_part (o := ⟨none, _, _, _, _, _⟩) 27 (.tmp 4) (.tmp 47) rfl (by rfl) BR 0 rfl #[.int .u8 0, .int .u8 0, .int .u16 0, .int .u32 0, .int .u32 0, .slice none 0 0] 27 #[.int .u8 (tt : Int), .int .u8 6, .int .u16 (id : Int), .int .u32 (fs : Int), .int .u32 (fd : Int), .slice a9 (20 + os.length + ds.length) c9] rfl HR.out rfl (by kernel_rfl) (by kernel_rfl) HB.out NR.out ?_; rintro w9 w9h w9b w9o w9s; try simp only [Act.put, List.setIfInBounds_toArray, List.set_cons_zero, List.set_cons_succ]))
  rw [upd_whole (by rfl)] at w9h
  exact bodyPost_ret (v := .tuple #[.agg #[.int .u8 (tt : Int), .int .u8 6, .int .u16 (id : Int), .int .u32 (fs : Int), .int .u32 (fd : Int), .slice a9 (20 + os.length + ds.length) c9], .int .i64 0]) (results_cell_tmp Try.results11 _ w9 BR _ _ _ _ rfl w9h Try.underlying27 rfl (by kernel_rfl) _ rfl) rfl ⟨a9, c9, rfl, owns_mono (owns_kept OZ.out (gb_part HB.out w9b w9o w9s) neZ_R.out) lbZ.out, w9b⟩
theorem wudp_any (w : World) (src dst p q : Nat) (pl : Bool) (da : Option Addr) (xs : List Int) (n dc : Nat) (hL : Lies w da xs n dc) (hl : xs.length = n) (hb : ∀ x ∈ xs, 0 ≤ x ∧ x ≤ 255) (h1 : n ≤ 1472) (hs : src ≤ 4294967295) (hd : dst ≤ 4294967295) (hp : p ≤ 65535) (hq : q ≤ 65535) :
    Calls Try.prog 58 #[.int .u32 src, .int .u32 dst, .agg #[.int .u16 (p : Int), .int .u16 (q : Int), .bool pl, .slice da n dc]] w fun e w' => ∃ a c,
      e = .returned (.tuple #[.slice a (8 + n) c, .int .i64 0]) ∧ w'.ownsRow w.heap.size 5 1 (.slice a (8 + n) c) (8 + n) ((udpB src dst p q ⟨p, q, pl, xs⟩).map (Value.int .u8)) ∧ Below w.heap.size w w' := by
  cases pl with
  | true => exact wudp_plain w src dst p q da xs n dc hL.row hL.no hl h1 hs hd hp hq
  | false => exact wudp_sum w src dst p q da xs n dc hL.row hL.no hl hb h1 hs hd hp hq
set_option maxHeartbeats 4000000 in
theorem rewrite_udp (w : World) (tt id S D : Nat) (da : Option Addr) (xs : List Int) (n dc : Nat) (fs fd ff ft : Nat) (hLx : Lies w da xs n dc) (hl : xs.length = n) (hb : ∀ x ∈ xs, 0 ≤ x ∧ x ≤ 255) (hS : S ≤ 4294967295) (hD : D ≤ 4294967295) (hfs : fs ≤ 4294967295) (hfd : fd ≤ 4294967295) (hff : ff ≤ 65535) (hft : ft ≤ 65535) (hc : dgmCode S D xs = 0) :
    Calls Try.prog 11 #[.agg #[.int .u8 (tt : Int), .int .u8 17, .int .u16 (id : Int), .int .u32 (S : Int), .int .u32 (D : Int), .slice da n dc], .agg #[.int .u8 17, .int .u32 (fs : Int), .int .u32 (fd : Int), .int .u16 (ff : Int), .int .u16 (ft : Int)]] w fun e w' => ∃ a9 c9, e = .returned (.tuple #[.agg #[.int .u8 (tt : Int), .int .u8 17, .int .u16 (id : Int), .int .u32 (fs : Int), .int .u32 (fd : Int), .slice a9 (8 + (dgmOf S D xs).ds.length) c9], .int .i64 0]) ∧ w'.ownsRow w.heap.size 5 1 (.slice a9 (8 + (dgmOf S D xs).ds.length) c9) (8 + (dgmOf S D xs).ds.length) ((udpB fs fd ff ft (dgmOf S D xs)).map (Value.int .u8)) ∧ Below w.heap.size w w' := by
  have hft0 := dgm_fit S D xs hb hc
  have HRD := hide (fun (W : World) (hL : Lies W da xs n dc) => rd_udp W (tt : Int) (id : Int) S D da n dc xs hL hl hb hS hD)
  rw [hc] at HRD
  generalize dgmOf S D xs = sg at *
  obtain ⟨p, q, pl, ds⟩ := sg
  dsimp only at *
  have hub : udpB fs fd ff ft ⟨p, q, pl, ds⟩ = udpB fs fd ff ft ⟨ff, ft, pl, ds⟩ := rfl
  rw [hub]
  have HWT := hide (fun (W : World) (a2 : Option Addr) (c2 : Nat) (h2 : Lies W a2 ds ds.length c2) => wudp_any W fs fd ff ft pl a2 ds ds.length c2 h2 rfl hft0.db hft0.d hfs hfd hff hft)
  generalize udpB fs fd ff ft ⟨ff, ft, pl, ds⟩ = body at *
  clear hft0 hc hl hb hub
  obtain ⟨V1, hV1⟩ : ∃ V, w.alloc (.cells #[.int .u8 (tt : Int), .int .u8 17, .int .u16 (id : Int), .int .u32 (S : Int), .int .u32 (D : Int), .slice da n dc] 27) = V := ⟨_, rfl⟩
  obtain ⟨V2, hV2⟩ : ∃ V, V1.alloc (.cells #[.int .u8 17, .int .u32 (fs : Int), .int .u32 (fd : Int), .int .u16 (ff : Int), .int .u16 (ft : Int)] 29) = V := ⟨_, rfl⟩
  obtain ⟨V3, hV3⟩ : ∃ V, V2.alloc (.cells #[.int .u8 0, .int .u8 0, .int .u16 0, .int .u32 0, .int .u32 0, .slice none 0 0] 27) = V := ⟨_, rfl⟩
  have hz1 : V1.heap.size = w.heap.size + 1 := by rw [← hV1]; simp
  have hz2 : V2.heap.size = w.heap.size + 1 + 1 := by rw [← hV2]; simp [hz1]
  have hz3 : V3.heap.size = w.heap.size + 1 + 1 + 1 := by rw [← hV3]; simp [hz2]
  have hb1 : Below w.heap.size w V1 := by rw [← hV1]; exact (Below.refl _ _).alloc (Nat.le_refl _) _
  have hc2 : Below V1.heap.size V1 V2 := by rw [← hV2]; exact (Below.refl _ _).alloc (Nat.le_refl _) _
  have hb2 := hb1.trans (hc2.mono hb1.size)
  have hc3 : Below V2.heap.size V2 V3 := by rw [← hV3]; exact (Below.refl _ _).alloc (Nat.le_refl _) _
  have hb3 := hb2.trans (hc3.mono hb2.size)
  have hp1_1 : V1.heap[w.heap.size]? = some (.cells #[.int .u8 (tt : Int), .int .u8 17, .int .u16 (id : Int), .int .u32 (S : Int), .int .u32 (D : Int), .slice da n dc] 27 (0, 0)) := by rw [← hV1]; exact heap_alloc_new _ _
  have hp1_2 := below_block hc2 hp1_1 (Nat.le_refl _)
  have hp1_3 := below_block hc3 hp1_2 (Nat.le_refl _)
  have hp2_2 : V2.heap[w.heap.size + 1]? = some (.cells #[.int .u8 17, .int .u32 (fs : Int), .int .u32 (fd : Int), .int .u16 (ff : Int), .int .u16 (ft : Int)] 29 (0, 0)) := by rw [← hV2, ← hz1]; exact heap_alloc_new _ _
  have hp2_3 := below_block hc3 hp2_2 (Nat.le_refl _)
  have hp3_3 : V3.heap[w.heap.size + 1 + 1]? = some (.cells #[.int .u8 0, .int .u8 0, .int .u16 0, .int .u32 0, .int .u32 0, .slice none 0 0] 27 (0, 0)) := by rw [← hV3, ← hz2]; exact heap_alloc_new _ _
  obtain ⟨BX, hBX⟩ : ∃ B, w.heap.size = B := ⟨_, rfl⟩
  obtain ⟨BF, hBF⟩ : ∃ B, w.heap.size + 1 = B := ⟨_, rfl⟩
  obtain ⟨BR, hBR⟩ : ∃ B, w.heap.size + 1 + 1 = B := ⟨_, rfl⟩
  have hw0 : w.heap.size ≤ BX ∧ w.heap.size ≤ BF ∧ w.heap.size ≤ BR := by omega
  have HX := hide (show V3.heap[BX]? = some (.cells #[.int .u8 (tt : Int), .int .u8 17, .int .u16 (id : Int), .int .u32 (S : Int), .int .u32 (D : Int), .slice da n dc] 27 (0, 0)) by rw [← hBX]; exact hp1_3)
  have NX : Hid (w.heap.size ≤ BX) := hide hw0.1
  have HF := hide (show V3.heap[BF]? = some (.cells #[.int .u8 17, .int .u32 (fs : Int), .int .u32 (fd : Int), .int .u16 (ff : Int), .int .u16 (ft : Int)] 29 (0, 0)) by rw [← hBF]; exact hp2_3)
  have NF : Hid (w.heap.size ≤ BF) := hide hw0.2.1
  have HR := hide (show V3.heap[BR]? = some (.cells #[.int .u8 0, .int .u8 0, .int .u16 0, .int .u32 0, .int .u32 0, .slice none 0 0] 27 (0, 0)) by rw [← hBR]; exact hp3_3)
  have NR : Hid (w.heap.size ≤ BR) := hide hw0.2.2
  have nqX_F : Hid (BX ≠ BF) := hide (by omega)
  have nqX_R : Hid (BX ≠ BR) := hide (by omega)
  have nqF_R : Hid (BF ≠ BR) := hide (by omega)
  have AP := hide hLx
  have RP := hide (hLx.below hb3 (Nat.le_refl _))
  have HB := hide hb3
  have HE := hide (And.intro (And.intro trivial trivial) (And.intro hV1 ( And.intro hV2 ( And.intro hV3 (And.intro hBX ( And.intro hBF ( And.intro hBR (trivial))))))))
  clear hw0 hV1 hz1 hb1 hV2 hz2 hb2 hV3 hz3 hb3 hc2 hc3 hp1_1 hp1_2 hp1_3 hp2_2 hp2_3 hp3_3 hBX hBF hBR hLx
  go_enter Try.func11, Try.ntmps11
  go_upto_region 1 with (fail)
  rw [HE.out.2.1]
  try rw [HE.out.2.2.1]
  try rw [HE.out.2.2.2.1]
  try rw [HE.out.2.2.2.2.2.2.1]
  try rw [HE.out.2.2.2.2.2.1]
  try rw [HE.out.2.2.2.2.1]
  clear HE
  go_wp2_with ((refine ld_whole (o := ⟨some 9, _, _, _, _, _⟩) 27 (.tmp 2) rfl (by rfl) BX rfl #[.int .u8 (tt : Int), .int .u8 17, .int .u16 (id : Int), .int .u32 (S : Int), .int .u32 (D : Int), .slice da n dc] 27 HX.out Try.underlying27 (by kernel_rfl) ?_; try simp only [Act.put, List.setIfInBounds_toArray, List.set_cons_zero, List.set_cons_succ]))
  have ltT_X := hide (lt_of_block HX.out)
  have ltT_F := hide (lt_of_block HF.out)
  have ltT_R := hide (lt_of_block HR.out)
  have lbT := hide HB.out.size
  refine (HRD.out _ RP.out).mono ?_
  rintro e w1 ⟨a2, c2, rfl, o2, b⟩
  replace HX := hide (below_block b HX.out (Nat.le_refl _))
  replace HF := hide (below_block b HF.out (Nat.le_refl _))
  replace HR := hide (below_block b HR.out (Nat.le_refl _))
  replace RP := hide (RP.out.below b (Nat.le_refl _))
  replace HB := hide (HB.out.trans (b.mono HB.out.size))
  have OT := hide o2
  have neT_X := hide (own_ne_lt o2 ltT_X.out)
  clear ltT_X
  have neT_F := hide (own_ne_lt o2 ltT_F.out)
  clear ltT_F
  have neT_R := hide (own_ne_lt o2 ltT_R.out)
  clear ltT_R
  clear b  o2
  obtain ⟨LC, hLC⟩ : ∃ c, (#[.int .u8 17, .int .u32 (S : Int), .int .u32 (D : Int), .int .u16 (p : Int), .int .u16 (q : Int), .int .i64 1, .int .u16 0, .int .u16 0, .int .u32 0, .int .u32 0, .int .u8 0, .int .u16 0, .int .u16 0, .slice none 0 0, .slice none 0 0, .int .u16 (p : Int), .int .u16 (q : Int), .bool pl, .slice a2 ds.length c2, .int .u8 0, .int .u8 0, .int .u32 0, .slice none 0 0] : Array Value) = c := ⟨_, rfl⟩
  rw [hLC]
  have HLs := hide (show LC.size = 23 by rw [← hLC]; rfl)
  have HLo := hide (show LC.all (·.oneCell') = true by rw [← hLC]; kernel_rfl)
  have HL0 := hide (show LC[0]? = some (.int .u8 17) by rw [← hLC]; rfl)
  have HL1 := hide (show LC[1]? = some (.int .u32 (S : Int)) by rw [← hLC]; rfl)
  have HL2 := hide (show LC[2]? = some (.int .u32 (D : Int)) by rw [← hLC]; rfl)
  have HL3 := hide (show LC[3]? = some (.int .u16 (p : Int)) by rw [← hLC]; rfl)
  have HL4 := hide (show LC[4]? = some (.int .u16 (q : Int)) by rw [← hLC]; rfl)
  have HL5 := hide (show LC[5]? = some (.int .i64 1) by rw [← hLC]; rfl)
  have HL6 := hide (show LC[6]? = some (.int .u16 0) by rw [← hLC]; rfl)
  have HL7 := hide (show LC[7]? = some (.int .u16 0) by rw [← hLC]; rfl)
  have HL8 := hide (show LC[8]? = some (.int .u32 0) by rw [← hLC]; rfl)
  have HL9 := hide (show LC[9]? = some (.int .u32 0) by rw [← hLC]; rfl)
  have HL10 := hide (show LC[10]? = some (.int .u8 0) by rw [← hLC]; rfl)
  have HL11 := hide (show LC[11]? = some (.int .u16 0) by rw [← hLC]; rfl)
  have HL12 := hide (show LC[12]? = some (.int .u16 0) by rw [← hLC]; rfl)
  have HL13 := hide (show LC[13]? = some (.slice none 0 0) by rw [← hLC]; rfl)
  have HL14 := hide (show LC[14]? = some (.slice none 0 0) by rw [← hLC]; rfl)
  have HL15 := hide (show LC[15]? = some (.int .u16 (p : Int)) by rw [← hLC]; rfl)
  have HL16 := hide (show LC[16]? = some (.int .u16 (q : Int)) by rw [← hLC]; rfl)
  have HL17 := hide (show LC[17]? = some (.bool pl) by rw [← hLC]; rfl)
  have HL18 := hide (show LC[18]? = some (.slice a2 ds.length c2) by rw [← hLC]; rfl)
  have HL19 := hide (show LC[19]? = some (.int .u8 0) by rw [← hLC]; rfl)
  have HL20 := hide (show LC[20]? = some (.int .u8 0) by rw [← hLC]; rfl)
  have HL21 := hide (show LC[21]? = some (.int .u32 0) by rw [← hLC]; rfl)
  have HL22 := hide (show LC[22]? = some (.slice none 0 0) by rw [← hLC]; rfl)
  clear hLC
  have hst := run_storeCells_new (P := Try.prog) w1 65 (#[.int .u8 0, .int .u32 0, .int .u32 0, .int .u16 0, .int .u16 0, .int .i64 0, .int .u16 0, .int .u16 0, .int .u32 0, .int .u32 0, .int .u8 0, .int .u16 0, .int .u16 0, .slice none 0 0, .slice none 0 0, .int .u16 0, .int .u16 0, .bool false, .slice none 0 0, .int .u8 0, .int .u8 0, .int .u32 0, .slice none 0 0]) LC (by rw [HLs.out]; kernel_rfl) (by rw [HLs.out]; rfl) HLo.out
  obtain ⟨w2, hwn, wb, HN1⟩ : ∃ W, w1.alloc (.cells LC 65) = W ∧ Below w1.heap.size w1 W ∧ Hid (W.heap[w1.heap.size]? = some (.cells LC 65 (0, 0))) := ⟨_, rfl, (Below.refl w1.heap.size w1).alloc (Nat.le_refl _) _, hide (heap_alloc_new w1 _)⟩
  obtain ⟨BL, hBn⟩ : ∃ B, w1.heap.size = B := ⟨_, rfl⟩
  rw [hBn] at HN1
  have HW := hide (And.intro hwn hBn)
  have HBo := HB
  have neT_L := hide (own_ne (L := BL) OT.out (Nat.le_of_eq hBn))
  have nqX_L := hide (blk_ne HX.out hBn)
  have nqF_L := hide (blk_ne HF.out hBn)
  have nqR_L := hide (blk_ne HR.out hBn)
  have hbt := wb
  clear hwn hBn
  replace HX := hide (below_block wb HX.out (Nat.le_refl _))
  replace HF := hide (below_block wb HF.out (Nat.le_refl _))
  replace HR := hide (below_block wb HR.out (Nat.le_refl _))
  replace RP := hide (RP.out.below wb (Nat.le_refl _))
  replace OT := hide (owns_below OT.out wb (Nat.le_refl _))
  replace HB := hide (HB.out.trans (wb.mono HB.out.size))
  have HL := HN1
  have NL := hide (show w.heap.size ≤ BL by rw [← HW.out.2]; exact HBo.out.size)
  clear wb hbt HN1 HBo
  go_upto_region 2 with (fail)
  clear hst
  rw [HW.out.1]
  try rw [HW.out.2]
  clear HW
  have qF_0 : w2.cell? ⟨BF, 0, none⟩ = some (.int .u8 17) := cell_at HF.out 0 rfl
  have qL0 : w2.cell? ⟨BL, 0, none⟩ = some (.int .u8 17) := cell_at HL.out 0 HL0.out
  go_upto_region 6 with (fail)
  clear qF_0 qL0
  have qF_1 : w2.cell? ⟨BF, 1, none⟩ = some (.int .u32 (fs : Int)) := cell_at HF.out 1 rfl
  have qL1 : w2.cell? ⟨BL, 1, none⟩ = some (.int .u32 (S : Int)) := cell_at HL.out 1 HL1.out
  have qF_2 : w2.cell? ⟨BF, 2, none⟩ = some (.int .u32 (fd : Int)) := cell_at HF.out 2 rfl
  have qL2 : w2.cell? ⟨BL, 2, none⟩ = some (.int .u32 (D : Int)) := cell_at HL.out 2 HL2.out
  have qX_3 : w2.cell? ⟨BX, 3, none⟩ = some (.int .u32 (S : Int)) := cell_at HX.out 3 rfl
  have qX_4 : w2.cell? ⟨BX, 4, none⟩ = some (.int .u32 (D : Int)) := cell_at HX.out 4 rfl
  go_still_tail 17, (by kernel_rfl)
  still_call (moved_same S fs _)
  repeat still_step
  still_call (moved_same D fd _)
  repeat still_step
  refine wpStill_nil ?_
  obtain ⟨w3, hVq, wb⟩ : ∃ V, w2.drew = V ∧ Below w2.heap.size w2 V := ⟨_, rfl, (Below.refl _ _).drew⟩
  change wpList _ _ _ _ _ w2.drew
  rw [hVq]
  clear hVq
  clear qF_1 qL1 qF_2 qL2 qX_3 qX_4
  replace HX := hide (below_block wb HX.out (Nat.le_refl _))
  replace HF := hide (below_block wb HF.out (Nat.le_refl _))
  replace HR := hide (below_block wb HR.out (Nat.le_refl _))
  replace HL := hide (below_block wb HL.out (Nat.le_refl _))
  replace RP := hide (RP.out.below wb (Nat.le_refl _))
  replace OT := hide (owns_below OT.out wb (Nat.le_refl _))
  replace HB := hide (HB.out.trans (wb.mono HB.out.size))
  clear wb
  have qX_3 : w3.cell? ⟨BX, 3, none⟩ = some (.int .u32 (S : Int)) := cell_at HX.out 3 rfl
  have qX_4 : w3.cell? ⟨BX, 4, none⟩ = some (.int .u32 (D : Int)) := cell_at HX.out 4 rfl
  have fz := free_at HX.out
  obtain ⟨w4, hVa, hVH, hVB, hVo, hVs⟩ := set1 (i := 3) (.int .u32 (fs : Int)) (c' := #[.int .u8 (tt : Int), .int .u8 17, .int .u16 (id : Int), .int .u32 (fs : Int), .int .u32 (D : Int), .slice da n dc]) HX.out HB.out NX.out (by kernel_rfl)
  obtain ⟨w5, hVb, hUH, hUB, hUo, hUs⟩ := set1 (i := 4) (.int .u32 (fd : Int)) (c' := #[.int .u8 (tt : Int), .int .u8 17, .int .u16 (id : Int), .int .u32 (fs : Int), .int .u32 (fd : Int), .slice da n dc]) hVH hVB NX.out (by kernel_rfl)
  have HVn := hide (And.intro hVa hVb)
  clear hVa hVb
  have HG := hide (gb_trans (gb_part HB.out hVB hVo hVs) (gb_part hVB hUB hUo hUs))
  have HXn := hide hUH
  have HFn := hide ((hUo _ nqX_F.out.symm).trans ((hVo _ nqX_F.out.symm).trans HF.out))
  have HRn := hide ((hUo _ nqX_R.out.symm).trans ((hVo _ nqX_R.out.symm).trans HR.out))
  have HLn := hide ((hUo _ nqX_L.out.symm).trans ((hVo _ nqX_L.out.symm).trans HL.out))
  have RPn := hide (AP.out.below hUB (Nat.le_refl _))
  have OTn := hide (owns_kept OT.out HG.out neT_X.out)
  have HBn := hide hUB
  clear hVH hVB hVo hVs hUH hUB hUo hUs HG
  go_upto_region 7 with (fail)
  rw [HVn.out.1, HVn.out.2]
  clear HVn fz
  clear qX_3 qX_4
  replace HX := HXn
  clear HXn
  replace HF := HFn
  clear HFn
  replace HR := HRn
  clear HRn
  replace HL := HLn
  clear HLn
  replace RP := RPn
  clear RPn
  replace OT := OTn
  clear OTn
  replace HB := HBn
  clear HBn
  go_wp2_with ((refine ld_whole (o := ⟨some 42, _, _, _, _, _⟩) 29 (.tmp 3) rfl (by rfl) BF rfl #[.int .u8 17, .int .u32 (fs : Int), .int .u32 (fd : Int), .int .u16 (ff : Int), .int .u16 (ft : Int)] 29 HF.out Try.underlying29 (by kernel_rfl) ?_; try simp only [Act.put, List.setIfInBounds_toArray, List.set_cons_zero, List.set_cons_succ]))
  obtain ⟨LC2, hLC2⟩ : ∃ c, ((((LC.setIfInBounds 6 (.int .u16 (ff : Int))).setIfInBounds 7 (.int .u16 (ft : Int))).setIfInBounds 15 (.int .u16 (ff : Int))).setIfInBounds 16 (.int .u16 (ft : Int))) = c := ⟨_, rfl⟩
  have HMV := hide (move_data _ BL LC _ _ _ _ 17 fs fd ff ft HL.out HL5.out HL6.out HL7.out HL15.out HL16.out)
  rw [hLC2] at HMV
  have G15 := hide (show LC2[15]? = some (.int .u16 (ff : Int)) by rw [← hLC2]; rw [sib_ne (by omega), sib_eq (by simp [HLs.out])])
  have G16 := hide (show LC2[16]? = some (.int .u16 (ft : Int)) by rw [← hLC2]; rw [sib_eq (by simp [HLs.out])])
  have G17 := hide (show LC2[17]? = some (.bool pl) by rw [← hLC2]; rw [sib_ne (by omega), sib_ne (by omega), sib_ne (by omega), sib_ne (by omega)]; exact HL17.out)
  have G18 := hide (show LC2[18]? = some (.slice a2 ds.length c2) by rw [← hLC2]; rw [sib_ne (by omega), sib_ne (by omega), sib_ne (by omega), sib_ne (by omega)]; exact HL18.out)
  clear hLC2
  refine (HMV.out).mono ?_
  rintro e w6 ⟨rfl, hL9, hg9⟩
  have HBn := hide (HB.out.grown hg9 HB.out.size (fun k e => by cases e; exact NL.out))
  replace HX := hide (gb_other hg9 HX.out nqX_L.out)
  replace HF := hide (gb_other hg9 HF.out nqF_L.out)
  replace HR := hide (gb_other hg9 HR.out nqR_L.out)
  replace HL := hide hL9
  replace OT := hide (owns_kept OT.out hg9 neT_L.out)
  replace RP := hide (AP.out.below HBn.out (Nat.le_refl _))
  replace HB := HBn
  clear HBn hL9 hg9
  clear HMV
  go_wp2_with ((refine ld_whole (o := ⟨some 44, _, _, _, _, _⟩) 27 (.tmp 2) rfl (by rfl) BX rfl #[.int .u8 (tt : Int), .int .u8 17, .int .u16 (id : Int), .int .u32 (fs : Int), .int .u32 (fd : Int), .slice da n dc] 27 HX.out Try.underlying27 (by kernel_rfl) ?_; try simp only [Act.put, List.setIfInBounds_toArray, List.set_cons_zero, List.set_cons_succ]))
  have ltZ_X := hide (lt_of_block HX.out)
  have ltZ_F := hide (lt_of_block HF.out)
  have ltZ_R := hide (lt_of_block HR.out)
  have ltZ_L := hide (lt_of_block HL.out)
  have lbZ := hide HB.out.size
  refine (write_udp _ BL LC2 tt id fs fd da n dc ff ft pl a2 ds.length c2 (8 + ds.length) _ HL.out G15.out G16.out G17.out G18.out (hide (fun W hW => HWT.out W a2 c2 ((Lies.of_owns OT.out).below hW (Nat.le_refl _))))).mono ?_
  rintro e w7 ⟨a9, c9, rfl, o, b⟩
  replace HX := hide (below_block b HX.out (Nat.le_refl _))
  replace HF := hide (below_block b HF.out (Nat.le_refl _))
  replace HR := hide (below_block b HR.out (Nat.le_refl _))
  replace HL := hide (below_block b HL.out (Nat.le_refl _))
  replace RP := hide (RP.out.below b (Nat.le_refl _))
  replace OT := hide (owns_below OT.out b (Nat.le_refl _))
  replace HB := hide (HB.out.trans (b.mono HB.out.size))
  have OZ := hide o
  have neZ_X := hide (own_ne_lt o ltZ_X.out)
  clear ltZ_X
  have neZ_F := hide (own_ne_lt o ltZ_F.out)
  clear ltZ_F
  have neZ_R := hide (own_ne_lt o ltZ_R.out)
  clear ltZ_R
  have neZ_L := hide (own_ne_lt o ltZ_L.out)
  clear ltZ_L
  clear b  o
  have fz := free_at HX.out 5
  have qX_5 : w7.cell? ⟨BX, 5, none⟩ = some (.slice da n dc) := cell_at HX.out 5 rfl
  obtain ⟨w8, hVn, hVH, hVB, hVo, hVs⟩ := set1 (i := 5) (.slice a9 (8 + ds.length) c9) (c' := #[.int .u8 (tt : Int), .int .u8 17, .int .u16 (id : Int), .int .u32 (fs : Int), .int .u32 (fd : Int), .slice a9 (8 + ds.length) c9]) HX.out HB.out NX.out (by kernel_rfl)
  have HVn := hide hVn
  clear hVn
  have HG := hide (gb_part HB.out hVB hVo hVs)
  have HXn := hide hVH
  have HFn := hide ((hVo _ nqX_F.out.symm).trans HF.out)
  have HRn := hide ((hVo _ nqX_R.out.symm).trans HR.out)
  have HLn := hide ((hVo _ nqX_L.out.symm).trans HL.out)
  have RPn := hide (AP.out.below hVB (Nat.le_refl _))
  have OTn := hide (owns_kept OT.out HG.out neT_X.out)
  have OZn := hide (owns_kept OZ.out HG.out neZ_X.out)
  have HBn := hide hVB
  clear hVH hVB hVo hVs HG
  go_upto_region 9 with (fail)
  rw [HVn.out]
  clear HVn fz
  clear qX_5
  replace HX := HXn
  clear HXn
  replace HF := HFn
  clear HFn
  replace HR := HRn
  clear HRn
  replace HL := HLn
  clear HLn
  replace RP := RPn
  clear RPn
  replace OT := OTn
  clear OTn
  replace OZ := OZn
  clear OZn
  replace HB := HBn
  clear HBn
  go_wp2_with (first | (refine ld_whole (o := ⟨some 47, _, _, _, _, _⟩) 27 (.tmp 2) rfl (by rfl) BX rfl #[.int .u8 (tt : Int), .int .u8 17, .int .u16 (id : Int), .int .u32 (fs : Int), .int .u32 (fd : Int), .slice a9 (8 + ds.length) c9] 27 HX.out Try.underlying27 (by kernel_rfl) ?_; try simp only [Act.put, List.setIfInBounds_toArray, List.set_cons_zero, List.set_cons_succ]) | (refine st_part (o := ⟨none, _, _, _, _, _⟩) 27 (.tmp 4) (.tmp 47) rfl (by rfl) BR 0 rfl #[.int .u8 0, .int .u8 0, .int .u16 0, .int .u32 0, .int .u32 0, .slice none 0 0] 27 #[.int .u8 (tt : Int), .int .u8 17, .int .u16 (id : Int), .int .u32 (fs : Int), .int .u32 (fd : Int), .slice a9 (8 + ds.length) c9] rfl HR.out rfl (by kernel_rfl) (by kernel_rfl) HB.out NR.out ?_; rintro w9 w9h w9b w9o w9s; try simp only [Act.put, List.setIfInBounds_toArray, List.set_cons_zero, List.set_cons_succ]))
  rw [upd_whole (by rfl)] at w9h
  exact bodyPost_ret (v := .tuple #[.agg #[.int .u8 (tt : Int), .int .u8 17, .int .u16 (id : Int), .int .u32 (fs : Int), .int .u32 (fd : Int), .slice a9 (8 + ds.length) c9], .int .i64 0]) (results_cell_tmp Try.results11 _ w9 BR _ _ _ _ rfl w9h Try.underlying27 rfl (by kernel_rfl) _ rfl) rfl ⟨a9, c9, rfl, owns_mono (owns_kept OZ.out (gb_part HB.out w9b w9o w9s) neZ_R.out) lbZ.out, w9b⟩
set_option maxHeartbeats 4000000 in
theorem rewrite_qry (w : World) (tt id S D : Nat) (da : Option Addr) (xs : List Int) (n dc : Nat) (fs fd ff ft : Nat) (hLx : Lies w da xs n dc) (hl : xs.length = n) (hb : ∀ x ∈ xs, 0 ≤ x ∧ x ≤ 255) (hS : S ≤ 4294967295) (hD : D ≤ 4294967295) (hfs : fs ≤ 4294967295) (hfd : fd ≤ 4294967295) (hff : ff ≤ 65535) (hft : ft ≤ 65535) (hc : icErr xs = 0) (hk : isErr (msgOf xs).p = false) :
    Calls Try.prog 11 #[.agg #[.int .u8 (tt : Int), .int .u8 1, .int .u16 (id : Int), .int .u32 (S : Int), .int .u32 (D : Int), .slice da n dc], .agg #[.int .u8 1, .int .u32 (fs : Int), .int .u32 (fd : Int), .int .u16 (ff : Int), .int .u16 (ft : Int)]] w fun e w' => ∃ a9 c9, e = .returned (.tuple #[.agg #[.int .u8 (tt : Int), .int .u8 1, .int .u16 (id : Int), .int .u32 (fs : Int), .int .u32 (fd : Int), .slice a9 (8 + (msgOf xs).ds.length) c9], .int .i64 0]) ∧ w'.ownsRow w.heap.size 5 1 (.slice a9 (8 + (msgOf xs).ds.length) c9) (8 + (msgOf xs).ds.length) ((icmpB (msgOf xs).p (msgOf xs).q (qryR (msgOf xs) ff ft) (msgOf xs).ds).map (Value.int .u8)) ∧ Below w.heap.size w w' := by
  have hok := msgOf_ok xs hb
  have hmc : msgCode xs = 0 := by
    unfold icErr at hc
    by_cases h0 : msgCode xs = 0
    · exact h0
    · rw [if_neg h0] at hc; exact hc
  have HRD := hide (fun (W : World) (hL : Lies W da xs n dc) => rd_icmp W (tt : Int) (id : Int) S D da n dc xs hL hl hb)
  have hfl : icFl S D xs = ⟨1, S, D, qfrom (msgOf xs).p (msgOf xs).q ((msgOf xs).r / 65536), qto (msgOf xs).p (msgOf xs).q ((msgOf xs).r / 65536)⟩ := by unfold icFl msgFl; rw [if_pos hmc, hk]; rfl
  have hkd : icKind xs = 2 := by unfold icKind msgKind; rw [if_pos hmc, hk]; rfl
  rw [hc, hfl, hkd] at HRD
  dsimp only at HRD
  rw [show ((1 : Nat) : Int) = 1 from rfl] at HRD
  generalize qfrom (msgOf xs).p (msgOf xs).q ((msgOf xs).r / 65536) = qf at *
  generalize qto (msgOf xs).p (msgOf xs).q ((msgOf xs).r / 65536) = qt at *
  clear hfl hkd hmc hc hk
  generalize msgOf xs = m at *
  obtain ⟨mp, mq, mr, ds⟩ := m
  dsimp only at *
  obtain ⟨h1, h2, h3, h4, h5⟩ := hok
  have hRR : qryR ⟨mp, mq, mr, ds⟩ ff ft = (if mp = 8 then ff else ft) * 65536 + mr % 65536 := rfl
  have hRb : qryR ⟨mp, mq, mr, ds⟩ ff ft ≤ 4294967295 := by rw [hRR]; split <;> omega
  obtain ⟨R, hR⟩ : ∃ R, qryR ⟨mp, mq, mr, ds⟩ ff ft = R := ⟨_, rfl⟩
  rw [hR] at hRR hRb ⊢
  have HWT := hide (fun (W : World) (a2 : Option Addr) (c2 : Nat) (hh : Lies W a2 ds ds.length c2) => wicmp_ok W mp mq R a2 ds ds.length c2 hh.row hh.no rfl h4 h5 h1 h2 hRb)
  have HMQ := hide (fun (W : World) (BL : Nat) (LC : Array Value) (hL : W.heap[BL]? = some (.cells LC 65 (0, 0))) (g5 : LC[5]? = some (.int .i64 2)) (g19 : LC[19]? = some (.int .u8 (mp : Int))) (g21 : LC[21]? = some (.int .u32 (mr : Int))) => move_query W BL LC mp mr 1 fs fd ff ft R hL g5 g19 g21 hRR hff hft h3)
  clear h1 h2 h3 h4 h5 hRR hRb hR hl hb
  obtain ⟨V1, hV1⟩ : ∃ V, w.alloc (.cells #[.int .u8 (tt : Int), .int .u8 1, .int .u16 (id : Int), .int .u32 (S : Int), .int .u32 (D : Int), .slice da n dc] 27) = V := ⟨_, rfl⟩
  obtain ⟨V2, hV2⟩ : ∃ V, V1.alloc (.cells #[.int .u8 1, .int .u32 (fs : Int), .int .u32 (fd : Int), .int .u16 (ff : Int), .int .u16 (ft : Int)] 29) = V := ⟨_, rfl⟩
  obtain ⟨V3, hV3⟩ : ∃ V, V2.alloc (.cells #[.int .u8 0, .int .u8 0, .int .u16 0, .int .u32 0, .int .u32 0, .slice none 0 0] 27) = V := ⟨_, rfl⟩
  have hz1 : V1.heap.size = w.heap.size + 1 := by rw [← hV1]; simp
  have hz2 : V2.heap.size = w.heap.size + 1 + 1 := by rw [← hV2]; simp [hz1]
  have hz3 : V3.heap.size = w.heap.size + 1 + 1 + 1 := by rw [← hV3]; simp [hz2]
  have hb1 : Below w.heap.size w V1 := by rw [← hV1]; exact (Below.refl _ _).alloc (Nat.le_refl _) _
  have hc2 : Below V1.heap.size V1 V2 := by rw [← hV2]; exact (Below.refl _ _).alloc (Nat.le_refl _) _
  have hb2 := hb1.trans (hc2.mono hb1.size)
  have hc3 : Below V2.heap.size V2 V3 := by rw [← hV3]; exact (Below.refl _ _).alloc (Nat.le_refl _) _
  have hb3 := hb2.trans (hc3.mono hb2.size)
  have hp1_1 : V1.heap[w.heap.size]? = some (.cells #[.int .u8 (tt : Int), .int .u8 1, .int .u16 (id : Int), .int .u32 (S : Int), .int .u32 (D : Int), .slice da n dc] 27 (0, 0)) := by rw [← hV1]; exact heap_alloc_new _ _
  have hp1_2 := below_block hc2 hp1_1 (Nat.le_refl _)
  have hp1_3 := below_block hc3 hp1_2 (Nat.le_refl _)
  have hp2_2 : V2.heap[w.heap.size + 1]? = some (.cells #[.int .u8 1, .int .u32 (fs : Int), .int .u32 (fd : Int), .int .u16 (ff : Int), .int .u16 (ft : Int)] 29 (0, 0)) := by rw [← hV2, ← hz1]; exact heap_alloc_new _ _
  have hp2_3 := below_block hc3 hp2_2 (Nat.le_refl _)
  have hp3_3 : V3.heap[w.heap.size + 1 + 1]? = some (.cells #[.int .u8 0, .int .u8 0, .int .u16 0, .int .u32 0, .int .u32 0, .slice none 0 0] 27 (0, 0)) := by rw [← hV3, ← hz2]; exact heap_alloc_new _ _
  obtain ⟨BX, hBX⟩ : ∃ B, w.heap.size = B := ⟨_, rfl⟩
  obtain ⟨BF, hBF⟩ : ∃ B, w.heap.size + 1 = B := ⟨_, rfl⟩
  obtain ⟨BR, hBR⟩ : ∃ B, w.heap.size + 1 + 1 = B := ⟨_, rfl⟩
  have hw0 : w.heap.size ≤ BX ∧ w.heap.size ≤ BF ∧ w.heap.size ≤ BR := by omega
  have HX := hide (show V3.heap[BX]? = some (.cells #[.int .u8 (tt : Int), .int .u8 1, .int .u16 (id : Int), .int .u32 (S : Int), .int .u32 (D : Int), .slice da n dc] 27 (0, 0)) by rw [← hBX]; exact hp1_3)
  have NX : Hid (w.heap.size ≤ BX) := hide hw0.1
  have HF := hide (show V3.heap[BF]? = some (.cells #[.int .u8 1, .int .u32 (fs : Int), .int .u32 (fd : Int), .int .u16 (ff : Int), .int .u16 (ft : Int)] 29 (0, 0)) by rw [← hBF]; exact hp2_3)
  have NF : Hid (w.heap.size ≤ BF) := hide hw0.2.1
  have HR := hide (show V3.heap[BR]? = some (.cells #[.int .u8 0, .int .u8 0, .int .u16 0, .int .u32 0, .int .u32 0, .slice none 0 0] 27 (0, 0)) by rw [← hBR]; exact hp3_3)
  have NR : Hid (w.heap.size ≤ BR) := hide hw0.2.2
  have nqX_F : Hid (BX ≠ BF) := hide (by omega)
  have nqX_R : Hid (BX ≠ BR) := hide (by omega)
  have nqF_R : Hid (BF ≠ BR) := hide (by omega)
  have AP := hide hLx
  have RP := hide (hLx.below hb3 (Nat.le_refl _))
  have HB := hide hb3
  have HE := hide (And.intro (And.intro trivial trivial) (And.intro hV1 ( And.intro hV2 ( And.intro hV3 (And.intro hBX ( And.intro hBF ( And.intro hBR (trivial))))))))
  clear hw0 hV1 hz1 hb1 hV2 hz2 hb2 hV3 hz3 hb3 hc2 hc3 hp1_1 hp1_2 hp1_3 hp2_2 hp2_3 hp3_3 hBX hBF hBR hLx
  go_enter Try.func11, Try.ntmps11
  go_upto_region 1 with (fail)
  rw [HE.out.2.1]
  try rw [HE.out.2.2.1]
  try rw [HE.out.2.2.2.1]
  try rw [HE.out.2.2.2.2.2.2.1]
  try rw [HE.out.2.2.2.2.2.1]
  try rw [HE.out.2.2.2.2.1]
  clear HE
  go_wp2_with ((refine ld_whole (o := ⟨some 9, _, _, _, _, _⟩) 27 (.tmp 2) rfl (by rfl) BX rfl #[.int .u8 (tt : Int), .int .u8 1, .int .u16 (id : Int), .int .u32 (S : Int), .int .u32 (D : Int), .slice da n dc] 27 HX.out Try.underlying27 (by kernel_rfl) ?_; try simp only [Act.put, List.setIfInBounds_toArray, List.set_cons_zero, List.set_cons_succ]))
  have ltT_X := hide (lt_of_block HX.out)
  have ltT_F := hide (lt_of_block HF.out)
  have ltT_R := hide (lt_of_block HR.out)
  have lbT := hide HB.out.size
  refine (HRD.out _ RP.out).mono ?_
  rintro e w1 ⟨a2, c2, rfl, o2, b⟩
  replace HX := hide (below_block b HX.out (Nat.le_refl _))
  replace HF := hide (below_block b HF.out (Nat.le_refl _))
  replace HR := hide (below_block b HR.out (Nat.le_refl _))
  replace RP := hide (RP.out.below b (Nat.le_refl _))
  replace HB := hide (HB.out.trans (b.mono HB.out.size))
  have OT := hide o2
  have neT_X := hide (own_ne_lt o2 ltT_X.out)
  clear ltT_X
  have neT_F := hide (own_ne_lt o2 ltT_F.out)
  clear ltT_F
  have neT_R := hide (own_ne_lt o2 ltT_R.out)
  clear ltT_R
  clear b  o2
  obtain ⟨LC, hLC⟩ : ∃ c, (#[.int .u8 1, .int .u32 (S : Int), .int .u32 (D : Int), .int .u16 (qf : Int), .int .u16 (qt : Int), .int .i64 2, .int .u16 0, .int .u16 0, .int .u32 0, .int .u32 0, .int .u8 0, .int .u16 0, .int .u16 0, .slice none 0 0, .slice none 0 0, .int .u16 0, .int .u16 0, .bool false, .slice none 0 0, .int .u8 (mp : Int), .int .u8 (mq : Int), .int .u32 (mr : Int), .slice a2 ds.length c2] : Array Value) = c := ⟨_, rfl⟩
  rw [hLC]
  have HLs := hide (show LC.size = 23 by rw [← hLC]; rfl)
  have HLo := hide (show LC.all (·.oneCell') = true by rw [← hLC]; kernel_rfl)
  have HL0 := hide (show LC[0]? = some (.int .u8 1) by rw [← hLC]; rfl)
  have HL1 := hide (show LC[1]? = some (.int .u32 (S : Int)) by rw [← hLC]; rfl)
  have HL2 := hide (show LC[2]? = some (.int .u32 (D : Int)) by rw [← hLC]; rfl)
  have HL3 := hide (show LC[3]? = some (.int .u16 (qf : Int)) by rw [← hLC]; rfl)
  have HL4 := hide (show LC[4]? = some (.int .u16 (qt : Int)) by rw [← hLC]; rfl)
  have HL5 := hide (show LC[5]? = some (.int .i64 2) by rw [← hLC]; rfl)
  have HL6 := hide (show LC[6]? = some (.int .u16 0) by rw [← hLC]; rfl)
  have HL7 := hide (show LC[7]? = some (.int .u16 0) by rw [← hLC]; rfl)
  have HL8 := hide (show LC[8]? = some (.int .u32 0) by rw [← hLC]; rfl)
  have HL9 := hide (show LC[9]? = some (.int .u32 0) by rw [← hLC]; rfl)
  have HL10 := hide (show LC[10]? = some (.int .u8 0) by rw [← hLC]; rfl)
  have HL11 := hide (show LC[11]? = some (.int .u16 0) by rw [← hLC]; rfl)
  have HL12 := hide (show LC[12]? = some (.int .u16 0) by rw [← hLC]; rfl)
  have HL13 := hide (show LC[13]? = some (.slice none 0 0) by rw [← hLC]; rfl)
  have HL14 := hide (show LC[14]? = some (.slice none 0 0) by rw [← hLC]; rfl)
  have HL15 := hide (show LC[15]? = some (.int .u16 0) by rw [← hLC]; rfl)
  have HL16 := hide (show LC[16]? = some (.int .u16 0) by rw [← hLC]; rfl)
  have HL17 := hide (show LC[17]? = some (.bool false) by rw [← hLC]; rfl)
  have HL18 := hide (show LC[18]? = some (.slice none 0 0) by rw [← hLC]; rfl)
  have HL19 := hide (show LC[19]? = some (.int .u8 (mp : Int)) by rw [← hLC]; rfl)
  have HL20 := hide (show LC[20]? = some (.int .u8 (mq : Int)) by rw [← hLC]; rfl)
  have HL21 := hide (show LC[21]? = some (.int .u32 (mr : Int)) by rw [← hLC]; rfl)
  have HL22 := hide (show LC[22]? = some (.slice a2 ds.length c2) by rw [← hLC]; rfl)
  clear hLC
  have hst := run_storeCells_new (P := Try.prog) w1 65 (#[.int .u8 0, .int .u32 0, .int .u32 0, .int .u16 0, .int .u16 0, .int .i64 0, .int .u16 0, .int .u16 0, .int .u32 0, .int .u32 0, .int .u8 0, .int .u16 0, .int .u16 0, .slice none 0 0, .slice none 0 0, .int .u16 0, .int .u16 0, .bool false, .slice none 0 0, .int .u8 0, .int .u8 0, .int .u32 0, .slice none 0 0]) LC (by rw [HLs.out]; kernel_rfl) (by rw [HLs.out]; rfl) HLo.out
  obtain ⟨w2, hwn, wb, HN1⟩ : ∃ W, w1.alloc (.cells LC 65) = W ∧ Below w1.heap.size w1 W ∧ Hid (W.heap[w1.heap.size]? = some (.cells LC 65 (0, 0))) := ⟨_, rfl, (Below.refl w1.heap.size w1).alloc (Nat.le_refl _) _, hide (heap_alloc_new w1 _)⟩
  obtain ⟨BL, hBn⟩ : ∃ B, w1.heap.size = B := ⟨_, rfl⟩
  rw [hBn] at HN1
  have HW := hide (And.intro hwn hBn)
  have HBo := HB
  have neT_L := hide (own_ne (L := BL) OT.out (Nat.le_of_eq hBn))
  have nqX_L := hide (blk_ne HX.out hBn)
  have nqF_L := hide (blk_ne HF.out hBn)
  have nqR_L := hide (blk_ne HR.out hBn)
  have hbt := wb
  clear hwn hBn
  replace HX := hide (below_block wb HX.out (Nat.le_refl _))
  replace HF := hide (below_block wb HF.out (Nat.le_refl _))
  replace HR := hide (below_block wb HR.out (Nat.le_refl _))
  replace RP := hide (RP.out.below wb (Nat.le_refl _))
  replace OT := hide (owns_below OT.out wb (Nat.le_refl _))
  replace HB := hide (HB.out.trans (wb.mono HB.out.size))
  have HL := HN1
  have NL := hide (show w.heap.size ≤ BL by rw [← HW.out.2]; exact HBo.out.size)
  clear wb hbt HN1 HBo
  go_upto_region 2 with (fail)
  clear hst
  rw [HW.out.1]
  try rw [HW.out.2]
  clear HW
  have qF_0 : w2.cell? ⟨BF, 0, none⟩ = some (.int .u8 1) := cell_at HF.out 0 rfl
  have qL0 : w2.cell? ⟨BL, 0, none⟩ = some (.int .u8 1) := cell_at HL.out 0 HL0.out
  go_upto_region 6 with (fail)
  clear qF_0 qL0
  have qF_1 : w2.cell? ⟨BF, 1, none⟩ = some (.int .u32 (fs : Int)) := cell_at HF.out 1 rfl
  have qL1 : w2.cell? ⟨BL, 1, none⟩ = some (.int .u32 (S : Int)) := cell_at HL.out 1 HL1.out
  have qF_2 : w2.cell? ⟨BF, 2, none⟩ = some (.int .u32 (fd : Int)) := cell_at HF.out 2 rfl
  have qL2 : w2.cell? ⟨BL, 2, none⟩ = some (.int .u32 (D : Int)) := cell_at HL.out 2 HL2.out
  have qX_3 : w2.cell? ⟨BX, 3, none⟩ = some (.int .u32 (S : Int)) := cell_at HX.out 3 rfl
  have qX_4 : w2.cell? ⟨BX, 4, none⟩ = some (.int .u32 (D : Int)) := cell_at HX.out 4 rfl
  go_still_tail 17, (by kernel_rfl)
  still_call (moved_same S fs _)
  repeat still_step
  still_call (moved_same D fd _)
  repeat still_step
  refine wpStill_nil ?_
  obtain ⟨w3, hVq, wb⟩ : ∃ V, w2.drew = V ∧ Below w2.heap.size w2 V := ⟨_, rfl, (Below.refl _ _).drew⟩
  change wpList _ _ _ _ _ w2.drew
  rw [hVq]
  clear hVq
  clear qF_1 qL1 qF_2 qL2 qX_3 qX_4
  replace HX := hide (below_block wb HX.out (Nat.le_refl _))
  replace HF := hide (below_block wb HF.out (Nat.le_refl _))
  replace HR := hide (below_block wb HR.out (Nat.le_refl _))
  replace HL := hide (below_block wb HL.out (Nat.le_refl _))
  replace RP := hide (RP.out.below wb (Nat.le_refl _))
  replace OT := hide (owns_below OT.out wb (Nat.le_refl _))
  replace HB := hide (HB.out.trans (wb.mono HB.out.size))
  clear wb
  have qX_3 : w3.cell? ⟨BX, 3, none⟩ = some (.int .u32 (S : Int)) := cell_at HX.out 3 rfl
  have qX_4 : w3.cell? ⟨BX, 4, none⟩ = some (.int .u32 (D : Int)) := cell_at HX.out 4 rfl
  have fz := free_at HX.out
  obtain ⟨w4, hVa, hVH, hVB, hVo, hVs⟩ := set1 (i := 3) (.int .u32 (fs : Int)) (c' := #[.int .u8 (tt : Int), .int .u8 1, .int .u16 (id : Int), .int .u32 (fs : Int), .int .u32 (D : Int), .slice da n dc]) HX.out HB.out NX.out (by kernel_rfl)
  obtain ⟨w5, hVb, hUH, hUB, hUo, hUs⟩ := set1 (i := 4) (.int .u32 (fd : Int)) (c' := #[.int .u8 (tt : Int), .int .u8 1, .int .u16 (id : Int), .int .u32 (fs : Int), .int .u32 (fd : Int), .slice da n dc]) hVH hVB NX.out (by kernel_rfl)
  have HVn := hide (And.intro hVa hVb)
  clear hVa hVb
  have HG := hide (gb_trans (gb_part HB.out hVB hVo hVs) (gb_part hVB hUB hUo hUs))
  have HXn := hide hUH
  have HFn := hide ((hUo _ nqX_F.out.symm).trans ((hVo _ nqX_F.out.symm).trans HF.out))
  have HRn := hide ((hUo _ nqX_R.out.symm).trans ((hVo _ nqX_R.out.symm).trans HR.out))
  have HLn := hide ((hUo _ nqX_L.out.symm).trans ((hVo _ nqX_L.out.symm).trans HL.out))
  have RPn := hide (AP.out.below hUB (Nat.le_refl _))
  have OTn := hide (owns_kept OT.out HG.out neT_X.out)
  have HBn := hide hUB
  clear hVH hVB hVo hVs hUH hUB hUo hUs HG
  go_upto_region 7 with (fail)
  rw [HVn.out.1, HVn.out.2]
  clear HVn fz
  clear qX_3 qX_4
  replace HX := HXn
  clear HXn
  replace HF := HFn
  clear HFn
  replace HR := HRn
  clear HRn
  replace HL := HLn
  clear HLn
  replace RP := RPn
  clear RPn
  replace OT := OTn
  clear OTn
  replace HB := HBn
  clear HBn
  go_wp2_with ((refine ld_whole (o := ⟨some 42, _, _, _, _, _⟩) 29 (.tmp 3) rfl (by rfl) BF rfl #[.int .u8 1, .int .u32 (fs : Int), .int .u32 (fd : Int), .int .u16 (ff : Int), .int .u16 (ft : Int)] 29 HF.out Try.underlying29 (by kernel_rfl) ?_; try simp only [Act.put, List.setIfInBounds_toArray, List.set_cons_zero, List.set_cons_succ]))
  obtain ⟨LC2, hLC2⟩ : ∃ c, LC.setIfInBounds 21 (.int .u32 (R : Int)) = c := ⟨_, rfl⟩
  have HMV := hide (HMQ.out _ BL LC HL.out HL5.out HL19.out HL21.out)
  rw [hLC2] at HMV
  have G21 := hide (show LC2[21]? = some (.int .u32 (R : Int)) by rw [← hLC2]; rw [sib_eq (by simp [HLs.out])])
  have G19 := hide (show LC2[19]? = some (.int .u8 (mp : Int)) by rw [← hLC2]; rw [sib_ne (by omega)]; exact HL19.out)
  have G20 := hide (show LC2[20]? = some (.int .u8 (mq : Int)) by rw [← hLC2]; rw [sib_ne (by omega)]; exact HL20.out)
  have G22 := hide (show LC2[22]? = some (.slice a2 ds.length c2) by rw [← hLC2]; rw [sib_ne (by omega)]; exact HL22.out)
  clear hLC2
  refine (HMV.out).mono ?_
  rintro e w6 ⟨rfl, hL9, hg9⟩
  have HBn := hide (HB.out.grown hg9 HB.out.size (fun k e => by cases e; exact NL.out))
  replace HX := hide (gb_other hg9 HX.out nqX_L.out)
  replace HF := hide (gb_other hg9 HF.out nqF_L.out)
  replace HR := hide (gb_other hg9 HR.out nqR_L.out)
  replace HL := hide hL9
  replace OT := hide (owns_kept OT.out hg9 neT_L.out)
  replace RP := hide (AP.out.below HBn.out (Nat.le_refl _))
  replace HB := HBn
  clear HBn hL9 hg9
  clear HMV
  go_wp2_with ((refine ld_whole (o := ⟨some 44, _, _, _, _, _⟩) 27 (.tmp 2) rfl (by rfl) BX rfl #[.int .u8 (tt : Int), .int .u8 1, .int .u16 (id : Int), .int .u32 (fs : Int), .int .u32 (fd : Int), .slice da n dc] 27 HX.out Try.underlying27 (by kernel_rfl) ?_; try simp only [Act.put, List.setIfInBounds_toArray, List.set_cons_zero, List.set_cons_succ]))
  have ltZ_X := hide (lt_of_block HX.out)
  have ltZ_F := hide (lt_of_block HF.out)
  have ltZ_R := hide (lt_of_block HR.out)
  have ltZ_L := hide (lt_of_block HL.out)
  have lbZ := hide HB.out.size
  refine (write_icmp _ BL LC2 tt id fs fd da n dc mp mq R a2 ds.length c2 (8 + ds.length) _ HL.out G19.out G20.out G21.out G22.out (hide (fun W hW => HWT.out W a2 c2 ((Lies.of_owns OT.out).below hW (Nat.le_refl _))))).mono ?_
  rintro e w7 ⟨a9, c9, rfl, o, b⟩
  replace HX := hide (below_block b HX.out (Nat.le_refl _))
  replace HF := hide (below_block b HF.out (Nat.le_refl _))
  replace HR := hide (below_block b HR.out (Nat.le_refl _))
  replace HL := hide (below_block b HL.out (Nat.le_refl _))
  replace RP := hide (RP.out.below b (Nat.le_refl _))
  replace OT := hide (owns_below OT.out b (Nat.le_refl _))
  replace HB := hide (HB.out.trans (b.mono HB.out.size))
  have OZ := hide o
  have neZ_X := hide (own_ne_lt o ltZ_X.out)
  clear ltZ_X
  have neZ_F := hide (own_ne_lt o ltZ_F.out)
  clear ltZ_F
  have neZ_R := hide (own_ne_lt o ltZ_R.out)
  clear ltZ_R
  have neZ_L := hide (own_ne_lt o ltZ_L.out)
  clear ltZ_L
  clear b  o
  have fz := free_at HX.out 5
  have qX_5 : w7.cell? ⟨BX, 5, none⟩ = some (.slice da n dc) := cell_at HX.out 5 rfl
  obtain ⟨w8, hVn, hVH, hVB, hVo, hVs⟩ := set1 (i := 5) (.slice a9 (8 + ds.length) c9) (c' := #[.int .u8 (tt : Int), .int .u8 1, .int .u16 (id : Int), .int .u32 (fs : Int), .int .u32 (fd : Int), .slice a9 (8 + ds.length) c9]) HX.out HB.out NX.out (by kernel_rfl)
  have HVn := hide hVn
  clear hVn
  have HG := hide (gb_part HB.out hVB hVo hVs)
  have HXn := hide hVH
  have HFn := hide ((hVo _ nqX_F.out.symm).trans HF.out)
  have HRn := hide ((hVo _ nqX_R.out.symm).trans HR.out)
  have HLn := hide ((hVo _ nqX_L.out.symm).trans HL.out)
  have RPn := hide (AP.out.below hVB (Nat.le_refl _))
  have OTn := hide (owns_kept OT.out HG.out neT_X.out)
  have OZn := hide (owns_kept OZ.out HG.out neZ_X.out)
  have HBn := hide hVB
  clear hVH hVB hVo hVs HG
  go_upto_region 9 with (fail)
  rw [HVn.out]
  clear HVn fz
  clear qX_5
  replace HX := HXn
  clear HXn
  replace HF := HFn
  clear HFn
  replace HR := HRn
  clear HRn
  replace HL := HLn
  clear HLn
  replace RP := RPn
  clear RPn
  replace OT := OTn
  clear OTn
  replace OZ := OZn
  clear OZn
  replace HB := HBn
  clear HBn
  go_wp2_with (first | (refine ld_whole (o := ⟨some 47, _, _, _, _, _⟩) 27 (.tmp 2) rfl (by rfl) BX rfl #[.int .u8 (tt : Int), .int .u8 1, .int .u16 (id : Int), .int .u32 (fs : Int), .int .u32 (fd : Int), .slice a9 (8 + ds.length) c9] 27 HX.out Try.underlying27 (by kernel_rfl) ?_; try simp only [Act.put, List.setIfInBounds_toArray, List.set_cons_zero, List.set_cons_succ]) | (refine st_part (o := ⟨none, _, _, _, _, _⟩) 27 (.tmp 4) (.tmp 47) rfl (by rfl) BR 0 rfl #[.int .u8 0, .int .u8 0, .int .u16 0, .int .u32 0, .int .u32 0, .slice none 0 0] 27 #[.int .u8 (tt : Int), .int .u8 1, .int .u16 (id : Int), .int .u32 (fs : Int), .int .u32 (fd : Int), .slice a9 (8 + ds.length) c9] rfl HR.out rfl (by kernel_rfl) (by kernel_rfl) HB.out NR.out ?_; rintro w9 w9h w9b w9o w9s; try simp only [Act.put, List.setIfInBounds_toArray, List.set_cons_zero, List.set_cons_succ]))
  rw [upd_whole (by rfl)] at w9h
  exact bodyPost_ret (v := .tuple #[.agg #[.int .u8 (tt : Int), .int .u8 1, .int .u16 (id : Int), .int .u32 (fs : Int), .int .u32 (fd : Int), .slice a9 (8 + ds.length) c9], .int .i64 0]) (results_cell_tmp Try.results11 _ w9 BR _ _ _ _ rfl w9h Try.underlying27 rfl (by kernel_rfl) _ rfl) rfl ⟨a9, c9, rfl, owns_mono (owns_kept OZ.out (gb_part HB.out w9b w9o w9s) neZ_R.out) lbZ.out, w9b⟩
end Go.Proofs.Ytgggcapgaikbeaa
