/- inet: an address as a text. -/
import Derived.Test.YtonoaopioifedaaGreatDoorIQuad
import Derived.Test.YtonoaopioifedaaGreatDoorShelf
import Derived.Lib.AppendIntMem
import Derived.Lib.Bytes
import Derived.Lib.ItoaLen
namespace Go.Proofs.YtonoaopioifedaaGreatDoor
open Go.RowKit
set_option linter.unusedVariables false
set_option linter.unusedSimpArgs false
set_option maxRecDepth 100000
/-- What the library's functions read: its powers of ten, and how far its searches go. -/
def PT (w : World) : Prop := Lib.TabIs Tryz.prog w "internal/strconv.uint64pow10" .u64 Lib.pow10Tab ∧ ∃ m, w.cell? ⟨2, 0, none⟩ = some (.int .i64 m)
theorem tab_below {B : Nat} {w w' : World} {n : String} {k : IntKind} {zs : List Int} (h : Lib.TabIs Tryz.prog w n k zs) (hb : Below B w w') (hB : w.heap.size ≤ B) : Lib.TabIs Tryz.prog w' n k zs := by
  unfold Lib.TabIs World.var? at *
  cases hg : Tryz.prog.globalNamed n with
  | none => simp [hg] at h
  | some g =>
    simp only [hg, Option.bind_some] at h ⊢
    have hlt : g < w.heap.size := by
      rcases Nat.lt_or_ge g w.heap.size with h1 | h1
      · exact h1
      · rw [Array.getElem?_eq_none h1] at h; cases h
    rw [hb.block g (Nat.lt_of_lt_of_le hlt hB)]
    exact h
theorem PT.below {B : Nat} {w w' : World} (h : PT w) (hb : Below B w w') (hB : w.heap.size ≤ B) : PT w' := by
  obtain ⟨h1, m, hm⟩ := h
  exact ⟨tab_below h1 hb hB, m, (hb.cell (p := ⟨2, 0, none⟩) (Nat.lt_of_lt_of_le (World.block_lt_of_cell? _ _ hm) hB)).trans hm⟩
def txt (b : Nat → Nat) : Nat → List UInt8
  | 0 => []
  | k + 1 => (if k = 0 then txt b k else txt b k ++ [46]) ++ Lib.itoa (b k : Int)
theorem txt_len (b : Nat → Nat) (hb : ∀ i, b i ≤ 255) : ∀ k, k ≤ 4 → (txt b k).length ≤ 22 * k := by
  intro k
  induction k with
  | zero => intro _; exact Nat.le_refl _
  | succ k ih =>
    intro h
    have h1 := ih (by omega)
    have h2 := Lib.itoa_length_le (b k : Int) (by omega) (by have := hb k; omega)
    unfold txt
    split <;> simp only [List.length_append, List.length_cons, List.length_nil] <;> omega
theorem bytes_app (l r : List UInt8) : (⟨l.toArray⟩ ++ ⟨r.toArray⟩ : ByteArray) = ⟨(l ++ r).toArray⟩ := by
  apply ByteArray.ext
  simp [ByteArray.data_append]
theorem wrap64_in9 (n : Int) (h : 0 ≤ n ∧ n ≤ 9223372036854775807) : wrap64 n = n := by unfold wrap64; omega
theorem ix0 (x0 x1 x2 x3 : Int) (W : World) : (Instr.index 96 (.agg #[.int .u8 x0, .int .u8 x1, .int .u8 x2, .int .u8 x3]) (.int .i64 0)).run Tryz.prog W = .ok (.int .u8 x0) W := by
  first | kernel_rfl | (simp [Instr.index, go_sem]; done)
theorem ix1 (x0 x1 x2 x3 : Int) (W : World) : (Instr.index 96 (.agg #[.int .u8 x0, .int .u8 x1, .int .u8 x2, .int .u8 x3]) (.int .i64 1)).run Tryz.prog W = .ok (.int .u8 x1) W := by
  first | kernel_rfl | (simp [Instr.index, go_sem]; done)
theorem ix2 (x0 x1 x2 x3 : Int) (W : World) : (Instr.index 96 (.agg #[.int .u8 x0, .int .u8 x1, .int .u8 x2, .int .u8 x3]) (.int .i64 2)).run Tryz.prog W = .ok (.int .u8 x2) W := by
  first | kernel_rfl | (simp [Instr.index, go_sem]; done)
theorem ix3 (x0 x1 x2 x3 : Int) (W : World) : (Instr.index 96 (.agg #[.int .u8 x0, .int .u8 x1, .int .u8 x2, .int .u8 x3]) (.int .i64 3)).run Tryz.prog W = .ok (.int .u8 x3) W := by
  first | kernel_rfl | (simp [Instr.index, go_sem]; done)
set_option maxHeartbeats 1600000 in
theorem text_any (a : Nat) (w : World) (ha : a ≤ 4294967295) (hp : PT w) :
    Calls Tryz.prog 41 #[.int .u32 (a : Int)] w fun e w' => e = .returned (.string ⟨(txt (qb a) 4).toArray⟩) ∧ Below w.heap.size w w' := by
  have HQ := hide (quad_any a w ha)
  have HI := hide (fun (i : Nat) (W : World) (hW : Below w.heap.size w W) => Tryz.strconv_Itoa (qb a i : Int) (by omega) (by have : qb a i < 256 := Nat.mod_lt _ (by decide); omega) W (tab_below hp.1 hW (Nat.le_refl _)))
  have HB0 := hide (show ∀ i, qb a i ≤ 255 from fun i => by have : qb a i < 256 := Nat.mod_lt _ (by decide); omega)
  generalize qb a = b at *
  clear hp
  go_enter Tryz.func41, Tryz.ntmps41
  go_wp2_with fail
  refine HQ.out.mono ?_
  rintro e w1 ⟨rfl, b1⟩
  have HB1 := hide b1
  clear b1 HQ
  go_wp2_with fail
  go_loopw [3, 8] (fun t i wr => ∃ (k : Nat), k ≤ 4 ∧ i = .int .i64 k ∧ Hid (t = .string ⟨(txt b k).toArray⟩) ∧ Hid (Below w.heap.size w wr)) (fun _ i _ => 4 - (intOf i).toNat)
  case atStart => exact ⟨0, Nat.zero_le _, rfl, hide rfl, HB1⟩
  case round =>
    obtain ⟨k, hk, hi, HT, HBr⟩ := hrel
    have HL := hide (txt_len b HB0.out)
    rcases (by omega : k = 0 ∨ k = 1 ∨ k = 2 ∨ k = 3 ∨ k = 4) with rfl | rfl | rfl | rfl | rfl
    · obtain rfl : _ = Value.int .i64 0 := hi
      have hIx := ix0 (b 0) (b 1) (b 2) (b 3)
      have HIr := hide (HI.out 0 wr HBr.out)
      have hW : wrap64 (b 0) = b 0 := wrap64_in9 _ (by have := HB0.out 0; omega)
      have hsum : ∀ W : World, (Op.stringOp .add ⟨(txt b 0).toArray⟩ ⟨(Lib.itoa (b 0 : Int)).toArray⟩).run Tryz.prog W = .ok (.string ⟨(txt b 1).toArray⟩) W := fun W => run_string_add_lists W (txt b 0) (Lib.itoa (b 0 : Int)) (by have := HL.out 0 (by omega); omega) (by have := Lib.itoa_length_le (b 0 : Int) (by omega) (by have := HB0.out 0; omega); omega)
      obtain rfl := HT.out
      clear HT
      obtain ⟨T1, hT1⟩ : ∃ x, (⟨(txt b 1).toArray⟩ : ByteArray) = x := ⟨_, rfl⟩
      rw [hT1] at hsum
      have HT1 := hide hT1
      clear hT1
      generalize (⟨(txt b 0).toArray⟩ : ByteArray) = T0 at *
      generalize (⟨(Lib.itoa (b 0 : Int)).toArray⟩ : ByteArray) = TI at *
      go_wp2_with fail
      refine HIr.out.mono ?_
      rintro e w2 ⟨rfl, k2, os, hw2⟩
      have HB2 := hide (show Below w.heap.size w w2 from hw2 ▸ HBr.out.trans (Lib.below_grow _ _ (by have := HBr.out.size; omega) _ _))
      clear HIr hw2
      go_wp2_with fail
      exact ⟨⟨1, by decide, rfl, hide (congrArg Value.string HT1.out.symm), HB2⟩, by decide⟩
    · obtain rfl : _ = Value.int .i64 1 := hi
      have hIx := ix1 (b 0) (b 1) (b 2) (b 3)
      have HIr := hide (HI.out 1 wr HBr.out)
      have hW : wrap64 (b 1) = b 1 := wrap64_in9 _ (by have := HB0.out 1; omega)
      have hdot : ∀ W : World, (Op.stringOp .add ⟨(txt b 1).toArray⟩ ⟨#[46]⟩).run Tryz.prog W = .ok (.string ⟨(txt b 1 ++ [46]).toArray⟩) W := fun W => run_string_add_lists W (txt b 1) [46] (by have := HL.out 1 (by omega); omega) (by simp)
      have hsum : ∀ W : World, (Op.stringOp .add ⟨(txt b 1 ++ [46]).toArray⟩ ⟨(Lib.itoa (b 1 : Int)).toArray⟩).run Tryz.prog W = .ok (.string ⟨(txt b 2).toArray⟩) W := fun W => run_string_add_lists W (txt b 1 ++ [46]) (Lib.itoa (b 1 : Int)) (by have := HL.out 1 (by omega); simp only [List.length_append, List.length_cons, List.length_nil]; omega) (by have := Lib.itoa_length_le (b 1 : Int) (by omega) (by have := HB0.out 1; omega); omega)
      obtain rfl := HT.out
      clear HT
      obtain ⟨T1, hT1⟩ : ∃ x, (⟨(txt b 2).toArray⟩ : ByteArray) = x := ⟨_, rfl⟩
      rw [hT1] at hsum
      have HT1 := hide hT1
      clear hT1
      generalize (⟨(txt b 1 ++ [46]).toArray⟩ : ByteArray) = T2 at *
      generalize (⟨(txt b 1).toArray⟩ : ByteArray) = T0 at *
      generalize (⟨(Lib.itoa (b 1 : Int)).toArray⟩ : ByteArray) = TI at *
      go_wp2_with fail
      refine HIr.out.mono ?_
      rintro e w2 ⟨rfl, k2, os, hw2⟩
      have HB2 := hide (show Below w.heap.size w w2 from hw2 ▸ HBr.out.trans (Lib.below_grow _ _ (by have := HBr.out.size; omega) _ _))
      clear HIr hw2
      go_wp2_with fail
      exact ⟨⟨2, by decide, rfl, hide (congrArg Value.string HT1.out.symm), HB2⟩, by decide⟩
    · obtain rfl : _ = Value.int .i64 2 := hi
      have hIx := ix2 (b 0) (b 1) (b 2) (b 3)
      have HIr := hide (HI.out 2 wr HBr.out)
      have hW : wrap64 (b 2) = b 2 := wrap64_in9 _ (by have := HB0.out 2; omega)
      have hdot : ∀ W : World, (Op.stringOp .add ⟨(txt b 2).toArray⟩ ⟨#[46]⟩).run Tryz.prog W = .ok (.string ⟨(txt b 2 ++ [46]).toArray⟩) W := fun W => run_string_add_lists W (txt b 2) [46] (by have := HL.out 2 (by omega); omega) (by simp)
      have hsum : ∀ W : World, (Op.stringOp .add ⟨(txt b 2 ++ [46]).toArray⟩ ⟨(Lib.itoa (b 2 : Int)).toArray⟩).run Tryz.prog W = .ok (.string ⟨(txt b 3).toArray⟩) W := fun W => run_string_add_lists W (txt b 2 ++ [46]) (Lib.itoa (b 2 : Int)) (by have := HL.out 2 (by omega); simp only [List.length_append, List.length_cons, List.length_nil]; omega) (by have := Lib.itoa_length_le (b 2 : Int) (by omega) (by have := HB0.out 2; omega); omega)
      obtain rfl := HT.out
      clear HT
      obtain ⟨T1, hT1⟩ : ∃ x, (⟨(txt b 3).toArray⟩ : ByteArray) = x := ⟨_, rfl⟩
      rw [hT1] at hsum
      have HT1 := hide hT1
      clear hT1
      generalize (⟨(txt b 2 ++ [46]).toArray⟩ : ByteArray) = T2 at *
      generalize (⟨(txt b 2).toArray⟩ : ByteArray) = T0 at *
      generalize (⟨(Lib.itoa (b 2 : Int)).toArray⟩ : ByteArray) = TI at *
      go_wp2_with fail
      refine HIr.out.mono ?_
      rintro e w2 ⟨rfl, k2, os, hw2⟩
      have HB2 := hide (show Below w.heap.size w w2 from hw2 ▸ HBr.out.trans (Lib.below_grow _ _ (by have := HBr.out.size; omega) _ _))
      clear HIr hw2
      go_wp2_with fail
      exact ⟨⟨3, by decide, rfl, hide (congrArg Value.string HT1.out.symm), HB2⟩, by decide⟩
    · obtain rfl : _ = Value.int .i64 3 := hi
      have hIx := ix3 (b 0) (b 1) (b 2) (b 3)
      have HIr := hide (HI.out 3 wr HBr.out)
      have hW : wrap64 (b 3) = b 3 := wrap64_in9 _ (by have := HB0.out 3; omega)
      have hdot : ∀ W : World, (Op.stringOp .add ⟨(txt b 3).toArray⟩ ⟨#[46]⟩).run Tryz.prog W = .ok (.string ⟨(txt b 3 ++ [46]).toArray⟩) W := fun W => run_string_add_lists W (txt b 3) [46] (by have := HL.out 3 (by omega); omega) (by simp)
      have hsum : ∀ W : World, (Op.stringOp .add ⟨(txt b 3 ++ [46]).toArray⟩ ⟨(Lib.itoa (b 3 : Int)).toArray⟩).run Tryz.prog W = .ok (.string ⟨(txt b 4).toArray⟩) W := fun W => run_string_add_lists W (txt b 3 ++ [46]) (Lib.itoa (b 3 : Int)) (by have := HL.out 3 (by omega); simp only [List.length_append, List.length_cons, List.length_nil]; omega) (by have := Lib.itoa_length_le (b 3 : Int) (by omega) (by have := HB0.out 3; omega); omega)
      obtain rfl := HT.out
      clear HT
      obtain ⟨T1, hT1⟩ : ∃ x, (⟨(txt b 4).toArray⟩ : ByteArray) = x := ⟨_, rfl⟩
      rw [hT1] at hsum
      have HT1 := hide hT1
      clear hT1
      generalize (⟨(txt b 3 ++ [46]).toArray⟩ : ByteArray) = T2 at *
      generalize (⟨(txt b 3).toArray⟩ : ByteArray) = T0 at *
      generalize (⟨(Lib.itoa (b 3 : Int)).toArray⟩ : ByteArray) = TI at *
      go_wp2_with fail
      refine HIr.out.mono ?_
      rintro e w2 ⟨rfl, k2, os, hw2⟩
      have HB2 := hide (show Below w.heap.size w w2 from hw2 ▸ HBr.out.trans (Lib.below_grow _ _ (by have := HBr.out.size; omega) _ _))
      clear HIr hw2
      go_wp2_with fail
      exact ⟨⟨4, by decide, rfl, hide (congrArg Value.string HT1.out.symm), HB2⟩, by decide⟩
    · obtain rfl : _ = Value.int .i64 4 := hi
      obtain rfl := HT.out
      go_wp2_with fail
      refine bodyPost_ret (v := .string ⟨(txt b 4).toArray⟩) (by simp [results, Tryz.results41, go_sem]) rfl ⟨rfl, HBr.out⟩
end Go.Proofs.YtonoaopioifedaaGreatDoor
