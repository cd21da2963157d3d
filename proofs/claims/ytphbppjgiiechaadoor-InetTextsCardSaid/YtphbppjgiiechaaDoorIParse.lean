/- inet: the text 192.168.01.1 is none. -/
import Derived.Test.YtphbppjgiiechaaDoorIText
import Derived.Lib.AtoiErrMem
namespace Go.Proofs.YtphbppjgiiechaaDoor
open Go.RowKit
set_option linter.unusedVariables false
set_option linter.unusedSimpArgs false
set_option maxRecDepth 100000
def s0 : ByteArray := ⟨#[49, 57, 50, 46, 49, 54, 56, 46, 48, 49, 46, 49]⟩
def p0 : ByteArray := ⟨#[49, 57, 50]⟩
def p1 : ByteArray := ⟨#[49, 54, 56]⟩
def p2 : ByteArray := ⟨#[48, 49]⟩
def p3 : ByteArray := ⟨#[49]⟩
theorem count0 : Lib.countB s0 ⟨#[46]⟩ = 3 := by kernel_rfl
theorem split0 : Lib.splitB ⟨#[46]⟩ 0 3 s0 = [p0, p1, p2, p3] := by kernel_rfl
theorem pu0 : Lib.parseUintB 8 p0.data.toList = .ok 192 := by kernel_rfl
theorem pu1 : Lib.parseUintB 8 p1.data.toList = .ok 168 := by kernel_rfl
theorem pu2 : Lib.parseUintB 8 p2.data.toList = .ok 1 := by kernel_rfl
theorem pu3 : Lib.parseUintB 8 p3.data.toList = .ok 1 := by kernel_rfl
theorem txt0 : txt (qb 3232235777) 4 = [49, 57, 50, 46, 49, 54, 56, 46, 49, 46, 49] := by kernel_rfl
theorem s0_size : s0.size = 12 := by kernel_rfl
def accA : Nat → Int
  | 0 => 0 | 1 => 192 | 2 => 49320 | 3 => 12625921 | _ => 3232235777
set_option maxHeartbeats 1600000 in
theorem parse_s0 (w : World) (hp : PT w) :
    Calls Tryd.prog 5 #[.string s0] w fun e w' => e = .returned (.tuple #[.int .u32 0, .bool false]) ∧ Below w.heap.size w w' := by
  obtain ⟨m, hm⟩ := hp.2
  have HS := hide (Tryd.strings_Split s0 ⟨#[46]⟩ m w (by rw [s0_size]; decide) hm (by decide))
  rw [count0, split0, show (3 + 1 : Nat) = 4 from rfl] at HS
  have hsz := s0_size
  have hq : ByteArray.size s0 = 12 := s0_size
  have HPU0 := hide (fun (W : World) => Tryd.strconv_ParseUint_10_at8_ok p0 (by decide) 192 pu0 W)
  have HPU1 := hide (fun (W : World) => Tryd.strconv_ParseUint_10_at8_ok p1 (by decide) 168 pu1 W)
  have HPU2 := hide (fun (W : World) => Tryd.strconv_ParseUint_10_at8_ok p2 (by decide) 1 pu2 W)
  have HPU3 := hide (fun (W : World) => Tryd.strconv_ParseUint_10_at8_ok p3 (by decide) 1 pu3 W)
  have HTX := hide (fun (W : World) (hW : PT W) => text_any 3232235777 W (by decide) hW)
  have HNE := hide (show ((⟨(txt (qb 3232235777) 4).toArray⟩ : ByteArray).toList == s0.toList) = false from by rw [txt0]; kernel_rfl)
  have HP := hide hp
  clear hp hm hq
  generalize s0 = S0 at *
  generalize p0 = P0 at *
  generalize p1 = P1 at *
  generalize p2 = P2 at *
  generalize p3 = P3 at *
  go_enter Tryd.func5, Tryd.ntmps5
  go_wp2_with fail
  refine HS.out.mono ?_
  rintro e w1 ⟨rfl, hw1⟩
  have hr1 : w1.heap[w.heap.size]? = some (.cells #[.string P0, .string P1, .string P2, .string P3] 9 (0, 0)) := by subst hw1; exact Array.getElem?_push_size
  have hsz1 : w1.heap.size = w.heap.size + 1 := by subst hw1; simp
  have HB1 := hide (show Below w.heap.size w w1 from hw1 ▸ (Below.refl _ _).alloc (Nat.le_refl _) _)
  obtain ⟨R, hR⟩ : ∃ R, w.heap.size = R := ⟨_, rfl⟩
  have HC := hide (show w1.cell? ⟨R, 0, none⟩ = some (.string P0) ∧ w1.cell? ⟨R, 1, none⟩ = some (.string P1) ∧ w1.cell? ⟨R, 2, none⟩ = some (.string P2) ∧ w1.cell? ⟨R, 3, none⟩ = some (.string P3) from by rw [hR] at hr1; simp [World.cell?, hr1])
  rw [hR] at hsz1
  have HRR := hide hR
  have HSZ := hide hsz1
  have HP1 := hide (HP.out.below HB1.out (Nat.le_refl _))
  simp only [hR]
  clear hw1 hr1 hR hsz1 HS
  go_wp2_with fail
  go_loopw [4, 15] (fun a i wr => ∃ (k : Nat), k ≤ 4 ∧ i = .int .i64 k ∧ Hid (a = .int .u32 (accA k)) ∧ Hid (Below (R + 1) w1 wr)) (fun _ i _ => 4 - (intOf i).toNat)
  case atStart => exact ⟨0, Nat.zero_le _, rfl, hide rfl, hide (Below.refl _ _)⟩
  case round =>
    obtain ⟨k, hk, hi, HT, HBr⟩ := hrel
    rcases (by omega : k = 0 ∨ k = 1 ∨ k = 2 ∨ k = 3 ∨ k = 4) with rfl | rfl | rfl | rfl | rfl
    · obtain rfl : _ = Value.int .i64 0 := hi
      obtain rfl : _ = Value.int .u32 0 := HT.out
      have hor : bits .or .u32 0 192 = 192 := by kernel_rfl
      have hc : wr.cell? ⟨R, 0, none⟩ = some (.string P0) := (HBr.out.cell (p := ⟨R, 0, none⟩) (Nat.lt_succ_self _)).trans HC.out.1
      clear HT
      go_wp2_with fail
      refine (HPU0.out wr).mono ?_
      rintro e w2 ⟨rfl, hw2⟩
      have HB2 := hide (show Below (R + 1) w1 w2 from by
        have hs : w1.heap.size ≤ wr.heap.size := HBr.out.size
        have := HSZ.out
        rcases hw2 with rfl | rfl
        · exact HBr.out
        · exact HBr.out.trans ((Lib.bytesWorld_below wr 5 P0).mono (by omega)))
      clear hw2
      go_wp2_with fail
      exact ⟨⟨1, by decide, rfl, hide rfl, HB2⟩, by decide⟩
    · obtain rfl : _ = Value.int .i64 1 := hi
      obtain rfl : _ = Value.int .u32 192 := HT.out
      have hor : bits .or .u32 49152 168 = 49320 := by kernel_rfl
      have hc : wr.cell? ⟨R, 1, none⟩ = some (.string P1) := (HBr.out.cell (p := ⟨R, 1, none⟩) (Nat.lt_succ_self _)).trans HC.out.2.1
      clear HT
      go_wp2_with fail
      refine (HPU1.out wr).mono ?_
      rintro e w2 ⟨rfl, hw2⟩
      have HB2 := hide (show Below (R + 1) w1 w2 from by
        have hs : w1.heap.size ≤ wr.heap.size := HBr.out.size
        have := HSZ.out
        rcases hw2 with rfl | rfl
        · exact HBr.out
        · exact HBr.out.trans ((Lib.bytesWorld_below wr 5 P1).mono (by omega)))
      clear hw2
      go_wp2_with fail
      exact ⟨⟨2, by decide, rfl, hide rfl, HB2⟩, by decide⟩
    · obtain rfl : _ = Value.int .i64 2 := hi
      obtain rfl : _ = Value.int .u32 49320 := HT.out
      have hor : bits .or .u32 12625920 1 = 12625921 := by kernel_rfl
      have hc : wr.cell? ⟨R, 2, none⟩ = some (.string P2) := (HBr.out.cell (p := ⟨R, 2, none⟩) (Nat.lt_succ_self _)).trans HC.out.2.2.1
      clear HT
      go_wp2_with fail
      refine (HPU2.out wr).mono ?_
      rintro e w2 ⟨rfl, hw2⟩
      have HB2 := hide (show Below (R + 1) w1 w2 from by
        have hs : w1.heap.size ≤ wr.heap.size := HBr.out.size
        have := HSZ.out
        rcases hw2 with rfl | rfl
        · exact HBr.out
        · exact HBr.out.trans ((Lib.bytesWorld_below wr 5 P2).mono (by omega)))
      clear hw2
      go_wp2_with fail
      exact ⟨⟨3, by decide, rfl, hide rfl, HB2⟩, by decide⟩
    · obtain rfl : _ = Value.int .i64 3 := hi
      obtain rfl : _ = Value.int .u32 12625921 := HT.out
      have hor : bits .or .u32 3232235776 1 = 3232235777 := by kernel_rfl
      have hc : wr.cell? ⟨R, 3, none⟩ = some (.string P3) := (HBr.out.cell (p := ⟨R, 3, none⟩) (Nat.lt_succ_self _)).trans HC.out.2.2.2
      clear HT
      go_wp2_with fail
      refine (HPU3.out wr).mono ?_
      rintro e w2 ⟨rfl, hw2⟩
      have HB2 := hide (show Below (R + 1) w1 w2 from by
        have hs : w1.heap.size ≤ wr.heap.size := HBr.out.size
        have := HSZ.out
        rcases hw2 with rfl | rfl
        · exact HBr.out
        · exact HBr.out.trans ((Lib.bytesWorld_below wr 5 P3).mono (by omega)))
      clear hw2
      go_wp2_with fail
      exact ⟨⟨4, by decide, rfl, hide rfl, HB2⟩, by decide⟩
    · obtain rfl : _ = Value.int .i64 4 := hi
      obtain rfl : _ = Value.int .u32 3232235777 := HT.out
      go_wp2_with fail
      have HPr := hide (HP1.out.below (HBr.out.mono (show w1.heap.size ≤ R + 1 from Nat.le_of_eq HSZ.out)) (Nat.le_refl _))
      refine (HTX.out wr HPr.out).mono ?_
      rintro e w3 ⟨rfl, hb3⟩
      have HB3 := hide (show Below w.heap.size w w3 from by
        have h1 := HBr.out.size
        have h2 := HSZ.out
        have h3 := HRR.out
        exact HB1.out.trans ((HBr.out.mono (by omega)).trans (hb3.mono (by omega))))
      clear hb3
      generalize (⟨(txt (qb 3232235777) 4).toArray⟩ : ByteArray) = X at *
      have hne := HNE.out
      go_wp2_with fail
      refine bodyPost_ret (v := .tuple #[.int .u32 0, .bool false]) (by simp [results, Tryd.results5, go_sem]) rfl ⟨rfl, HB3.out⟩
theorem txt1 : ((⟨(txt (qb 3232235777) 4).toArray⟩ : ByteArray).toList == [49, 57, 50, 46, 49, 54, 56, 46, 49, 46, 49]) = true := by rw [txt0]; kernel_rfl
theorem speaks_any (w : World) (hp : PT w) :
    Calls Tryd.prog 4 #[] w fun e w' => e = .returned (.bool true) ∧ Below w.heap.size w w' := by
  have HPS := hide (parse_s0 w hp)
  have HTX := hide (fun (W : World) (hW : PT W) => text_any 3232235777 W (by decide) hW)
  have HEQ := hide txt1
  have HP := hide hp
  clear hp
  unfold s0 at HPS
  go_enter Tryd.func4, Tryd.ntmps4
  go_wp2_with fail
  refine HPS.out.mono ?_
  rintro e w1 ⟨rfl, b1⟩
  have HB1 := hide b1
  have HP1 := hide (HP.out.below b1 (Nat.le_refl _))
  clear b1
  go_wp2_with fail
  refine (HTX.out w1 HP1.out).mono ?_
  rintro e w2 ⟨rfl, b2⟩
  have HB2 := hide (show Below w.heap.size w w2 from HB1.out.trans (b2.mono HB1.out.size))
  have heq := HEQ.out
  clear b2
  generalize (⟨(txt (qb 3232235777) 4).toArray⟩ : ByteArray) = X at *
  go_wp2_with fail
  refine bodyPost_ret (v := .bool true) (by simp [results, Tryd.results4, go_sem]) rfl ⟨rfl, HB2.out⟩
end Go.Proofs.YtphbppjgiiechaaDoor
