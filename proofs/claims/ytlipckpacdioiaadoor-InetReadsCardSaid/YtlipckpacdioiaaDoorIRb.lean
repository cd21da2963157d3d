/- inet: both Reads answer alike. -/
import Derived.Test.YtlipckpacdioiaaDoorIRk
namespace Go.Proofs.YtlipckpacdioiaaDoor
open Go.RowKit
set_option linter.unusedVariables false
set_option linter.unusedSimpArgs false
set_option maxRecDepth 100000
def RdAny (tt P id s d : Nat) (ys : List Int) (k : Nat) (F : Int) (w : World) (e : Ending) (w' : World) : Prop := ∃ a c, e = .returned (.tuple #[.agg (pkV tt P id s d a k c), .int .i64 F]) ∧ w'.ownsRow w.heap.size 5 1 (.slice a k c) k (ys.map (Value.int .u8)) ∧ Below w.heap.size w w'
theorem RdNo.any {F : Int} {w w' : World} {e : Ending} (h : RdNo F w e w') : RdAny 0 0 0 0 0 [] 0 F w e w' := ⟨none, 0, h.1, World.ownsRow_nil _ _ _ _, h.2⟩
theorem RdOk.any {tt P id s d n : Nat} {xs : List Int} {w w' : World} {e : Ending} (h : RdOk tt P id s d xs n w e w') : RdAny tt P id s d xs n 0 w e w' := by
  obtain ⟨a, c, h1, h2, h3⟩ := h
  exact ⟨a, c, h1, h2, h3⟩
theorem hd5_of (xs : List Int) (hb : ∀ x ∈ xs, 0 ≤ x ∧ x ≤ 255) : ∃ x x2 x3 x6 x7 : Nat, Hd5 xs x x2 x3 x6 x7 := by
  have hz := fun i => byte_at hb i
  refine ⟨(xs[0]?.getD 0).toNat, (xs[2]?.getD 0).toNat, (xs[3]?.getD 0).toNat, (xs[6]?.getD 0).toNat, (xs[7]?.getD 0).toNat, ?_⟩
  have := hz 0; have := hz 2; have := hz 3; have := hz 6; have := hz 7
  constructor <;> omega
theorem fld_two (xs : List Int) (K : Nat) (hb : ∀ x ∈ xs, 0 ≤ x ∧ x ≤ 255) (hK : K + 1 < xs.length) (a b : Nat) (ha : xs[K]?.getD 0 = (a : Int)) (hb' : xs[K + 1]?.getD 0 = (b : Int)) : fld xs K 2 = 256 * a + b := by
  have h := fld_eq xs K 2 hb
  have e : (xs.drop K).take 2 = [xs[K]?.getD 0, xs[K + 1]?.getD 0] := by
    rw [List.getElem?_eq_getElem (show K < xs.length by omega), List.getElem?_eq_getElem hK, List.drop_eq_getElem_cons (show K < xs.length by omega), List.take_succ_cons, List.drop_eq_getElem_cons hK]
    rfl
  rw [e, ha, hb'] at h
  simp [valB] at h
  omega
theorem rrd_bad (xs : List Int) (n x x2 x3 x6 x7 s : Nat) (hl : xs.length = n) (hb : ∀ x ∈ xs, 0 ≤ x ∧ x ≤ 255) (h20 : 20 ≤ n) (hn : n ≤ 4000) (hh : Hd5 xs x x2 x3 x6 x7) (hs : 256 * x2 + x3 = s) (F : Nat) (hF : faultI x s n (csum (xs.take 20) == 0) (256 * x6 + x7) = (F : Int)) (hF0 : F ≠ 0) (w : World) (a : Option Addr) (cap : Nat) (hL : Lies w a xs n cap) :
    Calls Tryd.prog 14 #[.slice a n cap] w (RdNo (F : Int) w) := by
  unfold faultI at hF
  split at hF
  · rename_i h
    rw [← hF]
    by_cases h4 : x / 16 = 4
    · exact rrd_b2 w a xs n cap x x2 x3 x6 x7 s hL.row hl hL.le hb h20 hn hh hs h4 (by omega)
    · exact rrd_b1 w a xs n cap x x2 x3 x6 x7 s hL.row hl hL.le hb h20 hn hh hs h4
  split at hF
  · rw [← hF]; exact rrd_b3 w a xs n cap x x2 x3 x6 x7 s hL.row hl hL.le hb h20 hn hh hs (by omega) (by omega)
  split at hF
  · rw [← hF]
    by_cases h5 : s < 20
    · exact rrd_b4 w a xs n cap x x2 x3 x6 x7 s hL.row hl hL.le hb h20 hn hh hs (by omega) h5
    · exact rrd_b5 w a xs n cap x x2 x3 x6 x7 s hL.row hl hL.le hb h20 hn hh hs (by omega) (by omega) (by omega)
  split at hF
  · rw [← hF]; exact rrd_b6 w a xs n cap x x2 x3 x6 x7 s hL.row hl hL.le hb h20 hn hh hs (by omega) (by omega) (by omega) (by omega)
  split at hF
  · rename_i hc
    rw [← hF]; exact rrd_b7 w a xs n cap x x2 x3 x6 x7 s hL.row hl hL.le hb h20 hn hh hs (by omega) (by omega) (by omega) (by omega) (by simpa using hc)
  split at hF
  · rename_i hc hm
    rw [← hF]; exact rrd_b8 w a xs n cap x x2 x3 x6 x7 s hL.row hl hL.le hb h20 hn hh hs (by omega) (by omega) (by omega) (by omega) (by simpa using hc) hm
  · exfalso; omega
theorem faultI_nat (x s n m : Nat) (c : Bool) : ∃ F : Nat, faultI x s n c m = (F : Int) := by
  unfold faultI
  (repeat' split) <;> first | exact ⟨11, rfl⟩ | exact ⟨13, rfl⟩ | exact ⟨10, rfl⟩ | exact ⟨14, rfl⟩ | exact ⟨12, rfl⟩ | exact ⟨0, rfl⟩
theorem read_both (xs : List Int) (n : Nat) (hl : xs.length = n) (hb : ∀ x ∈ xs, 0 ≤ x ∧ x ≤ 255) (hn : n ≤ 4000) :
    ∃ (tt P id s d : Nat) (ys : List Int) (k : Nat) (F : Int), ys.length = k ∧ (∀ x ∈ ys, 0 ≤ x ∧ x ≤ 255) ∧
      (∀ w a cap, Lies w a xs n cap → Calls Tryd.prog 13 #[.slice a n cap] w (RdAny tt P id s d ys k F w)) ∧
      (∀ w a cap, Lies w a xs n cap → Calls Tryd.prog 14 #[.slice a n cap] w (RdAny tt P id s d ys k F w)) := by
  by_cases h20 : n < 20
  · exact ⟨0, 0, 0, 0, 0, [], 0, 10, rfl, by simp, fun w a cap hL => (rd_short w a n cap h20).mono fun e w' h => RdNo.any h, fun w a cap hL => (rrd_short w a n cap h20).mono fun e w' h => RdNo.any h⟩
  have h20' : 20 ≤ n := by omega
  obtain ⟨x, x2, x3, x6, x7, hh⟩ := hd5_of xs hb
  have hx0 : xs[0]? = some (x : Int) := by
    have := hh.h0
    rw [List.getElem?_eq_getElem (by omega)] at this ⊢
    simpa using this
  have f2 := fld_two xs 2 hb (by omega) x2 x3 hh.h2 hh.h3
  have f6 := fld_two xs 6 hb (by omega) x6 x7 hh.h6 hh.h7
  obtain ⟨F, hF⟩ := faultI_nat x (256 * x2 + x3) n (256 * x6 + x7) (csum (xs.take 20) == 0)
  by_cases hF0 : F = 0
  · subst hF0
    have hF1 := hF
    unfold faultI at hF1
    split at hF1
    · cases hF1
    split at hF1
    · cases hF1
    split at hF1
    · cases hF1
    split at hF1
    · cases hF1
    split at hF1
    · cases hF1
    split at hF1
    · cases hF1
    rename_i h1 h2 h3 h4 h5 h6
    have hc : csum (xs.take 20) = 0 := by simpa using h5
    have hz := fun i => byte_at hb i
    have z4 := hz 4
    have z5 := hz 5
    have z8 := hz 8
    have z9 := hz 9
    have hlt := fld_lt xs 12 4 hb
    have hlt2 := fld_lt xs 16 4 hb
    obtain ⟨x4, hx4⟩ := Int.eq_ofNat_of_zero_le z4.1
    obtain ⟨x5, hx5⟩ := Int.eq_ofNat_of_zero_le z5.1
    obtain ⟨x8, hx8⟩ := Int.eq_ofNat_of_zero_le z8.1
    obtain ⟨x9, hx9⟩ := Int.eq_ofNat_of_zero_le z9.1
    have f4 := fld_two xs 4 hb (by omega) x4 x5 hx4 hx5
    have f8 : fld xs 8 1 = x8 := by have := fld_one xs 8 hb (by omega); rw [hx8] at this; exact_mod_cast this.symm
    have f9 : fld xs 9 1 = x9 := by have := fld_one xs 9 hb (by omega); rw [hx9] at this; exact_mod_cast this.symm
    refine ⟨x8, x9, 256 * x4 + x5, fld xs 12 4, fld xs 16 4, (xs.take (256 * x2 + x3)).drop 20, 256 * x2 + x3 - 20, ((0 : Nat) : Int), by rw [List.length_drop, List.length_take]; omega, fun y hy => hb y (List.mem_of_mem_take (List.mem_of_mem_drop hy)), fun w a cap hL => ?_, fun w a cap hL => ?_⟩
    · exact (rd_ok w a xs n cap x (256 * x2 + x3) x8 x9 (256 * x4 + x5) _ _ hL.row hl hL.le hL.no hb h20' hx0 (by rw [f2, f6]; exact hF) f2 (by omega) (by omega) (by omega) f4 f8 f9 rfl rfl).mono fun e w' h => RdOk.any h
    · exact (rrd_ok w a xs n cap x x2 x3 x6 x7 (256 * x2 + x3) hL.row hl hL.le hb h20' hn hh rfl (by omega) (by omega) (by omega) (by omega) hc (by omega) x8 x9 x4 x5 (256 * x4 + x5) _ _ hL.no hL.max hx8 hx9 hx4 hx5 rfl (by omega) (by omega) rfl rfl (by omega) (by omega)).mono fun e w' h => RdOk.any h
  · exact ⟨0, 0, 0, 0, 0, [], 0, (F : Int), rfl, by simp, fun w a cap hL => (rd_bad w a xs n cap x F hL.row hl hL.le hL.no hb h20' hx0 (by rw [f2, f6]; exact hF) hF0).mono fun e w' h => RdNo.any h,
      fun w a cap hL => (rrd_bad xs n x x2 x3 x6 x7 _ hl hb h20' hn hh rfl F hF hF0 w a cap hL).mono fun e w' h => RdNo.any h⟩
end Go.Proofs.YtlipckpacdioiaaDoor
