/- inet: what Read answers of a packet's bytes, turned, cut, or said to be a part. -/
import Derived.Test.YtlipckpacdioiaaDoorISame
import Derived.Test.YtlipckpacdioiaaDoorIParse
import Derived.Laws.BitsAllLaws
namespace Go.Proofs.YtlipckpacdioiaaDoor
open Go.RowKit
set_option linter.unusedVariables false
set_option linter.unusedSimpArgs false
set_option maxRecDepth 100000
theorem and_maskI (x : Int) (m : Nat) (hm : m ≤ 65535) : ∃ k : Nat, k ≤ m ∧ bits .and .i64 x (m : Int) = (k : Int) := by
  have hle : (BitVec.ofInt 64 x &&& BitVec.ofInt 64 (m : Int)).toNat ≤ m := by
    rw [BitVec.toNat_and]
    refine Nat.le_trans Nat.and_le_right ?_
    rw [BitVec.toNat_ofInt]; omega
  refine ⟨_, hle, ?_⟩
  show IntKind.i64.wrap (((BitVec.ofInt 64 x &&& BitVec.ofInt 64 (m : Int)).toNat : Nat) : Int) = _
  rw [IntKind.wrap_i64]
  omega

/-- A packet's numbers within their bounds. -/
structure PkOk (tt P id s d : Nat) : Prop where
  ht : tt ≤ 255
  hP : P ≤ 255
  hid : id ≤ 65535
  hs : s ≤ 4294967295
  hd : d ≤ 4294967295
def RdOk (tt P id s d : Nat) (xs : List Int) (n : Nat) (w : World) (e : Ending) (w' : World) : Prop := ∃ a' c, e = .returned (.tuple #[.agg #[.int .u8 (tt : Int), .int .u8 (P : Int), .int .u16 (id : Int), .int .u32 (s : Int), .int .u32 (d : Int), .slice a' n c], .int .i64 0]) ∧ w'.ownsRow w.heap.size 5 1 (.slice a' n c) n (xs.map (Value.int .u8)) ∧ Below w.heap.size w w'
def RdNo (F : Int) (w : World) (e : Ending) (w' : World) : Prop := e = .returned (.tuple #[noP, .int .i64 F]) ∧ Below w.heap.size w w'
theorem rdM_ok (tt P id s d m : Nat) (xs : List Int) (n : Nat) (hk : PkOk tt P id s d) (hm : m ≤ 65535) (hl : xs.length = n) (hn : n ≤ 1480) (hb : ∀ x ∈ xs, 0 ≤ x ∧ x ≤ 255) (h0 : m % 16384 = 0) (w : World) (a : Option Addr) (cap : Nat) (hL : Lies w a (ipM tt P id s d m (ipMK tt P id s d m n) n ++ xs) (20 + n) cap) :
    Calls Tryd.prog 13 #[.slice a (20 + n) cap] w (RdOk tt P id s d xs n w) := by
  obtain ⟨f2, f4, f6, f8, f9, f12, f16⟩ := ipM_flds tt P id s d m (ipMK tt P id s d m n) n xs hk.ht hk.hP hk.hid hk.hs hk.hd hm hn
  have hbb : ∀ x ∈ ipM tt P id s d m (ipMK tt P id s d m n) n ++ xs, 0 ≤ x ∧ x ≤ 255 := fun x hx => by
    rcases List.mem_append.1 hx with h | h
    · exact ipM_rng _ _ _ _ _ _ _ _ hk.ht hk.hP x h
    · exact hb x h
  have hF : faultI 69 (fld (ipM tt P id s d m (ipMK tt P id s d m n) n ++ xs) 2 2) (20 + n) (csum ((ipM tt P id s d m (ipMK tt P id s d m n) n ++ xs).take 20) == 0) (fld (ipM tt P id s d m (ipMK tt P id s d m n) n ++ xs) 6 2) = 0 := by
    rw [ipM_take, ipM_ok _ _ _ _ _ _ _ hk.ht hk.hP, f2, f6]
    unfold faultI
    rw [if_neg (by omega), if_neg (by omega), if_neg (by omega), if_neg (by omega), if_neg (by simp), if_neg (by omega)]
  have h := rd_ok w a _ (20 + n) cap 69 (20 + n) tt P id s d hL.row (by simp [ipM_len, hl]) hL.le hL.no hbb (by omega) rfl hF f2 (by omega) (Nat.le_refl _) (by omega) f4 f8 f9 f12 f16
  refine h.mono fun e w' ⟨a', c, he, ho, hbel⟩ => ?_
  rw [show 20 + n - 20 = n by omega] at he ho
  rw [show (((ipM tt P id s d m (ipMK tt P id s d m n) n ++ xs).take (20 + n)).drop 20) = xs by rw [List.take_of_length_le (by simp [ipM_len, hl]), List.drop_append_of_le_length (by rw [ipM_len]; exact Nat.le_refl _), List.drop_of_length_le (by rw [ipM_len]; exact Nat.le_refl _)]; rfl] at ho
  exact ⟨a', c, he, ho, hbel⟩
theorem rdM_frag (tt P id s d m : Nat) (xs : List Int) (n : Nat) (hk : PkOk tt P id s d) (hm : m ≤ 65535) (hl : xs.length = n) (hn : n ≤ 1480) (hb : ∀ x ∈ xs, 0 ≤ x ∧ x ≤ 255) (h0 : m % 16384 ≠ 0) (w : World) (a : Option Addr) (cap : Nat) (hL : Lies w a (ipM tt P id s d m (ipMK tt P id s d m n) n ++ xs) (20 + n) cap) :
    Calls Tryd.prog 13 #[.slice a (20 + n) cap] w (RdNo 13 w) := by
  obtain ⟨f2, f4, f6, f8, f9, f12, f16⟩ := ipM_flds tt P id s d m (ipMK tt P id s d m n) n xs hk.ht hk.hP hk.hid hk.hs hk.hd hm hn
  have hbb : ∀ x ∈ ipM tt P id s d m (ipMK tt P id s d m n) n ++ xs, 0 ≤ x ∧ x ≤ 255 := fun x hx => by
    rcases List.mem_append.1 hx with h | h
    · exact ipM_rng _ _ _ _ _ _ _ _ hk.ht hk.hP x h
    · exact hb x h
  have hF : faultI 69 (fld (ipM tt P id s d m (ipMK tt P id s d m n) n ++ xs) 2 2) (20 + n) (csum ((ipM tt P id s d m (ipMK tt P id s d m n) n ++ xs).take 20) == 0) (fld (ipM tt P id s d m (ipMK tt P id s d m n) n ++ xs) 6 2) = ((13 : Nat) : Int) := by
    rw [ipM_take, ipM_ok _ _ _ _ _ _ _ hk.ht hk.hP, f2, f6]
    unfold faultI
    rw [if_neg (by omega), if_neg (by omega), if_neg (by omega), if_neg (by omega), if_neg (by simp), if_pos (by omega)]
    rfl
  exact rd_bad w a _ (20 + n) cap 69 13 hL.row (by simp [ipM_len, hl]) hL.le hL.no hbb (by omega) rfl hF (by omega)
theorem faultI_bad (x s n m : Nat) : ∃ F : Nat, F ≠ 0 ∧ faultI x s n false m = (F : Int) := by
  unfold faultI
  (repeat' split) <;> first | exact ⟨11, by omega, rfl⟩ | exact ⟨13, by omega, rfl⟩ | exact ⟨10, by omega, rfl⟩ | exact ⟨14, by omega, rfl⟩ | exact ⟨12, by omega, rfl⟩ | (exfalso; simp_all; done)
def RdBad (w : World) (e : Ending) (w' : World) : Prop := ∃ F : Nat, F ≠ 0 ∧ e = .returned (.tuple #[noP, .int .i64 (F : Int)]) ∧ Below w.heap.size w w'
theorem rd_turn (ys : List Int) (n cap : Nat) (hl : ys.length = n) (h20 : 20 ≤ n) (hb : ∀ x ∈ ys, 0 ≤ x ∧ x ≤ 255) (hc : csum (ys.take 20) ≠ 0) (w : World) (a : Option Addr) (hL : Lies w a ys n cap) :
    Calls Tryd.prog 13 #[.slice a n cap] w (RdBad w) := by
  obtain ⟨x, hx⟩ : ∃ x : Nat, ys[0]? = some (x : Int) := by
    have h := hb ys[0] (List.getElem_mem _)
    exact ⟨(ys[0]).toNat, by rw [List.getElem?_eq_getElem (by omega)]; congr 1; omega⟩
  obtain ⟨F, hF0, hF⟩ := faultI_bad x (fld ys 2 2) n (fld ys 6 2)
  rw [show false = (csum (ys.take 20) == 0) by simp [hc]] at hF
  exact (rd_bad w a ys n cap x F hL.row hl hL.le hL.no hb h20 hx hF hF0).mono fun e w' h => ⟨F, hF0, h⟩
theorem rd_cut (tt P id s d : Nat) (xs : List Int) (n k : Nat) (hk : PkOk tt P id s d) (hl : xs.length = n) (hn : n ≤ 1480) (hb : ∀ x ∈ xs, 0 ≤ x ∧ x ≤ 255) (hkn : k < 20 + n) (w : World) (a : Option Addr) (cap : Nat) (hL : Lies w a ((ipG tt P id s d xs).take k) k cap) :
    Calls Tryd.prog 13 #[.slice a k cap] w (RdNo 10 w) := by
  by_cases h20 : k < 20
  · exact rd_short w a k cap h20
  · have h20' : 20 ≤ k := by omega
    rw [ipG_ipM, hl] at hL
    obtain ⟨f2, f4, f6, f8, f9, f12, f16⟩ := ipM_flds tt P id s d 16384 (ipMK tt P id s d 16384 n) n (xs.take (k - 20)) hk.ht hk.hP hk.hid hk.hs hk.hd (by omega) hn
    have he : (ipM tt P id s d 16384 (ipMK tt P id s d 16384 n) n ++ xs).take k = ipM tt P id s d 16384 (ipMK tt P id s d 16384 n) n ++ xs.take (k - 20) := by
      rw [List.take_append, List.take_of_length_le (by rw [ipM_len]; exact h20'), ipM_len]
    rw [he] at hL
    have hbb : ∀ x ∈ ipM tt P id s d 16384 (ipMK tt P id s d 16384 n) n ++ xs.take (k - 20), 0 ≤ x ∧ x ≤ 255 := fun x hx => by
      rcases List.mem_append.1 hx with h | h
      · exact ipM_rng _ _ _ _ _ _ _ _ hk.ht hk.hP x h
      · exact hb x (List.mem_of_mem_take h)
    have hF : faultI 69 (fld (ipM tt P id s d 16384 (ipMK tt P id s d 16384 n) n ++ xs.take (k - 20)) 2 2) k (csum ((ipM tt P id s d 16384 (ipMK tt P id s d 16384 n) n ++ xs.take (k - 20)).take 20) == 0) (fld (ipM tt P id s d 16384 (ipMK tt P id s d 16384 n) n ++ xs.take (k - 20)) 6 2) = ((10 : Nat) : Int) := by
      rw [f2]
      unfold faultI
      rw [if_neg (by omega), if_neg (by omega), if_pos (by omega)]
      rfl
    exact rd_bad w a _ k cap 69 10 hL.row (by simp [ipM_len, hl]; omega) hL.le hL.no hbb h20' rfl hF (by omega)
/-- One bit of the first bytes turned. -/
theorem turn_sum (tt P id s d m n : Nat) (hk : PkOk tt P id s d) (xs : List Int) (i t : Nat) (hi : i < 20) (ht : t < 8) (x : Nat) (hx : (ipM tt P id s d m (ipMK tt P id s d m n) n)[i]? = some (x : Int)) (hx2 : x ^^^ 2 ^ t ≤ 255) :
    csum (((ipM tt P id s d m (ipMK tt P id s d m n) n ++ xs).set i ((x ^^^ 2 ^ t : Nat) : Int)).take 20) ≠ 0 := by
  have h1 : ((ipM tt P id s d m (ipMK tt P id s d m n) n ++ xs).set i ((x ^^^ 2 ^ t : Nat) : Int)).take 20 = (ipM tt P id s d m (ipMK tt P id s d m n) n).set i ((x ^^^ 2 ^ t : Nat) : Int) := by
    rw [List.set_append_left _ _ (by rw [ipM_len]; exact hi), List.take_append_of_le_length (by rw [List.length_set, ipM_len]; exact Nat.le_refl _), List.take_of_length_le (by rw [List.length_set, ipM_len]; exact Nat.le_refl _)]
  rw [h1]
  have hne : x ^^^ 2 ^ t ≠ x := by
    rcases xor_pow t x with h | ⟨h2, h⟩
    · have := Nat.pos_of_ne_zero (show 2 ^ t ≠ 0 by simp); omega
    · have := Nat.pos_of_ne_zero (show 2 ^ t ≠ 0 by simp); omega
  have := csum_set [] (ipM tt P id s d m (ipMK tt P id s d m n) n) i ((x ^^^ 2 ^ t : Nat) : Int) rfl (by rw [ipM_len]; exact hi) (by simp) (ipM_rng _ _ _ _ _ _ _ _ hk.ht hk.hP) (by omega) (by rw [hx]; simp; omega) (by simpa using ipM_ok tt P id s d m n hk.ht hk.hP)
  simpa using this
end Go.Proofs.YtlipckpacdioiaaDoor
