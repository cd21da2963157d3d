/- What the document's ReadUDP answers of bytes that are no datagram. -/
import Derived.Test.YtbacodogklbiaaaRRTcp
import Derived.Test.YtbacodogklbiaaaUdpR
import Derived.Test.YtbacodogklbiaaaTPlain
namespace Go.Proofs.Ytbacodogklbiaaa
open Go.RowKit
set_option linter.unusedVariables false
set_option linter.unusedSimpArgs false
set_option maxRecDepth 100000
theorem fld_pair (xs : List Int) (K : Nat) (hb : ∀ x ∈ xs, 0 ≤ x ∧ x ≤ 255) (hK : K + 1 < xs.length) : fld xs K 2 = 256 * fld xs K 1 + fld xs (K + 1) 1 := by
  have h0 := fld_one xs K hb (by omega)
  have h1 := fld_one xs (K + 1) hb hK
  have h2 := fld_eq xs K 2 hb
  rw [List.drop_eq_getElem_cons (show K < xs.length by omega), List.drop_eq_getElem_cons hK] at h2
  rw [List.getElem?_eq_getElem (show K < xs.length by omega)] at h0
  rw [List.getElem?_eq_getElem hK] at h1
  have e0 : xs[K] = (fld xs K 1 : Int) := h0
  have e1 : xs[K + 1] = (fld xs (K + 1) 1 : Int) := h1
  have e2 : 256 * (256 * 0 + xs[K]) + xs[K + 1] = (fld xs K 2 : Int) := h2
  omega

set_option maxHeartbeats 800000 in
theorem rrudp_short (w : World) (s d : Int) (a : Option Addr) (n cap : Nat) (h : n < 8) :
    Calls Try.prog 24 #[.int .u32 s, .int .u32 d, .slice a n cap] w fun e w' => e = .returned (.tuple #[.agg #[.int .u16 0, .int .u16 0, .bool false, .slice none 0 0], .int .i64 10]) ∧ Below w.heap.size w w' := by
  go_enter Try.func24, Try.ntmps24
  go_wp2
  refine bodyPost_ret (v := .tuple #[.agg #[.int .u16 0, .int .u16 0, .bool false, .slice none 0 0], .int .i64 10]) (by simp [results, Try.results24, go_sem]) rfl ⟨rfl, ?_⟩
  repeat (first | exact Below.refl _ _ | refine Below.setCell ?_ (Nat.le_refl _) _ | refine bdrewN ?_ _ | exact Below.alloc (Below.refl _ _) (Nat.le_refl _) _)

set_option maxHeartbeats 800000 in
theorem rrudp_long (w : World) (s d : Int) (a : Option Addr) (n cap : Nat) (h : 1480 < n) :
    Calls Try.prog 24 #[.int .u32 s, .int .u32 d, .slice a n cap] w fun e w' => e = .returned (.tuple #[.agg #[.int .u16 0, .int .u16 0, .bool false, .slice none 0 0], .int .i64 14]) ∧ Below w.heap.size w w' := by
  go_enter Try.func24, Try.ntmps24
  go_wp2
  refine bodyPost_ret (v := .tuple #[.agg #[.int .u16 0, .int .u16 0, .bool false, .slice none 0 0], .int .i64 14]) (by simp [results, Try.results24, go_sem]) rfl ⟨rfl, ?_⟩
  repeat (first | exact Below.refl _ _ | refine Below.setCell ?_ (Nat.le_refl _) _ | refine bdrewN ?_ _ | exact Below.alloc (Below.refl _ _) (Nat.le_refl _) _)

set_option maxHeartbeats 1600000 in
theorem rrudp_form (w : World) (src dst : Nat) (a : Option Addr) (xs : List Int) (n cap h4 h5 sz : Nat) (hr : Row .u8 w a xs) (hno : a = none → cap = 0) (hl : xs.length = n) (hbb : ∀ x ∈ xs, 0 ≤ x ∧ x ≤ 255) (h1 : 8 ≤ n) (h2 : n ≤ 1480) (HV4 : Hid (fld xs 4 1 = h4)) (HV5 : Hid (fld xs 5 1 = h5)) (HS : Hid (256 * h4 + h5 = sz)) (hf : sz < 8 ∨ n < sz) :
    Calls Try.prog 24 #[.int .u32 src, .int .u32 dst, .slice a n cap] w fun e w' => e = .returned (.tuple #[.agg #[.int .u16 0, .int .u16 0, .bool false, .slice none 0 0], .int .i64 11]) ∧ Below w.heap.size w w' := by
  have HR := hide hr
  have hl1 : 8 ≤ xs.length := by omega
  have HL := hide hl
  have HB := hide hbb
  have HNO := hide hno
  obtain ⟨b0, o0, rfl, hlt0, hc0⟩ := hr (by intro e; subst e; simp at hl1)
  have c4 := hc0 4 (by omega)
  have c5 := hc0 5 (by omega)
  rw [fld_one xs 4 hbb (by omega), HV4.out] at c4
  rw [fld_one xs 5 hbb (by omega), HV5.out] at c5
  have hb4 := fld_lt xs 4 1 hbb
  have hb5 := fld_lt xs 5 1 hbb
  rw [HV4.out] at hb4
  rw [HV5.out] at hb5
  have hS : 256 * h4 + h5 = sz := HS.out
  have hw4 : IntKind.i64.wrap (h4 : Int) = (h4 : Int) := IntWalk.i64_in _ (by omega)
  have hw5 : IntKind.i64.wrap (h5 : Int) = (h5 : Int) := IntWalk.i64_in _ (by omega)
  have hm4 : IntKind.i64.wrap (256 * (h4 : Int)) = 256 * (h4 : Int) := IntWalk.i64_in _ (by omega)
  have hs4 : IntKind.i64.wrap (256 * (h4 : Int) + (h5 : Int)) = (sz : Int) := by rw [IntWalk.i64_in _ (by omega)]; omega
  clear hr hno hl hbb hc0
  have hn1 : ¬ ((n : Int) < 8) := by omega
  have hn2 : ¬ ((1480 : Int) < (n : Int)) := by omega
  have h14 : (4 : Int) < (n : Int) := by omega
  have h15 : (5 : Int) < (n : Int) := by omega
  rcases hf with hf | hf
  · have hd1 : decide ((sz : Int) < 8) = true := by simp; omega
    go_enter Try.func24, Try.ntmps24
    go_wp2_with fail
    go_quiet (fail)
    go_wp2
    refine bodyPost_ret (v := .tuple #[.agg #[.int .u16 0, .int .u16 0, .bool false, .slice none 0 0], .int .i64 11]) (by simp [results, Try.results24, go_sem]) rfl ⟨rfl, ?_⟩
    have hw0 : w.heap.size ≤ w.heap.size := Nat.le_refl _
    repeat (with_reducible refine Below.setCell ?_ (by assumption) _)
    refine bdrewN ?_ _
    exact Below.alloc (Below.refl _ _) (Nat.le_refl _) _
  · have hd1 : decide ((sz : Int) < 8) = false := by simp; omega
    have hd2 : decide ((n : Int) < (sz : Int)) = true := by simp; omega
    go_enter Try.func24, Try.ntmps24
    go_wp2_with fail
    go_quiet (fail)
    go_wp2
    refine bodyPost_ret (v := .tuple #[.agg #[.int .u16 0, .int .u16 0, .bool false, .slice none 0 0], .int .i64 11]) (by simp [results, Try.results24, go_sem]) rfl ⟨rfl, ?_⟩
    have hw0 : w.heap.size ≤ w.heap.size := Nat.le_refl _
    repeat (with_reducible refine Below.setCell ?_ (by assumption) _)
    refine bdrewN ?_ _
    exact Below.alloc (Below.refl _ _) (Nat.le_refl _) _
end Go.Proofs.Ytbacodogklbiaaa
