/- What the document's ReadTCP answers of bytes that are no segment; its Eye at a place. -/
import Derived.Test.YtbacodogklbiaaaREye
import Derived.Test.YtbacodogklbiaaaTRef
import Derived.Test.YtbacodogklbiaaaTcpR
namespace Go.Proofs.Ytbacodogklbiaaa
open Go.RowKit
set_option linter.unusedVariables false
set_option linter.unusedSimpArgs false
set_option maxRecDepth 100000
theorem rEye_at (E K k : Nat) (a : Option Addr) (xs : List Int) (n cap : Nat) (w : World) (h : REye w E a n cap K false) (hr : Row .u8 w a xs) (hb : ∀ x ∈ xs, 0 ≤ x ∧ x ≤ 255) (hxn : xs.length = n) (hnc : n ≤ cap) (hcm : cap ≤ 9223372036854775807) (hnil : a = none → cap = 0) (hn : n ≤ 5000) (hk : k ≤ 8) (hk2 : K + k ≤ n) :
    Calls Try.prog 44 #[.pointer (some ⟨E, 0, none⟩), .int .i64 k] w fun e w' => e = .returned (.int .u64 (fld xs K k)) ∧ REye w' E a n cap (K + k) false ∧ w.grownBy w' (some E) := by
  have h1 := refEyeNum_any E a xs n cap K false k w h hr hb hxn hnc hcm hnil (by omega) hn
  have hs : sz (k : Int) = k := by unfold sz; omega
  rw [hs, if_pos (by omega), if_pos (by omega), show decide (n - K < k) = false by simp; omega, fld_eq xs K k hb] at h1
  exact h1
theorem fld_one (xs : List Int) (K : Nat) (hb : ∀ x ∈ xs, 0 ≤ x ∧ x ≤ 255) (hK : K < xs.length) : xs[K]?.getD 0 = (fld xs K 1 : Int) := by
  rw [← fld_eq xs K 1 hb, List.drop_eq_getElem_cons hK, List.getElem?_eq_getElem hK]
  show xs[K] = 256 * 0 + xs[K]
  omega

set_option maxHeartbeats 800000 in
theorem rrtcp_short (w : World) (s d : Int) (a : Option Addr) (n cap : Nat) (h : n < 20) :
    Calls Try.prog 23 #[.int .u32 s, .int .u32 d, .slice a n cap] w fun e w' => e = .returned (.tuple #[.agg #[.int .u16 0, .int .u16 0, .int .u32 0, .int .u32 0, .int .u8 0, .int .u16 0, .int .u16 0, .slice none 0 0, .slice none 0 0], .int .i64 10]) ∧ Below w.heap.size w w' := by
  go_enter Try.func23, Try.ntmps23
  go_wp2
  refine bodyPost_ret (v := .tuple #[.agg #[.int .u16 0, .int .u16 0, .int .u32 0, .int .u32 0, .int .u8 0, .int .u16 0, .int .u16 0, .slice none 0 0, .slice none 0 0], .int .i64 10]) (by simp [results, Try.results23, go_sem]) rfl ⟨rfl, ?_⟩
  repeat (first | exact Below.refl _ _ | refine Below.setCell ?_ (Nat.le_refl _) _ | exact Below.alloc (Below.refl _ _) (Nat.le_refl _) _)

set_option maxHeartbeats 800000 in
theorem rrtcp_long (w : World) (s d : Int) (a : Option Addr) (n cap : Nat) (h : 1480 < n) :
    Calls Try.prog 23 #[.int .u32 s, .int .u32 d, .slice a n cap] w fun e w' => e = .returned (.tuple #[.agg #[.int .u16 0, .int .u16 0, .int .u32 0, .int .u32 0, .int .u8 0, .int .u16 0, .int .u16 0, .slice none 0 0, .slice none 0 0], .int .i64 14]) ∧ Below w.heap.size w w' := by
  go_enter Try.func23, Try.ntmps23
  go_wp2
  refine bodyPost_ret (v := .tuple #[.agg #[.int .u16 0, .int .u16 0, .int .u32 0, .int .u32 0, .int .u8 0, .int .u16 0, .int .u16 0, .slice none 0 0, .slice none 0 0], .int .i64 14]) (by simp [results, Try.results23, go_sem]) rfl ⟨rfl, ?_⟩
  repeat (first | exact Below.refl _ _ | refine Below.setCell ?_ (Nat.le_refl _) _ | exact Below.alloc (Below.refl _ _) (Nat.le_refl _) _)

set_option maxHeartbeats 1600000 in
theorem rrtcp_form (w : World) (src dst : Nat) (a : Option Addr) (xs : List Int) (n cap hb H : Nat) (hr : Row .u8 w a xs) (hno : a = none → cap = 0) (hl : xs.length = n) (hbb : ∀ x ∈ xs, 0 ≤ x ∧ x ≤ 255) (h1 : 20 ≤ n) (h2 : n ≤ 1480) (HV12 : Hid (fld xs 12 1 = hb)) (HH : Hid (4 * (hb / 16) = H)) (hf : H < 20 ∨ n < H) :
    Calls Try.prog 23 #[.int .u32 src, .int .u32 dst, .slice a n cap] w fun e w' => e = .returned (.tuple #[.agg #[.int .u16 0, .int .u16 0, .int .u32 0, .int .u32 0, .int .u8 0, .int .u16 0, .int .u16 0, .slice none 0 0, .slice none 0 0], .int .i64 11]) ∧ Below w.heap.size w w' := by
  have HR := hide hr
  have hl1 : 20 ≤ xs.length := by omega
  have HL := hide hl
  have HB := hide hbb
  have HNO := hide hno
  obtain ⟨b0, o0, rfl, hlt0, hc0⟩ := hr (by intro e; subst e; simp at hl1)
  have c12 := hc0 12 (by omega)
  rw [fld_one xs 12 hbb (by omega), HV12.out] at c12
  have hbl := fld_lt xs 12 1 hbb
  rw [HV12.out] at hbl
  have hH : 4 * (hb / 16) = H := HH.out
  have hHe : 4 * ((hb : Int) / 16) = (H : Int) := by omega
  have hHw : IntKind.i64.wrap ((hb : Int) / 16) = (hb : Int) / 16 := IntWalk.i64_in _ (by omega)
  have hHx : IntKind.i64.wrap (H : Int) = (H : Int) := IntWalk.i64_in _ (by omega)
  clear hr hno hl hbb hH hc0
  have hn1 : ¬ ((n : Int) < 20) := by omega
  have hn2 : ¬ ((1480 : Int) < (n : Int)) := by omega
  have h12 : (12 : Int) < (n : Int) := by omega
  rcases hf with hf | hf
  · have hd1 : decide ((H : Int) < 20) = true := by simp; omega
    go_enter Try.func23, Try.ntmps23
    go_wp2
    refine bodyPost_ret (v := .tuple #[.agg #[.int .u16 0, .int .u16 0, .int .u32 0, .int .u32 0, .int .u8 0, .int .u16 0, .int .u16 0, .slice none 0 0, .slice none 0 0], .int .i64 11]) (by simp [results, Try.results23, go_sem]) rfl ⟨rfl, ?_⟩
    repeat (first | exact Below.refl _ _ | refine Below.setCell ?_ (Nat.le_refl _) _ | exact Below.alloc (Below.refl _ _) (Nat.le_refl _) _)
  · have hd1 : decide ((H : Int) < 20) = false := by simp; omega
    have hd2 : decide ((n : Int) < (H : Int)) = true := by simp; omega
    go_enter Try.func23, Try.ntmps23
    go_wp2
    refine bodyPost_ret (v := .tuple #[.agg #[.int .u16 0, .int .u16 0, .int .u32 0, .int .u32 0, .int .u8 0, .int .u16 0, .int .u16 0, .slice none 0 0, .slice none 0 0], .int .i64 11]) (by simp [results, Try.results23, go_sem]) rfl ⟨rfl, ?_⟩
    repeat (first | exact Below.refl _ _ | refine Below.setCell ?_ (Nat.le_refl _) _ | exact Below.alloc (Below.refl _ _) (Nat.le_refl _) _)

set_option maxHeartbeats 1600000 in
theorem rrtcp_bad (w : World) (src dst : Nat) (a : Option Addr) (xs : List Int) (n cap hb H : Nat) (hr : Row .u8 w a xs) (hno : a = none → cap = 0) (hl : xs.length = n) (hbb : ∀ x ∈ xs, 0 ≤ x ∧ x ≤ 255) (h1 : 20 ≤ n) (h2 : n ≤ 1480) (HV12 : Hid (fld xs 12 1 = hb)) (HH : Hid (4 * (hb / 16) = H)) (hf1 : 20 ≤ H) (hf2 : H ≤ n) (hsrc : src ≤ 4294967295) (hdst : dst ≤ 4294967295) (HCS : Hid (csum (psB src dst 6 n ++ xs) ≠ 0)) :
    Calls Try.prog 23 #[.int .u32 src, .int .u32 dst, .slice a n cap] w fun e w' => e = .returned (.tuple #[.agg #[.int .u16 0, .int .u16 0, .int .u32 0, .int .u32 0, .int .u8 0, .int .u16 0, .int .u16 0, .slice none 0 0, .slice none 0 0], .int .i64 12]) ∧ Below w.heap.size w w' := by
  have HR := hide hr
  have hl1 : 20 ≤ xs.length := by omega
  have HL := hide hl
  have HB := hide hbb
  have HNO := hide hno
  obtain ⟨b0, o0, rfl, hlt0, hc0⟩ := hr (by intro e; subst e; simp at hl1)
  have c12 := hc0 12 (by omega)
  rw [fld_one xs 12 hbb (by omega), HV12.out] at c12
  have hbl := fld_lt xs 12 1 hbb
  rw [HV12.out] at hbl
  have hH : 4 * (hb / 16) = H := HH.out
  have hHe : 4 * ((hb : Int) / 16) = (H : Int) := by omega
  have hHw : IntKind.i64.wrap ((hb : Int) / 16) = (hb : Int) / 16 := IntWalk.i64_in _ (by omega)
  have hHx : IntKind.i64.wrap (H : Int) = (H : Int) := IntWalk.i64_in _ (by omega)
  clear hr hno hl hbb hH hc0
  have hn1 : ¬ ((n : Int) < 20) := by omega
  have hn2 : ¬ ((1480 : Int) < (n : Int)) := by omega
  have h12 : (12 : Int) < (n : Int) := by omega
  have hd1 : decide ((H : Int) < 20) = false := by simp; omega
  have hd2 : decide ((n : Int) < (H : Int)) = false := by simp; omega
  have hb1 : Below w.heap.size w (w.alloc (.cells #[.int .u16 0, .int .u16 0, .int .u32 0, .int .u32 0, .int .u8 0, .int .u16 0, .int .u16 0, .slice none 0 0, .slice none 0 0] 52)) := (Below.refl _ _).alloc (Nat.le_refl _) _
  have hrs := rsum_any src dst 6 n cap (some ⟨b0, o0, none⟩) xs (w.alloc (.cells #[.int .u16 0, .int .u16 0, .int .u32 0, .int .u32 0, .int .u8 0, .int .u16 0, .int .u16 0, .slice none 0 0, .slice none 0 0] 52)) (HR.out.below hb1 (Nat.le_refl _)) HNO.out HL.out HB.out hsrc hdst (by omega) (by omega)
  obtain ⟨K, HK⟩ : ∃ K, Hid (csum (psB src dst 6 n ++ xs) = K) := ⟨_, rfl⟩
  rw [HK.out] at hrs HCS
  have hKn : (K != 0) = true := by have := HCS.out; simpa using this
  have HRS := hide hrs
  have HB1 := hide hb1
  have hz := heap_alloc_new w (.cells #[.int .u16 0, .int .u16 0, .int .u32 0, .int .u32 0, .int .u8 0, .int .u16 0, .int .u16 0, .slice none 0 0, .slice none 0 0] 52)
  have HZ := hide hz
  clear hrs hb1 hz
  go_enter Try.func23, Try.ntmps23
  go_wp2_with fail
  refine HRS.out.mono ?_
  rintro e w2 ⟨rfl, b2⟩
  obtain ⟨⟨r0, r1, r2, r3, r4, r5, r6, r7, r8⟩, rf⟩ := nine_cells (below_block b2 HZ.out (Nat.le_refl _))
  have HB2 := hide (HB1.out.trans (b2.mono HB1.out.size))
  have hw0 : w.heap.size ≤ w.heap.size := Nat.le_refl _
  clear b2 c12
  go_wp2
  refine bodyPost_ret (v := .tuple #[.agg #[.int .u16 0, .int .u16 0, .int .u32 0, .int .u32 0, .int .u8 0, .int .u16 0, .int .u16 0, .slice none 0 0, .slice none 0 0], .int .i64 12]) (by simp [results, Try.results23, go_sem, r0, r1, r2, r3, r4, r5, r6, r7, r8]) rfl ⟨rfl, ?_⟩
  repeat (with_reducible refine Below.setCell ?_ (by assumption) _)
  exact HB2.out
end Go.Proofs.Ytbacodogklbiaaa
