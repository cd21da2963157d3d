/- What the document's ReadUDP answers of a datagram whose sum is bad. -/
import Derived.Test.YtbacodogklbiaaaRRUdp
namespace Go.Proofs.Ytbacodogklbiaaa
open Go.RowKit
set_option linter.unusedVariables false
set_option linter.unusedSimpArgs false
set_option maxRecDepth 100000

set_option maxHeartbeats 1600000 in
theorem rrudp_bad (w : World) (src dst : Nat) (a : Option Addr) (xs : List Int) (n cap h4 h5 h6 h7 sz : Nat) (hr : Row .u8 w a xs) (hno : a = none → cap = 0) (hl : xs.length = n) (hbb : ∀ x ∈ xs, 0 ≤ x ∧ x ≤ 255) (h1 : 8 ≤ n) (h2 : n ≤ 1480) (HV4 : Hid (fld xs 4 1 = h4)) (HV5 : Hid (fld xs 5 1 = h5)) (HS : Hid (256 * h4 + h5 = sz)) (hcap : n ≤ cap) (HV6 : Hid (fld xs 6 1 = h6)) (HV7 : Hid (fld xs 7 1 = h7)) (hf1 : 8 ≤ sz) (hf2 : sz ≤ n) (hck : ¬ (h6 = 0 ∧ h7 = 0)) (hsrc : src ≤ 4294967295) (hdst : dst ≤ 4294967295) (HCS : Hid (csum (psB src dst 17 sz ++ xs.take sz) ≠ 0)) :
    Calls Try.prog 24 #[.int .u32 src, .int .u32 dst, .slice a n cap] w fun e w' => e = .returned (.tuple #[.agg #[.int .u16 0, .int .u16 0, .bool false, .slice none 0 0], .int .i64 12]) ∧ Below w.heap.size w w' := by
  have HR := hide hr
  have hl1 : 8 ≤ xs.length := by omega
  have HL := hide hl
  have HB := hide hbb
  have HNO := hide hno
  obtain ⟨b0, o0, rfl, hlt0, hc0⟩ := hr (by intro e; subst e; simp at hl1)
  have c4 := hc0 4 (by omega)
  have c5 := hc0 5 (by omega)
  rw [fld_one xs 4 hbb (by omega), HV4.out] at c4
  rw [fld_one xs 5 hbb (by omega), HV5.out] at c5
  have hb4 := fld_lt xs 4 1 hbb
  have hb5 := fld_lt xs 5 1 hbb
  rw [HV4.out] at hb4
  rw [HV5.out] at hb5
  have hS : 256 * h4 + h5 = sz := HS.out
  have hw4 : IntKind.i64.wrap (h4 : Int) = (h4 : Int) := IntWalk.i64_in _ (by omega)
  have hw5 : IntKind.i64.wrap (h5 : Int) = (h5 : Int) := IntWalk.i64_in _ (by omega)
  have hm4 : IntKind.i64.wrap (256 * (h4 : Int)) = 256 * (h4 : Int) := IntWalk.i64_in _ (by omega)
  have hs4 : IntKind.i64.wrap (256 * (h4 : Int) + (h5 : Int)) = (sz : Int) := by rw [IntWalk.i64_in _ (by omega)]; omega
  clear hr hno hl hbb hc0
  have hn1 : ¬ ((n : Int) < 8) := by omega
  have hn2 : ¬ ((1480 : Int) < (n : Int)) := by omega
  have h14 : (4 : Int) < (n : Int) := by omega
  have h15 : (5 : Int) < (n : Int) := by omega
  have hd1 : decide ((sz : Int) < 8) = false := by simp; omega
  have hd2 : decide ((n : Int) < (sz : Int)) = false := by simp; omega
  go_enter Try.func24, Try.ntmps24
  go_wp2_with fail
  go_quiet (fail)
  obtain ⟨wx, hwx, HBx, hzx⟩ : ∃ wx, (w.alloc (.cells #[.int .u16 0, .int .u16 0, .bool false, .slice none 0 0] 54)).drewN nq = wx ∧ Below w.heap.size w wx ∧ wx.heap[w.heap.size]? = some (.cells #[.int .u16 0, .int .u16 0, .bool false, .slice none 0 0] 54 (0, 0)) := ⟨_, rfl, bdrewN ((Below.refl _ _).alloc (Nat.le_refl _) _) _, heap_alloc_new w _⟩
  rw [hwx]
  obtain ⟨r0, r1, r2, r3, rf⟩ := four_cells hzx
  have HZ := hide hzx
  have HBW := hide HBx
  have HRX := hide (HR.out.below HBx (Nat.le_refl _))
  obtain ⟨b1, o1, hbe, hlt1, hc1⟩ := HRX.out (by intro e; have := HL.out; subst e; simp at hl1)
  cases hbe
  have c6 := hc1 6 (by omega)
  have c7 := hc1 7 (by omega)
  rw [fld_one xs 6 HB.out (by omega), HV6.out] at c6
  rw [fld_one xs 7 HB.out (by omega), HV7.out] at c7
  clear hc1 hwx HBx hzx c4 c5 hlt1
  have h16 : (6 : Int) < (n : Int) := by omega
  have h17 : (7 : Int) < (n : Int) := by omega
  have hsz1 : (0 : Int) ≤ (sz : Int) := by omega
  have hsz2 : (sz : Int) ≤ (cap : Int) := by omega
  by_cases h6z : h6 = 0
  · have ht6 : ((h6 : Int) == 0) = true := by simp; omega
    have ht7 : ((h7 : Int) == 0) = false := by simp; omega
    have hrs := rsum_any src dst 17 sz cap (some ⟨b0, o0, none⟩) (xs.take sz) wx (row_take HRX.out sz) (fun h => by cases h) (by rw [List.length_take]; have := HL.out; omega) (fun x hx => HB.out x (List.mem_of_mem_take hx)) hsrc hdst (by omega) (by omega)
    obtain ⟨K, HK⟩ : ∃ K, Hid (csum (psB src dst 17 sz ++ xs.take sz) = K) := ⟨_, rfl⟩
    rw [HK.out] at hrs HCS
    have hKn : (K != 0) = true := by have := HCS.out; simpa using this
    have HRS := hide hrs
    clear hrs
    go_wp2_with fail
    refine HRS.out.mono ?_
    rintro e w2 ⟨rfl, b2⟩
    obtain ⟨q0, q1, q2, q3, qf⟩ := four_cells (below_block b2 HZ.out (Nat.le_refl _))
    have HB2 := hide (HBW.out.trans (b2.mono HBW.out.size))
    have hw0 : w.heap.size ≤ w.heap.size := Nat.le_refl _
    clear b2
    go_wp2
    refine bodyPost_ret (v := .tuple #[.agg #[.int .u16 0, .int .u16 0, .bool false, .slice none 0 0], .int .i64 12]) (by simp [results, Try.results24, go_sem, q0, q1, q2, q3]) rfl ⟨rfl, ?_⟩
    repeat (with_reducible refine Below.setCell ?_ (by assumption) _)
    exact HB2.out
  · have ht6 : ((h6 : Int) == 0) = false := by simp; omega
    have hrs := rsum_any src dst 17 sz cap (some ⟨b0, o0, none⟩) (xs.take sz) wx (row_take HRX.out sz) (fun h => by cases h) (by rw [List.length_take]; have := HL.out; omega) (fun x hx => HB.out x (List.mem_of_mem_take hx)) hsrc hdst (by omega) (by omega)
    obtain ⟨K, HK⟩ : ∃ K, Hid (csum (psB src dst 17 sz ++ xs.take sz) = K) := ⟨_, rfl⟩
    rw [HK.out] at hrs HCS
    have hKn : (K != 0) = true := by have := HCS.out; simpa using this
    have HRS := hide hrs
    clear hrs
    go_wp2_with fail
    refine HRS.out.mono ?_
    rintro e w2 ⟨rfl, b2⟩
    obtain ⟨q0, q1, q2, q3, qf⟩ := four_cells (below_block b2 HZ.out (Nat.le_refl _))
    have HB2 := hide (HBW.out.trans (b2.mono HBW.out.size))
    have hw0 : w.heap.size ≤ w.heap.size := Nat.le_refl _
    clear b2
    go_wp2
    refine bodyPost_ret (v := .tuple #[.agg #[.int .u16 0, .int .u16 0, .bool false, .slice none 0 0], .int .i64 12]) (by simp [results, Try.results24, go_sem, q0, q1, q2, q3]) rfl ⟨rfl, ?_⟩
    repeat (with_reducible refine Below.setCell ?_ (by assumption) _)
    exact HB2.out
end Go.Proofs.Ytbacodogklbiaaa
