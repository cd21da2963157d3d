/- The law of the addresses that no host has, walked. -/
import Derived.Test.YtogeggklfcabkaaCCheckR
import Derived.Test.YtogeggklfcabkaaCNeverM
namespace Go.Proofs.Ytogeggklfcabkaa
open Go.RowKit
set_option linter.unusedVariables false
set_option linter.unusedSimpArgs false
set_option maxRecDepth 100000
set_option maxHeartbeats 1600000 in
theorem cnever_long (c : Cfg) (a : Option Addr) (fs : List Fwd) (n cap : Nat) (x : Nat) (w : World) (hk : CfOk c) (hl : fs.length = n) (hw : FwAt w a fs) (hf : ∀ f ∈ fs, FwOk f) (hn : n ≤ 9223372036854775807) (hm : n ≤ cap) (hx : x ≤ 4294967295) (h : 40 < n) :
    Calls Try.prog 7 #[.agg (c.cells a n cap), .int .u32 (x : Int)] w fun e w' => e = .returned (.bool true) ∧ Below w.heap.size w w' := by
  have h1 : decide (40 < (n : Int)) = true := by simp; omega
  have hc := c.cfA a n cap
  obtain ⟨cs, hcs⟩ : ∃ cs, c.cells a n cap = cs := ⟨_, rfl⟩
  rw [hcs] at hc
  rw [hcs]
  have hb0 := (Below.refl w.heap.size w).alloc (Nat.le_refl _) (.cells cs 28)
  obtain ⟨B, w0, hB, hw0, H0, HB0, HW0⟩ : ∃ B wt, w.heap.size = B ∧ w.alloc (.cells cs 28) = wt ∧ Hid (wt.heap[B]? = some (.cells cs 28 (0, 0))) ∧ Hid (Below w.heap.size w wt) ∧ Hid (FwAt wt a fs) := ⟨_, _, rfl, rfl, hide (heap_alloc_new w _), hide hb0, hide (hw.below hb0 (Nat.le_refl _))⟩
  have HEQ := hide (And.intro hB hw0)
  have HSZ := hide hc.size
  have hcell : ∀ (V : World), V.heap[B]? = some (.cells cs 28 (0, 0)) → ∀ i, V.cell? ⟨B, i, none⟩ = cs[i]? := fun V hV i => cell_of_row V B i cs _ _ hV
  have HCELL := hide hcell
  have HC := hide hc
  have HK := hide hk
  have HCK := hide (fun V (hV : FwAt V a fs) => checkR_any cs c a fs n cap V hc hk hV hl hf hn hm)
  clear hcs hb0 hB hw0 hcell hc hk hl hw hf
  go_enter Try.func7, Try.ntmps7
  go_upto_region 1 with (fail)
  rw [HEQ.out.2, HEQ.out.1]
  clear HEQ
  go_wp2_with fail
  refine (speaks9_any _).mono ?_
  rintro e w1 ⟨rfl, b1⟩
  have H1 := hide (below_blk b1 H0.out (Nat.le_refl _))
  have HB1 := hide (HB0.out.trans (b1.mono HB0.out.size))
  have HW1 := hide (HW0.out.below b1 (Nat.le_refl _))
  have c25 := (HCELL.out w1 H1.out 25).trans HC.out.fw
  clear b1 H0 HB0 HW0
  go_wp2_with fail
  go_ret
  exact ⟨rfl, HB1.out⟩
set_option maxHeartbeats 1600000 in
theorem cnever_wrong (c : Cfg) (a : Option Addr) (fs : List Fwd) (n cap : Nat) (x : Nat) (w : World) (hk : CfOk c) (hl : fs.length = n) (hw : FwAt w a fs) (hf : ∀ f ∈ fs, FwOk f) (hn : n ≤ 9223372036854775807) (hm : n ≤ cap) (hx : x ≤ 4294967295) (h : n ≤ 40) (hch : checkB c fs = false) :
    Calls Try.prog 7 #[.agg (c.cells a n cap), .int .u32 (x : Int)] w fun e w' => e = .returned (.bool true) ∧ Below w.heap.size w w' := by
  have h1 : decide (40 < (n : Int)) = false := by simp; omega
  have hc := c.cfA a n cap
  obtain ⟨cs, hcs⟩ : ∃ cs, c.cells a n cap = cs := ⟨_, rfl⟩
  rw [hcs] at hc
  rw [hcs]
  have hb0 := (Below.refl w.heap.size w).alloc (Nat.le_refl _) (.cells cs 28)
  obtain ⟨B, w0, hB, hw0, H0, HB0, HW0⟩ : ∃ B wt, w.heap.size = B ∧ w.alloc (.cells cs 28) = wt ∧ Hid (wt.heap[B]? = some (.cells cs 28 (0, 0))) ∧ Hid (Below w.heap.size w wt) ∧ Hid (FwAt wt a fs) := ⟨_, _, rfl, rfl, hide (heap_alloc_new w _), hide hb0, hide (hw.below hb0 (Nat.le_refl _))⟩
  have HEQ := hide (And.intro hB hw0)
  have HSZ := hide hc.size
  have hcell : ∀ (V : World), V.heap[B]? = some (.cells cs 28 (0, 0)) → ∀ i, V.cell? ⟨B, i, none⟩ = cs[i]? := fun V hV i => cell_of_row V B i cs _ _ hV
  have HCELL := hide hcell
  have HC := hide hc
  have HK := hide hk
  have HCK := hide (fun V (hV : FwAt V a fs) => checkR_any cs c a fs n cap V hc hk hV hl hf hn hm)
  clear hcs hb0 hB hw0 hcell hc hk hl hw hf
  go_enter Try.func7, Try.ntmps7
  go_upto_region 1 with (fail)
  rw [HEQ.out.2, HEQ.out.1]
  clear HEQ
  go_wp2_with fail
  refine (speaks9_any _).mono ?_
  rintro e w1 ⟨rfl, b1⟩
  have H1 := hide (below_blk b1 H0.out (Nat.le_refl _))
  have HB1 := hide (HB0.out.trans (b1.mono HB0.out.size))
  have HW1 := hide (HW0.out.below b1 (Nat.le_refl _))
  have c25 := (HCELL.out w1 H1.out 25).trans HC.out.fw
  clear b1 H0 HB0 HW0
  have HCV := hide (HCK.out w1 HW1.out)
  rw [hch, show errB false = 40 from rfl] at HCV
  go_wp2_with (refine ld_cfg (o := ⟨some 15, _, _, _, _, _⟩) (.tmp 2) rfl (by rfl) B rfl cs H1.out HSZ.out ?_; try simp only [Act.put, List.setIfInBounds_toArray, List.set_cons_zero, List.set_cons_succ])
  refine HCV.out.mono ?_
  rintro e w2 ⟨rfl, b2⟩
  have HB2 := hide (HB1.out.trans (b2.mono HB1.out.size))
  clear b2
  go_wp2_with fail
  go_ret
  exact ⟨rfl, HB2.out⟩
theorem addrs_of {c : Cfg} {fs : List Fwd} (h : checkB c fs = true) : ∃ k : Nat, c.nb = (k : Int) ∧ 8 ≤ k ∧ k ≤ 30 ∧ winB c.wan c.lan c.nb = false := by
  unfold checkB addrsB btw at h
  simp only [Bool.and_eq_true, decide_eq_true_eq, Bool.not_eq_true'] at h
  obtain ⟨k, hk⟩ := Int.eq_ofNat_of_zero_le (show 0 ≤ c.nb by omega)
  exact ⟨k, hk, by omega, by omega, h.1.1.1.1.1.2⟩
set_option maxHeartbeats 4000000 in
theorem cnever_main (c : Cfg) (a : Option Addr) (fs : List Fwd) (n cap : Nat) (x : Nat) (w : World) (hk : CfOk c) (hl : fs.length = n) (hw : FwAt w a fs) (hf : ∀ f ∈ fs, FwOk f) (hn : n ≤ 9223372036854775807) (hm : n ≤ cap) (hx : x ≤ 4294967295) (h : n ≤ 40) (hch : checkB c fs = true) :
    Calls Try.prog 7 #[.agg (c.cells a n cap), .int .u32 (x : Int)] w fun e w' => e = .returned (.bool true) ∧ Below w.heap.size w w' := by
  have h1 : decide (40 < (n : Int)) = false := by simp; omega
  obtain ⟨k, hnb, hk8, hk30, hwan⟩ := addrs_of hch
  have hlan := hk.lan
  have hwanle := hk.wan
  rw [hnb] at hwan
  obtain ⟨m, hm0⟩ : ∃ m, 32 - k = m := ⟨_, rfl⟩
  have hmle : m ≤ 24 := by omega
  have hp : 2 ^ m ≤ 2 ^ 24 := Nat.pow_le_pow_right (by decide) hmle
  have hpp := Nat.two_pow_pos m
  have hlow := Nat.mod_lt x hpp
  have hdl : c.lan / 2 ^ m * 2 ^ m ≤ c.lan := Nat.div_mul_le_self _ _
  have hup : c.lan / 2 ^ m * 2 ^ m + (2 ^ m - 1) ≤ 4294967295 := by
    have h32 : 2 ^ (32 - m) * 2 ^ m = 4294967296 := by rw [← Nat.pow_add, show 32 - m + m = 32 by omega]
    have hq : c.lan / 2 ^ m < 2 ^ (32 - m) := by
      rw [Nat.div_lt_iff_lt_mul hpp, h32]; omega
    have := Nat.mul_le_mul_right (2 ^ m) (Nat.succ_le_of_lt hq)
    rw [h32, Nat.succ_mul] at this
    omega
  have v1 := nv_net c.lan k hk30
  have v2 := nv_top c.lan k hk30
  have v3 := nv_lan c.lan k hk30
  have v4 : hostB c.lan (k : Int) c.wan = false := by unfold hostB; rw [hwan]; rfl
  have v5 := nv_in c.lan k (x % 2 ^ (32 - k)) hk30 (by rw [hm0]; exact hlow)
  have v6 := nv_any c.lan k x hk30
  rw [hm0] at v1 v2 v5 v6
  have hone : (4294967295 : Int) / 2 ^ k = ((2 ^ m - 1 : Nat) : Int) := by rw [← hm0]; exact ones_int k (by omega)
  have hnet : bits .andNot .u32 (c.lan : Int) ((2 ^ m - 1 : Nat) : Int) = ((c.lan / 2 ^ m * 2 ^ m : Nat) : Int) := by
    rw [u32_andNot_nat _ _ (by omega) (by omega), clear_low _ _ (by omega) (by omega)]
  have htop : bits .or .u32 ((c.lan / 2 ^ m * 2 ^ m : Nat) : Int) ((2 ^ m - 1 : Nat) : Int) = ((c.lan / 2 ^ m * 2 ^ m + (2 ^ m - 1) : Nat) : Int) := by
    rw [u32_or_nat _ _ (by omega) (by omega), or_low _ _ _ (by omega)]
  have hand : bits .and .u32 (x : Int) ((2 ^ m - 1 : Nat) : Int) = ((x % 2 ^ m : Nat) : Int) := mask_u32 x m hx (by omega)
  have hin : bits .or .u32 ((c.lan / 2 ^ m * 2 ^ m : Nat) : Int) ((x % 2 ^ m : Nat) : Int) = ((c.lan / 2 ^ m * 2 ^ m + x % 2 ^ m : Nat) : Int) := by
    rw [u32_or_nat _ _ (by omega) (by omega), or_low _ _ _ hlow]
  obtain ⟨mk, hmk⟩ : ∃ z, 2 ^ m - 1 = z := ⟨_, rfl⟩
  obtain ⟨nt, hnt⟩ : ∃ z, c.lan / 2 ^ m * 2 ^ m = z := ⟨_, rfl⟩
  obtain ⟨lo, hlo⟩ : ∃ z, x % 2 ^ m = z := ⟨_, rfl⟩
  rw [hnt] at v1 v2 v5 v6 hnet htop hin hup hdl
  rw [hmk] at v2 v5 hone hnet htop hand hup
  rw [hlo] at v5 v6 hand hin hlow
  obtain ⟨tp, htp⟩ : ∃ z, nt + mk = z := ⟨_, rfl⟩
  obtain ⟨inn, hinn⟩ : ∃ z, nt + lo = z := ⟨_, rfl⟩
  rw [htp] at v2 v5 htop hup
  rw [hinn] at v5 v6 hin
  have hlole : lo ≤ mk := by omega
  have q1 : ((inn : Int) != (nt : Int)) = !decide (inn = nt) := int_beq inn nt
  have q2 : ((inn : Int) != (tp : Int)) = !decide (inn = tp) := int_beq inn tp
  have q3 : ((inn : Int) != (c.lan : Int)) = !decide (inn = c.lan) := int_beq inn c.lan
  have q4 : ((x : Int) == (inn : Int)) = decide (x = inn) := int_beq2 x inn
  rw [← q1, ← q2, ← q3] at v5
  rw [← q4] at v6
  obtain ⟨y1, hy1⟩ : ∃ b, ((inn : Int) != (nt : Int)) = b := ⟨_, rfl⟩
  obtain ⟨y2, hy2⟩ : ∃ b, ((inn : Int) != (tp : Int)) = b := ⟨_, rfl⟩
  obtain ⟨y3, hy3⟩ : ∃ b, ((inn : Int) != (c.lan : Int)) = b := ⟨_, rfl⟩
  obtain ⟨y4, hy4⟩ : ∃ b, ((x : Int) == (inn : Int)) = b := ⟨_, rfl⟩
  rw [hy1, hy2, hy3] at v5
  rw [v5, hy4] at v6
  have hcH : ∀ V z (r : Bool), z ≤ 4294967295 → hostB c.lan c.nb z = r → Calls Try.prog 14 #[.agg (c.cells a n cap), .int .u32 (z : Int)] V fun e w' => e = .returned (.bool r) ∧ Below V.heap.size V w' := fun V z r hz hr => by
    have := host_any (c.cells a n cap) c.lan c.nb z V (c.cfH a n cap) hlan hz
    rw [hr] at this; exact this
  have HH1 := hide (fun V => hcH V nt false (by omega) (by rw [hnb]; exact v1))
  have HH2 := hide (fun V => hcH V tp false (by omega) (by rw [hnb]; exact v2))
  have HH3 := hide (fun V => hcH V c.lan false hlan (by rw [hnb]; exact v3))
  have HH4 := hide (fun V => hcH V c.wan false hwanle (by rw [hnb]; exact v4))
  have HH5 := hide (fun V => hcH V inn (y1 && y2 && y3) (by omega) (by rw [hnb]; exact v5))
  have HH6 := hide (fun V => hcH V x (y4 && (y1 && y2 && y3)) hx (by rw [hnb]; exact v6))
  have hkint : (k : Int) ≤ 30 := by omega
  clear hp hpp hlow hdl hup v1 v2 v3 v4 v5 v6 hmk hnt hlo htp hinn hlole q1 q2 q3 q4 hcH hwan hm0 hmle hwanle hlan
  have hc := c.cfA a n cap
  obtain ⟨cs, hcs⟩ : ∃ cs, c.cells a n cap = cs := ⟨_, rfl⟩
  rw [hcs] at hc HH1 HH2 HH3 HH4 HH5 HH6
  have HNB := hide hnb
  clear hnb
  rw [hcs]
  have hb0 := (Below.refl w.heap.size w).alloc (Nat.le_refl _) (.cells cs 28)
  obtain ⟨B, w0, hB, hw0, H0, HB0, HW0⟩ : ∃ B wt, w.heap.size = B ∧ w.alloc (.cells cs 28) = wt ∧ Hid (wt.heap[B]? = some (.cells cs 28 (0, 0))) ∧ Hid (Below w.heap.size w wt) ∧ Hid (FwAt wt a fs) := ⟨_, _, rfl, rfl, hide (heap_alloc_new w _), hide hb0, hide (hw.below hb0 (Nat.le_refl _))⟩
  have HEQ := hide (And.intro hB hw0)
  have HSZ := hide hc.size
  have hcell : ∀ (V : World), V.heap[B]? = some (.cells cs 28 (0, 0)) → ∀ i, V.cell? ⟨B, i, none⟩ = cs[i]? := fun V hV i => cell_of_row V B i cs _ _ hV
  have HCELL := hide hcell
  have HC := hide hc
  have HK := hide hk
  have HCK := hide (fun V (hV : FwAt V a fs) => checkR_any cs c a fs n cap V hc hk hV hl hf hn hm)
  clear hcs hb0 hB hw0 hcell hc hk hl hw hf
  go_enter Try.func7, Try.ntmps7
  go_upto_region 1 with (fail)
  rw [HEQ.out.2, HEQ.out.1]
  clear HEQ
  go_wp2_with fail
  refine (speaks9_any _).mono ?_
  rintro e w1 ⟨rfl, b1⟩
  have H1 := hide (below_blk b1 H0.out (Nat.le_refl _))
  have HB1 := hide (HB0.out.trans (b1.mono HB0.out.size))
  have HW1 := hide (HW0.out.below b1 (Nat.le_refl _))
  have c25 := (HCELL.out w1 H1.out 25).trans HC.out.fw
  clear b1 H0 HB0 HW0
  have HCV := hide (HCK.out w1 HW1.out)
  rw [hch, show errB true = 0 from rfl] at HCV
  go_wp2_with (refine ld_cfg (o := ⟨some 15, _, _, _, _, _⟩) (.tmp 2) rfl (by rfl) B rfl cs H1.out HSZ.out ?_; try simp only [Act.put, List.setIfInBounds_toArray, List.set_cons_zero, List.set_cons_succ])
  refine HCV.out.mono ?_
  rintro e w2 ⟨rfl, b2⟩
  have H2 := hide (below_blk b2 H1.out (Nat.le_refl _))
  have HB2 := hide (HB1.out.trans (b2.mono HB1.out.size))
  have c18 := (HCELL.out w2 H2.out 18).trans HC.out.lan
  have c20 := (HCELL.out w2 H2.out 20).trans HC.out.nb
  rw [HNB.out] at c20
  clear b2 H1 HB1 HW1 HCV HCK c25
  go_wp2_with (refine ld_cfg (o := ⟨some 26, _, _, _, _, _⟩) (.tmp 2) rfl (by rfl) B rfl cs H2.out HSZ.out ?_; try simp only [Act.put, List.setIfInBounds_toArray, List.set_cons_zero, List.set_cons_succ])
  refine (HH1.out _).mono ?_
  rintro e w3 ⟨rfl, b3⟩
  have H3 := hide (below_blk b3 H2.out (Nat.le_refl _))
  have HB3 := hide (HB2.out.trans (b3.mono HB2.out.size))
  have c18 := (HCELL.out w3 H3.out 18).trans HC.out.lan
  have c19 := (HCELL.out w3 H3.out 19).trans HC.out.wan
  clear b3 H2 HB2
  go_wp2_with (refine ld_cfg (o := ⟨some 30, _, _, _, _, _⟩) (.tmp 2) rfl (by rfl) B rfl cs H3.out HSZ.out ?_; try simp only [Act.put, List.setIfInBounds_toArray, List.set_cons_zero, List.set_cons_succ])
  refine (HH2.out _).mono ?_
  rintro e w4 ⟨rfl, b4⟩
  have H4 := hide (below_blk b4 H3.out (Nat.le_refl _))
  have HB4 := hide (HB3.out.trans (b4.mono HB3.out.size))
  have c18 := (HCELL.out w4 H4.out 18).trans HC.out.lan
  have c19 := (HCELL.out w4 H4.out 19).trans HC.out.wan
  clear b4 H3 HB3
  go_wp2_with (refine ld_cfg (o := ⟨some 37, _, _, _, _, _⟩) (.tmp 2) rfl (by rfl) B rfl cs H4.out HSZ.out ?_; try simp only [Act.put, List.setIfInBounds_toArray, List.set_cons_zero, List.set_cons_succ])
  refine (HH3.out _).mono ?_
  rintro e w5 ⟨rfl, b5⟩
  have H5 := hide (below_blk b5 H4.out (Nat.le_refl _))
  have HB5 := hide (HB4.out.trans (b5.mono HB4.out.size))
  have c18 := (HCELL.out w5 H5.out 18).trans HC.out.lan
  have c19 := (HCELL.out w5 H5.out 19).trans HC.out.wan
  clear b5 H4 HB4
  go_wp2_with (refine ld_cfg (o := ⟨some 43, _, _, _, _, _⟩) (.tmp 2) rfl (by rfl) B rfl cs H5.out HSZ.out ?_; try simp only [Act.put, List.setIfInBounds_toArray, List.set_cons_zero, List.set_cons_succ])
  refine (HH4.out _).mono ?_
  rintro e w6 ⟨rfl, b6⟩
  have H6 := hide (below_blk b6 H5.out (Nat.le_refl _))
  have HB6 := hide (HB5.out.trans (b6.mono HB5.out.size))
  have c18 := (HCELL.out w6 H6.out 18).trans HC.out.lan
  have c19 := (HCELL.out w6 H6.out 19).trans HC.out.wan
  clear b6 H5 HB5
  go_wp2_with (refine ld_cfg (o := ⟨some 53, _, _, _, _, _⟩) (.tmp 2) rfl (by rfl) B rfl cs H6.out HSZ.out ?_; try simp only [Act.put, List.setIfInBounds_toArray, List.set_cons_zero, List.set_cons_succ])
  cases y1 <;> cases y2 <;> cases y3 <;> cases y4 <;>
  · refine (HH5.out _).mono ?_
    rintro e w7 ⟨rfl, b7⟩
    have H7 := hide (below_blk b7 H6.out (Nat.le_refl _))
    have HB7 := hide (HB6.out.trans (b7.mono HB6.out.size))
    have c18 := (HCELL.out w7 H7.out 18).trans HC.out.lan
    have c19 := (HCELL.out w7 H7.out 19).trans HC.out.wan
    clear b7 H6 HB6
    go_wp2_with (refine ld_cfg (o := ⟨some 74, _, _, _, _, _⟩) (.tmp 2) rfl (by rfl) B rfl cs H7.out HSZ.out ?_; try simp only [Act.put, List.setIfInBounds_toArray, List.set_cons_zero, List.set_cons_succ])
    refine (HH6.out _).mono ?_
    rintro e w8 ⟨rfl, b8⟩
    have H8 := hide (below_blk b8 H7.out (Nat.le_refl _))
    have HB8 := hide (HB7.out.trans (b8.mono HB7.out.size))
    have c18 := (HCELL.out w8 H8.out 18).trans HC.out.lan
    have c19 := (HCELL.out w8 H8.out 19).trans HC.out.wan
    clear b8 H7 HB7
    go_wp2_with (refine ld_cfg (o := ⟨some 81, _, _, _, _, _⟩) (.tmp 2) rfl (by rfl) B rfl cs H8.out HSZ.out ?_; try simp only [Act.put, List.setIfInBounds_toArray, List.set_cons_zero, List.set_cons_succ])
    first
      | (go_ret; exact ⟨rfl, HB8.out⟩)
      | (refine (HH5.out _).mono ?_; rintro e w9 ⟨rfl, b9⟩; have H9 := hide (below_blk b9 H8.out (Nat.le_refl _)); have HB9 := hide (HB8.out.trans (b9.mono HB8.out.size)); have c18 := (HCELL.out w9 H9.out 18).trans HC.out.lan; have c19 := (HCELL.out w9 H9.out 19).trans HC.out.wan; clear b9 H8 HB8; go_wp2_with fail; go_ret; exact ⟨rfl, HB9.out⟩)
theorem confNever_any (c : Cfg) (a : Option Addr) (fs : List Fwd) (n cap : Nat) (x : Nat) (w : World) (hk : CfOk c) (hl : fs.length = n) (hw : FwAt w a fs) (hf : ∀ f ∈ fs, FwOk f) (hn : n ≤ 9223372036854775807) (hm : n ≤ cap) (hx : x ≤ 4294967295) :
    Calls Try.prog 7 #[.agg (c.cells a n cap), .int .u32 (x : Int)] w fun e w' => e = .returned (.bool true) ∧ Below w.heap.size w w' := by
  by_cases h : 40 < n
  · exact cnever_long c a fs n cap x w hk hl hw hf hn hm hx h
  · cases hch : checkB c fs with
    | false => exact cnever_wrong c a fs n cap x w hk hl hw hf hn hm hx (by omega) hch
    | true => exact cnever_main c a fs n cap x w hk hl hw hf hn hm hx (by omega) hch
end Go.Proofs.Ytogeggklfcabkaa
