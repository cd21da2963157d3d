/- The law of the plain configuration that becomes another one in one place, walked. -/
import Derived.Test.YtogeggklfcabkaaCOneM
import Derived.Test.YtogeggklfcabkaaFrame
import Derived.Deep.Cut
namespace Go.Proofs.Ytogeggklfcabkaa
open Go.RowKit
set_option linter.unusedVariables false
set_option linter.unusedSimpArgs false
set_option maxRecDepth 100000
theorem and_mask (x : Int) (m : Nat) (hm : m ≤ 255) : ∃ k : Nat, k ≤ m ∧ bits .and .i64 x (m : Int) = (k : Int) := by
  have hle : (BitVec.ofInt 64 x &&& BitVec.ofInt 64 (m : Int)).toNat ≤ m := by
    rw [BitVec.toNat_and]
    refine Nat.le_trans Nat.and_le_right ?_
    rw [BitVec.toNat_ofInt]; omega
  refine ⟨_, hle, ?_⟩
  show IntKind.i64.wrap (((BitVec.ofInt 64 x &&& BitVec.ofInt 64 (m : Int)).toNat : Nat) : Int) = _
  rw [IntKind.wrap_i64]
  omega
theorem fwAt_nil (w : World) : FwAt w none [] := fun h => absurd rfl h
theorem check_none (c : Cfg) (hk : CfOk c) (r : Bool) (hr : checkB c [] = r) (w : World) : Calls Try.prog 10 #[.agg (c.cells none 0 0)] w fun e w' => e = .returned (.int .i64 (errB r)) ∧ Below w.heap.size w w' := by
  have := check_any (c.cells none 0 0) c none [] 0 0 w (c.cfA none 0 0) hk (fwAt_nil w) rfl (fun f hf => by cases hf) (by omega) (Nat.le_refl _)
  rw [hr] at this; exact this
theorem pl_all : (pl.cells none 0 0).all (·.oneCell') = true := pl_one
set_option maxHeartbeats 4000000 in
theorem cone0 (n which : Int) (w : World) (hn0 : -9223372036854775808 ≤ n) (hn1 : n ≤ 9223372036854775807) (hq : bits .and .i64 which 7 = 0) :
    Calls Try.prog 6 #[.int .i64 n, .int .i64 which] w fun e w' => e = .returned (.bool true) ∧ Below w.heap.size w w' := by
  have hck := one0 n
  have hbt : btw n 1 4096 = (decide (1 ≤ n) && decide (n ≤ 4096)) := rfl
  obtain ⟨y1, hy1⟩ : ∃ b, decide (1 ≤ n) = b := ⟨_, rfl⟩
  obtain ⟨y2, hy2⟩ : ∃ b, decide (n ≤ 4096) = b := ⟨_, rfl⟩
  rw [hbt, hy1, hy2] at hck
  have HCH := hide (fun V => check_none { pl with ms := n } ⟨pl_ok.lan, pl_ok.wan, pl_ok.dmz, pl_ok.uuid, pl_ok.nb0, pl_ok.nb1⟩ _ hck V)
  clear hck hbt
  have hst := fun V : World => run_storeCells_new (P := Try.prog) V 28 zeroCfg (pl.cells none 0 0) (by kernel_rfl) rfl pl_one
  have HST := hide hst
  clear hst
  go_enter Try.func6, Try.ntmps6
  go_wp2_with fail
  refine (speaks9_any _).mono ?_
  rintro e w1 ⟨rfl, b1⟩
  have HB1 := hide b1
  clear b1
  go_wp2_with fail
  refine (plain_any _).mono ?_
  rintro e w2 ⟨rfl, b2⟩
  have HB2 := hide (HB1.out.trans (b2.mono HB1.out.size))
  have hst2 := HST.out w2
  clear b2 HB1 HST
  go_upto_region 4 with (fail)
  obtain ⟨X, w3, hX, hw3, H3, HB3⟩ : ∃ X wt, w2.heap.size = X ∧ w2.alloc (.cells (pl.cells none 0 0) 28) = wt ∧ Hid (wt.heap[X]? = some (.cells (pl.cells none 0 0) 28 (0, 0))) ∧ Hid (Below w.heap.size w wt) := ⟨_, _, rfl, rfl, hide (heap_alloc_new _ _), hide (HB2.out.trans (((Below.refl w2.heap.size w2).alloc (Nat.le_refl _) _).mono HB2.out.size))⟩
  have HXW := hide (show w.heap.size ≤ X by rw [← hX]; exact HB2.out.size)
  rw [hw3]
  try rw [hX]
  clear hw3 hX hst2 HB2
  have c0 : w3.cell? ⟨X, 21, none⟩ = some (.int .i64 (pl.ms)) := (cell_of_row w3 X 21 _ _ _ H3.out).trans rfl
  have f0 := frozen_of_row w3 X 21 _ _ H3.out
  have h4 : (w3.setCell ⟨X, 21, none⟩ (.int .i64 n)).heap[X]? = some (.cells (({ pl with ms := n } : Cfg).cells none 0 0) 28 (0, 0)) := (heap_setCell_same _ _ 21 _ _ (.int .i64 n) H3.out).trans rfl
  obtain ⟨w4, hw4, H4, HB4⟩ : ∃ wt, w3.setCell ⟨X, 21, none⟩ (.int .i64 n) = wt ∧ Hid (wt.heap[X]? = some (.cells (({ pl with ms := n } : Cfg).cells none 0 0) 28 (0, 0))) ∧ Hid (Below w.heap.size w wt) := ⟨_, rfl, hide h4, hide (HB3.out.setCell HXW.out _)⟩
  have HW4 := hide hw4
  clear h4 hw4
  cases y1 with
  | false =>
    go_upto_region 24 with (fail)
    rw [HW4.out]
    clear c0 f0
    go_wp2_with (refine ld_cfg (o := ⟨some 107, _, _, _, _, _⟩) (.tmp 5) rfl (by rfl) X rfl (({ pl with ms := n } : Cfg).cells none 0 0) H4.out rfl ?_; try simp only [Act.put, List.setIfInBounds_toArray, List.set_cons_zero, List.set_cons_succ])
    refine (HCH.out _).mono ?_
    rintro e w5 ⟨rfl, b5⟩
    have HB5 := hide (HB4.out.trans (b5.mono HB4.out.size))
    clear b5
    go_wp2_with fail
    refine (plain_any _).mono ?_
    rintro e w6 ⟨rfl, b6⟩
    have HB6 := hide (HB5.out.trans (b6.mono HB5.out.size))
    clear b6
    go_wp2_with fail
    refine (check_none pl pl_ok true check_pl _).mono ?_
    rintro e w7 ⟨rfl, b7⟩
    have HB7 := hide (HB6.out.trans (b7.mono HB6.out.size))
    clear b7
    go_wp2_with fail
    go_ret
    exact ⟨rfl, HB7.out⟩
  | true =>
    cases y2 with
    | false =>
      go_upto_region 24 with (fail)
      rw [HW4.out]
      clear c0 f0
      go_wp2_with (refine ld_cfg (o := ⟨some 107, _, _, _, _, _⟩) (.tmp 5) rfl (by rfl) X rfl (({ pl with ms := n } : Cfg).cells none 0 0) H4.out rfl ?_; try simp only [Act.put, List.setIfInBounds_toArray, List.set_cons_zero, List.set_cons_succ])
      refine (HCH.out _).mono ?_
      rintro e w5 ⟨rfl, b5⟩
      have HB5 := hide (HB4.out.trans (b5.mono HB4.out.size))
      clear b5
      go_wp2_with fail
      refine (plain_any _).mono ?_
      rintro e w6 ⟨rfl, b6⟩
      have HB6 := hide (HB5.out.trans (b6.mono HB5.out.size))
      clear b6
      go_wp2_with fail
      refine (check_none pl pl_ok true check_pl _).mono ?_
      rintro e w7 ⟨rfl, b7⟩
      have HB7 := hide (HB6.out.trans (b7.mono HB6.out.size))
      clear b7
      go_wp2_with fail
      go_ret
      exact ⟨rfl, HB7.out⟩
    | true =>
      go_upto_region 24 with (fail)
      rw [HW4.out]
      clear c0 f0
      go_wp2_with (refine ld_cfg (o := ⟨some 107, _, _, _, _, _⟩) (.tmp 5) rfl (by rfl) X rfl (({ pl with ms := n } : Cfg).cells none 0 0) H4.out rfl ?_; try simp only [Act.put, List.setIfInBounds_toArray, List.set_cons_zero, List.set_cons_succ])
      refine (HCH.out _).mono ?_
      rintro e w5 ⟨rfl, b5⟩
      have HB5 := hide (HB4.out.trans (b5.mono HB4.out.size))
      clear b5
      go_wp2_with fail
      refine (plain_any _).mono ?_
      rintro e w6 ⟨rfl, b6⟩
      have HB6 := hide (HB5.out.trans (b6.mono HB5.out.size))
      clear b6
      go_wp2_with fail
      refine (check_none pl pl_ok true check_pl _).mono ?_
      rintro e w7 ⟨rfl, b7⟩
      have HB7 := hide (HB6.out.trans (b7.mono HB6.out.size))
      clear b7
      go_wp2_with fail
      go_ret
      exact ⟨rfl, HB7.out⟩
set_option maxHeartbeats 4000000 in
theorem cone1 (n which : Int) (w : World) (hn0 : -9223372036854775808 ≤ n) (hn1 : n ≤ 9223372036854775807) (hq : bits .and .i64 which 7 = 1) :
    Calls Try.prog 6 #[.int .i64 n, .int .i64 which] w fun e w' => e = .returned (.bool true) ∧ Below w.heap.size w w' := by
  have hck := one1 n
  have hbt : btw n 1 256 = (decide (1 ≤ n) && decide (n ≤ 256)) := rfl
  obtain ⟨y1, hy1⟩ : ∃ b, decide (1 ≤ n) = b := ⟨_, rfl⟩
  obtain ⟨y2, hy2⟩ : ∃ b, decide (n ≤ 256) = b := ⟨_, rfl⟩
  rw [hbt, hy1, hy2] at hck
  have HCH := hide (fun V => check_none { pl with mm := n } ⟨pl_ok.lan, pl_ok.wan, pl_ok.dmz, pl_ok.uuid, pl_ok.nb0, pl_ok.nb1⟩ _ hck V)
  clear hck hbt
  have hst := fun V : World => run_storeCells_new (P := Try.prog) V 28 zeroCfg (pl.cells none 0 0) (by kernel_rfl) rfl pl_one
  have HST := hide hst
  clear hst
  go_enter Try.func6, Try.ntmps6
  go_wp2_with fail
  refine (speaks9_any _).mono ?_
  rintro e w1 ⟨rfl, b1⟩
  have HB1 := hide b1
  clear b1
  go_wp2_with fail
  refine (plain_any _).mono ?_
  rintro e w2 ⟨rfl, b2⟩
  have HB2 := hide (HB1.out.trans (b2.mono HB1.out.size))
  have hst2 := HST.out w2
  clear b2 HB1 HST
  go_upto_region 4 with (fail)
  obtain ⟨X, w3, hX, hw3, H3, HB3⟩ : ∃ X wt, w2.heap.size = X ∧ w2.alloc (.cells (pl.cells none 0 0) 28) = wt ∧ Hid (wt.heap[X]? = some (.cells (pl.cells none 0 0) 28 (0, 0))) ∧ Hid (Below w.heap.size w wt) := ⟨_, _, rfl, rfl, hide (heap_alloc_new _ _), hide (HB2.out.trans (((Below.refl w2.heap.size w2).alloc (Nat.le_refl _) _).mono HB2.out.size))⟩
  have HXW := hide (show w.heap.size ≤ X by rw [← hX]; exact HB2.out.size)
  rw [hw3]
  try rw [hX]
  clear hw3 hX hst2 HB2
  have c0 : w3.cell? ⟨X, 22, none⟩ = some (.int .i64 (pl.mm)) := (cell_of_row w3 X 22 _ _ _ H3.out).trans rfl
  have f0 := frozen_of_row w3 X 22 _ _ H3.out
  have h4 : (w3.setCell ⟨X, 22, none⟩ (.int .i64 n)).heap[X]? = some (.cells (({ pl with mm := n } : Cfg).cells none 0 0) 28 (0, 0)) := (heap_setCell_same _ _ 22 _ _ (.int .i64 n) H3.out).trans rfl
  obtain ⟨w4, hw4, H4, HB4⟩ : ∃ wt, w3.setCell ⟨X, 22, none⟩ (.int .i64 n) = wt ∧ Hid (wt.heap[X]? = some (.cells (({ pl with mm := n } : Cfg).cells none 0 0) 28 (0, 0))) ∧ Hid (Below w.heap.size w wt) := ⟨_, rfl, hide h4, hide (HB3.out.setCell HXW.out _)⟩
  have HW4 := hide hw4
  clear h4 hw4
  cases y1 with
  | false =>
    go_upto_region 24 with (fail)
    rw [HW4.out]
    clear c0 f0
    go_wp2_with (refine ld_cfg (o := ⟨some 107, _, _, _, _, _⟩) (.tmp 5) rfl (by rfl) X rfl (({ pl with mm := n } : Cfg).cells none 0 0) H4.out rfl ?_; try simp only [Act.put, List.setIfInBounds_toArray, List.set_cons_zero, List.set_cons_succ])
    refine (HCH.out _).mono ?_
    rintro e w5 ⟨rfl, b5⟩
    have HB5 := hide (HB4.out.trans (b5.mono HB4.out.size))
    clear b5
    go_wp2_with fail
    refine (plain_any _).mono ?_
    rintro e w6 ⟨rfl, b6⟩
    have HB6 := hide (HB5.out.trans (b6.mono HB5.out.size))
    clear b6
    go_wp2_with fail
    refine (check_none pl pl_ok true check_pl _).mono ?_
    rintro e w7 ⟨rfl, b7⟩
    have HB7 := hide (HB6.out.trans (b7.mono HB6.out.size))
    clear b7
    go_wp2_with fail
    go_ret
    exact ⟨rfl, HB7.out⟩
  | true =>
    cases y2 with
    | false =>
      go_upto_region 24 with (fail)
      rw [HW4.out]
      clear c0 f0
      go_wp2_with (refine ld_cfg (o := ⟨some 107, _, _, _, _, _⟩) (.tmp 5) rfl (by rfl) X rfl (({ pl with mm := n } : Cfg).cells none 0 0) H4.out rfl ?_; try simp only [Act.put, List.setIfInBounds_toArray, List.set_cons_zero, List.set_cons_succ])
      refine (HCH.out _).mono ?_
      rintro e w5 ⟨rfl, b5⟩
      have HB5 := hide (HB4.out.trans (b5.mono HB4.out.size))
      clear b5
      go_wp2_with fail
      refine (plain_any _).mono ?_
      rintro e w6 ⟨rfl, b6⟩
      have HB6 := hide (HB5.out.trans (b6.mono HB5.out.size))
      clear b6
      go_wp2_with fail
      refine (check_none pl pl_ok true check_pl _).mono ?_
      rintro e w7 ⟨rfl, b7⟩
      have HB7 := hide (HB6.out.trans (b7.mono HB6.out.size))
      clear b7
      go_wp2_with fail
      go_ret
      exact ⟨rfl, HB7.out⟩
    | true =>
      go_upto_region 24 with (fail)
      rw [HW4.out]
      clear c0 f0
      go_wp2_with (refine ld_cfg (o := ⟨some 107, _, _, _, _, _⟩) (.tmp 5) rfl (by rfl) X rfl (({ pl with mm := n } : Cfg).cells none 0 0) H4.out rfl ?_; try simp only [Act.put, List.setIfInBounds_toArray, List.set_cons_zero, List.set_cons_succ])
      refine (HCH.out _).mono ?_
      rintro e w5 ⟨rfl, b5⟩
      have HB5 := hide (HB4.out.trans (b5.mono HB4.out.size))
      clear b5
      go_wp2_with fail
      refine (plain_any _).mono ?_
      rintro e w6 ⟨rfl, b6⟩
      have HB6 := hide (HB5.out.trans (b6.mono HB5.out.size))
      clear b6
      go_wp2_with fail
      refine (check_none pl pl_ok true check_pl _).mono ?_
      rintro e w7 ⟨rfl, b7⟩
      have HB7 := hide (HB6.out.trans (b7.mono HB6.out.size))
      clear b7
      go_wp2_with fail
      go_ret
      exact ⟨rfl, HB7.out⟩
set_option maxHeartbeats 4000000 in
theorem cone2 (n which : Int) (w : World) (hn0 : -9223372036854775808 ≤ n) (hn1 : n ≤ 9223372036854775807) (hq : bits .and .i64 which 7 = 2) :
    Calls Try.prog 6 #[.int .i64 n, .int .i64 which] w fun e w' => e = .returned (.bool true) ∧ Below w.heap.size w w' := by
  have hck := one2 n
  have hbt : btw n 1 32 = (decide (1 ≤ n) && decide (n ≤ 32)) := rfl
  obtain ⟨y1, hy1⟩ : ∃ b, decide (1 ≤ n) = b := ⟨_, rfl⟩
  obtain ⟨y2, hy2⟩ : ∃ b, decide (n ≤ 32) = b := ⟨_, rfl⟩
  rw [hbt, hy1, hy2] at hck
  have HCH := hide (fun V => check_none { pl with mc := n } ⟨pl_ok.lan, pl_ok.wan, pl_ok.dmz, pl_ok.uuid, pl_ok.nb0, pl_ok.nb1⟩ _ hck V)
  clear hck hbt
  have hst := fun V : World => run_storeCells_new (P := Try.prog) V 28 zeroCfg (pl.cells none 0 0) (by kernel_rfl) rfl pl_one
  have HST := hide hst
  clear hst
  go_enter Try.func6, Try.ntmps6
  go_wp2_with fail
  refine (speaks9_any _).mono ?_
  rintro e w1 ⟨rfl, b1⟩
  have HB1 := hide b1
  clear b1
  go_wp2_with fail
  refine (plain_any _).mono ?_
  rintro e w2 ⟨rfl, b2⟩
  have HB2 := hide (HB1.out.trans (b2.mono HB1.out.size))
  have hst2 := HST.out w2
  clear b2 HB1 HST
  go_upto_region 4 with (fail)
  obtain ⟨X, w3, hX, hw3, H3, HB3⟩ : ∃ X wt, w2.heap.size = X ∧ w2.alloc (.cells (pl.cells none 0 0) 28) = wt ∧ Hid (wt.heap[X]? = some (.cells (pl.cells none 0 0) 28 (0, 0))) ∧ Hid (Below w.heap.size w wt) := ⟨_, _, rfl, rfl, hide (heap_alloc_new _ _), hide (HB2.out.trans (((Below.refl w2.heap.size w2).alloc (Nat.le_refl _) _).mono HB2.out.size))⟩
  have HXW := hide (show w.heap.size ≤ X by rw [← hX]; exact HB2.out.size)
  rw [hw3]
  try rw [hX]
  clear hw3 hX hst2 HB2
  have c0 : w3.cell? ⟨X, 23, none⟩ = some (.int .i64 (pl.mc)) := (cell_of_row w3 X 23 _ _ _ H3.out).trans rfl
  have f0 := frozen_of_row w3 X 23 _ _ H3.out
  have h4 : (w3.setCell ⟨X, 23, none⟩ (.int .i64 n)).heap[X]? = some (.cells (({ pl with mc := n } : Cfg).cells none 0 0) 28 (0, 0)) := (heap_setCell_same _ _ 23 _ _ (.int .i64 n) H3.out).trans rfl
  obtain ⟨w4, hw4, H4, HB4⟩ : ∃ wt, w3.setCell ⟨X, 23, none⟩ (.int .i64 n) = wt ∧ Hid (wt.heap[X]? = some (.cells (({ pl with mc := n } : Cfg).cells none 0 0) 28 (0, 0))) ∧ Hid (Below w.heap.size w wt) := ⟨_, rfl, hide h4, hide (HB3.out.setCell HXW.out _)⟩
  have HW4 := hide hw4
  clear h4 hw4
  cases y1 with
  | false =>
    go_upto_region 24 with (fail)
    rw [HW4.out]
    clear c0 f0
    go_wp2_with (refine ld_cfg (o := ⟨some 107, _, _, _, _, _⟩) (.tmp 5) rfl (by rfl) X rfl (({ pl with mc := n } : Cfg).cells none 0 0) H4.out rfl ?_; try simp only [Act.put, List.setIfInBounds_toArray, List.set_cons_zero, List.set_cons_succ])
    refine (HCH.out _).mono ?_
    rintro e w5 ⟨rfl, b5⟩
    have HB5 := hide (HB4.out.trans (b5.mono HB4.out.size))
    clear b5
    go_wp2_with fail
    refine (plain_any _).mono ?_
    rintro e w6 ⟨rfl, b6⟩
    have HB6 := hide (HB5.out.trans (b6.mono HB5.out.size))
    clear b6
    go_wp2_with fail
    refine (check_none pl pl_ok true check_pl _).mono ?_
    rintro e w7 ⟨rfl, b7⟩
    have HB7 := hide (HB6.out.trans (b7.mono HB6.out.size))
    clear b7
    go_wp2_with fail
    go_ret
    exact ⟨rfl, HB7.out⟩
  | true =>
    cases y2 with
    | false =>
      go_upto_region 24 with (fail)
      rw [HW4.out]
      clear c0 f0
      go_wp2_with (refine ld_cfg (o := ⟨some 107, _, _, _, _, _⟩) (.tmp 5) rfl (by rfl) X rfl (({ pl with mc := n } : Cfg).cells none 0 0) H4.out rfl ?_; try simp only [Act.put, List.setIfInBounds_toArray, List.set_cons_zero, List.set_cons_succ])
      refine (HCH.out _).mono ?_
      rintro e w5 ⟨rfl, b5⟩
      have HB5 := hide (HB4.out.trans (b5.mono HB4.out.size))
      clear b5
      go_wp2_with fail
      refine (plain_any _).mono ?_
      rintro e w6 ⟨rfl, b6⟩
      have HB6 := hide (HB5.out.trans (b6.mono HB5.out.size))
      clear b6
      go_wp2_with fail
      refine (check_none pl pl_ok true check_pl _).mono ?_
      rintro e w7 ⟨rfl, b7⟩
      have HB7 := hide (HB6.out.trans (b7.mono HB6.out.size))
      clear b7
      go_wp2_with fail
      go_ret
      exact ⟨rfl, HB7.out⟩
    | true =>
      go_upto_region 24 with (fail)
      rw [HW4.out]
      clear c0 f0
      go_wp2_with (refine ld_cfg (o := ⟨some 107, _, _, _, _, _⟩) (.tmp 5) rfl (by rfl) X rfl (({ pl with mc := n } : Cfg).cells none 0 0) H4.out rfl ?_; try simp only [Act.put, List.setIfInBounds_toArray, List.set_cons_zero, List.set_cons_succ])
      refine (HCH.out _).mono ?_
      rintro e w5 ⟨rfl, b5⟩
      have HB5 := hide (HB4.out.trans (b5.mono HB4.out.size))
      clear b5
      go_wp2_with fail
      refine (plain_any _).mono ?_
      rintro e w6 ⟨rfl, b6⟩
      have HB6 := hide (HB5.out.trans (b6.mono HB5.out.size))
      clear b6
      go_wp2_with fail
      refine (check_none pl pl_ok true check_pl _).mono ?_
      rintro e w7 ⟨rfl, b7⟩
      have HB7 := hide (HB6.out.trans (b7.mono HB6.out.size))
      clear b7
      go_wp2_with fail
      go_ret
      exact ⟨rfl, HB7.out⟩
set_option maxHeartbeats 4000000 in
theorem cone3 (n which : Int) (w : World) (hn0 : -9223372036854775808 ≤ n) (hn1 : n ≤ 9223372036854775807) (hq : bits .and .i64 which 7 = 3) :
    Calls Try.prog 6 #[.int .i64 n, .int .i64 which] w fun e w' => e = .returned (.bool true) ∧ Below w.heap.size w w' := by
  have hck := one3 n
  have hbt : btw n 1 16 = (decide (1 ≤ n) && decide (n ≤ 16)) := rfl
  obtain ⟨y1, hy1⟩ : ∃ b, decide (1 ≤ n) = b := ⟨_, rfl⟩
  obtain ⟨y2, hy2⟩ : ∃ b, decide (n ≤ 16) = b := ⟨_, rfl⟩
  rw [hbt, hy1, hy2] at hck
  have HCH := hide (fun V => check_none { pl with mb := n } ⟨pl_ok.lan, pl_ok.wan, pl_ok.dmz, pl_ok.uuid, pl_ok.nb0, pl_ok.nb1⟩ _ hck V)
  clear hck hbt
  have hst := fun V : World => run_storeCells_new (P := Try.prog) V 28 zeroCfg (pl.cells none 0 0) (by kernel_rfl) rfl pl_one
  have HST := hide hst
  clear hst
  go_enter Try.func6, Try.ntmps6
  go_wp2_with fail
  refine (speaks9_any _).mono ?_
  rintro e w1 ⟨rfl, b1⟩
  have HB1 := hide b1
  clear b1
  go_wp2_with fail
  refine (plain_any _).mono ?_
  rintro e w2 ⟨rfl, b2⟩
  have HB2 := hide (HB1.out.trans (b2.mono HB1.out.size))
  have hst2 := HST.out w2
  clear b2 HB1 HST
  go_upto_region 4 with (fail)
  obtain ⟨X, w3, hX, hw3, H3, HB3⟩ : ∃ X wt, w2.heap.size = X ∧ w2.alloc (.cells (pl.cells none 0 0) 28) = wt ∧ Hid (wt.heap[X]? = some (.cells (pl.cells none 0 0) 28 (0, 0))) ∧ Hid (Below w.heap.size w wt) := ⟨_, _, rfl, rfl, hide (heap_alloc_new _ _), hide (HB2.out.trans (((Below.refl w2.heap.size w2).alloc (Nat.le_refl _) _).mono HB2.out.size))⟩
  have HXW := hide (show w.heap.size ≤ X by rw [← hX]; exact HB2.out.size)
  rw [hw3]
  try rw [hX]
  clear hw3 hX hst2 HB2
  have c0 : w3.cell? ⟨X, 24, none⟩ = some (.int .i64 (pl.mb)) := (cell_of_row w3 X 24 _ _ _ H3.out).trans rfl
  have f0 := frozen_of_row w3 X 24 _ _ H3.out
  have h4 : (w3.setCell ⟨X, 24, none⟩ (.int .i64 n)).heap[X]? = some (.cells (({ pl with mb := n } : Cfg).cells none 0 0) 28 (0, 0)) := (heap_setCell_same _ _ 24 _ _ (.int .i64 n) H3.out).trans rfl
  obtain ⟨w4, hw4, H4, HB4⟩ : ∃ wt, w3.setCell ⟨X, 24, none⟩ (.int .i64 n) = wt ∧ Hid (wt.heap[X]? = some (.cells (({ pl with mb := n } : Cfg).cells none 0 0) 28 (0, 0))) ∧ Hid (Below w.heap.size w wt) := ⟨_, rfl, hide h4, hide (HB3.out.setCell HXW.out _)⟩
  have HW4 := hide hw4
  clear h4 hw4
  cases y1 with
  | false =>
    go_upto_region 24 with (fail)
    rw [HW4.out]
    clear c0 f0
    go_wp2_with (refine ld_cfg (o := ⟨some 107, _, _, _, _, _⟩) (.tmp 5) rfl (by rfl) X rfl (({ pl with mb := n } : Cfg).cells none 0 0) H4.out rfl ?_; try simp only [Act.put, List.setIfInBounds_toArray, List.set_cons_zero, List.set_cons_succ])
    refine (HCH.out _).mono ?_
    rintro e w5 ⟨rfl, b5⟩
    have HB5 := hide (HB4.out.trans (b5.mono HB4.out.size))
    clear b5
    go_wp2_with fail
    refine (plain_any _).mono ?_
    rintro e w6 ⟨rfl, b6⟩
    have HB6 := hide (HB5.out.trans (b6.mono HB5.out.size))
    clear b6
    go_wp2_with fail
    refine (check_none pl pl_ok true check_pl _).mono ?_
    rintro e w7 ⟨rfl, b7⟩
    have HB7 := hide (HB6.out.trans (b7.mono HB6.out.size))
    clear b7
    go_wp2_with fail
    go_ret
    exact ⟨rfl, HB7.out⟩
  | true =>
    cases y2 with
    | false =>
      go_upto_region 24 with (fail)
      rw [HW4.out]
      clear c0 f0
      go_wp2_with (refine ld_cfg (o := ⟨some 107, _, _, _, _, _⟩) (.tmp 5) rfl (by rfl) X rfl (({ pl with mb := n } : Cfg).cells none 0 0) H4.out rfl ?_; try simp only [Act.put, List.setIfInBounds_toArray, List.set_cons_zero, List.set_cons_succ])
      refine (HCH.out _).mono ?_
      rintro e w5 ⟨rfl, b5⟩
      have HB5 := hide (HB4.out.trans (b5.mono HB4.out.size))
      clear b5
      go_wp2_with fail
      refine (plain_any _).mono ?_
      rintro e w6 ⟨rfl, b6⟩
      have HB6 := hide (HB5.out.trans (b6.mono HB5.out.size))
      clear b6
      go_wp2_with fail
      refine (check_none pl pl_ok true check_pl _).mono ?_
      rintro e w7 ⟨rfl, b7⟩
      have HB7 := hide (HB6.out.trans (b7.mono HB6.out.size))
      clear b7
      go_wp2_with fail
      go_ret
      exact ⟨rfl, HB7.out⟩
    | true =>
      go_upto_region 24 with (fail)
      rw [HW4.out]
      clear c0 f0
      go_wp2_with (refine ld_cfg (o := ⟨some 107, _, _, _, _, _⟩) (.tmp 5) rfl (by rfl) X rfl (({ pl with mb := n } : Cfg).cells none 0 0) H4.out rfl ?_; try simp only [Act.put, List.setIfInBounds_toArray, List.set_cons_zero, List.set_cons_succ])
      refine (HCH.out _).mono ?_
      rintro e w5 ⟨rfl, b5⟩
      have HB5 := hide (HB4.out.trans (b5.mono HB4.out.size))
      clear b5
      go_wp2_with fail
      refine (plain_any _).mono ?_
      rintro e w6 ⟨rfl, b6⟩
      have HB6 := hide (HB5.out.trans (b6.mono HB5.out.size))
      clear b6
      go_wp2_with fail
      refine (check_none pl pl_ok true check_pl _).mono ?_
      rintro e w7 ⟨rfl, b7⟩
      have HB7 := hide (HB6.out.trans (b7.mono HB6.out.size))
      clear b7
      go_wp2_with fail
      go_ret
      exact ⟨rfl, HB7.out⟩
set_option maxHeartbeats 4000000 in
theorem cone4 (n which : Int) (w : World) (hn0 : -9223372036854775808 ≤ n) (hn1 : n ≤ 9223372036854775807) (hq : bits .and .i64 which 7 = 4) :
    Calls Try.prog 6 #[.int .i64 n, .int .i64 which] w fun e w' => e = .returned (.bool true) ∧ Below w.heap.size w w' := by
  have hck := one4 n
  have hbt : btw n 8 30 = (decide (8 ≤ n) && decide (n ≤ 30)) := rfl
  obtain ⟨y1, hy1⟩ : ∃ b, decide (8 ≤ n) = b := ⟨_, rfl⟩
  obtain ⟨y2, hy2⟩ : ∃ b, decide (n ≤ 30) = b := ⟨_, rfl⟩
  rw [hbt, hy1, hy2] at hck
  have HCH := hide (fun V => check_none { pl with nb := n } ⟨pl_ok.lan, pl_ok.wan, pl_ok.dmz, pl_ok.uuid, hn0, hn1⟩ _ hck V)
  clear hck hbt
  have hst := fun V : World => run_storeCells_new (P := Try.prog) V 28 zeroCfg (pl.cells none 0 0) (by kernel_rfl) rfl pl_one
  have HST := hide hst
  clear hst
  go_enter Try.func6, Try.ntmps6
  go_wp2_with fail
  refine (speaks9_any _).mono ?_
  rintro e w1 ⟨rfl, b1⟩
  have HB1 := hide b1
  clear b1
  go_wp2_with fail
  refine (plain_any _).mono ?_
  rintro e w2 ⟨rfl, b2⟩
  have HB2 := hide (HB1.out.trans (b2.mono HB1.out.size))
  have hst2 := HST.out w2
  clear b2 HB1 HST
  go_upto_region 4 with (fail)
  obtain ⟨X, w3, hX, hw3, H3, HB3⟩ : ∃ X wt, w2.heap.size = X ∧ w2.alloc (.cells (pl.cells none 0 0) 28) = wt ∧ Hid (wt.heap[X]? = some (.cells (pl.cells none 0 0) 28 (0, 0))) ∧ Hid (Below w.heap.size w wt) := ⟨_, _, rfl, rfl, hide (heap_alloc_new _ _), hide (HB2.out.trans (((Below.refl w2.heap.size w2).alloc (Nat.le_refl _) _).mono HB2.out.size))⟩
  have HXW := hide (show w.heap.size ≤ X by rw [← hX]; exact HB2.out.size)
  rw [hw3]
  try rw [hX]
  clear hw3 hX hst2 HB2
  have c0 : w3.cell? ⟨X, 20, none⟩ = some (.int .i64 (pl.nb)) := (cell_of_row w3 X 20 _ _ _ H3.out).trans rfl
  have f0 := frozen_of_row w3 X 20 _ _ H3.out
  have h4 : (w3.setCell ⟨X, 20, none⟩ (.int .i64 n)).heap[X]? = some (.cells (({ pl with nb := n } : Cfg).cells none 0 0) 28 (0, 0)) := (heap_setCell_same _ _ 20 _ _ (.int .i64 n) H3.out).trans rfl
  obtain ⟨w4, hw4, H4, HB4⟩ : ∃ wt, w3.setCell ⟨X, 20, none⟩ (.int .i64 n) = wt ∧ Hid (wt.heap[X]? = some (.cells (({ pl with nb := n } : Cfg).cells none 0 0) 28 (0, 0))) ∧ Hid (Below w.heap.size w wt) := ⟨_, rfl, hide h4, hide (HB3.out.setCell HXW.out _)⟩
  have HW4 := hide hw4
  clear h4 hw4
  cases y1 with
  | false =>
    go_upto_region 24 with (fail)
    rw [HW4.out]
    clear c0 f0
    go_wp2_with (refine ld_cfg (o := ⟨some 107, _, _, _, _, _⟩) (.tmp 5) rfl (by rfl) X rfl (({ pl with nb := n } : Cfg).cells none 0 0) H4.out rfl ?_; try simp only [Act.put, List.setIfInBounds_toArray, List.set_cons_zero, List.set_cons_succ])
    refine (HCH.out _).mono ?_
    rintro e w5 ⟨rfl, b5⟩
    have HB5 := hide (HB4.out.trans (b5.mono HB4.out.size))
    clear b5
    go_wp2_with fail
    refine (plain_any _).mono ?_
    rintro e w6 ⟨rfl, b6⟩
    have HB6 := hide (HB5.out.trans (b6.mono HB5.out.size))
    clear b6
    go_wp2_with fail
    refine (check_none pl pl_ok true check_pl _).mono ?_
    rintro e w7 ⟨rfl, b7⟩
    have HB7 := hide (HB6.out.trans (b7.mono HB6.out.size))
    clear b7
    go_wp2_with fail
    go_ret
    exact ⟨rfl, HB7.out⟩
  | true =>
    cases y2 with
    | false =>
      go_upto_region 24 with (fail)
      rw [HW4.out]
      clear c0 f0
      go_wp2_with (refine ld_cfg (o := ⟨some 107, _, _, _, _, _⟩) (.tmp 5) rfl (by rfl) X rfl (({ pl with nb := n } : Cfg).cells none 0 0) H4.out rfl ?_; try simp only [Act.put, List.setIfInBounds_toArray, List.set_cons_zero, List.set_cons_succ])
      refine (HCH.out _).mono ?_
      rintro e w5 ⟨rfl, b5⟩
      have HB5 := hide (HB4.out.trans (b5.mono HB4.out.size))
      clear b5
      go_wp2_with fail
      refine (plain_any _).mono ?_
      rintro e w6 ⟨rfl, b6⟩
      have HB6 := hide (HB5.out.trans (b6.mono HB5.out.size))
      clear b6
      go_wp2_with fail
      refine (check_none pl pl_ok true check_pl _).mono ?_
      rintro e w7 ⟨rfl, b7⟩
      have HB7 := hide (HB6.out.trans (b7.mono HB6.out.size))
      clear b7
      go_wp2_with fail
      go_ret
      exact ⟨rfl, HB7.out⟩
    | true =>
      go_upto_region 24 with (fail)
      rw [HW4.out]
      clear c0 f0
      go_wp2_with (refine ld_cfg (o := ⟨some 107, _, _, _, _, _⟩) (.tmp 5) rfl (by rfl) X rfl (({ pl with nb := n } : Cfg).cells none 0 0) H4.out rfl ?_; try simp only [Act.put, List.setIfInBounds_toArray, List.set_cons_zero, List.set_cons_succ])
      refine (HCH.out _).mono ?_
      rintro e w5 ⟨rfl, b5⟩
      have HB5 := hide (HB4.out.trans (b5.mono HB4.out.size))
      clear b5
      go_wp2_with fail
      refine (plain_any _).mono ?_
      rintro e w6 ⟨rfl, b6⟩
      have HB6 := hide (HB5.out.trans (b6.mono HB5.out.size))
      clear b6
      go_wp2_with fail
      refine (check_none pl pl_ok true check_pl _).mono ?_
      rintro e w7 ⟨rfl, b7⟩
      have HB7 := hide (HB6.out.trans (b7.mono HB6.out.size))
      clear b7
      go_wp2_with fail
      go_ret
      exact ⟨rfl, HB7.out⟩
end Go.Proofs.Ytogeggklfcabkaa
