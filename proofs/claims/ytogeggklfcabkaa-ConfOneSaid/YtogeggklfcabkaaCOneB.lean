/- The law of the plain configuration that becomes another one in one place: its last three places. -/
import Derived.Test.YtogeggklfcabkaaCOneA
namespace Go.Proofs.Ytogeggklfcabkaa
open Go.RowKit
set_option linter.unusedVariables false
set_option linter.unusedSimpArgs false
set_option maxRecDepth 100000
set_option maxHeartbeats 4000000 in
theorem cone5 (n which : Int) (w : World) (hn0 : -9223372036854775808 ≤ n) (hn1 : n ≤ 9223372036854775807) (hq : bits .and .i64 which 7 = 5) :
    Calls Try.prog 6 #[.int .i64 n, .int .i64 which] w fun e w' => e = .returned (.bool true) ∧ Below w.heap.size w w' := by
  obtain ⟨m, hm, hand⟩ := and_mask n 255 (by omega)
  rw [show ((255 : Nat) : Int) = 255 from rfl] at hand
  have hck := one5 m hm
  have hcast : (((3232235776 + m : Nat)) : Int) = 3232235776 + (m : Int) := by omega
  obtain ⟨y1, hy1⟩ : ∃ b, decide (1 < m) = b := ⟨_, rfl⟩
  obtain ⟨y2, hy2⟩ : ∃ b, decide (m < 255) = b := ⟨_, rfl⟩
  have hz1 : decide (1 < (m : Int)) = y1 := by rw [← hy1, Bool.eq_iff_iff]; simp only [decide_eq_true_eq]; omega
  have hz2 : decide ((m : Int) < 255) = y2 := by rw [← hy2, Bool.eq_iff_iff]; simp only [decide_eq_true_eq]; omega
  rw [hy1, hy2] at hck
  have HCH := hide (fun V => check_none { pl with dmz := 3232235776 + m } ⟨pl_ok.lan, pl_ok.wan, by show 3232235776 + m ≤ _; omega, pl_ok.uuid, pl_ok.nb0, pl_ok.nb1⟩ _ hck V)
  have HCA := hide hcast
  clear hck hcast
  have hst := fun V : World => run_storeCells_new (P := Try.prog) V 28 zeroCfg (pl.cells none 0 0) (by kernel_rfl) rfl pl_one
  have HST := hide hst
  clear hst
  go_enter Try.func6, Try.ntmps6
  go_wp2_with fail
  refine (speaks9_any _).mono ?_
  rintro e w1 ⟨rfl, b1⟩
  have HB1 := hide b1
  clear b1
  go_wp2_with fail
  refine (plain_any _).mono ?_
  rintro e w2 ⟨rfl, b2⟩
  have HB2 := hide (HB1.out.trans (b2.mono HB1.out.size))
  have hst2 := HST.out w2
  clear b2 HB1 HST
  go_upto_region 4 with (fail)
  obtain ⟨X, w3, hX, hw3, H3, HB3⟩ : ∃ X wt, w2.heap.size = X ∧ w2.alloc (.cells (pl.cells none 0 0) 28) = wt ∧ Hid (wt.heap[X]? = some (.cells (pl.cells none 0 0) 28 (0, 0))) ∧ Hid (Below w.heap.size w wt) := ⟨_, _, rfl, rfl, hide (heap_alloc_new _ _), hide (HB2.out.trans (((Below.refl w2.heap.size w2).alloc (Nat.le_refl _) _).mono HB2.out.size))⟩
  have HXW := hide (show w.heap.size ≤ X by rw [← hX]; exact HB2.out.size)
  rw [hw3]
  try rw [hX]
  clear hw3 hX hst2 HB2
  have c0 : w3.cell? ⟨X, 26, none⟩ = some (.int .u32 (pl.dmz : Int)) := (cell_of_row w3 X 26 _ _ _ H3.out).trans rfl
  have f0 := frozen_of_row w3 X 26 _ _ H3.out
  have h4 : (w3.setCell ⟨X, 26, none⟩ (.int .u32 (3232235776 + (m : Int)))).heap[X]? = some (.cells (({ pl with dmz := 3232235776 + m } : Cfg).cells none 0 0) 28 (0, 0)) := by
    rw [← HCA.out]; exact (heap_setCell_same _ _ 26 _ _ _ H3.out).trans rfl
  obtain ⟨w4, hw4, H4, HB4⟩ : ∃ wt, w3.setCell ⟨X, 26, none⟩ (.int .u32 (3232235776 + (m : Int))) = wt ∧ Hid (wt.heap[X]? = some (.cells (({ pl with dmz := 3232235776 + m } : Cfg).cells none 0 0) 28 (0, 0))) ∧ Hid (Below w.heap.size w wt) := ⟨_, rfl, hide h4, hide (HB3.out.setCell HXW.out _)⟩
  have HW4 := hide hw4
  clear h4 hw4
  cases y1 with
  | false =>
    go_upto_region 24 with (fail)
    rw [HW4.out]
    clear c0 f0
    go_wp2_with (refine ld_cfg (o := ⟨some 107, _, _, _, _, _⟩) (.tmp 5) rfl (by rfl) X rfl (({ pl with dmz := 3232235776 + m } : Cfg).cells none 0 0) H4.out rfl ?_; try simp only [Act.put, List.setIfInBounds_toArray, List.set_cons_zero, List.set_cons_succ])
    refine (HCH.out _).mono ?_
    rintro e w5 ⟨rfl, b5⟩
    have HB5 := hide (HB4.out.trans (b5.mono HB4.out.size))
    clear b5
    go_wp2_with fail
    refine (plain_any _).mono ?_
    rintro e w6 ⟨rfl, b6⟩
    have HB6 := hide (HB5.out.trans (b6.mono HB5.out.size))
    clear b6
    go_wp2_with fail
    refine (check_none pl pl_ok true check_pl _).mono ?_
    rintro e w7 ⟨rfl, b7⟩
    have HB7 := hide (HB6.out.trans (b7.mono HB6.out.size))
    clear b7
    go_wp2_with fail
    go_ret
    exact ⟨rfl, HB7.out⟩
  | true =>
    cases y2 with
    | false =>
      go_upto_region 24 with (fail)
      rw [HW4.out]
      clear c0 f0
      go_wp2_with (refine ld_cfg (o := ⟨some 107, _, _, _, _, _⟩) (.tmp 5) rfl (by rfl) X rfl (({ pl with dmz := 3232235776 + m } : Cfg).cells none 0 0) H4.out rfl ?_; try simp only [Act.put, List.setIfInBounds_toArray, List.set_cons_zero, List.set_cons_succ])
      refine (HCH.out _).mono ?_
      rintro e w5 ⟨rfl, b5⟩
      have HB5 := hide (HB4.out.trans (b5.mono HB4.out.size))
      clear b5
      go_wp2_with fail
      refine (plain_any _).mono ?_
      rintro e w6 ⟨rfl, b6⟩
      have HB6 := hide (HB5.out.trans (b6.mono HB5.out.size))
      clear b6
      go_wp2_with fail
      refine (check_none pl pl_ok true check_pl _).mono ?_
      rintro e w7 ⟨rfl, b7⟩
      have HB7 := hide (HB6.out.trans (b7.mono HB6.out.size))
      clear b7
      go_wp2_with fail
      go_ret
      exact ⟨rfl, HB7.out⟩
    | true =>
      go_upto_region 24 with (fail)
      rw [HW4.out]
      clear c0 f0
      go_wp2_with (refine ld_cfg (o := ⟨some 107, _, _, _, _, _⟩) (.tmp 5) rfl (by rfl) X rfl (({ pl with dmz := 3232235776 + m } : Cfg).cells none 0 0) H4.out rfl ?_; try simp only [Act.put, List.setIfInBounds_toArray, List.set_cons_zero, List.set_cons_succ])
      refine (HCH.out _).mono ?_
      rintro e w5 ⟨rfl, b5⟩
      have HB5 := hide (HB4.out.trans (b5.mono HB4.out.size))
      clear b5
      go_wp2_with fail
      refine (plain_any _).mono ?_
      rintro e w6 ⟨rfl, b6⟩
      have HB6 := hide (HB5.out.trans (b6.mono HB5.out.size))
      clear b6
      go_wp2_with fail
      refine (check_none pl pl_ok true check_pl _).mono ?_
      rintro e w7 ⟨rfl, b7⟩
      have HB7 := hide (HB6.out.trans (b7.mono HB6.out.size))
      clear b7
      go_wp2_with fail
      go_ret
      exact ⟨rfl, HB7.out⟩
set_option maxHeartbeats 4000000 in
theorem cone6 (n which : Int) (w : World) (hn0 : -9223372036854775808 ≤ n) (hn1 : n ≤ 9223372036854775807) (hq : bits .and .i64 which 7 = 6) :
    Calls Try.prog 6 #[.int .i64 n, .int .i64 which] w fun e w' => e = .returned (.bool true) ∧ Below w.heap.size w w' := by
  obtain ⟨p, hp, hple⟩ : ∃ z : Nat, n % 256 = (z : Int) ∧ z ≤ 255 := ⟨(n % 256).toNat, by omega, by omega⟩
  have hck := one6 p
  have e1 : ((p : Int) == 6) = decide (p = 6) := int_beq2 p 6
  have e2 : ((p : Int) == 17) = decide (p = 17) := int_beq2 p 17
  rw [← e1, ← e2] at hck
  obtain ⟨y1, hy1⟩ : ∃ b, ((p : Int) == 6) = b := ⟨_, rfl⟩
  obtain ⟨y2, hy2⟩ : ∃ b, ((p : Int) == 17) = b := ⟨_, rfl⟩
  rw [hy1, hy2] at hck
  have HCK := hide hck
  clear hck e1 e2
  have hst := fun V : World => run_storeCells_new (P := Try.prog) V 28 zeroCfg (pl.cells none 0 0) (by kernel_rfl) rfl pl_one
  have HST := hide hst
  clear hst
  go_enter Try.func6, Try.ntmps6
  go_wp2_with fail
  refine (speaks9_any _).mono ?_
  rintro e w1 ⟨rfl, b1⟩
  have HB1 := hide b1
  clear b1
  go_wp2_with fail
  refine (plain_any _).mono ?_
  rintro e w2 ⟨rfl, b2⟩
  have HB2 := hide (HB1.out.trans (b2.mono HB1.out.size))
  have hst2 := HST.out w2
  clear b2 HB1 HST
  go_upto_region 4 with (fail)
  obtain ⟨X, w3, hX, hw3, H3, HB3⟩ : ∃ X wt, w2.heap.size = X ∧ w2.alloc (.cells (pl.cells none 0 0) 28) = wt ∧ Hid (wt.heap[X]? = some (.cells (pl.cells none 0 0) 28 (0, 0))) ∧ Hid (Below w.heap.size w wt) := ⟨_, _, rfl, rfl, hide (heap_alloc_new _ _), hide (HB2.out.trans (((Below.refl w2.heap.size w2).alloc (Nat.le_refl _) _).mono HB2.out.size))⟩
  have HXW := hide (show w.heap.size ≤ X by rw [← hX]; exact HB2.out.size)
  rw [hw3]
  try rw [hX]
  clear hw3 hX hst2 HB2
  have c0 : w3.cell? ⟨X, 25, none⟩ = some (.slice none 0 0) := (cell_of_row w3 X 25 _ _ _ H3.out).trans rfl
  have f0 := frozen_of_row w3 X 25 _ _ H3.out
  have hXl : X < w3.heap.size := lt_of_block H3.out
  obtain ⟨R, hR⟩ : ∃ R, w3.heap.size = R := ⟨_, rfl⟩
  have hsz : (w3.setCell ⟨X, 25, none⟩ (.slice (some ⟨w3.heap.size, 0, none⟩) 1 1)).heap.size = w3.heap.size := by simp
  have hnew := heap_alloc_new (w3.setCell ⟨X, 25, none⟩ (.slice (some ⟨w3.heap.size, 0, none⟩) 1 1)) (.cells #[.int .u8 (p : Int), .int .u16 80, .int .u16 80, .int .u32 3232235783] 36)
  rw [hsz, hR] at hnew
  have hold : ((w3.setCell ⟨X, 25, none⟩ (.slice (some ⟨w3.heap.size, 0, none⟩) 1 1)).alloc (.cells #[.int .u8 (p : Int), .int .u16 80, .int .u16 80, .int .u32 3232235783] 36)).heap[X]? = some (.cells (pl.cells (some ⟨R, 0, none⟩) 1 1) 28 (0, 0)) := by
    rw [heap_alloc_old _ _ (by rw [hsz]; exact hXl), ← hR]
    exact (heap_setCell_same _ _ 25 _ _ _ H3.out).trans rfl
  have hb4 : Below w.heap.size w ((w3.setCell ⟨X, 25, none⟩ (.slice (some ⟨w3.heap.size, 0, none⟩) 1 1)).alloc (.cells #[.int .u8 (p : Int), .int .u16 80, .int .u16 80, .int .u32 3232235783] 36)) := (HB3.out.setCell HXW.out _).alloc (by rw [hsz]; exact HB3.out.size) _
  have hfw : FwAt ((w3.setCell ⟨X, 25, none⟩ (.slice (some ⟨w3.heap.size, 0, none⟩) 1 1)).alloc (.cells #[.int .u8 (p : Int), .int .u16 80, .int .u16 80, .int .u32 3232235783] 36)) (some ⟨R, 0, none⟩) [(p, 80, 80, 3232235783)] := by
    rw [hR]
    intro _
    refine ⟨R, 0, rfl, lt_of_block hnew, fun i f hi => ?_⟩
    have hcc : ∀ o, ((w3.setCell ⟨X, 25, none⟩ (.slice (some ⟨R, 0, none⟩) 1 1)).alloc (.cells #[.int .u8 (p : Int), .int .u16 80, .int .u16 80, .int .u32 3232235783] 36)).cell? ⟨R, o, none⟩ = (#[.int .u8 (p : Int), .int .u16 80, .int .u16 80, .int .u32 3232235783] : Array Value)[o]? := fun o => cell_of_row _ R o _ _ _ hnew
    match i, hi with
    | 0, hi => simp at hi; subst hi; exact ⟨by rw [hcc]; rfl, by rw [hcc]; rfl, by rw [hcc]; rfl, by rw [hcc]; rfl⟩
    | i + 1, hi => simp at hi
  obtain ⟨w4, hw4, H4, HB4, HF4⟩ : ∃ wt, ((w3.setCell ⟨X, 25, none⟩ (.slice (some ⟨w3.heap.size, 0, none⟩) 1 1)).alloc (.cells #[.int .u8 (p : Int), .int .u16 80, .int .u16 80, .int .u32 3232235783] 36)) = wt ∧ Hid (wt.heap[X]? = some (.cells (pl.cells (some ⟨R, 0, none⟩) 1 1) 28 (0, 0))) ∧ Hid (Below w.heap.size w wt) ∧ Hid (FwAt wt (some ⟨R, 0, none⟩) [(p, 80, 80, 3232235783)]) := ⟨_, rfl, hide hold, hide hb4, hide hfw⟩
  have HW4 := hide hw4
  have HCH0 := hide (check_any (pl.cells (some ⟨R, 0, none⟩) 1 1) pl (some ⟨R, 0, none⟩) [(p, 80, 80, 3232235783)] 1 1 w4 (pl.cfA _ _ _) pl_ok HF4.out rfl (fun f hf => by
    simp only [List.mem_cons, List.not_mem_nil, or_false] at hf
    rcases hf with rfl <;> exact ⟨by dsimp only; omega, by dsimp only; omega, by dsimp only; omega, by dsimp only; omega⟩) (by omega) (Nat.le_refl _))
  rw [HCK.out] at HCH0
  have HCH := hide (fun (_ : Unit) => HCH0.out)
  clear hw4 hold hb4 hfw hnew hsz hR HCK HCH0
  cases y1 with
  | true =>
    go_upto_region 24 with (fail)
    rw [HW4.out]
    clear c0 f0
    go_wp2_with (refine ld_cfg (o := ⟨some 107, _, _, _, _, _⟩) (.tmp 5) rfl (by rfl) X rfl (pl.cells (some ⟨R, 0, none⟩) 1 1) H4.out rfl ?_; try simp only [Act.put, List.setIfInBounds_toArray, List.set_cons_zero, List.set_cons_succ])
    refine (HCH.out ()).mono ?_
    rintro e w5 ⟨rfl, b5⟩
    have HB5 := hide (HB4.out.trans (b5.mono HB4.out.size))
    clear b5
    go_wp2_with fail
    refine (plain_any _).mono ?_
    rintro e w6 ⟨rfl, b6⟩
    have HB6 := hide (HB5.out.trans (b6.mono HB5.out.size))
    clear b6
    go_wp2_with fail
    refine (check_none pl pl_ok true check_pl _).mono ?_
    rintro e w7 ⟨rfl, b7⟩
    have HB7 := hide (HB6.out.trans (b7.mono HB6.out.size))
    clear b7
    go_wp2_with fail
    go_ret
    exact ⟨rfl, HB7.out⟩
  | false =>
    cases y2 with
    | false =>
      go_upto_region 24 with (fail)
      rw [HW4.out]
      clear c0 f0
      go_wp2_with (refine ld_cfg (o := ⟨some 107, _, _, _, _, _⟩) (.tmp 5) rfl (by rfl) X rfl (pl.cells (some ⟨R, 0, none⟩) 1 1) H4.out rfl ?_; try simp only [Act.put, List.setIfInBounds_toArray, List.set_cons_zero, List.set_cons_succ])
      refine (HCH.out ()).mono ?_
      rintro e w5 ⟨rfl, b5⟩
      have HB5 := hide (HB4.out.trans (b5.mono HB4.out.size))
      clear b5
      go_wp2_with fail
      refine (plain_any _).mono ?_
      rintro e w6 ⟨rfl, b6⟩
      have HB6 := hide (HB5.out.trans (b6.mono HB5.out.size))
      clear b6
      go_wp2_with fail
      refine (check_none pl pl_ok true check_pl _).mono ?_
      rintro e w7 ⟨rfl, b7⟩
      have HB7 := hide (HB6.out.trans (b7.mono HB6.out.size))
      clear b7
      go_wp2_with fail
      go_ret
      exact ⟨rfl, HB7.out⟩
    | true =>
      go_upto_region 24 with (fail)
      rw [HW4.out]
      clear c0 f0
      go_wp2_with (refine ld_cfg (o := ⟨some 107, _, _, _, _, _⟩) (.tmp 5) rfl (by rfl) X rfl (pl.cells (some ⟨R, 0, none⟩) 1 1) H4.out rfl ?_; try simp only [Act.put, List.setIfInBounds_toArray, List.set_cons_zero, List.set_cons_succ])
      refine (HCH.out ()).mono ?_
      rintro e w5 ⟨rfl, b5⟩
      have HB5 := hide (HB4.out.trans (b5.mono HB4.out.size))
      clear b5
      go_wp2_with fail
      refine (plain_any _).mono ?_
      rintro e w6 ⟨rfl, b6⟩
      have HB6 := hide (HB5.out.trans (b6.mono HB5.out.size))
      clear b6
      go_wp2_with fail
      refine (check_none pl pl_ok true check_pl _).mono ?_
      rintro e w7 ⟨rfl, b7⟩
      have HB7 := hide (HB6.out.trans (b7.mono HB6.out.size))
      clear b7
      go_wp2_with fail
      go_ret
      exact ⟨rfl, HB7.out⟩
set_option maxHeartbeats 4000000 in
theorem cone7 (n which : Int) (w : World) (hn0 : -9223372036854775808 ≤ n) (hn1 : n ≤ 9223372036854775807) (hq : bits .and .i64 which 7 = 7) :
    Calls Try.prog 6 #[.int .i64 n, .int .i64 which] w fun e w' => e = .returned (.bool true) ∧ Below w.heap.size w w' := by
  obtain ⟨q, hp, hple⟩ : ∃ z : Nat, IntKind.u16.wrap n = (z : Int) ∧ z ≤ 65535 := ⟨(IntKind.u16.wrap n).toNat, by rw [IntKind.wrap_u16]; omega, by rw [IntKind.wrap_u16]; omega⟩
  have hck := one7 q
  have e1 : ((q : Int) != 0) = decide (q ≠ 0) := by rw [show ((q : Int) != 0) = !decide (q = 0) from int_beq q 0]; simp
  have e2 : ((q : Int) != 80) = decide (q ≠ 80) := by rw [show ((q : Int) != 80) = !decide (q = 80) from int_beq q 80]; simp
  rw [← e1, ← e2] at hck
  obtain ⟨y1, hy1⟩ : ∃ b, ((q : Int) != 0) = b := ⟨_, rfl⟩
  obtain ⟨y2, hy2⟩ : ∃ b, ((q : Int) != 80) = b := ⟨_, rfl⟩
  rw [hy1, hy2] at hck
  have HCK := hide hck
  clear hck e1 e2
  have hst := fun V : World => run_storeCells_new (P := Try.prog) V 28 zeroCfg (pl.cells none 0 0) (by kernel_rfl) rfl pl_one
  have HST := hide hst
  clear hst
  go_enter Try.func6, Try.ntmps6
  go_wp2_with fail
  refine (speaks9_any _).mono ?_
  rintro e w1 ⟨rfl, b1⟩
  have HB1 := hide b1
  clear b1
  go_wp2_with fail
  refine (plain_any _).mono ?_
  rintro e w2 ⟨rfl, b2⟩
  have HB2 := hide (HB1.out.trans (b2.mono HB1.out.size))
  have hst2 := HST.out w2
  clear b2 HB1 HST
  go_upto_region 4 with (fail)
  obtain ⟨X, w3, hX, hw3, H3, HB3⟩ : ∃ X wt, w2.heap.size = X ∧ w2.alloc (.cells (pl.cells none 0 0) 28) = wt ∧ Hid (wt.heap[X]? = some (.cells (pl.cells none 0 0) 28 (0, 0))) ∧ Hid (Below w.heap.size w wt) := ⟨_, _, rfl, rfl, hide (heap_alloc_new _ _), hide (HB2.out.trans (((Below.refl w2.heap.size w2).alloc (Nat.le_refl _) _).mono HB2.out.size))⟩
  have HXW := hide (show w.heap.size ≤ X by rw [← hX]; exact HB2.out.size)
  rw [hw3]
  try rw [hX]
  clear hw3 hX hst2 HB2
  have c0 : w3.cell? ⟨X, 25, none⟩ = some (.slice none 0 0) := (cell_of_row w3 X 25 _ _ _ H3.out).trans rfl
  have f0 := frozen_of_row w3 X 25 _ _ H3.out
  have hXl : X < w3.heap.size := lt_of_block H3.out
  obtain ⟨R, hR⟩ : ∃ R, w3.heap.size = R := ⟨_, rfl⟩
  have hsz : (w3.setCell ⟨X, 25, none⟩ (.slice (some ⟨w3.heap.size, 0, none⟩) 3 3)).heap.size = w3.heap.size := by simp
  have hnew := heap_alloc_new (w3.setCell ⟨X, 25, none⟩ (.slice (some ⟨w3.heap.size, 0, none⟩) 3 3)) (.cells #[.int .u8 6, .int .u16 (q : Int), .int .u16 80, .int .u32 3232235783, .int .u8 6, .int .u16 80, .int .u16 81, .int .u32 3232235784, .int .u8 17, .int .u16 80, .int .u16 81, .int .u32 3232235784] 36)
  rw [hsz, hR] at hnew
  have hold : ((w3.setCell ⟨X, 25, none⟩ (.slice (some ⟨w3.heap.size, 0, none⟩) 3 3)).alloc (.cells #[.int .u8 6, .int .u16 (q : Int), .int .u16 80, .int .u32 3232235783, .int .u8 6, .int .u16 80, .int .u16 81, .int .u32 3232235784, .int .u8 17, .int .u16 80, .int .u16 81, .int .u32 3232235784] 36)).heap[X]? = some (.cells (pl.cells (some ⟨R, 0, none⟩) 3 3) 28 (0, 0)) := by
    rw [heap_alloc_old _ _ (by rw [hsz]; exact hXl), ← hR]
    exact (heap_setCell_same _ _ 25 _ _ _ H3.out).trans rfl
  have hb4 : Below w.heap.size w ((w3.setCell ⟨X, 25, none⟩ (.slice (some ⟨w3.heap.size, 0, none⟩) 3 3)).alloc (.cells #[.int .u8 6, .int .u16 (q : Int), .int .u16 80, .int .u32 3232235783, .int .u8 6, .int .u16 80, .int .u16 81, .int .u32 3232235784, .int .u8 17, .int .u16 80, .int .u16 81, .int .u32 3232235784] 36)) := (HB3.out.setCell HXW.out _).alloc (by rw [hsz]; exact HB3.out.size) _
  have hfw : FwAt ((w3.setCell ⟨X, 25, none⟩ (.slice (some ⟨w3.heap.size, 0, none⟩) 3 3)).alloc (.cells #[.int .u8 6, .int .u16 (q : Int), .int .u16 80, .int .u32 3232235783, .int .u8 6, .int .u16 80, .int .u16 81, .int .u32 3232235784, .int .u8 17, .int .u16 80, .int .u16 81, .int .u32 3232235784] 36)) (some ⟨R, 0, none⟩) [(6, q, 80, 3232235783), (6, 80, 81, 3232235784), (17, 80, 81, 3232235784)] := by
    rw [hR]
    intro _
    refine ⟨R, 0, rfl, lt_of_block hnew, fun i f hi => ?_⟩
    have hcc : ∀ o, ((w3.setCell ⟨X, 25, none⟩ (.slice (some ⟨R, 0, none⟩) 3 3)).alloc (.cells #[.int .u8 6, .int .u16 (q : Int), .int .u16 80, .int .u32 3232235783, .int .u8 6, .int .u16 80, .int .u16 81, .int .u32 3232235784, .int .u8 17, .int .u16 80, .int .u16 81, .int .u32 3232235784] 36)).cell? ⟨R, o, none⟩ = (#[.int .u8 6, .int .u16 (q : Int), .int .u16 80, .int .u32 3232235783, .int .u8 6, .int .u16 80, .int .u16 81, .int .u32 3232235784, .int .u8 17, .int .u16 80, .int .u16 81, .int .u32 3232235784] : Array Value)[o]? := fun o => cell_of_row _ R o _ _ _ hnew
    match i, hi with
    | 0, hi => simp at hi; subst hi; exact ⟨by rw [hcc]; rfl, by rw [hcc]; rfl, by rw [hcc]; rfl, by rw [hcc]; rfl⟩
    | 1, hi => simp at hi; subst hi; exact ⟨by rw [hcc]; rfl, by rw [hcc]; rfl, by rw [hcc]; rfl, by rw [hcc]; rfl⟩
    | 2, hi => simp at hi; subst hi; exact ⟨by rw [hcc]; rfl, by rw [hcc]; rfl, by rw [hcc]; rfl, by rw [hcc]; rfl⟩
    | i + 3, hi => simp at hi
  obtain ⟨w4, hw4, H4, HB4, HF4⟩ : ∃ wt, ((w3.setCell ⟨X, 25, none⟩ (.slice (some ⟨w3.heap.size, 0, none⟩) 3 3)).alloc (.cells #[.int .u8 6, .int .u16 (q : Int), .int .u16 80, .int .u32 3232235783, .int .u8 6, .int .u16 80, .int .u16 81, .int .u32 3232235784, .int .u8 17, .int .u16 80, .int .u16 81, .int .u32 3232235784] 36)) = wt ∧ Hid (wt.heap[X]? = some (.cells (pl.cells (some ⟨R, 0, none⟩) 3 3) 28 (0, 0))) ∧ Hid (Below w.heap.size w wt) ∧ Hid (FwAt wt (some ⟨R, 0, none⟩) [(6, q, 80, 3232235783), (6, 80, 81, 3232235784), (17, 80, 81, 3232235784)]) := ⟨_, rfl, hide hold, hide hb4, hide hfw⟩
  have HW4 := hide hw4
  have HCH0 := hide (check_any (pl.cells (some ⟨R, 0, none⟩) 3 3) pl (some ⟨R, 0, none⟩) [(6, q, 80, 3232235783), (6, 80, 81, 3232235784), (17, 80, 81, 3232235784)] 3 3 w4 (pl.cfA _ _ _) pl_ok HF4.out rfl (fun f hf => by
    simp only [List.mem_cons, List.not_mem_nil, or_false] at hf
    rcases hf with rfl | rfl | rfl <;> exact ⟨by dsimp only; omega, by dsimp only; omega, by dsimp only; omega, by dsimp only; omega⟩) (by omega) (Nat.le_refl _))
  rw [HCK.out] at HCH0
  have HCH := hide (fun (_ : Unit) => HCH0.out)
  clear hw4 hold hb4 hfw hnew hsz hR HCK HCH0
  cases y1 with
  | false =>
    go_upto_region 24 with (fail)
    rw [HW4.out]
    clear c0 f0
    go_wp2_with (refine ld_cfg (o := ⟨some 107, _, _, _, _, _⟩) (.tmp 5) rfl (by rfl) X rfl (pl.cells (some ⟨R, 0, none⟩) 3 3) H4.out rfl ?_; try simp only [Act.put, List.setIfInBounds_toArray, List.set_cons_zero, List.set_cons_succ])
    refine (HCH.out ()).mono ?_
    rintro e w5 ⟨rfl, b5⟩
    have HB5 := hide (HB4.out.trans (b5.mono HB4.out.size))
    clear b5
    go_wp2_with fail
    refine (plain_any _).mono ?_
    rintro e w6 ⟨rfl, b6⟩
    have HB6 := hide (HB5.out.trans (b6.mono HB5.out.size))
    clear b6
    go_wp2_with fail
    refine (check_none pl pl_ok true check_pl _).mono ?_
    rintro e w7 ⟨rfl, b7⟩
    have HB7 := hide (HB6.out.trans (b7.mono HB6.out.size))
    clear b7
    go_wp2_with fail
    go_ret
    exact ⟨rfl, HB7.out⟩
  | true =>
    cases y2 with
    | false =>
      go_upto_region 24 with (fail)
      rw [HW4.out]
      clear c0 f0
      go_wp2_with (refine ld_cfg (o := ⟨some 107, _, _, _, _, _⟩) (.tmp 5) rfl (by rfl) X rfl (pl.cells (some ⟨R, 0, none⟩) 3 3) H4.out rfl ?_; try simp only [Act.put, List.setIfInBounds_toArray, List.set_cons_zero, List.set_cons_succ])
      refine (HCH.out ()).mono ?_
      rintro e w5 ⟨rfl, b5⟩
      have HB5 := hide (HB4.out.trans (b5.mono HB4.out.size))
      clear b5
      go_wp2_with fail
      refine (plain_any _).mono ?_
      rintro e w6 ⟨rfl, b6⟩
      have HB6 := hide (HB5.out.trans (b6.mono HB5.out.size))
      clear b6
      go_wp2_with fail
      refine (check_none pl pl_ok true check_pl _).mono ?_
      rintro e w7 ⟨rfl, b7⟩
      have HB7 := hide (HB6.out.trans (b7.mono HB6.out.size))
      clear b7
      go_wp2_with fail
      go_ret
      exact ⟨rfl, HB7.out⟩
    | true =>
      go_upto_region 24 with (fail)
      rw [HW4.out]
      clear c0 f0
      go_wp2_with (refine ld_cfg (o := ⟨some 107, _, _, _, _, _⟩) (.tmp 5) rfl (by rfl) X rfl (pl.cells (some ⟨R, 0, none⟩) 3 3) H4.out rfl ?_; try simp only [Act.put, List.setIfInBounds_toArray, List.set_cons_zero, List.set_cons_succ])
      refine (HCH.out ()).mono ?_
      rintro e w5 ⟨rfl, b5⟩
      have HB5 := hide (HB4.out.trans (b5.mono HB4.out.size))
      clear b5
      go_wp2_with fail
      refine (plain_any _).mono ?_
      rintro e w6 ⟨rfl, b6⟩
      have HB6 := hide (HB5.out.trans (b6.mono HB5.out.size))
      clear b6
      go_wp2_with fail
      refine (check_none pl pl_ok true check_pl _).mono ?_
      rintro e w7 ⟨rfl, b7⟩
      have HB7 := hide (HB6.out.trans (b7.mono HB6.out.size))
      clear b7
      go_wp2_with fail
      go_ret
      exact ⟨rfl, HB7.out⟩
theorem confOne_any (n which : Int) (w : World) (hn0 : -9223372036854775808 ≤ n) (hn1 : n ≤ 9223372036854775807) :
    Calls Try.prog 6 #[.int .i64 n, .int .i64 which] w fun e w' => e = .returned (.bool true) ∧ Below w.heap.size w w' := by
  obtain ⟨k, hk, hand⟩ := and_mask which 7 (by omega)
  rw [show ((7 : Nat) : Int) = 7 from rfl] at hand
  match k, hk, hand with
  | 0, _, h => exact cone0 n which w hn0 hn1 h
  | 1, _, h => exact cone1 n which w hn0 hn1 h
  | 2, _, h => exact cone2 n which w hn0 hn1 h
  | 3, _, h => exact cone3 n which w hn0 hn1 h
  | 4, _, h => exact cone4 n which w hn0 hn1 h
  | 5, _, h => exact cone5 n which w hn0 hn1 h
  | 6, _, h => exact cone6 n which w hn0 hn1 h
  | 7, _, h => exact cone7 n which w hn0 hn1 h
  | k + 8, h, _ => omega
end Go.Proofs.Ytogeggklfcabkaa
