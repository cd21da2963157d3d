/- The law that keys are told rising, walked. -/
import Derived.Test.YtfnlgfbojgkajaaKR
namespace Go.Proofs.Ytfnlgfbojgkajaa
open Go.RowKit Go.Deep
set_option linter.unusedVariables false
set_option linter.unusedSimpArgs false
set_option maxRecDepth 100000
theorem and_63 (x : Int) : ∃ k : Nat, k ≤ 63 ∧ bits .and .i64 x 63 = (k : Int) := by
  have hle : (BitVec.ofInt 64 x &&& BitVec.ofInt 64 63).toNat ≤ 63 := by rw [BitVec.toNat_and]; exact Nat.and_le_right
  refine ⟨_, hle, ?_⟩
  show IntKind.i64.wrap (((BitVec.ofInt 64 x &&& BitVec.ofInt 64 63).toNat : Nat) : Int) = _
  rw [IntKind.wrap_i64]
  omega
set_option maxHeartbeats 800000 in
theorem krise_long (w : World) (a : Option Addr) (ops : List Op3) (n cap : Nat) (most : Int) (hO : OpsAt w a ops) (hl : ops.length = n) (hn : n ≤ 9223372036854775807) (h : 200 < n) :
    Calls Try.prog 7 #[.slice a n cap, .int .i64 most] w fun e w' => e = .returned (.bool true) ∧ Below w.heap.size w w' := by
  clear hO hl
  go_enter Try.func7, Try.ntmps7
  go_wp2_with fail
  refine (speaks6_any _).mono ?_
  rintro e w1 ⟨rfl, b1⟩
  go_wp2
  go_ret
  exact ⟨rfl, b1⟩
set_option maxHeartbeats 3000000 in
theorem krise_main (w : World) (a : Option Addr) (ops : List Op3) (n cap : Nat) (most : Int) (hO : OpsAt w a ops) (hl : ops.length = n) (hn : n ≤ 9223372036854775807) (h : n ≤ 200) :
    Calls Try.prog 7 #[.slice a n cap, .int .i64 most] w fun e w' => e = .returned (.bool true) ∧ Below w.heap.size w w' := by
  obtain ⟨m, hm, hand⟩ := and_63 most
  have HO := hide hO
  have HL := hide hl
  clear hO hl hn
  go_enter Try.func7, Try.ntmps7
  go_wp2_with fail
  refine (speaks6_any _).mono ?_
  rintro e w1 ⟨rfl, b1⟩
  have HB1 := hide b1
  have HN := hide (newL m (by omega) (.func (.func 10) #[] #[]) id w1 o_ord)
  clear b1
  go_wp2_with fail
  refine HN.out.mono ?_
  rintro e w2 ⟨rfl, h2, b2⟩
  obtain ⟨t, ht⟩ : ∃ t, w1.heap.size = t := ⟨_, rfl⟩
  rw [ht] at h2
  try rw [ht]
  have hwt : w.heap.size ≤ t := by rw [← ht]; exact HB1.out.size
  have HB2 := hide (HB1.out.trans (b2.mono HB1.out.size))
  have H2 := hide h2
  clear HN h2 b2 ht HB1 hand
  go_wp2_with fail
  have hbt := heap_alloc_new w2 (.cells #[.pointer (some ⟨t, 0, none⟩)] 24)
  obtain ⟨bt, w3, hB, hw3, HT3, HB3, HS, htb⟩ : ∃ bt wt, w2.heap.size = bt ∧ w2.alloc (.cells #[.pointer (some ⟨t, 0, none⟩)] 24) = wt ∧ Hid (wt.heap[bt]? = some (.cells #[.pointer (some ⟨t, 0, none⟩)] 24 (0, 0))) ∧ Hid (Below w.heap.size w wt) ∧ Hid (Tab wt t m (.func (.func 10) #[] #[]) id [] ∧ ([] : List KV).length ≤ m) ∧ t < bt :=
    ⟨_, _, rfl, rfl, hide hbt, hide (HB2.out.alloc HB2.out.size _), hide ⟨H2.out.below ((Below.refl w2.heap.size w2).alloc (Nat.le_refl _) _) (Nat.le_refl _), by simp⟩, H2.out.lt⟩
  try rw [hw3]
  try rw [hB]
  clear hbt hB hw3 H2 HB2
  have hb3 := HB3.out
  go_loopw [25] (fun i wz => ∃ (j : Nat) (L : List KV), j ≤ n ∧ i = .int .i64 j ∧ Hid (Tab wz t m (.func (.func 10) #[] #[]) id L ∧ L.length ≤ m) ∧ Hid (wz.heap[bt]? = some (.cells #[.pointer (some ⟨t, 0, none⟩)] 24 (0, 0))) ∧ Below w.heap.size w wz) (fun i _ => n - (intOf i).toNat)
  case atStart => exact ⟨0, [], Nat.zero_le _, rfl, HS, HT3, hb3⟩
  case round =>
    clear HS hb3 HB3 HT3
    obtain ⟨j, L, hj, rfl, HS, HT, hbz⟩ := hrel
    by_cases hlt : j < n
    · obtain ⟨o, ho⟩ : ∃ o, ops[j]? = some o := ⟨ops[j]'(by rw [HL.out]; exact hlt), List.getElem?_eq_getElem _⟩
      obtain ⟨b, off, rfl, hbl, hcell⟩ := HO.out (by intro e; subst e; simp at ho)
      obtain ⟨p0, p1, p2⟩ := hcell j o ho
      have c0 := (hbz.cell (p := ⟨b, off + j * 3, none⟩) hbl).trans p0
      have c1 := (hbz.cell (p := ⟨b, off + j * 3 + 1, none⟩) hbl).trans p1
      have c2 := (hbz.cell (p := ⟨b, off + j * 3 + 2, none⟩) hbl).trans p2
      clear hcell p0 p1 p2 ho
      obtain ⟨o0, o1, o2⟩ := o
      simp only at c0 c1 c2
      have HBZ := hide hbz
      have HB4 := hide (hbz.alloc hbz.size (.cells #[.int .i64 o0, .int .i64 o1, .int .i64 o2] 30))
      have hal : Below wr.heap.size wr (wr.alloc (.cells #[.int .i64 o0, .int .i64 o1, .int .i64 o2] 30)) := (Below.refl _ _).alloc (Nat.le_refl _) _
      have HT4 := hide (below_block hal HT.out (Nat.le_refl _))
      have HS4 := hide (HS.out.1.below hal (Nat.le_refl _))
      obtain ⟨x0, xf⟩ := one_cell HT4.out
      obtain ⟨y0, yf⟩ := one_cell HT.out
      have hbb : bt < wr.heap.size := lt_of_block HT.out
      obtain ⟨q, hq⟩ : ∃ q, bits .and .i64 o0 3 = q := ⟨_, rfl⟩
      clear hbz hal
      by_cases hz : q = 0
      · have hd : (q == 0) = true := by simpa using hz
        have HP := hide (DropL HS4.out o_ord o1 (by have := HS.out.2; omega))
        clear hz
        go_wp2_with fail
        refine HP.out.mono ?_
        rintro e w5 ⟨rfl, h5, g5⟩
        have hb5 := HB4.out.grown g5 HB4.out.size (fun j e => by cases e; exact hwt)
        have H5 := hide (show Tab w5 t m (.func (.func 10) #[] #[]) id (delL id o1 L) ∧ (delL id o1 L).length ≤ m from ⟨h5, by have := del_le (τ := id) (k := o1) L; have := HS.out.2; omega⟩)
        have HT5 := hide (gb_block g5 HT4.out (by omega))
        clear HP h5 g5 c0 c1 c2 x0 y0 hq hd
        go_wp2_with fail
        go_roundw
        case rel => exact ⟨j + 1, delL id o1 L, by omega, by go_num, H5, HT5, hb5⟩
        case measure => simp [intOf]; omega
      · have hd : (q == 0) = false := by simpa using hz
        have HP := hide (PutC (m := m) HS4.out o_ord o1 o2 (by have := HS.out.2; omega))
        have hplen := putC_len (m := m) (k := o1) (v := o2) HS.out.1.asc HS.out.2
        clear hz
        go_wp2_with fail
        refine HP.out.mono ?_
        rintro e w5 ⟨rfl, h5, g5⟩
        have hb5 := HB4.out.grown g5 HB4.out.size (fun j e => by cases e; exact hwt)
        have H5 := hide (show Tab w5 t m (.func (.func 10) #[] #[]) id (putC id m o1 o2 L).2 ∧ (putC id m o1 o2 L).2.length ≤ m from ⟨h5, hplen⟩)
        have HT5 := hide (gb_block g5 HT4.out (by omega))
        clear HP h5 g5 c0 c1 c2 x0 y0 hq hd hplen
        go_wp2_with fail
        go_roundw
        case rel => exact ⟨j + 1, (putC id m o1 o2 L).2, by omega, by go_num, H5, HT5, hb5⟩
        case measure => simp [intOf]; omega
    · obtain ⟨wb, rfl⟩ : ∃ wb, wb = wr := ⟨_, rfl⟩
      obtain ⟨y0, yf⟩ := one_cell HT.out
      have hbb : bt < wb.heap.size := lt_of_block HT.out
      have HBZ := hide hbz
      have hlm : L.length ≤ m := HS.out.2
      have ha1 : Below wb.heap.size wb (wb.alloc (.cells #[.int .i64 0] 3)) := (Below.refl _ _).alloc (Nat.le_refl _) _
      have ha2 := ha1.alloc ha1.size (.cells #[.int .i64 0] 3)
      have ha3 := ha2.alloc ha2.size (.cells #[.bool true] 4)
      have hT6 := below_block ha3 HT.out (Nat.le_refl _)
      obtain ⟨z0, zf⟩ := one_cell hT6
      have q0 := heap_alloc_new wb (.cells #[.int .i64 0] 3)
      have q1 := heap_alloc_new (wb.alloc (.cells #[.int .i64 0] 3)) (.cells #[.int .i64 0] 3)
      have q2 := heap_alloc_new ((wb.alloc (.cells #[.int .i64 0] 3)).alloc (.cells #[.int .i64 0] 3)) (.cells #[.bool true] 4)
      have s1 : (wb.alloc (.cells #[.int .i64 0] 3)).heap.size = wb.heap.size + 1 := by first | (simp; done) | (simp; omega)
      have s2 : ((wb.alloc (.cells #[.int .i64 0] 3)).alloc (.cells #[.int .i64 0] 3)).heap.size = wb.heap.size + 1 + 1 := by first | (simp; done) | (simp; omega)
      rw [s1] at q1
      rw [s2] at q2
      obtain ⟨bl, bc, bo, w6, hbl, hbc, hbo, hw6, HA3, HQ0, HQ1, HQ2, hl1, hl2, hl3⟩ : ∃ bl bc bo wt, wb.heap.size = bl ∧ wb.heap.size + 1 = bc ∧ wb.heap.size + 1 + 1 = bo ∧ ((wb.alloc (.cells #[.int .i64 0] 3)).alloc (.cells #[.int .i64 0] 3)).alloc (.cells #[.bool true] 4) = wt ∧ Hid (Below wb.heap.size wb wt) ∧ Hid (wt.heap[bl]? = some (.cells #[.int .i64 0] 3 (0, 0))) ∧ Hid (wt.heap[bc]? = some (.cells #[.int .i64 0] 3 (0, 0))) ∧ Hid (wt.heap[bo]? = some (.cells #[.bool true] 4 (0, 0))) ∧ bt < bl ∧ bl < bc ∧ bc < bo :=
        ⟨_, _, _, _, rfl, rfl, rfl, rfl, hide ha3, hide ((Below.heap_alloc _ _ _ (by simp; omega)).trans ((Below.heap_alloc _ _ _ (by simp)).trans q0)), hide ((Below.heap_alloc _ _ _ (by simp)).trans q1), hide q2, hbb, by omega, by omega⟩
      have hTT : w6.heap[bt]? = some (.cells #[.pointer (some ⟨t, 0, none⟩)] 24 (0, 0)) := by rw [← hw6]; exact hT6
      have HT6 := hide hTT
      have HAL := hide (all_any t w6)
      have HEQ := hide (And.intro hbl (And.intro hbc (And.intro hbo hw6)))
      clear hbz ha1 ha2 ha3 hT6 q0 q1 q2 s1 s2 zf yf hTT hbl hbc hbo hw6
      go_wp2_with fail
      rw [HEQ.out.2.2.2]
      try rw [HEQ.out.2.2.1]
      try rw [HEQ.out.2.1]
      try rw [HEQ.out.1]
      clear HEQ z0 y0
      refine HAL.out.mono ?_
      rintro e w7 ⟨rfl, hw7⟩
      obtain ⟨bx, hbx⟩ : ∃ bx, w6.heap.size = bx := ⟨_, rfl⟩
      try rw [hbx]
      have hb67 : Below w6.heap.size w6 w7 := by rw [hw7]; exact (Below.refl _ _).alloc (Nat.le_refl _) _
      have hx7 : w7.heap[bx]? = some (.cells #[.pointer (some ⟨t, 0, none⟩)] 24 (0, 0)) := by rw [hw7, ← hbx]; exact heap_alloc_new w6 _
      have HBX := hide hbx
      have hb97 := HA3.out.trans (hb67.mono HA3.out.size)
      have hri : RI w t bt bl bc bo m L L w7 := ⟨HS.out.1.below hb97 (Nat.le_refl _), below_block hb97 HT.out (Nat.le_refl _), ⟨[], rfl, below_block hb67 HQ2.out (Nat.le_refl _), below_block hb67 HQ1.out (Nat.le_refl _), below_block hb67 HQ0.out (Nat.le_refl _)⟩, HBZ.out.trans (hb97.mono HBZ.out.size)⟩
      have HIT := hide (iter_rises w t bt bl bc bo bx m L hwt htb hl1 hl2 hl3 (by omega) w7 hri hx7)
      clear hbx hb67 hx7 hb97 hri hw7 HAL
      go_wp2_with fail
      refine HIT.out.mono ?_
      rintro e w8 ⟨⟨v8, rfl⟩, hi⟩
      have HRI := hide hi
      obtain ⟨d, hd, ko, kc, kl⟩ := hi.told
      have hdl : d.length = L.length := by rw [hd]; simp
      rw [hdl] at kc
      obtain ⟨o0, of⟩ := one_cell ko
      obtain ⟨r0, rf⟩ := one_cell kc
      obtain ⟨g0, gf⟩ := one_cell hi.bt
      have HLN := hide (fun (k : Nat) => ((LenL (hi.tab.drewN k)).mono fun e w' h => ⟨h.1, h.2.symm⟩ : Calls Try.prog 23 #[.pointer (some ⟨t, 0, none⟩)] (w8.drewN k) fun e w' => e = .returned (.int .i64 (L.length : Int)) ∧ w' = w8.drewN k))
      have hlq : decide ((L.length : Int) ≤ (m : Int)) = true := by simp; omega
      clear hi ko kc kl hd hdl HIT of rf gf
      go_wp2_with fail
      go_quiet ((go_at_call 23; exact Calls.quiet_of_same (HLN.out _)))
      go_wp2
      go_ret
      exact ⟨rfl, bdrewN HRI.out.below _⟩
theorem keyedRises_any (w : World) (a : Option Addr) (ops : List Op3) (n cap : Nat) (most : Int) (hO : OpsAt w a ops) (hl : ops.length = n) (hn : n ≤ 9223372036854775807) :
    Calls Try.prog 7 #[.slice a n cap, .int .i64 most] w fun e w' => e = .returned (.bool true) ∧ Below w.heap.size w w' := by
  by_cases h : 200 < n
  · exact krise_long w a ops n cap most hO hl hn h
  · exact krise_main w a ops n cap most hO hl hn (by omega)
end Go.Proofs.Ytfnlgfbojgkajaa
