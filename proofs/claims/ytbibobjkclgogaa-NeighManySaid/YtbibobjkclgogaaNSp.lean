/- neigh: the example, its beginning. -/
import Derived.Test.YtbibobjkclgogaaNHe
import Derived.Test.YtbibobjkclgogaaNHo
import Derived.Test.YtbibobjkclgogaaCPlainC
namespace Go.Proofs.Ytbibobjkclgogaa
open Go.RowKit Go.Deep
set_option linter.unusedVariables false
set_option linter.unusedSimpArgs false
set_option maxRecDepth 100000
/-- The example's packet. -/
def xp : HV := ⟨0, 0, 0, 0, 3232235783, none, 0, 0, 1, []⟩
def xa : AR := ⟨2, 0, 0, 0, 0, 0, 0, 0, 0, 0, 0, 0, 0, 3232235783, 0⟩
theorem xa_ok : AROk xa := ⟨by decide, by decide, by decide⟩
theorem bel_pl : belB 3232235777 24 xa = true := by decide +kernel
def plG : Nat → Int := fun i => ((pl.m0 i).toNat : Int)
theorem cfn_pl : CfN (pl.cells none 0 0) 3232235777 24 plG := ⟨⟨rfl, rfl, rfl⟩, rfl, rfl, rfl, rfl, rfl, rfl⟩
/-- Who an ARP packet tells of. -/
def arNH (x : AR) : NH := ⟨(x.f0 : Int), x.f1, x.f2, x.f3, x.f4, x.f5, 0⟩
theorem row_nil (w : World) : Row .u8 w none [] := fun h => absurd rfl h
set_option maxHeartbeats 1600000 in
theorem speaks_any (w : World) : Calls Try.prog 6 #[] w fun e w' => e = .returned (.bool true) ∧ Below w.heap.size w w' := by
  have HN := hide (new_any w)
  go_enter Try.func6, Try.ntmps6
  go_wp2_with fail
  refine HN.out.mono ?_
  rintro e w1 ⟨c, rfl, ⟨tb, a, n, cap, hx⟩, b1⟩
  have HX := hide hx
  have HB := hide b1
  clear HN hx b1
  go_wp2_with fail
  obtain ⟨V, hV⟩ : ∃ V, w1.alloc (.cells #[.int .u8 0, .int .u8 0, .int .u16 0, .int .u32 0, .int .u32 3232235783, .slice none 0 0] 44) = V := ⟨_, rfl⟩
  have HP := hide (show V.heap[w1.heap.size]? = some (.cells #[.int .u8 0, .int .u8 0, .int .u16 0, .int .u32 0, .int .u32 3232235783, .slice none 0 0] 44 (0, 0)) by rw [← hV]; exact heap_alloc_new _ _)
  have hbV : Below w1.heap.size w1 V := by rw [← hV]; exact (Below.refl _ _).alloc (Nat.le_refl _) _
  obtain ⟨P, hP⟩ : ∃ P, w1.heap.size = P := ⟨_, rfl⟩
  rw [hP] at HP
  rw [hV, hP]
  have HVV := hide (HX.out.below hbV)
  have HBV := hide (HB.out.trans (hbV.mono HB.out.size))
  have HKV := hide (show w.heap.size ≤ V.heap.size from HBV.out.size)
  have HH1 := hide (hold_any w.heap.size c [] [] xp 1 V.drew ⟨_, _, _, _, HVV.out.below (Below.refl _ _).drew⟩ HKV.out (row_nil _) rfl (by decide) (by show _ ≤ 16; simp))
  obtain ⟨p0, p1, p2, p3, p4, p5, _⟩ := cells6 HP.out
  have lp := lt_of_block HP.out
  clear hV hbV hP HX HB
  have HZ0 := hide (show Below V.heap.size V V.drew from (Below.refl _ _).drew)
  refine wp_region_held_drew (S := fun w' => w'.cell? ⟨P, 0, none⟩ = some (.int .u8 0) ∧ w'.cell? ⟨P, 1, none⟩ = some (.int .u8 0) ∧ w'.cell? ⟨P, 2, none⟩ = some (.int .u16 0) ∧ w'.cell? ⟨P, 3, none⟩ = some (.int .u32 0) ∧ w'.cell? ⟨P, 4, none⟩ = some (.int .u32 3232235783) ∧ w'.cell? ⟨P, 5, none⟩ = some (.slice none 0 0)) (by kernel_rfl) (by exact ⟨(HZ0.out.cell (p := ⟨P, 0, none⟩) lp).trans p0, (HZ0.out.cell (p := ⟨P, 1, none⟩) lp).trans p1, (HZ0.out.cell (p := ⟨P, 2, none⟩) lp).trans p2, (HZ0.out.cell (p := ⟨P, 3, none⟩) lp).trans p3, (HZ0.out.cell (p := ⟨P, 4, none⟩) lp).trans p4, (HZ0.out.cell (p := ⟨P, 5, none⟩) lp).trans p5⟩) (fun hHeld => ?_)
  refine wpAnyH_take (i := 0) (oi := { dst := some 12, op := Op.move (Operand.tmp 1), type := 31, pos := "law.go:27", after := #[], guard := none }) (v := ?_) rfl (by kernel_rfl) (by kernel_rfl) (by kernel_rfl) (fun _ _ _ h => h) (Or.inl ⟨by rfl, ?_⟩) (by assumption) ?_
  rotate_left
  · intro wS hSw
    try dsimp only at hSw
    go_simp
    try with_reducible rfl
  try simp only [Act.put, List.setIfInBounds_toArray, List.set_cons_zero, List.set_cons_succ]
  refine wpAnyH_take (i := 1) (oi := { dst := some 13, op := Op.load 44 (Operand.tmp 2), type := 44, pos := "law.go:27", after := #[], guard := none }) (v := ?_) rfl (by kernel_rfl) (by kernel_rfl) (by kernel_rfl) (fun _ _ _ h => h) (Or.inl ⟨by rfl, ?_⟩) (by assumption) ?_
  rotate_left
  · intro wS hSw
    try dsimp only at hSw
    go_simp
    try with_reducible rfl
  try simp only [Act.put, List.setIfInBounds_toArray, List.set_cons_zero, List.set_cons_succ]
  refine wpAnyH_take (i := 3) (oi := { dst := some 15, op := Op.move (Operand.tmp 1), type := 31, pos := "law.go:27", after := #[], guard := none }) (v := ?_) rfl (by kernel_rfl) (by kernel_rfl) (by kernel_rfl) (fun _ _ _ h => h) (Or.inl ⟨by rfl, ?_⟩) (by assumption) ?_
  rotate_left
  · intro wS hSw
    try dsimp only at hSw
    go_simp
    try with_reducible rfl
  try simp only [Act.put, List.setIfInBounds_toArray, List.set_cons_zero, List.set_cons_succ]
  refine wpAnyH_take (i := 4) (oi := { dst := some 16, op := Op.load 44 (Operand.tmp 2), type := 44, pos := "law.go:27", after := #[], guard := none }) (v := ?_) rfl (by kernel_rfl) (by kernel_rfl) (by kernel_rfl) (fun _ _ _ h => h) (Or.inl ⟨by rfl, ?_⟩) (by assumption) ?_
  rotate_left
  · intro wS hSw
    try dsimp only at hSw
    go_simp
    try with_reducible rfl
  try simp only [Act.put, List.setIfInBounds_toArray, List.set_cons_zero, List.set_cons_succ]
  refine wpAnyH_ready (rs := [2]) (by kernel_rfl) (by simp) ?_
  refine AllReadyH.cons (o := { dst := some 14, op := Op.call { callee := Callee.value (Operand.func 13), args := #[Operand.tmp 12, Operand.tmp 13, Operand.const (Value.int IntKind.u64 1)], argTypes := #[31, 44, 38] }, type := 4, pos := "law.go:27", after := #[{ on := 0, ground := Ground.data }, { on := 1, ground := Ground.data }], guard := none }) rfl (fun K hK => ?_) AllReadyH.nil
  go_simp
  go_at_call 13
  refine (HH1.out).mono ?_
  rintro e z1 ⟨rfl, r1, bz1, kz1⟩
  have HR1 := hide r1
  have HBZ1 := hide bz1
  have HPZ1 := hide (kz1 _ _ _ _ (by decide) HP.out)
  obtain ⟨t0_1, t1_1, t2_1, t3_1, t4_1, t5_1, _⟩ := cells6 HPZ1.out
  clear r1 bz1 kz1
  obtain ⟨H1, HC1, hh1, _⟩ := HR1.out
  obtain ⟨a1, c1, e1⟩ := hh1 (by decide)
  have e1 : H1 = [{ xp with a := a1, c := c1, e := 1 }] := e1
  subst e1
  have hany : ([{ xp with a := a1, c := c1, e := 1 }] : List HV).any (pHold 3232235783 1) = true := by unfold xp; rfl
  have HH2 := hide (hold_any w.heap.size c [] [{ xp with a := a1, c := c1, e := 1 }] xp 1 z1 HC1 (Nat.le_trans HKV.out HBZ1.out.size) (row_nil _) rfl (by decide) (by show _ ≤ 16; simp))
  rw [show xp.d = 3232235783 from rfl, hany] at HH2
  clear hh1 hany HC1
  refine hK.out _ _ (⟨t0_1, t1_1, t2_1, t3_1, t4_1, t5_1⟩) (fun hHeld1 => ?_)
  clear hK K
  try simp only [Act.put, List.setIfInBounds_toArray, List.set_cons_zero, List.set_cons_succ]
  refine wpAnyH_ready (rs := [5]) (by kernel_rfl) (by simp) ?_
  refine AllReadyH.cons (o := { dst := some 17, op := Op.call { callee := Callee.value (Operand.func 13), args := #[Operand.tmp 15, Operand.tmp 16, Operand.const (Value.int IntKind.u64 1)], argTypes := #[31, 44, 38] }, type := 4, pos := "law.go:27", after := #[{ on := 3, ground := Ground.data }, { on := 4, ground := Ground.data }, { on := 2, ground := Ground.chain }], guard := none }) rfl (fun K hK => ?_) AllReadyH.nil
  go_simp
  go_at_call 13
  refine (HH2.out).mono ?_
  rintro e z2 ⟨rfl, r2, bz2, kz2⟩
  have HR2 := hide r2
  have HBZ2 := hide bz2
  have HPZ2 := hide (kz2 _ _ _ _ (by decide) HPZ1.out)
  obtain ⟨t0_2, t1_2, t2_2, t3_2, t4_2, t5_2, _⟩ := cells6 HPZ2.out
  clear r2 bz2 kz2
  refine hK.out _ _ (⟨t0_2, t1_2, t2_2, t3_2, t4_2, t5_2⟩) (fun hHeld2 => ?_)
  clear hK K
  try simp only [Act.put, List.setIfInBounds_toArray, List.set_cons_zero, List.set_cons_succ]
  refine wpAnyH_take (i := 6) (oi := { dst := some 3, op := Op.assign (Operand.tmp 14), type := 4, pos := "law.go:27", after := #[{ on := 2, ground := Ground.data }, { on := 5, ground := Ground.chain }, { on := 0, ground := Ground.phase }, { on := 1, ground := Ground.phase }, { on := 2, ground := Ground.phase }, { on := 3, ground := Ground.textOnly Departure.lateStores }, { on := 4, ground := Ground.textOnly Departure.lateStores }, { on := 5, ground := Ground.textOnly Departure.lateStoresUnsure }], guard := none }) (v := ?_) rfl (by kernel_rfl) (by kernel_rfl) (by kernel_rfl) (fun _ _ _ h => h) (Or.inl ⟨by rfl, ?_⟩) (by assumption) ?_
  rotate_left
  · intro wS hSw
    try dsimp only at hSw
    go_simp
    try with_reducible rfl
  try simp only [Act.put, List.setIfInBounds_toArray, List.set_cons_zero, List.set_cons_succ]
  refine wpAnyH_take (i := 7) (oi := { dst := some 4, op := Op.assign (Operand.tmp 17), type := 4, pos := "law.go:27", after := #[{ on := 5, ground := Ground.data }, { on := 6, ground := Ground.chain }, { on := 0, ground := Ground.phase }, { on := 1, ground := Ground.phase }, { on := 2, ground := Ground.phase }, { on := 3, ground := Ground.phase }, { on := 4, ground := Ground.phase }, { on := 5, ground := Ground.phase }, { on := 6, ground := Ground.phase }], guard := none }) (v := ?_) rfl (by kernel_rfl) (by kernel_rfl) (by kernel_rfl) (fun _ _ _ h => h) (Or.inl ⟨by rfl, ?_⟩) (by assumption) ?_
  rotate_left
  · intro wS hSw
    try dsimp only at hSw
    go_simp
    try with_reducible rfl
  try simp only [Act.put, List.setIfInBounds_toArray, List.set_cons_zero, List.set_cons_succ]
  refine wpAnyH_done (by kernel_rfl) ?_ _

  obtain ⟨H2, HC2, hh2, _⟩ := HR2.out
  obtain ⟨a2, c2, e2⟩ := hh2 (by show 1 < 16; omega)
  subst e2
  have HC3 := hide HC2
  have HB3 := hide ((HBV.out.drew.trans HBZ1.out).trans HBZ2.out)
  clear HC2 hh2 HR1 HR2 HH1 HH2 HPZ1 HPZ2 HP HBZ1 HBZ2 HBV HKV HVV p0 p1 p2 p3 p4 p5 lp hHeld hHeld1 hHeld2 t0_1 t1_1 t2_1 t3_1 t4_1 t5_1 t0_2 t1_2 t2_2 t3_2 t4_2 t5_2
  have HPL := hide (plain_any z2)
  go_wp2_with fail
  refine HPL.out.mono ?_
  rintro e z3 ⟨rfl, b3⟩
  have HB4 := hide (HB3.out.trans (b3.mono HB3.out.size))
  have HHE := hide (show Calls Try.prog 16 #[.pointer (some ⟨c, 0, none⟩), .agg (pl.cells none 0 0), .agg #[.int .u16 2, .int .u8 0, .int .u8 0, .int .u8 0, .int .u8 0, .int .u8 0, .int .u8 0, .int .u8 0, .int .u8 0, .int .u8 0, .int .u8 0, .int .u8 0, .int .u8 0, .int .u32 3232235783, .int .u32 0], .int .u64 1] z3 fun e w' => ∃ a' c', e = .returned (.tuple #[.agg #[.int .u16 0, .int .u8 0, .int .u8 0, .int .u8 0, .int .u8 0, .int .u8 0, .int .u8 0, .int .u8 0, .int .u8 0, .int .u8 0, .int .u8 0, .int .u8 0, .int .u8 0, .int .u32 0, .int .u32 0], .bool false, .slice a' 2 c']) ∧ Below w.heap.size z3 w' from
    (hear_any w.heap.size c [] _ _ (pl.cells none 0 0) 3232235777 24 plG xa 1 z3 (HC3.out.below b3) HB4.out.size cfn_pl (by decide) xa_ok (fun V hV hKV => learn_room w.heap.size c [] _ 3232235783 (arNH xa) 1 V hV hKV (by simp) (by decide) (by decide) (by decide) (.inr (by decide)))).mono fun e w' h => by
      rcases h with ⟨h1, _⟩ | ⟨_, a', n', c', h1, a4, n4, c4, h2, h3, _, _, _, h5, _⟩
      · rw [bel_pl] at h1; cases h1
      · injection h2 with h2
        injection h2 with _ h2 _
        refine ⟨a', c', ?_, h5⟩
        rw [h1, h2, h3]
        rfl)
  clear b3 HPL HC3 HB3
  go_wp2_with fail
  refine HHE.out.mono ?_
  rintro e z4 ⟨a5, c5, rfl, b5⟩
  have HB5 := hide (HB4.out.trans b5)
  clear b5 HHE HB4
  go_wp2_with fail
  go_ret
  exact ⟨rfl, HB5.out.trans (((Below.refl _ _).alloc (Nat.le_refl _) _).mono HB5.out.size)⟩
end Go.Proofs.Ytbibobjkclgogaa
