/- Ssdp: what is told of the device, against the document. -/
import Derived.Test.YtonoaopioifedaaGreatDoorSTf
namespace Go.Proofs.YtonoaopioifedaaGreatDoor
open Go.RowKit Go.Shelf Go.Deep
set_option linter.unusedVariables false
set_option linter.unusedSimpArgs false
set_option maxRecDepth 100000
theorem cfg_cfs (c : Cfg) (a : Option Addr) (n cap : Nat) : CfS (c.cells a n cap) c.lan c.uuid.data.toList := ⟨rfl, rfl, by show some (Value.string c.uuid) = some (Value.string (bt c.uuid.data.toList)); rw [show bt c.uuid.data.toList = c.uuid from by cases c.uuid; simp [bt]]⟩
theorem bt_back (s : ByteArray) : bt s.data.toList = s := by cases s; simp [bt]
set_option maxHeartbeats 8000000 in
theorem ssdpTells_any (c : Cfg) (fa : Option Addr) (fn fc : Nat) (most : Int) (w : World) (hp : PT w) (hE : H.Env w) (hlan : c.lan ≤ 4294967295) (hus : c.uuid.size ≤ 9223372036854775807) (hfn : fn ≤ 9223372036854775807) :
    Calls Tryz.prog 4 #[.agg (c.cells fa fn fc), .int .i64 most] w fun e w' => e = .returned (.bool true) ∧ Below w.heap.size w w' := by
  have hcf := cfg_cfs c fa fn fc
  have h25 : (c.cells fa fn fc)[25]? = some (.slice fa fn fc) := rfl
  obtain ⟨u, hu⟩ : ∃ u, c.uuid.data.toList = u := ⟨_, rfl⟩
  rw [hu] at hcf
  obtain ⟨ad, had⟩ : ∃ u, c.lan = u := ⟨_, rfl⟩
  rw [had] at hcf hlan
  obtain ⟨cs, hcs⟩ : ∃ cs, c.cells fa fn fc = cs := ⟨_, rfl⟩
  rw [hcs] at hcf h25 ⊢
  have HGR := hide (fun V => great_any cs u fa fn fc hcf.size hcf.uuid h25 V)
  have HCF := hide hcf
  have HSZ := hide hcf.size
  have HLA := hide hlan
  have HPT := hide (And.intro hp hE)
  obtain ⟨W1, hW1⟩ : ∃ V, w.alloc (.cells cs 28) = V := ⟨_, rfl⟩
  obtain ⟨W2, hW2⟩ : ∃ V, W1.alloc (.cells #[.int .i64 most] 3) = V := ⟨_, rfl⟩
  have hb1 : Below w.heap.size w W1 := by rw [← hW1]; exact (Below.refl _ _).alloc (Nat.le_refl _) _
  have hb2 : Below W1.heap.size W1 W2 := by rw [← hW2]; exact (Below.refl _ _).alloc (Nat.le_refl _) _
  obtain ⟨CC, hCC⟩ : ∃ g, w.heap.size = g := ⟨_, rfl⟩
  obtain ⟨BM, hBM⟩ : ∃ g, CC + 1 = g := ⟨_, rfl⟩
  have hz1 : W1.heap.size = BM := by rw [← hW1, ← hBM, ← hCC]; simp
  have HC2 := hide (show W2.heap[CC]? = some (.cells cs 28 (0, 0)) from below_blk hb2 (by rw [← hW1, ← hCC]; exact heap_alloc_new _ _) (Nat.le_refl _))
  have HM2 := hide (show W2.heap[BM]? = some (.cells #[.int .i64 most] 3 (0, 0)) from by rw [← hz1, ← hW2]; exact heap_alloc_new _ _)
  have HE := hide (show (w.alloc (.cells cs 28)).alloc (.cells #[.int .i64 most] 3) = W2 from by rw [hW1]; exact hW2)
  have HZ := hide (And.intro hCC hBM)
  have HWW := hide (hb1.trans (hb2.mono hb1.size))
  have HSP := hide (speaks_any W2 (hp.below HWW.out (Nat.le_refl _)) (hE.below HWW.out (Nat.le_refl _)))
  clear hcf h25 hu had hcs hW1 hW2 hb1 hb2 hCC hBM hz1 hp hE hlan hus hfn
  go_enter Tryz.func4, Tryz.ntmps4
  go_upto_region 1 with (fail)
  rw [HE.out]
  rw [HZ.out.1]
  rw [HZ.out.2]
  go_wp2_with fail
  refine HSP.out.mono ?_
  rintro e w3 ⟨rfl, b3⟩
  have HC3 := hide (below_blk b3 HC2.out (Nat.le_refl _))
  have HM3 := hide (below_blk b3 HM2.out (Nat.le_refl _))
  have HW3 := hide (HWW.out.trans (b3.mono HWW.out.size))
  clear b3 HSP HC2 HM2 HWW HE
  go_wp2_with ((refine ld_cfg (o := ⟨some 11, _, _, _, _, _⟩) (.tmp 2) rfl (by rfl) CC rfl cs HC3.out HSZ.out ?_; try simp only [Act.put, List.setIfInBounds_toArray, List.set_cons_zero, List.set_cons_succ]))
  refine (HGR.out _).mono ?_
  rintro e w4 ⟨rfl, b4⟩
  have HC4 := hide (below_blk b4 HC3.out (Nat.le_refl _))
  have HM4 := hide (below_blk b4 HM3.out (Nat.le_refl _))
  have HW4 := hide (HW3.out.trans (b4.mono HW3.out.size))
  clear b4 HGR HC3 HM3 HW3
  obtain ⟨gr, hgr⟩ : ∃ b, (decide (300 < u.length) || decide (100 < fn)) = b := ⟨_, rfl⟩
  rw [hgr]
  cases gr with
  | true =>
    go_wp2_with fail
    go_ret
    exact ⟨rfl, HW4.out⟩
  | false =>
    have hul : u.length ≤ 900 := by
      rw [Bool.or_eq_false_iff] at hgr
      have := of_decide_eq_false hgr.1
      omega
    have HNM := hide (rnames_any cs ad u HCF.out w4 hul)
    have HOL := hide (show (sUu ++ u).length ≤ 1000 from by unfold sUu; simp only [List.length_append, List.length_cons, List.length_nil]; omega)
    have HUL := hide hul
    clear hgr hul
    go_wp2_with ((refine ld_cfg (o := ⟨some 14, _, _, _, _, _⟩) (.tmp 2) rfl (by rfl) CC rfl cs HC4.out HSZ.out ?_; try simp only [Act.put, List.setIfInBounds_toArray, List.set_cons_zero, List.set_cons_succ]))
    refine HNM.out.mono ?_
    rintro e w5 ⟨xa, xc, ya, yc, rfl, hx, hy, _, b5⟩
    have HX := hide hx
    have HY := hide hy
    have HC5 := hide (below_blk b5 HC4.out (Nat.le_refl _))
    have HM5 := hide (below_blk b5 HM4.out (Nat.le_refl _))
    have HW5 := hide (HW4.out.trans (b5.mono HW4.out.size))
    clear hx hy b5 HNM HC4 HM4 HW4
    obtain ⟨BX, hBX⟩ : ∃ b, w5.heap.size = b := ⟨_, rfl⟩
    obtain ⟨BY, hBY⟩ : ∃ b, BX + 1 = b := ⟨_, rfl⟩
    obtain ⟨BI, hBI⟩ : ∃ b, BY + 1 = b := ⟨_, rfl⟩
    obtain ⟨BO, hBO⟩ : ∃ b, BI + 1 = b := ⟨_, rfl⟩
    obtain ⟨v1, hv1⟩ : ∃ V, w5.alloc (.cells #[.slice xa 6 xc] 35) = V := ⟨_, rfl⟩
    obtain ⟨v2, hv2⟩ : ∃ V, v1.alloc (.cells #[.slice ya 6 yc] 35) = V := ⟨_, rfl⟩
    obtain ⟨v3, hv3⟩ : ∃ V, v2.alloc (.cells #[.int .i64 0] 3) = V := ⟨_, rfl⟩
    obtain ⟨v4, hv4⟩ : ∃ V, v3.alloc (.cells #[.bool true] 4) = V := ⟨_, rfl⟩
    have a1 : Below w5.heap.size w5 v1 := by rw [← hv1]; exact (Below.refl _ _).alloc (Nat.le_refl _) _
    have a2 : Below v1.heap.size v1 v2 := by rw [← hv2]; exact (Below.refl _ _).alloc (Nat.le_refl _) _
    have a3 : Below v2.heap.size v2 v3 := by rw [← hv3]; exact (Below.refl _ _).alloc (Nat.le_refl _) _
    have a4 : Below v3.heap.size v3 v4 := by rw [← hv4]; exact (Below.refl _ _).alloc (Nat.le_refl _) _
    have z1 : v1.heap.size = BY := by rw [← hv1, ← hBY, ← hBX]; simp
    have z2 : v2.heap.size = BI := by rw [← hv2, ← hBI, ← z1]; simp
    have z3 : v3.heap.size = BO := by rw [← hv3, ← hBO, ← z2]; simp
    have x1 : v4.heap[BX]? = some (.cells #[.slice xa 6 xc] 35 (0, 0)) := below_blk a4 (below_blk a3 (below_blk a2 (by rw [← hv1, ← hBX]; exact heap_alloc_new _ _) (Nat.le_refl _)) (Nat.le_refl _)) (Nat.le_refl _)
    have x2 : v4.heap[BY]? = some (.cells #[.slice ya 6 yc] 35 (0, 0)) := below_blk a4 (below_blk a3 (by rw [← hv2, ← z1]; exact heap_alloc_new _ _) (Nat.le_refl _)) (Nat.le_refl _)
    have x3 : v4.heap[BI]? = some (.cells #[.int .i64 ((0 : Nat) : Int)] 3 (0, 0)) := below_blk a4 (by rw [← hv3, ← z2]; exact heap_alloc_new _ _) (Nat.le_refl _)
    have x4 : v4.heap[BO]? = some (.cells #[.bool true] 4 (0, 0)) := by rw [← hv4, ← z3]; exact heap_alloc_new _ _
    have b54 : Below w5.heap.size w5 v4 := a1.trans ((a2.trans ((a3.trans (a4.mono a3.size)).mono a2.size)).mono a1.size)
    have hlt5 := lt_of_block HM5.out
    have HTS := hide (show TS w5 BO BI BX BY BM (sUu ++ u) most 0 v4 from ⟨b54, x4, x3, ⟨xa, xc, x1, HX.out.below b54⟩, ⟨ya, yc, x2, HY.out.below b54⟩, below_blk b54 HM5.out (Nat.le_refl _)⟩)
    have HC6 := hide (below_blk b54 HC5.out (Nat.le_refl _))
    have HDD := hide (show w5.heap.size ≤ BO ∧ w5.heap.size ≤ BI ∧ (BO ≠ BI ∧ BO ≠ BX ∧ BO ≠ BY ∧ BO ≠ BM ∧ BI ≠ BX ∧ BI ≠ BY ∧ BI ≠ BM) from by omega)
    have HE6 := hide (show (((w5.alloc (.cells #[.slice xa 6 xc] 35)).alloc (.cells #[.slice ya 6 yc] 35)).alloc (.cells #[.int .i64 0] 3)).alloc (.cells #[.bool true] 4) = v4 from by rw [hv1, hv2, hv3, hv4])
    have HZ6 := hide (And.intro hBX (And.intro hBY (And.intro hBI hBO)))
    clear hBX hBY hBI hBO hv1 hv2 hv3 hv4 a1 a2 a3 a4 z1 z2 z3 x1 x2 x3 x4 b54 hlt5 HX HY
    go_upto_region 7 with (fail)
    rw [HE6.out]
    rw [HZ6.out.1]
    rw [HZ6.out.2.1]
    rw [HZ6.out.2.2.1]
    rw [HZ6.out.2.2.2]
    have HNA := hide (names_any cs ad u HCF.out v4 HUL.out)
    go_wp2_with ((refine ld_cfg (o := ⟨some 18, _, _, _, _, _⟩) (.tmp 2) rfl (by rfl) CC rfl cs HC6.out HSZ.out ?_; try simp only [Act.put, List.setIfInBounds_toArray, List.set_cons_zero, List.set_cons_succ]))
    refine HNA.out.mono ?_
    rintro e w6 ⟨P, rfl, hP, b6⟩
    have HTS6 := hide (HTS.out.next b6)
    have HC7 := hide (below_blk b6 HC6.out (Nat.le_refl _))
    have HNF := hide (nmsF_any w5 BO BI BX BY BM (sUu ++ u) HOL.out most P w6 HTS6.out hP HDD.out.1 HDD.out.2.1 HDD.out.2.2)
    have HNZ := hide (HTS6.out.below.size)
    clear hP b6 HNA HTS HC6 HE6 HZ6
    go_wp2_with fail
    refine HNF.out.mono ?_
    rintro e w7 ⟨⟨v, rfl⟩, k, hk1, hk6, hts, hk7, hk8⟩
    have HTS7 := hide hts
    have HC8 := hide ((hts.below.block CC (lt_of_block HC5.out)).trans HC5.out)
    have HW7 := hide (HW5.out.trans (hts.below.mono HW5.out.size))
    have hkm : max (min most 6) 1 = (k : Int) := by omega
    have HK := hide hkm
    clear hts hk7 hk8 HNF HTS6 HC7 HNZ HC5 HM5 HW5 HDD
    have HPT7 := hide (fun (V : World) (hV : Below w7.heap.size w7 V) => (HPT.out.1.below HW7.out (Nat.le_refl _)).below hV (Nat.le_refl _))
    have HAL := hide (fun (V : World) (hV : Below w7.heap.size w7 V) => alive_any cs ad u HCF.out V (HPT7.out V hV) HLA.out HUL.out)
    have HBY := hide (fun (V : World) (hV : Below w7.heap.size w7 V) => bye_any cs ad u HCF.out V (HPT7.out V hV) HLA.out HUL.out)
    have HNT := hide (fun (V : World) => rnotify_true cs ad u HCF.out V HLA.out HUL.out)
    have HNU := hide (fun (V : World) => rnotify_false cs ad u HCF.out V HLA.out HUL.out)
    have HSS := hide (fun (V : World) (hV : Below w7.heap.size w7 V) => And.intro (cfg_range (below_blk hV HC8.out (Nat.le_refl _))) (And.intro (cell_of_one (below_blk hV HTS7.out.ok (Nat.le_refl _))) (And.intro (cell_of_one (below_blk hV HTS7.out.i (Nat.le_refl _))) (cell_of_one (below_blk hV HTS7.out.m (Nat.le_refl _))))))
    have HW0 := hide (below_drew w7)
    generalize (namesL (sUu ++ u)).map (alvL (plcL (txt (qb ad) 4))) = LA at *
    generalize (namesL (sUu ++ u)).map byeL = LB at *
    go_wp2_with fail
    refine wp_region_held_drew (S := fun w' => w'.rangeAt CC 0 cs.toList ∧ (w'.cell? ⟨BO, 0, none⟩ = some (.bool true) ∧ (w'.cell? ⟨BI, 0, none⟩ = some (.int .i64 (k : Int)) ∧ w'.cell? ⟨BM, 0, none⟩ = some (.int .i64 most)))) (by kernel_rfl) (by exact HSS.out _ HW0.out) (fun hHeld => ?_)
    generalize w7.drew = z0 at *
    refine wpAnyH_take (i := 0) (oi := { dst := some 22, op := Op.load 4 (Operand.tmp 8), type := 4, pos := "law.go:69", after := #[], guard := none }) (v := ?_) rfl (by kernel_rfl) (by kernel_rfl) (by kernel_rfl) (fun _ _ _ h => h) (Or.inl ⟨by rfl, ?_⟩) (by assumption) ?_
    rotate_left
    · intro wS hSw
      try dsimp only at hSw
      go_simp
      try with_reducible rfl
    try simp only [Act.put, List.setIfInBounds_toArray, List.set_cons_zero, List.set_cons_succ]
    refine wpAnyH_take (i := 1) (oi := { dst := some 23, op := Op.move (Operand.tmp 22), type := 4, pos := "law.go:69", after := #[{ on := 0, ground := Ground.data }], guard := none }) (v := ?_) rfl (by kernel_rfl) (by kernel_rfl) (by kernel_rfl) (fun _ _ _ h => h) (Or.inl ⟨by rfl, ?_⟩) (by assumption) ?_
    rotate_left
    · intro wS hSw
      try dsimp only at hSw
      go_simp
      try with_reducible rfl
    try simp only [Act.put, List.setIfInBounds_toArray, List.set_cons_zero, List.set_cons_succ]
    refine wpAnyH_take (i := 2) (oi := { dst := some 24, op := Op.load 3 (Operand.tmp 7), type := 3, pos := "law.go:69", after := #[{ on := 1, ground := Ground.guard }], guard := some (1, true) }) (v := ?_) rfl (by kernel_rfl) (by kernel_rfl) (by kernel_rfl) (fun _ _ _ h => h) (Or.inl ⟨by rfl, ?_⟩) (by assumption) ?_
    rotate_left
    · intro wS hSw
      try dsimp only at hSw
      go_simp
      try with_reducible rfl
    try simp only [Act.put, List.setIfInBounds_toArray, List.set_cons_zero, List.set_cons_succ]
    refine wpAnyH_take (i := 3) (oi := { dst := some 25, op := Op.load 3 (Operand.tmp 3), type := 3, pos := "law.go:69", after := #[{ on := 1, ground := Ground.guard }], guard := some (1, true) }) (v := ?_) rfl (by kernel_rfl) (by kernel_rfl) (by kernel_rfl) (fun _ _ _ h => h) (Or.inl ⟨by rfl, ?_⟩) (by assumption) ?_
    rotate_left
    · intro wS hSw
      try dsimp only at hSw
      go_simp
      try with_reducible rfl
    try simp only [Act.put, List.setIfInBounds_toArray, List.set_cons_zero, List.set_cons_succ]
    refine wpAnyH_take (i := 4) (oi := { dst := some 26, op := Op.call { callee := Callee.builtin Builtin.min, args := #[Operand.tmp 25, Operand.const (Value.int IntKind.i64 6)], argTypes := #[3, 3] }, type := 3, pos := "law.go:69", after := #[{ on := 3, ground := Ground.data }, { on := 1, ground := Ground.guard }], guard := some (1, true) }) (v := ?_) rfl (by kernel_rfl) (by kernel_rfl) (by kernel_rfl) (fun _ _ _ h => h) (Or.inl ⟨by rfl, ?_⟩) (by assumption) ?_
    rotate_left
    · intro wS hSw
      try dsimp only at hSw
      go_simp
      try with_reducible rfl
    try simp only [Act.put, List.setIfInBounds_toArray, List.set_cons_zero, List.set_cons_succ]
    refine wpAnyH_take (i := 5) (oi := { dst := some 27, op := Op.call { callee := Callee.builtin Builtin.max, args := #[Operand.tmp 26, Operand.const (Value.int IntKind.i64 1)], argTypes := #[3, 3] }, type := 3, pos := "law.go:69", after := #[{ on := 4, ground := Ground.data }, { on := 1, ground := Ground.guard }], guard := some (1, true) }) (v := ?_) rfl (by kernel_rfl) (by kernel_rfl) (by kernel_rfl) (fun _ _ _ h => h) (Or.inl ⟨by rfl, ?_⟩) (by assumption) ?_
    rotate_left
    · intro wS hSw
      try dsimp only at hSw
      go_simp
      try with_reducible rfl
    try simp only [Act.put, List.setIfInBounds_toArray, List.set_cons_zero, List.set_cons_succ]
    refine wpAnyH_take (i := 6) (oi := { dst := some 28, op := Op.binOp BinOp.eql 3 (Operand.tmp 24) (Operand.tmp 27) 3, type := 4, pos := "law.go:69", after := #[{ on := 2, ground := Ground.data }, { on := 5, ground := Ground.data }, { on := 1, ground := Ground.guard }], guard := some (1, true) }) (v := ?_) rfl (by kernel_rfl) (by kernel_rfl) (by kernel_rfl) (fun _ _ _ h => h) (Or.inl ⟨by rfl, ?_⟩) (by assumption) ?_
    rotate_left
    · intro wS hSw
      try dsimp only at hSw
      go_simp
      try with_reducible rfl
    try simp only [Act.put, List.setIfInBounds_toArray, List.set_cons_zero, List.set_cons_succ]
    refine wpAnyH_take (i := 7) (oi := { dst := some 29, op := Op.pick (Operand.tmp 23) (Operand.tmp 28) (Operand.const (Value.bool false)), type := 4, pos := "law.go:69", after := #[{ on := 1, ground := Ground.data }, { on := 6, ground := Ground.data }], guard := none }) (v := ?_) rfl (by kernel_rfl) (by kernel_rfl) (by kernel_rfl) (fun _ _ _ h => h) (Or.inl ⟨by rfl, ?_⟩) (by assumption) ?_
    rotate_left
    · intro wS hSw
      try dsimp only at hSw
      go_simp
      try with_reducible rfl
    try simp only [Act.put, List.setIfInBounds_toArray, List.set_cons_zero, List.set_cons_succ]
    refine wpAnyH_take (i := 8) (oi := { dst := some 30, op := Op.move (Operand.tmp 29), type := 4, pos := "law.go:69", after := #[{ on := 7, ground := Ground.data }, { on := 1, ground := Ground.chain }], guard := none }) (v := ?_) rfl (by kernel_rfl) (by kernel_rfl) (by kernel_rfl) (fun _ _ _ h => h) (Or.inl ⟨by rfl, ?_⟩) (by assumption) ?_
    rotate_left
    · intro wS hSw
      try dsimp only at hSw
      go_simp
      try with_reducible rfl
    try simp only [Act.put, List.setIfInBounds_toArray, List.set_cons_zero, List.set_cons_succ]
    refine wpAnyH_take (i := 9) (oi := { dst := some 31, op := Op.load 28 (Operand.tmp 2), type := 28, pos := "law.go:69", after := #[{ on := 8, ground := Ground.guard }], guard := some (8, true) }) (v := .agg cs) rfl (by kernel_rfl) (by kernel_rfl) (by kernel_rfl) (fun _ _ _ h => h) (yl_cfg (by rfl) _ rfl CC rfl cs (fun w h => h.1) HSZ.out) (by assumption) ?_
    try simp only [Act.put, List.setIfInBounds_toArray, List.set_cons_zero, List.set_cons_succ]
    refine wpAnyH_take (i := 11) (oi := { dst := some 33, op := Op.load 28 (Operand.tmp 2), type := 28, pos := "law.go:69", after := #[{ on := 8, ground := Ground.guard }], guard := some (8, true) }) (v := .agg cs) rfl (by kernel_rfl) (by kernel_rfl) (by kernel_rfl) (fun _ _ _ h => h) (yl_cfg (by rfl) _ rfl CC rfl cs (fun w h => h.1) HSZ.out) (by assumption) ?_
    try simp only [Act.put, List.setIfInBounds_toArray, List.set_cons_zero, List.set_cons_succ]
    refine wpAnyH_ready (rs := [10]) (by kernel_rfl) (by simp) ?_
    refine AllReadyH.cons (o := { dst := some 32, op := Op.call { callee := Callee.value (Operand.func 15), args := #[Operand.tmp 31], argTypes := #[28] }, type := 32, pos := "law.go:69", after := #[{ on := 9, ground := Ground.data }, { on := 8, ground := Ground.chain }, { on := 8, ground := Ground.guard }], guard := some (8, true) }) rfl (fun K hK => ?_) ?_
    ·
      go_simp
      go_at_call 15
      refine (HAL.out z0 HW0.out).mono ?_
      rintro e z1 ⟨a1, c1, rfl, ha1, b9⟩
      have HB1 := hide (HW0.out.trans (b9.mono HW0.out.size))
      have HA1 := hide ha1
      clear ha1
      clear b9
      refine hK.out _ _ (HSS.out _ HB1.out) (fun hHeld1 => ?_)
      clear hK K
      try simp only [Act.put, List.setIfInBounds_toArray, List.set_cons_zero, List.set_cons_succ]
      refine wpAnyH_ready (rs := [12]) (by kernel_rfl) (by simp) ?_
      refine AllReadyH.cons (o := { dst := some 34, op := Op.call { callee := Callee.value (Operand.func 16), args := #[Operand.tmp 33, Operand.const (Value.bool true)], argTypes := #[28, 4] }, type := 35, pos := "law.go:69", after := #[{ on := 11, ground := Ground.data }, { on := 10, ground := Ground.chain }, { on := 8, ground := Ground.guard }], guard := some (8, true) }) rfl (fun K hK => ?_) ?_
      ·
        go_simp
        go_at_call 16
        refine (HNT.out z1).mono ?_
        rintro e z2 ⟨d2, e2, rfl, hr2, b9⟩
        have HB2 := hide (HB1.out.trans (b9.mono HB1.out.size))
        have HR2 := hide hr2
        have HA1 := hide (HA1.out.below b9)
        clear hr2
        clear b9
        refine hK.out _ _ (HSS.out _ HB2.out) (fun hHeld2 => ?_)
        clear hK K
        try simp only [Act.put, List.setIfInBounds_toArray, List.set_cons_zero, List.set_cons_succ]
        refine wpAnyH_ready (rs := [13]) (by kernel_rfl) (by simp) ?_
        refine AllReadyH.cons (o := { dst := some 35, op := Op.call { callee := Callee.value (Operand.func 10), args := #[Operand.tmp 32, Operand.tmp 34], argTypes := #[32, 35] }, type := 4, pos := "law.go:69", after := #[{ on := 10, ground := Ground.data }, { on := 12, ground := Ground.data }, { on := 12, ground := Ground.chain }, { on := 8, ground := Ground.guard }], guard := some (8, true) }) rfl (fun K hK => ?_) ?_
        ·
          go_simp
          go_at_call 10
          refine (alike_any z2 _ a1 d2 6 c1 6 e2 LA LA HA1.out HR2.out (by decide) (by decide)).mono ?_
          rintro e z3 ⟨rfl, b9⟩
          have HB3 := hide (HB2.out.trans (b9.mono HB2.out.size))
          have ht3 : decide (LA = LA) = true := decide_eq_true rfl
          rw [ht3]
          clear ht3
          clear b9
          refine hK.out _ _ (HSS.out _ HB3.out) (fun hHeld3 => ?_)
          clear hK K
          try simp only [Act.put, List.setIfInBounds_toArray, List.set_cons_zero, List.set_cons_succ]
          refine wpAnyH_take (i := 14) (oi := { dst := some 36, op := Op.pick (Operand.tmp 30) (Operand.tmp 35) (Operand.const (Value.bool false)), type := 4, pos := "law.go:69", after := #[{ on := 8, ground := Ground.data }, { on := 13, ground := Ground.data }], guard := none }) (v := ?_) rfl (by kernel_rfl) (by kernel_rfl) (by kernel_rfl) (fun _ _ _ h => h) (Or.inl ⟨by rfl, ?_⟩) (by assumption) ?_
          rotate_left
          · intro wS hSw
            try dsimp only at hSw
            go_simp
            try with_reducible rfl
          try simp only [Act.put, List.setIfInBounds_toArray, List.set_cons_zero, List.set_cons_succ]
          refine wpAnyH_take (i := 15) (oi := { dst := some 37, op := Op.move (Operand.tmp 36), type := 4, pos := "law.go:69", after := #[{ on := 14, ground := Ground.data }, { on := 13, ground := Ground.chain }], guard := none }) (v := ?_) rfl (by kernel_rfl) (by kernel_rfl) (by kernel_rfl) (fun _ _ _ h => h) (Or.inl ⟨by rfl, ?_⟩) (by assumption) ?_
          rotate_left
          · intro wS hSw
            try dsimp only at hSw
            go_simp
            try with_reducible rfl
          try simp only [Act.put, List.setIfInBounds_toArray, List.set_cons_zero, List.set_cons_succ]
          refine wpAnyH_take (i := 16) (oi := { dst := some 38, op := Op.load 28 (Operand.tmp 2), type := 28, pos := "law.go:69", after := #[{ on := 15, ground := Ground.guard }], guard := some (15, true) }) (v := .agg cs) rfl (by kernel_rfl) (by kernel_rfl) (by kernel_rfl) (fun _ _ _ h => h) (yl_cfg (by rfl) _ rfl CC rfl cs (fun w h => h.1) HSZ.out) (by assumption) ?_
          try simp only [Act.put, List.setIfInBounds_toArray, List.set_cons_zero, List.set_cons_succ]
          refine wpAnyH_take (i := 18) (oi := { dst := some 40, op := Op.load 28 (Operand.tmp 2), type := 28, pos := "law.go:69", after := #[{ on := 15, ground := Ground.guard }], guard := some (15, true) }) (v := .agg cs) rfl (by kernel_rfl) (by kernel_rfl) (by kernel_rfl) (fun _ _ _ h => h) (yl_cfg (by rfl) _ rfl CC rfl cs (fun w h => h.1) HSZ.out) (by assumption) ?_
          try simp only [Act.put, List.setIfInBounds_toArray, List.set_cons_zero, List.set_cons_succ]
          refine wpAnyH_ready (rs := [17]) (by kernel_rfl) (by simp) ?_
          refine AllReadyH.cons (o := { dst := some 39, op := Op.call { callee := Callee.value (Operand.func 17), args := #[Operand.tmp 38], argTypes := #[28] }, type := 32, pos := "law.go:69", after := #[{ on := 16, ground := Ground.data }, { on := 15, ground := Ground.chain }, { on := 15, ground := Ground.guard }], guard := some (15, true) }) rfl (fun K hK => ?_) ?_
          ·
            go_simp
            go_at_call 17
            refine (HBY.out z3 HB3.out).mono ?_
            rintro e z4 ⟨a4, c4, rfl, ha4, b9⟩
            have HB4 := hide (HB3.out.trans (b9.mono HB3.out.size))
            have HA4 := hide ha4
            clear ha4
            clear b9
            refine hK.out _ _ (HSS.out _ HB4.out) (fun hHeld4 => ?_)
            clear hK K
            try simp only [Act.put, List.setIfInBounds_toArray, List.set_cons_zero, List.set_cons_succ]
            refine wpAnyH_ready (rs := [19]) (by kernel_rfl) (by simp) ?_
            refine AllReadyH.cons (o := { dst := some 41, op := Op.call { callee := Callee.value (Operand.func 16), args := #[Operand.tmp 40, Operand.const (Value.bool false)], argTypes := #[28, 4] }, type := 35, pos := "law.go:69", after := #[{ on := 18, ground := Ground.data }, { on := 17, ground := Ground.chain }, { on := 15, ground := Ground.guard }], guard := some (15, true) }) rfl (fun K hK => ?_) ?_
            ·
              go_simp
              go_at_call 16
              refine (HNU.out z4).mono ?_
              rintro e z5 ⟨d5, e5, rfl, hr5, b9⟩
              have HB5 := hide (HB4.out.trans (b9.mono HB4.out.size))
              have HR5 := hide hr5
              have HA4 := hide (HA4.out.below b9)
              clear hr5
              clear b9
              refine hK.out _ _ (HSS.out _ HB5.out) (fun hHeld5 => ?_)
              clear hK K
              try simp only [Act.put, List.setIfInBounds_toArray, List.set_cons_zero, List.set_cons_succ]
              refine wpAnyH_ready (rs := [20]) (by kernel_rfl) (by simp) ?_
              refine AllReadyH.cons (o := { dst := some 42, op := Op.call { callee := Callee.value (Operand.func 10), args := #[Operand.tmp 39, Operand.tmp 41], argTypes := #[32, 35] }, type := 4, pos := "law.go:69", after := #[{ on := 17, ground := Ground.data }, { on := 19, ground := Ground.data }, { on := 19, ground := Ground.chain }, { on := 15, ground := Ground.guard }], guard := some (15, true) }) rfl (fun K hK => ?_) ?_
              ·
                go_simp
                go_at_call 10
                refine (alike_any z5 _ a4 d5 6 c4 6 e5 LB LB HA4.out HR5.out (by decide) (by decide)).mono ?_
                rintro e z6 ⟨rfl, b9⟩
                have HB6 := hide (HB5.out.trans (b9.mono HB5.out.size))
                have ht3 : decide (LB = LB) = true := decide_eq_true rfl
                rw [ht3]
                clear ht3
                clear b9
                refine hK.out _ _ (HSS.out _ HB6.out) (fun hHeld6 => ?_)
                clear hK K
                try simp only [Act.put, List.setIfInBounds_toArray, List.set_cons_zero, List.set_cons_succ]
                refine wpAnyH_take (i := 21) (oi := { dst := some 43, op := Op.pick (Operand.tmp 37) (Operand.tmp 42) (Operand.const (Value.bool false)), type := 4, pos := "law.go:69", after := #[{ on := 15, ground := Ground.data }, { on := 20, ground := Ground.data }], guard := none }) (v := ?_) rfl (by kernel_rfl) (by kernel_rfl) (by kernel_rfl) (fun _ _ _ h => h) (Or.inl ⟨by rfl, ?_⟩) (by assumption) ?_
                rotate_left
                · intro wS hSw
                  try dsimp only at hSw
                  go_simp
                  try with_reducible rfl
                try simp only [Act.put, List.setIfInBounds_toArray, List.set_cons_zero, List.set_cons_succ]
                refine wpAnyH_take (i := 22) (oi := { dst := some 4, op := Op.assign (Operand.tmp 43), type := 4, pos := "law.go:69", after := #[{ on := 21, ground := Ground.data }, { on := 20, ground := Ground.chain }, { on := 0, ground := Ground.phase }, { on := 1, ground := Ground.phase }, { on := 2, ground := Ground.phase }, { on := 3, ground := Ground.phase }, { on := 4, ground := Ground.phase }, { on := 5, ground := Ground.phase }, { on := 6, ground := Ground.phase }, { on := 7, ground := Ground.phase }, { on := 8, ground := Ground.phase }, { on := 9, ground := Ground.phase }, { on := 10, ground := Ground.phase }, { on := 11, ground := Ground.phase }, { on := 12, ground := Ground.phase }, { on := 13, ground := Ground.phase }, { on := 14, ground := Ground.phase }, { on := 15, ground := Ground.phase }, { on := 16, ground := Ground.phase }, { on := 17, ground := Ground.phase }, { on := 18, ground := Ground.phase }, { on := 19, ground := Ground.phase }, { on := 20, ground := Ground.phase }, { on := 21, ground := Ground.phase }], guard := none }) (v := ?_) rfl (by kernel_rfl) (by kernel_rfl) (by kernel_rfl) (fun _ _ _ h => h) (Or.inl ⟨by rfl, ?_⟩) (by assumption) ?_
                rotate_left
                · intro wS hSw
                  try dsimp only at hSw
                  go_simp
                  try with_reducible rfl
                try simp only [Act.put, List.setIfInBounds_toArray, List.set_cons_zero, List.set_cons_succ]
                refine wpAnyH_done (by kernel_rfl) ?_ _
                go_wp2_with fail
                go_ret
                exact ⟨rfl, HW7.out.trans (HB6.out.mono HW7.out.size)⟩
              exact AllReadyH.nil
            exact AllReadyH.nil
          exact AllReadyH.nil
        exact AllReadyH.nil
      exact AllReadyH.nil
    exact AllReadyH.nil
end Go.Proofs.YtonoaopioifedaaGreatDoor
