/- neigh: Learn, where there is none. -/
import Derived.Test.YtbibobjkclgogaaNLn
import Derived.Test.YtbibobjkclgogaaNFi
import Derived.Test.YtbibobjkclgogaaRegU
import Derived.Deep.RegionWith
namespace Go.Proofs.Ytbibobjkclgogaa
open Go.RowKit Go.Deep Go.Shelf
set_option linter.unusedVariables false
set_option linter.unusedSimpArgs false
set_option maxRecDepth 100000
set_option maxHeartbeats 2000000 in
theorem learn_full (K c : Nat) (y0 : D.KV) (Lr : List D.KV) (H : List HV) (k : Int) (v : NH) (now : Int) (w : World) (h : CAt w K c (y0 :: Lr) H) (hK : K ≤ w.heap.size) (hl : H.length ≤ 1000) (hL : (y0 :: Lr).length = 256) (h0 : 0 ≤ now) (h1 : now ≤ 18446744073709551615) (hr : hasL id k (y0 :: Lr) = false) :
    Calls Try.prog 14 #[.pointer (some ⟨c, 0, none⟩), .int .u32 k, .agg #[.int .u8 v.m0, .int .u8 v.m1, .int .u8 v.m2, .int .u8 v.m3, .int .u8 v.m4, .int .u8 v.m5], .int .u64 now] w (GiveAns K c (insL id k { v with e := laterI now } (delL id (bst y0 (y0 :: Lr)).1 (y0 :: Lr))) H k w) := by
  have hdl : (delL id (bst y0 (y0 :: Lr)).1 (y0 :: Lr)).length < 256 := by
    have h2 : hasL id (bst y0 (y0 :: Lr)).1 (y0 :: Lr) = true := by
      rcases bst_mem y0 (y0 :: Lr) with h | h
      · rw [h]; exact hasL_iff.2 ⟨y0, by simp, rfl⟩
      · exact hasL_iff.2 ⟨_, h, rfl⟩
    have := del_lt h2
    omega
  have HDL := hide hdl
  clear hdl
  obtain ⟨tb, a, n, cap, hx⟩ := h
  obtain ⟨W, hW⟩ : ∃ W, w.alloc (.cells #[.int .u8 v.m0, .int .u8 v.m1, .int .u8 v.m2, .int .u8 v.m3, .int .u8 v.m4, .int .u8 v.m5] 23) = W := ⟨_, rfl⟩
  have q1 : W.heap[w.heap.size]? = some (.cells #[.int .u8 v.m0, .int .u8 v.m1, .int .u8 v.m2, .int .u8 v.m3, .int .u8 v.m4, .int .u8 v.m5] 23 (0, 0)) := by rw [← hW]; exact heap_alloc_new _ _
  have b1 : Below w.heap.size w W := by rw [← hW]; exact (Below.refl _ _).alloc (Nat.le_refl _) _
  obtain ⟨M, hM⟩ : ∃ M, w.heap.size = M := ⟨_, rfl⟩
  rw [hM] at q1
  have HE := hide (And.intro hW hM)
  have HB := hide b1
  have HX := hide (hx.below b1)
  have HH := hide (And.intro hK (And.intro hl (And.intro hL hr)))
  obtain ⟨m0, m1, m2, m3, m4, m5, mf⟩ := cells6 q1
  have lM := lt_of_block q1
  have HLT := hide (fun (V : World) => later_any now V h0 h1)
  obtain ⟨ee, hee⟩ : ∃ ee, laterI now = ee := ⟨_, rfl⟩
  rw [hee] at HLT
  have HEE := hide hee
  clear hW hM b1 q1 hx hK hl hL hr h0 h1 hee
  go_enter Try.func14, Try.ntmps14
  go_upto_region 1 with (fail)
  rw [HE.out.1]
  try rw [HE.out.2]
  rename_i K' hK'
  have hal : Below W.heap.size W (W.alloc (.cells #[.int .u8 v.m0, .int .u8 v.m1, .int .u8 v.m2, .int .u8 v.m3, .int .u8 v.m4, .int .u8 v.m5, .int .u64 ee] 68)) := (Below.refl _ _).alloc (Nat.le_refl _) _
  have HE9 := hide (show (W.alloc (.cells #[.int .u8 v.m0, .int .u8 v.m1, .int .u8 v.m2, .int .u8 v.m3, .int .u8 v.m4, .int .u8 v.m5, .int .u64 ee] 68)).drew.heap[W.heap.size]? = some (.cells #[.int .u8 v.m0, .int .u8 v.m1, .int .u8 v.m2, .int .u8 v.m3, .int .u8 v.m4, .int .u8 v.m5, .int .u64 ee] 68 (0, 0)) from heap_alloc_new W _)
  have HB9 := hide (HB.out.trans ((hal.drew).mono HB.out.size))
  have HX9 := hide (HX.out.below hal.drew)
  obtain ⟨W2, hW2⟩ : ∃ W2, (W.alloc (.cells #[.int .u8 v.m0, .int .u8 v.m1, .int .u8 v.m2, .int .u8 v.m3, .int .u8 v.m4, .int .u8 v.m5, .int .u64 ee] 68)).drew = W2 := ⟨_, rfl⟩
  rw [hW2] at HE9 HB9 HX9
  have HW2 := hide hW2
  obtain ⟨E, hE⟩ : ∃ E, W.heap.size = E := ⟨_, rfl⟩
  rw [hE] at HE9
  have HEQ := hide hE
  have REST : K' { tmps := #[.pointer (some ⟨c, 0, none⟩), .int .u32 k, .agg #[.int .u8 v.m0, .int .u8 v.m1, .int .u8 v.m2, .int .u8 v.m3, .int .u8 v.m4, .int .u8 v.m5], .int .u64 now, undef, undef, .pointer (some ⟨M, 0, none⟩), undef, .slice none 0 0, .pointer (some ⟨E, 0, none⟩), .agg #[.int .u8 v.m0, .int .u8 v.m1, .int .u8 v.m2, .int .u8 v.m3, .int .u8 v.m4, .int .u8 v.m5], .int .u64 now, .int .u64 ee, .agg #[.int .u8 v.m0, .int .u8 v.m1, .int .u8 v.m2, .int .u8 v.m3, .int .u8 v.m4, .int .u8 v.m5, .int .u64 ee], undef, undef, undef, undef, undef, undef, undef, undef, undef, undef, undef, undef, undef, undef, undef, undef, undef, undef, undef, undef, undef, undef, undef, undef, undef], defers := [] } W2 := by
    clear hW2 hE hal m0 m1 m2 m3 m4 m5 mf lM
    refine hK' _ _ ?_
    clear hK'
    obtain ⟨c0, _, cf⟩ := two_cells HX9.out.blk
    have lc := lt_of_block HX9.out.blk
    obtain ⟨x0, x1, x2, x3, x4, x5, x6, xf⟩ := cells7 HE9.out
    have le := lt_of_block HE9.out
    have nC : ¬ c = tb := HX9.out.tyC.ne HX9.out.tyT (by decide)
    have nE : ¬ E = tb := TyB.ne ⟨_, _, HE9.out⟩ HX9.out.tyT (by decide)
    have HPUT := hide (D.PutF (HX9.out.tab.below (Below.refl W2.heap.size W2).drew (Nat.le_refl _)) D.oF_ord k { v with e := ee } (by have := HH.out.2.2.1; omega) HH.out.2.2.2 (by have := HH.out.2.2.1; omega))
    clear cf xf
    go_wp2_with fail
    have HZ0 := hide (show Below W2.heap.size W2 W2.drew from (Below.refl _ _).drew)
    refine wp_region_held_drew (S := fun w' => w'.cell? ⟨c, 0, none⟩ = some (.pointer (some ⟨tb, 0, none⟩)) ∧ w'.cell? ⟨E, 0, none⟩ = some (.int .u8 v.m0) ∧ w'.cell? ⟨E, 1, none⟩ = some (.int .u8 v.m1) ∧ w'.cell? ⟨E, 2, none⟩ = some (.int .u8 v.m2) ∧ w'.cell? ⟨E, 3, none⟩ = some (.int .u8 v.m3) ∧ w'.cell? ⟨E, 4, none⟩ = some (.int .u8 v.m4) ∧ w'.cell? ⟨E, 5, none⟩ = some (.int .u8 v.m5) ∧ w'.cell? ⟨E, 6, none⟩ = some (.int .u64 ee)) (by kernel_rfl) (by exact ⟨(HZ0.out.cell (p := ⟨c, 0, none⟩) lc).trans c0, (HZ0.out.cell (p := ⟨E, 0, none⟩) le).trans x0, (HZ0.out.cell (p := ⟨E, 1, none⟩) le).trans x1, (HZ0.out.cell (p := ⟨E, 2, none⟩) le).trans x2, (HZ0.out.cell (p := ⟨E, 3, none⟩) le).trans x3, (HZ0.out.cell (p := ⟨E, 4, none⟩) le).trans x4, (HZ0.out.cell (p := ⟨E, 5, none⟩) le).trans x5, (HZ0.out.cell (p := ⟨E, 6, none⟩) le).trans x6⟩) (fun hHeld => ?_)
    refine wpAnyH_take (i := 0) (oi := { dst := some 14, op := Op.move (Operand.tmp 0), type := 31, pos := "neigh.go:33", after := #[], guard := none }) (v := ?_) rfl (by kernel_rfl) (by kernel_rfl) (by kernel_rfl) (fun _ _ _ h => h) (Or.inl ⟨by rfl, ?_⟩) (by assumption) ?_
    rotate_left
    · intro wS hSw
      try dsimp only at hSw
      go_simp
      try with_reducible rfl
    try simp only [Act.put, List.setIfInBounds_toArray, List.set_cons_zero, List.set_cons_succ]
    refine wpAnyH_take (i := 1) (oi := { dst := some 15, op := Op.nilCheck (Operand.tmp 14), type := 0, pos := "neigh.go:33", after := #[{ on := 0, ground := Ground.data }], guard := none }) (v := ?_) rfl (by kernel_rfl) (by kernel_rfl) (by kernel_rfl) (fun _ _ _ h => h) (Or.inl ⟨by rfl, ?_⟩) (by assumption) ?_
    rotate_left
    · intro wS hSw
      try dsimp only at hSw
      go_simp
      try with_reducible rfl
    try simp only [Act.put, List.setIfInBounds_toArray, List.set_cons_zero, List.set_cons_succ]
    refine wpAnyH_take (i := 2) (oi := { dst := some 16, op := Op.fieldAddr 72 (Operand.tmp 15) 0, type := 0, pos := "neigh.go:33", after := #[{ on := 1, ground := Ground.data }], guard := none }) (v := ?_) rfl (by kernel_rfl) (by kernel_rfl) (by kernel_rfl) (fun _ _ _ h => h) (Or.inl ⟨by rfl, ?_⟩) (by assumption) ?_
    rotate_left
    · intro wS hSw
      try dsimp only at hSw
      go_simp
      try with_reducible rfl
    try simp only [Act.put, List.setIfInBounds_toArray, List.set_cons_zero, List.set_cons_succ]
    refine wpAnyH_take (i := 3) (oi := { dst := some 17, op := Op.load 65 (Operand.tmp 16), type := 65, pos := "neigh.go:33", after := #[{ on := 2, ground := Ground.data }], guard := none }) (v := ?_) rfl (by kernel_rfl) (by kernel_rfl) (by kernel_rfl) (fun _ _ _ h => h) (Or.inl ⟨by rfl, ?_⟩) (by assumption) ?_
    rotate_left
    · intro wS hSw
      try dsimp only at hSw
      go_simp
      try with_reducible rfl
    try simp only [Act.put, List.setIfInBounds_toArray, List.set_cons_zero, List.set_cons_succ]
    refine wpAnyH_take (i := 4) (oi := { dst := some 18, op := Op.move (Operand.tmp 1), type := 25, pos := "neigh.go:33", after := #[], guard := none }) (v := ?_) rfl (by kernel_rfl) (by kernel_rfl) (by kernel_rfl) (fun _ _ _ h => h) (Or.inl ⟨by rfl, ?_⟩) (by assumption) ?_
    rotate_left
    · intro wS hSw
      try dsimp only at hSw
      go_simp
      try with_reducible rfl
    try simp only [Act.put, List.setIfInBounds_toArray, List.set_cons_zero, List.set_cons_succ]
    refine wpAnyH_take (i := 5) (oi := { dst := some 19, op := Op.load 68 (Operand.tmp 9), type := 68, pos := "neigh.go:33", after := #[], guard := none }) (v := ?_) rfl (by kernel_rfl) (by kernel_rfl) (by kernel_rfl) (fun _ _ _ h => h) (Or.inl ⟨by rfl, ?_⟩) (by assumption) ?_
    rotate_left
    · intro wS hSw
      try dsimp only at hSw
      go_simp
      try with_reducible rfl
    try simp only [Act.put, List.setIfInBounds_toArray, List.set_cons_zero, List.set_cons_succ]
    refine wpAnyH_ready (rs := [6]) (by kernel_rfl) (by simp) ?_
    refine AllReadyH.cons (o := { dst := some 20, op := Op.call { callee := Callee.value (Operand.func 35), args := #[Operand.tmp 17, Operand.tmp 18, Operand.tmp 19], argTypes := #[65, 25, 68] }, type := 88, pos := "neigh.go:33", after := #[{ on := 3, ground := Ground.data }, { on := 4, ground := Ground.data }, { on := 5, ground := Ground.data }], guard := none }) rfl (fun K hK => ?_) AllReadyH.nil
    go_simp
    go_at_call 35
    (with_reducible refine HPUT.out.mono ?_)
    rintro e z1 ⟨rfl, b1⟩
    have HZ1 := hide b1
    clear b1
    refine hK.out _ _ (⟨(HZ1.out.cell (p := ⟨c, 0, none⟩) lc).trans c0, (HZ1.out.cell (p := ⟨E, 0, none⟩) le).trans x0, (HZ1.out.cell (p := ⟨E, 1, none⟩) le).trans x1, (HZ1.out.cell (p := ⟨E, 2, none⟩) le).trans x2, (HZ1.out.cell (p := ⟨E, 3, none⟩) le).trans x3, (HZ1.out.cell (p := ⟨E, 4, none⟩) le).trans x4, (HZ1.out.cell (p := ⟨E, 5, none⟩) le).trans x5, (HZ1.out.cell (p := ⟨E, 6, none⟩) le).trans x6⟩) (fun hHeld1 => ?_)
    clear hK K
    try simp only [Act.put, List.setIfInBounds_toArray, List.set_cons_zero, List.set_cons_succ]
    refine wpAnyH_take (i := 7) (oi := { dst := some 21, op := Op.binOp BinOp.eql 88 (Operand.tmp 20) (Operand.const (Value.int IntKind.i64 20)) 88, type := 4, pos := "neigh.go:33", after := #[{ on := 6, ground := Ground.data }], guard := none }) (v := ?_) rfl (by kernel_rfl) (by kernel_rfl) (by kernel_rfl) (fun _ _ _ h => h) (Or.inl ⟨by rfl, ?_⟩) (by assumption) ?_
    rotate_left
    · intro wS hSw
      try dsimp only at hSw
      go_simp
      try with_reducible rfl
    try simp only [Act.put, List.setIfInBounds_toArray, List.set_cons_zero, List.set_cons_succ]
    refine wpAnyH_done (by kernel_rfl) ?_ _

    have HX1 := hide ((HX9.out.below (Below.refl W2.heap.size W2).drew).below HZ1.out)
    have HE1 := hide (below_block HZ1.out (below_block (Below.refl W2.heap.size W2).drew HE9.out (Nat.le_refl _)) (Nat.le_refl _))
    clear HPUT x0 x1 x2 x3 x4 x5 x6 c0 lc le nC nE hHeld hHeld1
    obtain ⟨c0, _, cf⟩ := two_cells HX1.out.blk
    have lc := lt_of_block HX1.out.blk
    have nC : ¬ c = tb := HX1.out.tyC.ne HX1.out.tyT (by decide)
    have HFI := hide (first_any K c y0 Lr H z1.drew ⟨_, _, _, _, HX1.out.below (Below.refl z1.heap.size z1).drew⟩ (by have := HH.out.2.2.1; omega))
    clear cf
    go_wp2_with fail
    have HZb0 := hide (show Below z1.heap.size z1 z1.drew from (Below.refl _ _).drew)
    refine wp_region_held_drew (S := fun w' => w'.cell? ⟨c, 0, none⟩ = some (.pointer (some ⟨tb, 0, none⟩))) (by kernel_rfl) (by exact (HZb0.out.cell (p := ⟨c, 0, none⟩) lc).trans c0) (fun hHeld => ?_)
    refine wpAnyH_take (i := 0) (oi := { dst := some 22, op := Op.move (Operand.tmp 0), type := 31, pos := "neigh.go:34", after := #[], guard := none }) (v := ?_) rfl (by kernel_rfl) (by kernel_rfl) (by kernel_rfl) (fun _ _ _ h => h) (Or.inl ⟨by rfl, ?_⟩) (by assumption) ?_
    rotate_left
    · intro wS hSw
      try dsimp only at hSw
      go_simp
      try with_reducible rfl
    try simp only [Act.put, List.setIfInBounds_toArray, List.set_cons_zero, List.set_cons_succ]
    refine wpAnyH_take (i := 1) (oi := { dst := some 23, op := Op.nilCheck (Operand.tmp 22), type := 0, pos := "neigh.go:34", after := #[{ on := 0, ground := Ground.data }], guard := none }) (v := ?_) rfl (by kernel_rfl) (by kernel_rfl) (by kernel_rfl) (fun _ _ _ h => h) (Or.inl ⟨by rfl, ?_⟩) (by assumption) ?_
    rotate_left
    · intro wS hSw
      try dsimp only at hSw
      go_simp
      try with_reducible rfl
    try simp only [Act.put, List.setIfInBounds_toArray, List.set_cons_zero, List.set_cons_succ]
    refine wpAnyH_take (i := 2) (oi := { dst := some 24, op := Op.fieldAddr 72 (Operand.tmp 23) 0, type := 0, pos := "neigh.go:34", after := #[{ on := 1, ground := Ground.data }], guard := none }) (v := ?_) rfl (by kernel_rfl) (by kernel_rfl) (by kernel_rfl) (fun _ _ _ h => h) (Or.inl ⟨by rfl, ?_⟩) (by assumption) ?_
    rotate_left
    · intro wS hSw
      try dsimp only at hSw
      go_simp
      try with_reducible rfl
    try simp only [Act.put, List.setIfInBounds_toArray, List.set_cons_zero, List.set_cons_succ]
    refine wpAnyH_take (i := 3) (oi := { dst := some 25, op := Op.load 65 (Operand.tmp 24), type := 65, pos := "neigh.go:34", after := #[{ on := 2, ground := Ground.data }], guard := none }) (v := ?_) rfl (by kernel_rfl) (by kernel_rfl) (by kernel_rfl) (fun _ _ _ h => h) (Or.inl ⟨by rfl, ?_⟩) (by assumption) ?_
    rotate_left
    · intro wS hSw
      try dsimp only at hSw
      go_simp
      try with_reducible rfl
    try simp only [Act.put, List.setIfInBounds_toArray, List.set_cons_zero, List.set_cons_succ]
    refine wpAnyH_take (i := 4) (oi := { dst := some 26, op := Op.move (Operand.tmp 0), type := 31, pos := "neigh.go:34", after := #[], guard := none }) (v := ?_) rfl (by kernel_rfl) (by kernel_rfl) (by kernel_rfl) (fun _ _ _ h => h) (Or.inl ⟨by rfl, ?_⟩) (by assumption) ?_
    rotate_left
    · intro wS hSw
      try dsimp only at hSw
      go_simp
      try with_reducible rfl
    try simp only [Act.put, List.setIfInBounds_toArray, List.set_cons_zero, List.set_cons_succ]
    refine wpAnyH_ready (rs := [5]) (by kernel_rfl) (by simp) ?_
    refine AllReadyH.cons (o := { dst := some 27, op := Op.call { callee := Callee.value (Operand.func 37), args := #[Operand.tmp 26], argTypes := #[31] }, type := 25, pos := "neigh.go:34", after := #[{ on := 4, ground := Ground.data }], guard := none }) rfl (fun K hK => ?_) AllReadyH.nil
    go_simp
    go_at_call 37
    (with_reducible refine HFI.out.mono ?_)
    rintro e z2 ⟨rfl, b2⟩
    have HZ2 := hide b2
    have HDR := hide (D.DropL ((HX1.out.tab.below (Below.refl z1.heap.size z1).drew (Nat.le_refl _)).below b2 (Nat.le_refl _)) D.oF_ord (bst y0 (y0 :: Lr)).1 (by have := HH.out.2.2.1; omega))
    clear b2
    refine hK.out _ _ ((HZ2.out.cell (p := ⟨c, 0, none⟩) lc).trans c0) (fun hHeldb1 => ?_)
    clear hK K
    try simp only [Act.put, List.setIfInBounds_toArray, List.set_cons_zero, List.set_cons_succ]
    refine wpAnyH_ready (rs := [6]) (by kernel_rfl) (by simp) ?_
    refine AllReadyH.cons (o := { dst := some 28, op := Op.call { callee := Callee.value (Operand.func 36), args := #[Operand.tmp 25, Operand.tmp 27], argTypes := #[65, 25] }, type := 4, pos := "neigh.go:34", after := #[{ on := 3, ground := Ground.data }, { on := 5, ground := Ground.data }, { on := 5, ground := Ground.chain }], guard := none }) rfl (fun K hK => ?_) AllReadyH.nil
    go_simp
    go_at_call 36
    (with_reducible refine HDR.out.mono ?_)
    rintro e z3 ⟨rfl, t3, g3⟩
    have HT3 := hide t3
    have HG3 := hide g3
    have HO3 := hide (OnlyS.gb g3)
    have lc2 : c < z2.heap.size := Nat.lt_of_lt_of_le lc HZ2.out.size
    clear t3 g3
    refine hK.out _ _ ((HO3.out.cell (p := ⟨c, 0, none⟩) lc2 nC).trans ((HZ2.out.cell (p := ⟨c, 0, none⟩) lc).trans c0)) (fun hHeldb2 => ?_)
    clear hK K
    try simp only [Act.put, List.setIfInBounds_toArray, List.set_cons_zero, List.set_cons_succ]
    refine wpAnyH_done (by kernel_rfl) ?_ _

    obtain ⟨hX3, hO3⟩ := ((HX1.out.below (Below.refl z1.heap.size z1).drew).below HZ2.out).tabbed HT3.out HG3.out
    have HX3 := hide hX3
    have hE2 := below_block HZ2.out (below_block (Below.refl z1.heap.size z1).drew HE1.out (Nat.le_refl _)) (Nat.le_refl _)
    have nE2 : ¬ E = tb := TyB.ne ⟨_, _, HE1.out⟩ HX1.out.tyT (by decide)
    have HE3 := hide (hO3.heap hE2 nE2)
    have HKO3 := hide (KO.tab ((HX1.out.below (Below.refl z1.heap.size z1).drew).below HZ2.out) hO3)
    have hKz : K ≤ z2.heap.size := Nat.le_trans HH.out.1 (Nat.le_trans HB9.out.size (Nat.le_trans HZ1.out.size HZ2.out.size))
    have HBz := hide (((HB9.out.drew.mono HH.out.1).trans (HZ1.out.mono (Nat.le_trans HH.out.1 HB9.out.size))).drew.trans (HZ2.out.mono (Nat.le_trans HH.out.1 (Nat.le_trans HB9.out.size HZ1.out.size))))
    have HBz3 := hide (HBz.out.trans (hO3.below (K := K) (fun i e => by rw [e]; exact HX9.out.ht) hKz))
    have HSz3 := hide (show w.heap.size ≤ z3.heap.size from Nat.le_trans HB9.out.size (Nat.le_trans HZ1.out.size (Nat.le_trans HZ2.out.size hO3.size)))
    have HKOa := hide (((KO.of HB9.out.drew).trans (KO.of HZ1.out.drew)).trans ((KO.of HZ2.out).trans HKO3.out))
    clear hX3 hO3 hE2 nE2 hKz HFI c0 lc nC hHeldb1 hHeldb2 lc2
    obtain ⟨c0, _, cf⟩ := two_cells HX3.out.blk
    have lc := lt_of_block HX3.out.blk
    obtain ⟨x0, x1, x2, x3, x4, x5, x6, xf⟩ := cells7 HE3.out
    have le := lt_of_block HE3.out
    have nC : ¬ c = tb := HX3.out.tyC.ne HX3.out.tyT (by decide)
    have nE : ¬ E = tb := TyB.ne ⟨_, _, HE3.out⟩ HX3.out.tyT (by decide)
    have HPUT2 := hide (D.PutL (HX3.out.tab.below (Below.refl z3.heap.size z3).drew (Nat.le_refl _)) D.oF_ord k { v with e := ee } (by have := HDL.out; omega) (.inr (by have := HDL.out; omega)))
    clear cf xf
    go_wp2_with fail
    have HZd0 := hide (show Below z3.heap.size z3 z3.drew from (Below.refl _ _).drew)
    refine wp_region_held_drew (S := fun w' => w'.cell? ⟨c, 0, none⟩ = some (.pointer (some ⟨tb, 0, none⟩)) ∧ w'.cell? ⟨E, 0, none⟩ = some (.int .u8 v.m0) ∧ w'.cell? ⟨E, 1, none⟩ = some (.int .u8 v.m1) ∧ w'.cell? ⟨E, 2, none⟩ = some (.int .u8 v.m2) ∧ w'.cell? ⟨E, 3, none⟩ = some (.int .u8 v.m3) ∧ w'.cell? ⟨E, 4, none⟩ = some (.int .u8 v.m4) ∧ w'.cell? ⟨E, 5, none⟩ = some (.int .u8 v.m5) ∧ w'.cell? ⟨E, 6, none⟩ = some (.int .u64 ee)) (by kernel_rfl) (by exact ⟨(HZd0.out.cell (p := ⟨c, 0, none⟩) lc).trans c0, (HZd0.out.cell (p := ⟨E, 0, none⟩) le).trans x0, (HZd0.out.cell (p := ⟨E, 1, none⟩) le).trans x1, (HZd0.out.cell (p := ⟨E, 2, none⟩) le).trans x2, (HZd0.out.cell (p := ⟨E, 3, none⟩) le).trans x3, (HZd0.out.cell (p := ⟨E, 4, none⟩) le).trans x4, (HZd0.out.cell (p := ⟨E, 5, none⟩) le).trans x5, (HZd0.out.cell (p := ⟨E, 6, none⟩) le).trans x6⟩) (fun hHeld => ?_)
    refine wpAnyH_take (i := 0) (oi := { dst := some 29, op := Op.move (Operand.tmp 0), type := 31, pos := "neigh.go:35", after := #[], guard := none }) (v := ?_) rfl (by kernel_rfl) (by kernel_rfl) (by kernel_rfl) (fun _ _ _ h => h) (Or.inl ⟨by rfl, ?_⟩) (by assumption) ?_
    rotate_left
    · intro wS hSw
      try dsimp only at hSw
      go_simp
      try with_reducible rfl
    try simp only [Act.put, List.setIfInBounds_toArray, List.set_cons_zero, List.set_cons_succ]
    refine wpAnyH_take (i := 1) (oi := { dst := some 30, op := Op.nilCheck (Operand.tmp 29), type := 0, pos := "neigh.go:35", after := #[{ on := 0, ground := Ground.data }], guard := none }) (v := ?_) rfl (by kernel_rfl) (by kernel_rfl) (by kernel_rfl) (fun _ _ _ h => h) (Or.inl ⟨by rfl, ?_⟩) (by assumption) ?_
    rotate_left
    · intro wS hSw
      try dsimp only at hSw
      go_simp
      try with_reducible rfl
    try simp only [Act.put, List.setIfInBounds_toArray, List.set_cons_zero, List.set_cons_succ]
    refine wpAnyH_take (i := 2) (oi := { dst := some 31, op := Op.fieldAddr 72 (Operand.tmp 30) 0, type := 0, pos := "neigh.go:35", after := #[{ on := 1, ground := Ground.data }], guard := none }) (v := ?_) rfl (by kernel_rfl) (by kernel_rfl) (by kernel_rfl) (fun _ _ _ h => h) (Or.inl ⟨by rfl, ?_⟩) (by assumption) ?_
    rotate_left
    · intro wS hSw
      try dsimp only at hSw
      go_simp
      try with_reducible rfl
    try simp only [Act.put, List.setIfInBounds_toArray, List.set_cons_zero, List.set_cons_succ]
    refine wpAnyH_take (i := 3) (oi := { dst := some 32, op := Op.load 65 (Operand.tmp 31), type := 65, pos := "neigh.go:35", after := #[{ on := 2, ground := Ground.data }], guard := none }) (v := ?_) rfl (by kernel_rfl) (by kernel_rfl) (by kernel_rfl) (fun _ _ _ h => h) (Or.inl ⟨by rfl, ?_⟩) (by assumption) ?_
    rotate_left
    · intro wS hSw
      try dsimp only at hSw
      go_simp
      try with_reducible rfl
    try simp only [Act.put, List.setIfInBounds_toArray, List.set_cons_zero, List.set_cons_succ]
    refine wpAnyH_take (i := 4) (oi := { dst := some 33, op := Op.move (Operand.tmp 1), type := 25, pos := "neigh.go:35", after := #[], guard := none }) (v := ?_) rfl (by kernel_rfl) (by kernel_rfl) (by kernel_rfl) (fun _ _ _ h => h) (Or.inl ⟨by rfl, ?_⟩) (by assumption) ?_
    rotate_left
    · intro wS hSw
      try dsimp only at hSw
      go_simp
      try with_reducible rfl
    try simp only [Act.put, List.setIfInBounds_toArray, List.set_cons_zero, List.set_cons_succ]
    refine wpAnyH_take (i := 5) (oi := { dst := some 34, op := Op.load 68 (Operand.tmp 9), type := 68, pos := "neigh.go:35", after := #[], guard := none }) (v := ?_) rfl (by kernel_rfl) (by kernel_rfl) (by kernel_rfl) (fun _ _ _ h => h) (Or.inl ⟨by rfl, ?_⟩) (by assumption) ?_
    rotate_left
    · intro wS hSw
      try dsimp only at hSw
      go_simp
      try with_reducible rfl
    try simp only [Act.put, List.setIfInBounds_toArray, List.set_cons_zero, List.set_cons_succ]
    refine wpAnyH_ready (rs := [6]) (by kernel_rfl) (by simp) ?_
    refine AllReadyH.cons (o := { dst := some 35, op := Op.call { callee := Callee.value (Operand.func 35), args := #[Operand.tmp 32, Operand.tmp 33, Operand.tmp 34], argTypes := #[65, 25, 68] }, type := 88, pos := "neigh.go:35", after := #[{ on := 3, ground := Ground.data }, { on := 4, ground := Ground.data }, { on := 5, ground := Ground.data }], guard := none }) rfl (fun K hK => ?_) AllReadyH.nil
    go_simp
    go_at_call 35
    (with_reducible refine HPUT2.out.mono ?_)
    rintro e z4 ⟨rfl, t4, g4⟩
    have HT4 := hide t4
    have HG4 := hide g4
    have HO4 := hide (OnlyS.gb g4)
    clear t4 g4
    refine hK.out _ _ (⟨(HO4.out.cell (p := ⟨c, 0, none⟩) lc nC).trans c0, (HO4.out.cell (p := ⟨E, 0, none⟩) le nE).trans x0, (HO4.out.cell (p := ⟨E, 1, none⟩) le nE).trans x1, (HO4.out.cell (p := ⟨E, 2, none⟩) le nE).trans x2, (HO4.out.cell (p := ⟨E, 3, none⟩) le nE).trans x3, (HO4.out.cell (p := ⟨E, 4, none⟩) le nE).trans x4, (HO4.out.cell (p := ⟨E, 5, none⟩) le nE).trans x5, (HO4.out.cell (p := ⟨E, 6, none⟩) le nE).trans x6⟩) (fun hHeldd1 => ?_)
    clear hK K
    try simp only [Act.put, List.setIfInBounds_toArray, List.set_cons_zero, List.set_cons_succ]
    refine wpAnyH_done (by kernel_rfl) ?_ _

    obtain ⟨hX4, hO4⟩ := (HX3.out.below (Below.refl z3.heap.size z3).drew).tabbed HT4.out HG4.out
    have hK4 : K ≤ z3.heap.size := Nat.le_trans HH.out.1 HSz3.out
    have HGV := hide (give_any K c _ H k z4 ⟨_, _, _, _, hX4⟩ (Nat.le_trans hK4 hO4.size) HH.out.2.1)
    have HB3 := hide (HBz3.out.drew.trans (hO4.below (K := K) (fun i e => by rw [e]; exact HX9.out.ht) hK4))
    have HSZ := hide (Nat.le_trans HSz3.out hO4.size)
    have HKO := hide (HKOa.out.trans ((KO.of (Below.refl z3.heap.size z3).drew).trans (KO.tab (HX3.out.below (Below.refl z3.heap.size z3).drew) hO4)))
    clear hX4 hO4 hK4 HPUT2 x0 x1 x2 x3 x4 x5 x6 c0 lc le nC nE hHeldd1
    rw [← HEE.out] at HGV
    go_wp2_with fail
    refine HGV.out.mono ?_
    rintro e z5 ⟨a3, n3, c3, rfl, g1, g2, g3, g4, g5, g6⟩
    have HR := hide (show GiveAns K c (insL id k { v with e := laterI now } (delL id (bst y0 (y0 :: Lr)).1 (y0 :: Lr))) H k w (.returned (.slice a3 n3 c3)) z5 from ⟨a3, n3, c3, rfl, g1, owns_mono g2 HSZ.out, g3, g4, HB3.out.trans g5, HKO.out.trans g6⟩)
    clear g1 g2 g3 g4 g5 g6 HGV
    go_wp2_with fail
    go_ret
    exact HR.out
  have HREST := hide REST
  clear REST
  rw [← HEQ.out] at HREST
  rw [← HW2.out] at HREST
  clear hW2 hE HE9 HB9 HX9 hal
  go_region_with ((go_at_call 34; (with_reducible refine (HLT.out _).mono ?_); rintro _ z ⟨rfl, rfl⟩))
  all_goals exact HREST.out
end Go.Proofs.Ytbibobjkclgogaa
