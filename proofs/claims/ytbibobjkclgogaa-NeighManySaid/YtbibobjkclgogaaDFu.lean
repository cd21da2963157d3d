/- Tables: Put where there is no room. -/
import Derived.Test.YtbibobjkclgogaaDL
import Derived.Test.YtbibobjkclgogaaRegU
namespace Go.Proofs.Ytbibobjkclgogaa.D
open Go.RowKit Go.Deep
open Go.Proofs.Ytbibobjkclgogaa
set_option linter.unusedVariables false
set_option linter.unusedSimpArgs false
set_option maxRecDepth 100000
set_option maxHeartbeats 1600000 in
theorem Put_full (t : Nat) (most : Int) (fv : Value) (τ : Int → Int) (T : BT KV) (k : Int) (v : NH) (w : World) (hT : TabAt w t most fv (ad T)) (hF : OrdF fv τ) (h : TIn w T) (ha : Asc τ (toL T)) (hn : nsz T ≤ 700000) (hr : hasL τ k (toL T) = false) (hf : most ≤ (nsz T : Int)) :
    Calls Try.prog 35 #[.pointer (some ⟨t, 0, none⟩), .int .u32 k, .agg #[.int .u8 v.m0, .int .u8 v.m1, .int .u8 v.m2, .int .u8 v.m3, .int .u8 v.m4, .int .u8 v.m5, .int .u64 v.e]] w fun e w' => e = .returned (.int .i64 20) ∧ Below w.heap.size w w' := by
  obtain ⟨W, hW, hb, hy⟩ : ∃ W, w.alloc (.cells #[.int .u8 v.m0, .int .u8 v.m1, .int .u8 v.m2, .int .u8 v.m3, .int .u8 v.m4, .int .u8 v.m5, .int .u64 v.e] 68) = W ∧ Below w.heap.size w W ∧ W.heap[w.heap.size]? = some (.cells #[.int .u8 v.m0, .int .u8 v.m1, .int .u8 v.m2, .int .u8 v.m3, .int .u8 v.m4, .int .u8 v.m5, .int .u64 v.e] 68 (0, 0)) := ⟨_, rfl, (Below.refl _ _).alloc (Nat.le_refl _) _, heap_alloc_new _ _⟩
  obtain ⟨C, hC⟩ : ∃ C, w.heap.size = C := ⟨_, rfl⟩
  rw [hC] at hy
  have HE := hide (And.intro hW hC)
  have HB := hide hb
  have HY := hide hy
  clear hW hC hb hy
  obtain ⟨y0, y1, y2, y3, y4, y5, y6, yf⟩ := val_cells HY.out
  have ly := lt_of_block HY.out
  have HT := hide (TIn.keep (NK.of_below HB.out (Nat.le_refl _)) h)
  have HTT := hide (hT.below HB.out)
  have HA := hide ha
  rcases findT_spec (k := k) HT.out ha with ⟨h1, h2⟩ | ⟨b, a, l, r, h1, h2, h3, h4⟩
  · have HP := hide (show ad (findT τ k T) = none by rw [h1]; rfl)
    have hd : decide (most ≤ (nsz T : Int)) = true := by simp; omega
    obtain ⟨t0, t1, t2, tf⟩ := three_cells HTT.out
    have lt := lt_of_block HTT.out
    clear hT h ha hr hf h1 h2 t1 t2 tf
    go_enter Try.func35, Try.ntmps35
    go_upto_region 1 with (fail)
    rw [HE.out.1]
    try rw [HE.out.2]
    clear HE
    go_wp2_with fail
    have HZ0 := hide (show Below W.heap.size W W.drew from (Below.refl _ _).drew)
    refine wp_region_held_drew (S := fun w' => w'.cell? ⟨t, 0, none⟩ = some (.int .i64 most)) (by kernel_rfl) (by exact (HZ0.out.cell (p := ⟨t, 0, none⟩) lt).trans t0) (fun hHeld => ?_)
    refine wpAnyH_take (i := 0) (oi := { dst := some 7, op := Op.move (Operand.tmp 0), type := 65, pos := "keyed.go:20", after := #[], guard := none }) (v := ?_) rfl (by kernel_rfl) (by kernel_rfl) (by kernel_rfl) (fun _ _ _ h => h) (Or.inl ⟨by rfl, ?_⟩) (by assumption) ?_
    rotate_left
    · intro wS hSw
      try dsimp only at hSw
      go_simp
      try with_reducible rfl
    try simp only [Act.put, List.setIfInBounds_toArray, List.set_cons_zero, List.set_cons_succ]
    refine wpAnyH_take (i := 1) (oi := { dst := some 8, op := Op.move (Operand.tmp 1), type := 25, pos := "keyed.go:20", after := #[], guard := none }) (v := ?_) rfl (by kernel_rfl) (by kernel_rfl) (by kernel_rfl) (fun _ _ _ h => h) (Or.inl ⟨by rfl, ?_⟩) (by assumption) ?_
    rotate_left
    · intro wS hSw
      try dsimp only at hSw
      go_simp
      try with_reducible rfl
    try simp only [Act.put, List.setIfInBounds_toArray, List.set_cons_zero, List.set_cons_succ]
    refine wpAnyH_ready (rs := [2]) (by kernel_rfl) (by simp) ?_
    refine AllReadyH.cons (o := { dst := some 9, op := Op.call { callee := Callee.value (Operand.func 50), args := #[Operand.tmp 7, Operand.tmp 8], argTypes := #[65, 25] }, type := 98, pos := "keyed.go:20", after := #[{ on := 0, ground := Ground.data }, { on := 1, ground := Ground.data }], guard := none }) rfl (fun K hK => ?_) AllReadyH.nil
    go_simp
    go_at_call 50
    (with_reducible refine (find_p (HTT.out.below HZ0.out) hF (TIn.keep (NK.of_below HZ0.out (Nat.le_refl _)) HT.out) HA.out _ HP.out).mono ?_)
    rintro e z1 ⟨rfl, b9⟩
    have HZ1 := hide (show Below W.heap.size W z1 from HZ0.out.trans (Below.mono b9 HZ0.out.size))
    clear b9
    refine hK.out _ _ ((HZ1.out.cell (p := ⟨t, 0, none⟩) lt).trans t0) (fun hHeld1 => ?_)
    clear hK K
    try simp only [Act.put, List.setIfInBounds_toArray, List.set_cons_zero, List.set_cons_succ]
    refine wpAnyH_take (i := 3) (oi := { dst := some 10, op := Op.binOp BinOp.eql 98 (Operand.tmp 9) (Operand.const (Value.pointer none)) 98, type := 4, pos := "keyed.go:20", after := #[{ on := 2, ground := Ground.data }], guard := none }) (v := ?_) rfl (by kernel_rfl) (by kernel_rfl) (by kernel_rfl) (fun _ _ _ h => h) (Or.inl ⟨by rfl, ?_⟩) (by assumption) ?_
    rotate_left
    · intro wS hSw
      try dsimp only at hSw
      go_simp
      try with_reducible rfl
    try simp only [Act.put, List.setIfInBounds_toArray, List.set_cons_zero, List.set_cons_succ]
    refine wpAnyH_take (i := 4) (oi := { dst := some 11, op := Op.move (Operand.tmp 10), type := 4, pos := "keyed.go:20", after := #[{ on := 3, ground := Ground.data }, { on := 2, ground := Ground.chain }], guard := none }) (v := ?_) rfl (by kernel_rfl) (by kernel_rfl) (by kernel_rfl) (fun _ _ _ h => h) (Or.inl ⟨by rfl, ?_⟩) (by assumption) ?_
    rotate_left
    · intro wS hSw
      try dsimp only at hSw
      go_simp
      try with_reducible rfl
    try simp only [Act.put, List.setIfInBounds_toArray, List.set_cons_zero, List.set_cons_succ]
    refine wpAnyH_take (i := 5) (oi := { dst := some 12, op := Op.move (Operand.tmp 0), type := 65, pos := "keyed.go:20", after := #[{ on := 4, ground := Ground.guard }], guard := some (4, true) }) (v := ?_) rfl (by kernel_rfl) (by kernel_rfl) (by kernel_rfl) (fun _ _ _ h => h) (Or.inl ⟨by rfl, ?_⟩) (by assumption) ?_
    rotate_left
    · intro wS hSw
      try dsimp only at hSw
      go_simp
      try with_reducible rfl
    try simp only [Act.put, List.setIfInBounds_toArray, List.set_cons_zero, List.set_cons_succ]
    refine wpAnyH_take (i := 7) (oi := { dst := some 14, op := Op.move (Operand.tmp 0), type := 65, pos := "keyed.go:20", after := #[{ on := 4, ground := Ground.guard }], guard := some (4, true) }) (v := ?_) rfl (by kernel_rfl) (by kernel_rfl) (by kernel_rfl) (fun _ _ _ h => h) (Or.inl ⟨by rfl, ?_⟩) (by assumption) ?_
    rotate_left
    · intro wS hSw
      try dsimp only at hSw
      go_simp
      try with_reducible rfl
    try simp only [Act.put, List.setIfInBounds_toArray, List.set_cons_zero, List.set_cons_succ]
    refine wpAnyH_take (i := 8) (oi := { dst := some 15, op := Op.nilCheck (Operand.tmp 14), type := 0, pos := "keyed.go:20", after := #[{ on := 7, ground := Ground.data }, { on := 4, ground := Ground.guard }], guard := some (4, true) }) (v := ?_) rfl (by kernel_rfl) (by kernel_rfl) (by kernel_rfl) (fun _ _ _ h => h) (Or.inl ⟨by rfl, ?_⟩) (by assumption) ?_
    rotate_left
    · intro wS hSw
      try dsimp only at hSw
      go_simp
      try with_reducible rfl
    try simp only [Act.put, List.setIfInBounds_toArray, List.set_cons_zero, List.set_cons_succ]
    refine wpAnyH_take (i := 9) (oi := { dst := some 16, op := Op.fieldAddr 100 (Operand.tmp 15) 0, type := 0, pos := "keyed.go:20", after := #[{ on := 8, ground := Ground.data }, { on := 4, ground := Ground.guard }], guard := some (4, true) }) (v := ?_) rfl (by kernel_rfl) (by kernel_rfl) (by kernel_rfl) (fun _ _ _ h => h) (Or.inl ⟨by rfl, ?_⟩) (by assumption) ?_
    rotate_left
    · intro wS hSw
      try dsimp only at hSw
      go_simp
      try with_reducible rfl
    try simp only [Act.put, List.setIfInBounds_toArray, List.set_cons_zero, List.set_cons_succ]
    refine wpAnyH_take (i := 10) (oi := { dst := some 17, op := Op.load 3 (Operand.tmp 16), type := 3, pos := "keyed.go:20", after := #[{ on := 9, ground := Ground.data }, { on := 4, ground := Ground.guard }], guard := some (4, true) }) (v := ?_) rfl (by kernel_rfl) (by kernel_rfl) (by kernel_rfl) (fun _ _ _ h => h) (Or.inl ⟨by rfl, ?_⟩) (by assumption) ?_
    rotate_left
    · intro wS hSw
      try dsimp only at hSw
      go_simp
      try with_reducible rfl
    try simp only [Act.put, List.setIfInBounds_toArray, List.set_cons_zero, List.set_cons_succ]
    refine wpAnyH_ready (rs := [6]) (by kernel_rfl) (by simp) ?_
    refine AllReadyH.cons (o := { dst := some 13, op := Op.call { callee := Callee.value (Operand.func 30), args := #[Operand.tmp 12], argTypes := #[65] }, type := 3, pos := "keyed.go:20", after := #[{ on := 5, ground := Ground.data }, { on := 4, ground := Ground.chain }, { on := 4, ground := Ground.guard }], guard := some (4, true) }) rfl (fun K hK => ?_) AllReadyH.nil
    go_simp
    go_at_call 30
    (with_reducible refine (lenB (HTT.out.below HZ1.out) (TIn.keep (NK.of_below HZ1.out (Nat.le_refl _)) HT.out)).mono ?_)
    rintro e z2 ⟨rfl, b9⟩
    have HZ2 := hide (show Below W.heap.size W z2 from HZ1.out.trans (Below.mono b9 HZ1.out.size))
    clear b9
    refine hK.out _ _ ((HZ2.out.cell (p := ⟨t, 0, none⟩) lt).trans t0) (fun hHeld2 => ?_)
    clear hK K
    try simp only [Act.put, List.setIfInBounds_toArray, List.set_cons_zero, List.set_cons_succ]
    refine wpAnyH_take (i := 11) (oi := { dst := some 18, op := Op.binOp BinOp.geq 3 (Operand.tmp 13) (Operand.tmp 17) 3, type := 4, pos := "keyed.go:20", after := #[{ on := 6, ground := Ground.data }, { on := 10, ground := Ground.data }, { on := 4, ground := Ground.guard }], guard := some (4, true) }) (v := ?_) rfl (by kernel_rfl) (by kernel_rfl) (by kernel_rfl) (fun _ _ _ h => h) (Or.inl ⟨by rfl, ?_⟩) (by assumption) ?_
    rotate_left
    · intro wS hSw
      try dsimp only at hSw
      go_simp
      try with_reducible rfl
    try simp only [Act.put, List.setIfInBounds_toArray, List.set_cons_zero, List.set_cons_succ]
    refine wpAnyH_take (i := 12) (oi := { dst := some 19, op := Op.pick (Operand.tmp 11) (Operand.tmp 18) (Operand.const (Value.bool false)), type := 4, pos := "keyed.go:20", after := #[{ on := 4, ground := Ground.data }, { on := 11, ground := Ground.data }], guard := none }) (v := ?_) rfl (by kernel_rfl) (by kernel_rfl) (by kernel_rfl) (fun _ _ _ h => h) (Or.inl ⟨by rfl, ?_⟩) (by assumption) ?_
    rotate_left
    · intro wS hSw
      try dsimp only at hSw
      go_simp
      try with_reducible rfl
    try simp only [Act.put, List.setIfInBounds_toArray, List.set_cons_zero, List.set_cons_succ]
    refine wpAnyH_done (by kernel_rfl) ?_ _
    clear t0 lt hd
    go_wp2_with fail
    go_ret
    exact ⟨rfl, HB.out.trans (HZ2.out.mono HB.out.size)⟩
  · rw [h3] at hr; cases hr
theorem PutF {w : World} {t : Nat} {most : Int} {fv : Value} {τ : Int → Int} {L : List KV} (h : Tab w t most fv τ L) (hF : OrdF fv τ) (k : Int) (v : NH) (hn : L.length ≤ 600000) (hr : hasL τ k L = false) (hf : most ≤ (L.length : Int)) :
    Calls Try.prog 35 #[.pointer (some ⟨t, 0, none⟩), .int .u32 k, .agg #[.int .u8 v.m0, .int .u8 v.m1, .int .u8 v.m2, .int .u8 v.m3, .int .u8 v.m4, .int .u8 v.m5, .int .u64 v.e]] w fun e w' => e = .returned (.int .i64 20) ∧ Below w.heap.size w w' := by
  obtain ⟨T, h1, h2, rfl, h4⟩ := h
  exact Put_full t most fv τ T k v w h1 hF h2 h4 (by rw [← nsz_toL]; omega) hr (by rw [← nsz_toL]; exact hf)
end Go.Proofs.Ytbibobjkclgogaa.D
