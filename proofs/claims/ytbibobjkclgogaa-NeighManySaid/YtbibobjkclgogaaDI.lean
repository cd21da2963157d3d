/- Tables: Put: [hearth/api.Addr, hearth/neigh.host]. -/
import Derived.Test.YtbibobjkclgogaaDH
namespace Go.Proofs.Ytbibobjkclgogaa.D
open Go.RowKit Go.Deep
open Go.Proofs.Ytbibobjkclgogaa
set_option linter.unusedVariables false
set_option linter.unusedSimpArgs false
set_option maxRecDepth 100000
/-- What a change of a table leaves: the table's tree, and its keys. -/
def TabAns (t : Nat) (most : Int) (fv : Value) (L : List KV) (w w' : World) : Prop := ∃ T', TabAt w' t most fv (ad T') ∧ TIn w' T' ∧ toL T' = L ∧ w.grownBy w' (some t)
def RetTab (v : Value) (t : Nat) (most : Int) (fv : Value) (L : List KV) (w : World) (e : Ending) (w' : World) : Prop := e = .returned v ∧ TabAns t most fv L w w'
theorem tab_store {w1 w2 : World} {t : Nat} {most : Int} {fv : Value} {root : Option Addr} {T' : BT KV} (hT : TabAt w1 t most fv root) (hk : TIn w2 T') (hb : Below w1.heap.size w1 w2) : TabAt (w2.setCell ⟨t, 2, none⟩ (.pointer (ad T'))) t most fv (ad T') ∧ TIn (w2.setCell ⟨t, 2, none⟩ (.pointer (ad T'))) T' ∧ w1.grownBy (w2.setCell ⟨t, 2, none⟩ (.pointer (ad T'))) (some t) := by
  have hT2 : w2.heap[t]? = some (.cells #[.int .i64 most, fv, .pointer root] 100 (0, 0)) := below_block hb hT (Nat.le_refl _)
  exact ⟨heap_setCell_same w2 t 2 _ _ _ hT2, TIn.keep (NK.set hT2 (by decide) 2 _) hk, gb_trans (gb_of_below hb (Nat.le_refl _)) (gb_set w2 t 2 _)⟩

theorem find_p {t : Nat} {most : Int} {fv : Value} {τ : Int → Int} {T : BT KV} {k : Int} {w : World} (hT : TabAt w t most fv (ad T)) (hF : OrdF fv τ) (h : TIn w T) (ha : Asc τ (toL T)) (p : Option Addr) (hp : ad (findT τ k T) = p) :
    Calls Try.prog 50 #[.pointer (some ⟨t, 0, none⟩), .int .u32 k] w fun e w' => e = .returned (.pointer p) ∧ Below w.heap.size w w' := by
  rw [← hp]
  exact find_any t most fv τ T k w hT hF h ha
theorem lenB {t : Nat} {most : Int} {fv : Value} {T : BT KV} {w : World} (hT : TabAt w t most fv (ad T)) (h : TIn w T) :
    Calls Try.prog 30 #[.pointer (some ⟨t, 0, none⟩)] w fun e w' => e = .returned (.int .i64 (nsz T : Int)) ∧ Below w.heap.size w w' :=
  (lenT_any t most fv T w hT h).mono fun e w' ⟨h1, h2⟩ => ⟨h1, by rw [h2]; exact Below.refl _ _⟩
set_option maxHeartbeats 1600000 in
theorem Put_ok (t : Nat) (most : Int) (fv : Value) (τ : Int → Int) (T : BT KV) (k : Int) (v : NH) (w : World) (hT : TabAt w t most fv (ad T)) (hF : OrdF fv τ) (h : TIn w T) (ha : Asc τ (toL T)) (hn : nsz T ≤ 700000) (hr : hasL τ k (toL T) = true ∨ (nsz T : Int) < most) :
    Calls Try.prog 35 #[.pointer (some ⟨t, 0, none⟩), .int .u32 k, .agg #[.int .u8 v.m0, .int .u8 v.m1, .int .u8 v.m2, .int .u8 v.m3, .int .u8 v.m4, .int .u8 v.m5, .int .u64 v.e]] w (RetTab (.int .i64 0) t most fv (insL τ k v (toL T)) w) := by
  obtain ⟨W, hW, hb, hy⟩ : ∃ W, w.alloc (.cells #[.int .u8 v.m0, .int .u8 v.m1, .int .u8 v.m2, .int .u8 v.m3, .int .u8 v.m4, .int .u8 v.m5, .int .u64 v.e] 68) = W ∧ Below w.heap.size w W ∧ W.heap[w.heap.size]? = some (.cells #[.int .u8 v.m0, .int .u8 v.m1, .int .u8 v.m2, .int .u8 v.m3, .int .u8 v.m4, .int .u8 v.m5, .int .u64 v.e] 68 (0, 0)) := ⟨_, rfl, (Below.refl _ _).alloc (Nat.le_refl _) _, heap_alloc_new _ _⟩
  obtain ⟨C, hC⟩ : ∃ C, w.heap.size = C := ⟨_, rfl⟩
  rw [hC] at hy
  have HE := hide (And.intro hW hC)
  have HB := hide hb
  have HY := hide hy
  clear hW hC hb hy
  obtain ⟨y0, y1, y2, y3, y4, y5, y6, yf⟩ := val_cells HY.out
  have ly := lt_of_block HY.out
  have HT := hide (TIn.keep (NK.of_below HB.out (Nat.le_refl _)) h)
  have HTT := hide (hT.below HB.out)
  have HA := hide ha
  rcases findT_spec (k := k) HT.out ha with ⟨h1, h2⟩ | ⟨b, a, l, r, h1, h2, h3, h4⟩
  · have HP := hide (show ad (findT τ k T) = none by rw [h1]; rfl)
    have hlt : (nsz T : Int) < most := by
      rcases hr with e | e
      · rw [h2] at e; cases e
      · exact e
    have hd : decide (most ≤ (nsz T : Int)) = false := by simp; omega
    obtain ⟨t0, t1, t2, tf⟩ := three_cells HTT.out
    have lt := lt_of_block HTT.out
    clear hT h ha hr h1 h2 t1 t2 tf hlt
    go_enter Try.func35, Try.ntmps35
    go_upto_region 1 with (fail)
    rw [HE.out.1]
    try rw [HE.out.2]
    clear HE
    go_wp2_with fail
    have HZ0 := hide (show Below W.heap.size W W.drew from (Below.refl _ _).drew)
    refine wp_region_held_drew (S := fun w' => w'.cell? ⟨t, 0, none⟩ = some (.int .i64 most)) (by kernel_rfl) (by exact (HZ0.out.cell (p := ⟨t, 0, none⟩) lt).trans t0) (fun hHeld => ?_)
    refine wpAnyH_take (i := 0) (oi := { dst := some 7, op := Op.move (Operand.tmp 0), type := 65, pos := "keyed.go:20", after := #[], guard := none }) (v := ?_) rfl (by kernel_rfl) (by kernel_rfl) (by kernel_rfl) (fun _ _ _ h => h) (Or.inl ⟨by rfl, ?_⟩) (by assumption) ?_
    rotate_left
    · intro wS hSw
      try dsimp only at hSw
      go_simp
      try with_reducible rfl
    try simp only [Act.put, List.setIfInBounds_toArray, List.set_cons_zero, List.set_cons_succ]
    refine wpAnyH_take (i := 1) (oi := { dst := some 8, op := Op.move (Operand.tmp 1), type := 25, pos := "keyed.go:20", after := #[], guard := none }) (v := ?_) rfl (by kernel_rfl) (by kernel_rfl) (by kernel_rfl) (fun _ _ _ h => h) (Or.inl ⟨by rfl, ?_⟩) (by assumption) ?_
    rotate_left
    · intro wS hSw
      try dsimp only at hSw
      go_simp
      try with_reducible rfl
    try simp only [Act.put, List.setIfInBounds_toArray, List.set_cons_zero, List.set_cons_succ]
    refine wpAnyH_ready (rs := [2]) (by kernel_rfl) (by simp) ?_
    refine AllReadyH.cons (o := { dst := some 9, op := Op.call { callee := Callee.value (Operand.func 50), args := #[Operand.tmp 7, Operand.tmp 8], argTypes := #[65, 25] }, type := 98, pos := "keyed.go:20", after := #[{ on := 0, ground := Ground.data }, { on := 1, ground := Ground.data }], guard := none }) rfl (fun K hK => ?_) AllReadyH.nil
    go_simp
    go_at_call 50
    (with_reducible refine (find_p (HTT.out.below HZ0.out) hF (TIn.keep (NK.of_below HZ0.out (Nat.le_refl _)) HT.out) HA.out _ HP.out).mono ?_)
    rintro e z1 ⟨rfl, b9⟩
    have HZ1 := hide (show Below W.heap.size W z1 from HZ0.out.trans (Below.mono b9 HZ0.out.size))
    clear b9
    refine hK.out _ _ ((HZ1.out.cell (p := ⟨t, 0, none⟩) lt).trans t0) (fun hHeld1 => ?_)
    clear hK K
    try simp only [Act.put, List.setIfInBounds_toArray, List.set_cons_zero, List.set_cons_succ]
    refine wpAnyH_take (i := 3) (oi := { dst := some 10, op := Op.binOp BinOp.eql 98 (Operand.tmp 9) (Operand.const (Value.pointer none)) 98, type := 4, pos := "keyed.go:20", after := #[{ on := 2, ground := Ground.data }], guard := none }) (v := ?_) rfl (by kernel_rfl) (by kernel_rfl) (by kernel_rfl) (fun _ _ _ h => h) (Or.inl ⟨by rfl, ?_⟩) (by assumption) ?_
    rotate_left
    · intro wS hSw
      try dsimp only at hSw
      go_simp
      try with_reducible rfl
    try simp only [Act.put, List.setIfInBounds_toArray, List.set_cons_zero, List.set_cons_succ]
    refine wpAnyH_take (i := 4) (oi := { dst := some 11, op := Op.move (Operand.tmp 10), type := 4, pos := "keyed.go:20", after := #[{ on := 3, ground := Ground.data }, { on := 2, ground := Ground.chain }], guard := none }) (v := ?_) rfl (by kernel_rfl) (by kernel_rfl) (by kernel_rfl) (fun _ _ _ h => h) (Or.inl ⟨by rfl, ?_⟩) (by assumption) ?_
    rotate_left
    · intro wS hSw
      try dsimp only at hSw
      go_simp
      try with_reducible rfl
    try simp only [Act.put, List.setIfInBounds_toArray, List.set_cons_zero, List.set_cons_succ]
    refine wpAnyH_take (i := 5) (oi := { dst := some 12, op := Op.move (Operand.tmp 0), type := 65, pos := "keyed.go:20", after := #[{ on := 4, ground := Ground.guard }], guard := some (4, true) }) (v := ?_) rfl (by kernel_rfl) (by kernel_rfl) (by kernel_rfl) (fun _ _ _ h => h) (Or.inl ⟨by rfl, ?_⟩) (by assumption) ?_
    rotate_left
    · intro wS hSw
      try dsimp only at hSw
      go_simp
      try with_reducible rfl
    try simp only [Act.put, List.setIfInBounds_toArray, List.set_cons_zero, List.set_cons_succ]
    refine wpAnyH_take (i := 7) (oi := { dst := some 14, op := Op.move (Operand.tmp 0), type := 65, pos := "keyed.go:20", after := #[{ on := 4, ground := Ground.guard }], guard := some (4, true) }) (v := ?_) rfl (by kernel_rfl) (by kernel_rfl) (by kernel_rfl) (fun _ _ _ h => h) (Or.inl ⟨by rfl, ?_⟩) (by assumption) ?_
    rotate_left
    · intro wS hSw
      try dsimp only at hSw
      go_simp
      try with_reducible rfl
    try simp only [Act.put, List.setIfInBounds_toArray, List.set_cons_zero, List.set_cons_succ]
    refine wpAnyH_take (i := 8) (oi := { dst := some 15, op := Op.nilCheck (Operand.tmp 14), type := 0, pos := "keyed.go:20", after := #[{ on := 7, ground := Ground.data }, { on := 4, ground := Ground.guard }], guard := some (4, true) }) (v := ?_) rfl (by kernel_rfl) (by kernel_rfl) (by kernel_rfl) (fun _ _ _ h => h) (Or.inl ⟨by rfl, ?_⟩) (by assumption) ?_
    rotate_left
    · intro wS hSw
      try dsimp only at hSw
      go_simp
      try with_reducible rfl
    try simp only [Act.put, List.setIfInBounds_toArray, List.set_cons_zero, List.set_cons_succ]
    refine wpAnyH_take (i := 9) (oi := { dst := some 16, op := Op.fieldAddr 100 (Operand.tmp 15) 0, type := 0, pos := "keyed.go:20", after := #[{ on := 8, ground := Ground.data }, { on := 4, ground := Ground.guard }], guard := some (4, true) }) (v := ?_) rfl (by kernel_rfl) (by kernel_rfl) (by kernel_rfl) (fun _ _ _ h => h) (Or.inl ⟨by rfl, ?_⟩) (by assumption) ?_
    rotate_left
    · intro wS hSw
      try dsimp only at hSw
      go_simp
      try with_reducible rfl
    try simp only [Act.put, List.setIfInBounds_toArray, List.set_cons_zero, List.set_cons_succ]
    refine wpAnyH_take (i := 10) (oi := { dst := some 17, op := Op.load 3 (Operand.tmp 16), type := 3, pos := "keyed.go:20", after := #[{ on := 9, ground := Ground.data }, { on := 4, ground := Ground.guard }], guard := some (4, true) }) (v := ?_) rfl (by kernel_rfl) (by kernel_rfl) (by kernel_rfl) (fun _ _ _ h => h) (Or.inl ⟨by rfl, ?_⟩) (by assumption) ?_
    rotate_left
    · intro wS hSw
      try dsimp only at hSw
      go_simp
      try with_reducible rfl
    try simp only [Act.put, List.setIfInBounds_toArray, List.set_cons_zero, List.set_cons_succ]
    refine wpAnyH_ready (rs := [6]) (by kernel_rfl) (by simp) ?_
    refine AllReadyH.cons (o := { dst := some 13, op := Op.call { callee := Callee.value (Operand.func 30), args := #[Operand.tmp 12], argTypes := #[65] }, type := 3, pos := "keyed.go:20", after := #[{ on := 5, ground := Ground.data }, { on := 4, ground := Ground.chain }, { on := 4, ground := Ground.guard }], guard := some (4, true) }) rfl (fun K hK => ?_) AllReadyH.nil
    go_simp
    go_at_call 30
    (with_reducible refine (lenB (HTT.out.below HZ1.out) (TIn.keep (NK.of_below HZ1.out (Nat.le_refl _)) HT.out)).mono ?_)
    rintro e z2 ⟨rfl, b9⟩
    have HZ2 := hide (show Below W.heap.size W z2 from HZ1.out.trans (Below.mono b9 HZ1.out.size))
    clear b9
    refine hK.out _ _ ((HZ2.out.cell (p := ⟨t, 0, none⟩) lt).trans t0) (fun hHeld2 => ?_)
    clear hK K
    try simp only [Act.put, List.setIfInBounds_toArray, List.set_cons_zero, List.set_cons_succ]
    refine wpAnyH_take (i := 11) (oi := { dst := some 18, op := Op.binOp BinOp.geq 3 (Operand.tmp 13) (Operand.tmp 17) 3, type := 4, pos := "keyed.go:20", after := #[{ on := 6, ground := Ground.data }, { on := 10, ground := Ground.data }, { on := 4, ground := Ground.guard }], guard := some (4, true) }) (v := ?_) rfl (by kernel_rfl) (by kernel_rfl) (by kernel_rfl) (fun _ _ _ h => h) (Or.inl ⟨by rfl, ?_⟩) (by assumption) ?_
    rotate_left
    · intro wS hSw
      try dsimp only at hSw
      go_simp
      try with_reducible rfl
    try simp only [Act.put, List.setIfInBounds_toArray, List.set_cons_zero, List.set_cons_succ]
    refine wpAnyH_take (i := 12) (oi := { dst := some 19, op := Op.pick (Operand.tmp 11) (Operand.tmp 18) (Operand.const (Value.bool false)), type := 4, pos := "keyed.go:20", after := #[{ on := 4, ground := Ground.data }, { on := 11, ground := Ground.data }], guard := none }) (v := ?_) rfl (by kernel_rfl) (by kernel_rfl) (by kernel_rfl) (fun _ _ _ h => h) (Or.inl ⟨by rfl, ?_⟩) (by assumption) ?_
    rotate_left
    · intro wS hSw
      try dsimp only at hSw
      go_simp
      try with_reducible rfl
    try simp only [Act.put, List.setIfInBounds_toArray, List.set_cons_zero, List.set_cons_succ]
    refine wpAnyH_done (by kernel_rfl) ?_ _
    clear t0 lt hd
    replace HTT := hide (HTT.out.below HZ2.out)
    replace HT := hide (TIn.keep (NK.of_below HZ2.out (Nat.le_refl _)) HT.out)
    have HG := hide (gb_of_below (r := some t) (HB.out.trans (HZ2.out.mono HB.out.size)) (Nat.le_refl _))
    replace HY := hide (below_block HZ2.out HY.out (Nat.le_refl _))
    clear y0 y1 y2 y3 y4 y5 y6 yf ly HZ2
    obtain ⟨y0, y1, y2, y3, y4, y5, y6, yf⟩ := val_cells HY.out
    have ly := lt_of_block HY.out
    clear yf
    go_wp2_with fail
    obtain ⟨t0, t1, t2, tf⟩ := three_cells HTT.out
    have lt := lt_of_block HTT.out
    clear t0 t1 tf
    have HZs0 := hide (show Below z2.heap.size z2 z2.drew from (Below.refl _ _).drew)
    refine wp_region_U (S := fun w' => w'.cell? ⟨t, 2, none⟩ = some (.pointer (ad T)) ∧ w'.cell? ⟨C, 0, none⟩ = some (.int .u8 v.m0) ∧ w'.cell? ⟨C, 1, none⟩ = some (.int .u8 v.m1) ∧ w'.cell? ⟨C, 2, none⟩ = some (.int .u8 v.m2) ∧ w'.cell? ⟨C, 3, none⟩ = some (.int .u8 v.m3) ∧ w'.cell? ⟨C, 4, none⟩ = some (.int .u8 v.m4) ∧ w'.cell? ⟨C, 5, none⟩ = some (.int .u8 v.m5) ∧ w'.cell? ⟨C, 6, none⟩ = some (.int .u64 v.e)) (t := 11) (by kernel_rfl) (by exact ⟨(HZs0.out.cell (p := ⟨t, 2, none⟩) lt).trans t2, (HZs0.out.cell (p := ⟨C, 0, none⟩) ly).trans y0, (HZs0.out.cell (p := ⟨C, 1, none⟩) ly).trans y1, (HZs0.out.cell (p := ⟨C, 2, none⟩) ly).trans y2, (HZs0.out.cell (p := ⟨C, 3, none⟩) ly).trans y3, (HZs0.out.cell (p := ⟨C, 4, none⟩) ly).trans y4, (HZs0.out.cell (p := ⟨C, 5, none⟩) ly).trans y5, (HZs0.out.cell (p := ⟨C, 6, none⟩) ly).trans y6⟩) (fun hHeld => ?_)
    refine wpAnyU_take2 (i := 0) (oi := { dst := some 20, op := Op.move (Operand.tmp 0), type := 65, pos := "keyed.go:23", after := #[], guard := none }) (v := ?_) rfl (by kernel_rfl) (by kernel_rfl) (by kernel_rfl) ([0]) (by kernel_rfl) (by kernel_rfl) (by kernel_rfl) (fun _ _ _ h => h) (Or.inl ⟨by rfl, ?_⟩) (by assumption) ?_
    rotate_left
    · intro wS hSw
      try dsimp only at hSw
      go_simp
      try with_reducible rfl
    try simp only [Act.put, List.setIfInBounds_toArray, List.set_cons_zero, List.set_cons_succ]
    refine wpAnyU_take2 (i := 1) (oi := { dst := some 21, op := Op.move (Operand.tmp 0), type := 65, pos := "keyed.go:23", after := #[], guard := none }) (v := ?_) rfl (by kernel_rfl) (by kernel_rfl) (by kernel_rfl) ([1]) (by kernel_rfl) (by kernel_rfl) (by kernel_rfl) (fun _ _ _ h => h) (Or.inl ⟨by rfl, ?_⟩) (by assumption) ?_
    rotate_left
    · intro wS hSw
      try dsimp only at hSw
      go_simp
      try with_reducible rfl
    try simp only [Act.put, List.setIfInBounds_toArray, List.set_cons_zero, List.set_cons_succ]
    refine wpAnyU_take2 (i := 2) (oi := { dst := some 22, op := Op.move (Operand.tmp 0), type := 65, pos := "keyed.go:23", after := #[], guard := none }) (v := ?_) rfl (by kernel_rfl) (by kernel_rfl) (by kernel_rfl) ([2]) (by kernel_rfl) (by kernel_rfl) (by kernel_rfl) (fun _ _ _ h => h) (Or.inl ⟨by rfl, ?_⟩) (by assumption) ?_
    rotate_left
    · intro wS hSw
      try dsimp only at hSw
      go_simp
      try with_reducible rfl
    try simp only [Act.put, List.setIfInBounds_toArray, List.set_cons_zero, List.set_cons_succ]
    refine wpAnyU_take2 (i := 3) (oi := { dst := some 23, op := Op.nilCheck (Operand.tmp 22), type := 0, pos := "keyed.go:23", after := #[{ on := 2, ground := Ground.data }], guard := none }) (v := ?_) rfl (by kernel_rfl) (by kernel_rfl) (by kernel_rfl) ([3]) (by kernel_rfl) (by kernel_rfl) (by kernel_rfl) (fun _ _ _ h => h) (Or.inl ⟨by rfl, ?_⟩) (by assumption) ?_
    rotate_left
    · intro wS hSw
      try dsimp only at hSw
      go_simp
      try with_reducible rfl
    try simp only [Act.put, List.setIfInBounds_toArray, List.set_cons_zero, List.set_cons_succ]
    refine wpAnyU_take2 (i := 4) (oi := { dst := some 24, op := Op.fieldAddr 100 (Operand.tmp 23) 2, type := 0, pos := "keyed.go:23", after := #[{ on := 3, ground := Ground.data }], guard := none }) (v := ?_) rfl (by kernel_rfl) (by kernel_rfl) (by kernel_rfl) ([4]) (by kernel_rfl) (by kernel_rfl) (by kernel_rfl) (fun _ _ _ h => h) (Or.inl ⟨by rfl, ?_⟩) (by assumption) ?_
    rotate_left
    · intro wS hSw
      try dsimp only at hSw
      go_simp
      try with_reducible rfl
    try simp only [Act.put, List.setIfInBounds_toArray, List.set_cons_zero, List.set_cons_succ]
    refine wpAnyU_take2 (i := 5) (oi := { dst := some 25, op := Op.load 98 (Operand.tmp 24), type := 98, pos := "keyed.go:23", after := #[{ on := 4, ground := Ground.data }], guard := none }) (v := ?_) rfl (by kernel_rfl) (by kernel_rfl) (by kernel_rfl) ([5]) (by kernel_rfl) (by kernel_rfl) (by kernel_rfl) (fun _ _ _ h => h) (Or.inl ⟨by rfl, ?_⟩) (by assumption) ?_
    rotate_left
    · intro wS hSw
      try dsimp only at hSw
      go_simp
      try with_reducible rfl
    try simp only [Act.put, List.setIfInBounds_toArray, List.set_cons_zero, List.set_cons_succ]
    refine wpAnyU_take2 (i := 6) (oi := { dst := some 26, op := Op.move (Operand.tmp 1), type := 25, pos := "keyed.go:23", after := #[], guard := none }) (v := ?_) rfl (by kernel_rfl) (by kernel_rfl) (by kernel_rfl) ([6]) (by kernel_rfl) (by kernel_rfl) (by kernel_rfl) (fun _ _ _ h => h) (Or.inl ⟨by rfl, ?_⟩) (by assumption) ?_
    rotate_left
    · intro wS hSw
      try dsimp only at hSw
      go_simp
      try with_reducible rfl
    try simp only [Act.put, List.setIfInBounds_toArray, List.set_cons_zero, List.set_cons_succ]
    refine wpAnyU_take2 (i := 7) (oi := { dst := some 27, op := Op.load 68 (Operand.tmp 5), type := 68, pos := "keyed.go:23", after := #[], guard := none }) (v := ?_) rfl (by kernel_rfl) (by kernel_rfl) (by kernel_rfl) ([7]) (by kernel_rfl) (by kernel_rfl) (by kernel_rfl) (fun _ _ _ h => h) (Or.inl ⟨by rfl, ?_⟩) (by assumption) ?_
    rotate_left
    · intro wS hSw
      try dsimp only at hSw
      go_simp
      try with_reducible rfl
    try simp only [Act.put, List.setIfInBounds_toArray, List.set_cons_zero, List.set_cons_succ]
    refine wpAnyU_one (i := 8) (o := { dst := some 28, op := Op.call { callee := Callee.value (Operand.func 53), args := #[Operand.tmp 21, Operand.tmp 25, Operand.tmp 26, Operand.tmp 27], argTypes := #[65, 98, 25, 68] }, type := 98, pos := "keyed.go:23", after := #[{ on := 1, ground := Ground.data }, { on := 5, ground := Ground.data }, { on := 6, ground := Ground.data }, { on := 7, ground := Ground.data }], guard := none }) (by kernel_rfl) rfl (fun K hK => ?_)
    go_simp
    go_at_call 53
    (with_reducible refine (put_any t most fv (ad T) τ k v hF T _ (HTT.out.below HZs0.out) (TIn.keep (NK.of_below HZs0.out (Nat.le_refl _)) HT.out) HA.out hn).mono ?_)
    rintro e zs1 ⟨T2, rfl, k1, k2, b9⟩
    have HZs1 := hide (show Below z2.heap.size z2 zs1 from HZs0.out.trans (Below.mono b9 HZs0.out.size))
    have HS := hide (tab_store HTT.out k1 HZs1.out)
    have HK := hide k2
    obtain ⟨_, _, q2, qf⟩ := three_cells (below_block HZs1.out HTT.out (Nat.le_refl _))
    clear k1 k2
    clear b9
    refine hK.out _ _ (fun _ => ⟨(HZs1.out.cell (p := ⟨t, 2, none⟩) lt).trans t2, (HZs1.out.cell (p := ⟨C, 0, none⟩) ly).trans y0, (HZs1.out.cell (p := ⟨C, 1, none⟩) ly).trans y1, (HZs1.out.cell (p := ⟨C, 2, none⟩) ly).trans y2, (HZs1.out.cell (p := ⟨C, 3, none⟩) ly).trans y3, (HZs1.out.cell (p := ⟨C, 4, none⟩) ly).trans y4, (HZs1.out.cell (p := ⟨C, 5, none⟩) ly).trans y5, (HZs1.out.cell (p := ⟨C, 6, none⟩) ly).trans y6⟩) (fun hHelds1 => ?_)
    clear hK K
    replace hHelds1 := hHelds1 (by decide)
    try simp only [Act.put, List.setIfInBounds_toArray, List.set_cons_zero, List.set_cons_succ]
    refine wpAnyU_take2 (i := 9) (oi := { dst := some 29, op := Op.nilCheck (Operand.tmp 20), type := 0, pos := "keyed.go:23", after := #[{ on := 0, ground := Ground.data }, { on := 0, ground := Ground.phase }, { on := 1, ground := Ground.phase }, { on := 2, ground := Ground.phase }, { on := 3, ground := Ground.phase }, { on := 4, ground := Ground.phase }, { on := 5, ground := Ground.phase }, { on := 6, ground := Ground.phase }, { on := 7, ground := Ground.phase }, { on := 8, ground := Ground.phase }], guard := none }) (v := ?_) rfl (by kernel_rfl) (by kernel_rfl) (by kernel_rfl) ([9, 10]) (by kernel_rfl) (by kernel_rfl) (by kernel_rfl) (fun _ _ _ h => h) (Or.inl ⟨by rfl, ?_⟩) (by assumption) ?_
    rotate_left
    · intro wS hSw
      try dsimp only at hSw
      go_simp
      try with_reducible rfl
    try simp only [Act.put, List.setIfInBounds_toArray, List.set_cons_zero, List.set_cons_succ]
    refine wpAnyU_take2 (i := 10) (oi := { dst := some 30, op := Op.fieldAddr 100 (Operand.tmp 29) 2, type := 0, pos := "keyed.go:23", after := #[{ on := 9, ground := Ground.data }, { on := 0, ground := Ground.phase }, { on := 1, ground := Ground.phase }, { on := 2, ground := Ground.phase }, { on := 3, ground := Ground.phase }, { on := 4, ground := Ground.phase }, { on := 5, ground := Ground.phase }, { on := 6, ground := Ground.phase }, { on := 7, ground := Ground.phase }, { on := 8, ground := Ground.phase }], guard := none }) (v := ?_) rfl (by kernel_rfl) (by kernel_rfl) (by kernel_rfl) ([10]) (by kernel_rfl) (by kernel_rfl) (by kernel_rfl) (fun _ _ _ h => h) (Or.inl ⟨by rfl, ?_⟩) (by assumption) ?_
    rotate_left
    · intro wS hSw
      try dsimp only at hSw
      go_simp
      try with_reducible rfl
    try simp only [Act.put, List.setIfInBounds_toArray, List.set_cons_zero, List.set_cons_succ]
    refine wpAnyU_one (i := 11) (o := { dst := none, op := Op.store 98 (Operand.tmp 30) (Operand.tmp 28), type := 0, pos := "keyed.go:23", after := #[{ on := 10, ground := Ground.data }, { on := 8, ground := Ground.data }, { on := 8, ground := Ground.chain }, { on := 0, ground := Ground.phase }, { on := 1, ground := Ground.phase }, { on := 2, ground := Ground.phase }, { on := 3, ground := Ground.phase }, { on := 4, ground := Ground.phase }, { on := 5, ground := Ground.phase }, { on := 6, ground := Ground.phase }, { on := 7, ground := Ground.phase }, { on := 8, ground := Ground.phase }], guard := none }) (by kernel_rfl) rfl (fun K hK => ?_)
    go_simp
    refine hK.out _ _ (fun h => absurd h (by decide)) (fun hHelds2 => ?_)
    clear hK K
    try simp only [Act.put, List.setIfInBounds_toArray, List.set_cons_zero, List.set_cons_succ]
    refine wpAnyU_done (by kernel_rfl) ?_ _
    go_wp2
    go_ret
    exact ⟨rfl, T2, HS.out.1, HS.out.2.1, HK.out, gb_trans HG.out HS.out.2.2⟩
  · have HP := hide (show ad (findT τ k T) = (some ⟨b, 0, none⟩) by rw [h1]; rfl)
    obtain ⟨t0, t1, t2, tf⟩ := three_cells HTT.out
    have lt := lt_of_block HTT.out
    clear hT h ha hr h1 h2 t1 t2 tf h3 h4
    go_enter Try.func35, Try.ntmps35
    go_upto_region 1 with (fail)
    rw [HE.out.1]
    try rw [HE.out.2]
    clear HE
    go_wp2_with fail
    have HZ0 := hide (show Below W.heap.size W W.drew from (Below.refl _ _).drew)
    refine wp_region_held_drew (S := fun w' => w'.cell? ⟨t, 0, none⟩ = some (.int .i64 most)) (by kernel_rfl) (by exact (HZ0.out.cell (p := ⟨t, 0, none⟩) lt).trans t0) (fun hHeld => ?_)
    refine wpAnyH_take (i := 0) (oi := { dst := some 7, op := Op.move (Operand.tmp 0), type := 65, pos := "keyed.go:20", after := #[], guard := none }) (v := ?_) rfl (by kernel_rfl) (by kernel_rfl) (by kernel_rfl) (fun _ _ _ h => h) (Or.inl ⟨by rfl, ?_⟩) (by assumption) ?_
    rotate_left
    · intro wS hSw
      try dsimp only at hSw
      go_simp
      try with_reducible rfl
    try simp only [Act.put, List.setIfInBounds_toArray, List.set_cons_zero, List.set_cons_succ]
    refine wpAnyH_take (i := 1) (oi := { dst := some 8, op := Op.move (Operand.tmp 1), type := 25, pos := "keyed.go:20", after := #[], guard := none }) (v := ?_) rfl (by kernel_rfl) (by kernel_rfl) (by kernel_rfl) (fun _ _ _ h => h) (Or.inl ⟨by rfl, ?_⟩) (by assumption) ?_
    rotate_left
    · intro wS hSw
      try dsimp only at hSw
      go_simp
      try with_reducible rfl
    try simp only [Act.put, List.setIfInBounds_toArray, List.set_cons_zero, List.set_cons_succ]
    refine wpAnyH_ready (rs := [2]) (by kernel_rfl) (by simp) ?_
    refine AllReadyH.cons (o := { dst := some 9, op := Op.call { callee := Callee.value (Operand.func 50), args := #[Operand.tmp 7, Operand.tmp 8], argTypes := #[65, 25] }, type := 98, pos := "keyed.go:20", after := #[{ on := 0, ground := Ground.data }, { on := 1, ground := Ground.data }], guard := none }) rfl (fun K hK => ?_) AllReadyH.nil
    go_simp
    go_at_call 50
    (with_reducible refine (find_p (HTT.out.below HZ0.out) hF (TIn.keep (NK.of_below HZ0.out (Nat.le_refl _)) HT.out) HA.out _ HP.out).mono ?_)
    rintro e z1 ⟨rfl, b9⟩
    have HZ1 := hide (show Below W.heap.size W z1 from HZ0.out.trans (Below.mono b9 HZ0.out.size))
    clear b9
    refine hK.out _ _ ((HZ1.out.cell (p := ⟨t, 0, none⟩) lt).trans t0) (fun hHeld1 => ?_)
    clear hK K
    try simp only [Act.put, List.setIfInBounds_toArray, List.set_cons_zero, List.set_cons_succ]
    refine wpAnyH_take (i := 3) (oi := { dst := some 10, op := Op.binOp BinOp.eql 98 (Operand.tmp 9) (Operand.const (Value.pointer none)) 98, type := 4, pos := "keyed.go:20", after := #[{ on := 2, ground := Ground.data }], guard := none }) (v := ?_) rfl (by kernel_rfl) (by kernel_rfl) (by kernel_rfl) (fun _ _ _ h => h) (Or.inl ⟨by rfl, ?_⟩) (by assumption) ?_
    rotate_left
    · intro wS hSw
      try dsimp only at hSw
      go_simp
      try with_reducible rfl
    try simp only [Act.put, List.setIfInBounds_toArray, List.set_cons_zero, List.set_cons_succ]
    refine wpAnyH_take (i := 4) (oi := { dst := some 11, op := Op.move (Operand.tmp 10), type := 4, pos := "keyed.go:20", after := #[{ on := 3, ground := Ground.data }, { on := 2, ground := Ground.chain }], guard := none }) (v := ?_) rfl (by kernel_rfl) (by kernel_rfl) (by kernel_rfl) (fun _ _ _ h => h) (Or.inl ⟨by rfl, ?_⟩) (by assumption) ?_
    rotate_left
    · intro wS hSw
      try dsimp only at hSw
      go_simp
      try with_reducible rfl
    try simp only [Act.put, List.setIfInBounds_toArray, List.set_cons_zero, List.set_cons_succ]
    refine wpAnyH_take (i := 5) (oi := { dst := some 12, op := Op.move (Operand.tmp 0), type := 65, pos := "keyed.go:20", after := #[{ on := 4, ground := Ground.guard }], guard := some (4, true) }) (v := undef) rfl (by kernel_rfl) (by kernel_rfl) (by kernel_rfl) (fun _ _ _ h => h) (Or.inr ⟨by rfl, rfl⟩) (by assumption) ?_
    try simp only [Act.put, List.setIfInBounds_toArray, List.set_cons_zero, List.set_cons_succ]
    refine wpAnyH_take (i := 6) (oi := { dst := some 13, op := Op.call { callee := Callee.value (Operand.func 30), args := #[Operand.tmp 12], argTypes := #[65] }, type := 3, pos := "keyed.go:20", after := #[{ on := 5, ground := Ground.data }, { on := 4, ground := Ground.chain }, { on := 4, ground := Ground.guard }], guard := some (4, true) }) (v := undef) rfl (by kernel_rfl) (by kernel_rfl) (by kernel_rfl) (fun _ _ _ h => h) (Or.inr ⟨by rfl, rfl⟩) (by assumption) ?_
    try simp only [Act.put, List.setIfInBounds_toArray, List.set_cons_zero, List.set_cons_succ]
    refine wpAnyH_take (i := 7) (oi := { dst := some 14, op := Op.move (Operand.tmp 0), type := 65, pos := "keyed.go:20", after := #[{ on := 4, ground := Ground.guard }], guard := some (4, true) }) (v := undef) rfl (by kernel_rfl) (by kernel_rfl) (by kernel_rfl) (fun _ _ _ h => h) (Or.inr ⟨by rfl, rfl⟩) (by assumption) ?_
    try simp only [Act.put, List.setIfInBounds_toArray, List.set_cons_zero, List.set_cons_succ]
    refine wpAnyH_take (i := 8) (oi := { dst := some 15, op := Op.nilCheck (Operand.tmp 14), type := 0, pos := "keyed.go:20", after := #[{ on := 7, ground := Ground.data }, { on := 4, ground := Ground.guard }], guard := some (4, true) }) (v := undef) rfl (by kernel_rfl) (by kernel_rfl) (by kernel_rfl) (fun _ _ _ h => h) (Or.inr ⟨by rfl, rfl⟩) (by assumption) ?_
    try simp only [Act.put, List.setIfInBounds_toArray, List.set_cons_zero, List.set_cons_succ]
    refine wpAnyH_take (i := 9) (oi := { dst := some 16, op := Op.fieldAddr 100 (Operand.tmp 15) 0, type := 0, pos := "keyed.go:20", after := #[{ on := 8, ground := Ground.data }, { on := 4, ground := Ground.guard }], guard := some (4, true) }) (v := undef) rfl (by kernel_rfl) (by kernel_rfl) (by kernel_rfl) (fun _ _ _ h => h) (Or.inr ⟨by rfl, rfl⟩) (by assumption) ?_
    try simp only [Act.put, List.setIfInBounds_toArray, List.set_cons_zero, List.set_cons_succ]
    refine wpAnyH_take (i := 10) (oi := { dst := some 17, op := Op.load 3 (Operand.tmp 16), type := 3, pos := "keyed.go:20", after := #[{ on := 9, ground := Ground.data }, { on := 4, ground := Ground.guard }], guard := some (4, true) }) (v := undef) rfl (by kernel_rfl) (by kernel_rfl) (by kernel_rfl) (fun _ _ _ h => h) (Or.inr ⟨by rfl, rfl⟩) (by assumption) ?_
    try simp only [Act.put, List.setIfInBounds_toArray, List.set_cons_zero, List.set_cons_succ]
    refine wpAnyH_take (i := 11) (oi := { dst := some 18, op := Op.binOp BinOp.geq 3 (Operand.tmp 13) (Operand.tmp 17) 3, type := 4, pos := "keyed.go:20", after := #[{ on := 6, ground := Ground.data }, { on := 10, ground := Ground.data }, { on := 4, ground := Ground.guard }], guard := some (4, true) }) (v := undef) rfl (by kernel_rfl) (by kernel_rfl) (by kernel_rfl) (fun _ _ _ h => h) (Or.inr ⟨by rfl, rfl⟩) (by assumption) ?_
    try simp only [Act.put, List.setIfInBounds_toArray, List.set_cons_zero, List.set_cons_succ]
    refine wpAnyH_take (i := 12) (oi := { dst := some 19, op := Op.pick (Operand.tmp 11) (Operand.tmp 18) (Operand.const (Value.bool false)), type := 4, pos := "keyed.go:20", after := #[{ on := 4, ground := Ground.data }, { on := 11, ground := Ground.data }], guard := none }) (v := ?_) rfl (by kernel_rfl) (by kernel_rfl) (by kernel_rfl) (fun _ _ _ h => h) (Or.inl ⟨by rfl, ?_⟩) (by assumption) ?_
    rotate_left
    · intro wS hSw
      try dsimp only at hSw
      go_simp
      try with_reducible rfl
    try simp only [Act.put, List.setIfInBounds_toArray, List.set_cons_zero, List.set_cons_succ]
    refine wpAnyH_done (by kernel_rfl) ?_ _
    clear t0 lt 
    replace HTT := hide (HTT.out.below HZ1.out)
    replace HT := hide (TIn.keep (NK.of_below HZ1.out (Nat.le_refl _)) HT.out)
    have HG := hide (gb_of_below (r := some t) (HB.out.trans (HZ1.out.mono HB.out.size)) (Nat.le_refl _))
    replace HY := hide (below_block HZ1.out HY.out (Nat.le_refl _))
    clear y0 y1 y2 y3 y4 y5 y6 yf ly HZ1
    obtain ⟨y0, y1, y2, y3, y4, y5, y6, yf⟩ := val_cells HY.out
    have ly := lt_of_block HY.out
    clear yf
    go_wp2_with fail
    obtain ⟨t0, t1, t2, tf⟩ := three_cells HTT.out
    have lt := lt_of_block HTT.out
    clear t0 t1 tf
    have HZs0 := hide (show Below z1.heap.size z1 z1.drew from (Below.refl _ _).drew)
    refine wp_region_U (S := fun w' => w'.cell? ⟨t, 2, none⟩ = some (.pointer (ad T)) ∧ w'.cell? ⟨C, 0, none⟩ = some (.int .u8 v.m0) ∧ w'.cell? ⟨C, 1, none⟩ = some (.int .u8 v.m1) ∧ w'.cell? ⟨C, 2, none⟩ = some (.int .u8 v.m2) ∧ w'.cell? ⟨C, 3, none⟩ = some (.int .u8 v.m3) ∧ w'.cell? ⟨C, 4, none⟩ = some (.int .u8 v.m4) ∧ w'.cell? ⟨C, 5, none⟩ = some (.int .u8 v.m5) ∧ w'.cell? ⟨C, 6, none⟩ = some (.int .u64 v.e)) (t := 11) (by kernel_rfl) (by exact ⟨(HZs0.out.cell (p := ⟨t, 2, none⟩) lt).trans t2, (HZs0.out.cell (p := ⟨C, 0, none⟩) ly).trans y0, (HZs0.out.cell (p := ⟨C, 1, none⟩) ly).trans y1, (HZs0.out.cell (p := ⟨C, 2, none⟩) ly).trans y2, (HZs0.out.cell (p := ⟨C, 3, none⟩) ly).trans y3, (HZs0.out.cell (p := ⟨C, 4, none⟩) ly).trans y4, (HZs0.out.cell (p := ⟨C, 5, none⟩) ly).trans y5, (HZs0.out.cell (p := ⟨C, 6, none⟩) ly).trans y6⟩) (fun hHeld => ?_)
    refine wpAnyU_take2 (i := 0) (oi := { dst := some 20, op := Op.move (Operand.tmp 0), type := 65, pos := "keyed.go:23", after := #[], guard := none }) (v := ?_) rfl (by kernel_rfl) (by kernel_rfl) (by kernel_rfl) ([0]) (by kernel_rfl) (by kernel_rfl) (by kernel_rfl) (fun _ _ _ h => h) (Or.inl ⟨by rfl, ?_⟩) (by assumption) ?_
    rotate_left
    · intro wS hSw
      try dsimp only at hSw
      go_simp
      try with_reducible rfl
    try simp only [Act.put, List.setIfInBounds_toArray, List.set_cons_zero, List.set_cons_succ]
    refine wpAnyU_take2 (i := 1) (oi := { dst := some 21, op := Op.move (Operand.tmp 0), type := 65, pos := "keyed.go:23", after := #[], guard := none }) (v := ?_) rfl (by kernel_rfl) (by kernel_rfl) (by kernel_rfl) ([1]) (by kernel_rfl) (by kernel_rfl) (by kernel_rfl) (fun _ _ _ h => h) (Or.inl ⟨by rfl, ?_⟩) (by assumption) ?_
    rotate_left
    · intro wS hSw
      try dsimp only at hSw
      go_simp
      try with_reducible rfl
    try simp only [Act.put, List.setIfInBounds_toArray, List.set_cons_zero, List.set_cons_succ]
    refine wpAnyU_take2 (i := 2) (oi := { dst := some 22, op := Op.move (Operand.tmp 0), type := 65, pos := "keyed.go:23", after := #[], guard := none }) (v := ?_) rfl (by kernel_rfl) (by kernel_rfl) (by kernel_rfl) ([2]) (by kernel_rfl) (by kernel_rfl) (by kernel_rfl) (fun _ _ _ h => h) (Or.inl ⟨by rfl, ?_⟩) (by assumption) ?_
    rotate_left
    · intro wS hSw
      try dsimp only at hSw
      go_simp
      try with_reducible rfl
    try simp only [Act.put, List.setIfInBounds_toArray, List.set_cons_zero, List.set_cons_succ]
    refine wpAnyU_take2 (i := 3) (oi := { dst := some 23, op := Op.nilCheck (Operand.tmp 22), type := 0, pos := "keyed.go:23", after := #[{ on := 2, ground := Ground.data }], guard := none }) (v := ?_) rfl (by kernel_rfl) (by kernel_rfl) (by kernel_rfl) ([3]) (by kernel_rfl) (by kernel_rfl) (by kernel_rfl) (fun _ _ _ h => h) (Or.inl ⟨by rfl, ?_⟩) (by assumption) ?_
    rotate_left
    · intro wS hSw
      try dsimp only at hSw
      go_simp
      try with_reducible rfl
    try simp only [Act.put, List.setIfInBounds_toArray, List.set_cons_zero, List.set_cons_succ]
    refine wpAnyU_take2 (i := 4) (oi := { dst := some 24, op := Op.fieldAddr 100 (Operand.tmp 23) 2, type := 0, pos := "keyed.go:23", after := #[{ on := 3, ground := Ground.data }], guard := none }) (v := ?_) rfl (by kernel_rfl) (by kernel_rfl) (by kernel_rfl) ([4]) (by kernel_rfl) (by kernel_rfl) (by kernel_rfl) (fun _ _ _ h => h) (Or.inl ⟨by rfl, ?_⟩) (by assumption) ?_
    rotate_left
    · intro wS hSw
      try dsimp only at hSw
      go_simp
      try with_reducible rfl
    try simp only [Act.put, List.setIfInBounds_toArray, List.set_cons_zero, List.set_cons_succ]
    refine wpAnyU_take2 (i := 5) (oi := { dst := some 25, op := Op.load 98 (Operand.tmp 24), type := 98, pos := "keyed.go:23", after := #[{ on := 4, ground := Ground.data }], guard := none }) (v := ?_) rfl (by kernel_rfl) (by kernel_rfl) (by kernel_rfl) ([5]) (by kernel_rfl) (by kernel_rfl) (by kernel_rfl) (fun _ _ _ h => h) (Or.inl ⟨by rfl, ?_⟩) (by assumption) ?_
    rotate_left
    · intro wS hSw
      try dsimp only at hSw
      go_simp
      try with_reducible rfl
    try simp only [Act.put, List.setIfInBounds_toArray, List.set_cons_zero, List.set_cons_succ]
    refine wpAnyU_take2 (i := 6) (oi := { dst := some 26, op := Op.move (Operand.tmp 1), type := 25, pos := "keyed.go:23", after := #[], guard := none }) (v := ?_) rfl (by kernel_rfl) (by kernel_rfl) (by kernel_rfl) ([6]) (by kernel_rfl) (by kernel_rfl) (by kernel_rfl) (fun _ _ _ h => h) (Or.inl ⟨by rfl, ?_⟩) (by assumption) ?_
    rotate_left
    · intro wS hSw
      try dsimp only at hSw
      go_simp
      try with_reducible rfl
    try simp only [Act.put, List.setIfInBounds_toArray, List.set_cons_zero, List.set_cons_succ]
    refine wpAnyU_take2 (i := 7) (oi := { dst := some 27, op := Op.load 68 (Operand.tmp 5), type := 68, pos := "keyed.go:23", after := #[], guard := none }) (v := ?_) rfl (by kernel_rfl) (by kernel_rfl) (by kernel_rfl) ([7]) (by kernel_rfl) (by kernel_rfl) (by kernel_rfl) (fun _ _ _ h => h) (Or.inl ⟨by rfl, ?_⟩) (by assumption) ?_
    rotate_left
    · intro wS hSw
      try dsimp only at hSw
      go_simp
      try with_reducible rfl
    try simp only [Act.put, List.setIfInBounds_toArray, List.set_cons_zero, List.set_cons_succ]
    refine wpAnyU_one (i := 8) (o := { dst := some 28, op := Op.call { callee := Callee.value (Operand.func 53), args := #[Operand.tmp 21, Operand.tmp 25, Operand.tmp 26, Operand.tmp 27], argTypes := #[65, 98, 25, 68] }, type := 98, pos := "keyed.go:23", after := #[{ on := 1, ground := Ground.data }, { on := 5, ground := Ground.data }, { on := 6, ground := Ground.data }, { on := 7, ground := Ground.data }], guard := none }) (by kernel_rfl) rfl (fun K hK => ?_)
    go_simp
    go_at_call 53
    (with_reducible refine (put_any t most fv (ad T) τ k v hF T _ (HTT.out.below HZs0.out) (TIn.keep (NK.of_below HZs0.out (Nat.le_refl _)) HT.out) HA.out hn).mono ?_)
    rintro e zs1 ⟨T2, rfl, k1, k2, b9⟩
    have HZs1 := hide (show Below z1.heap.size z1 zs1 from HZs0.out.trans (Below.mono b9 HZs0.out.size))
    have HS := hide (tab_store HTT.out k1 HZs1.out)
    have HK := hide k2
    obtain ⟨_, _, q2, qf⟩ := three_cells (below_block HZs1.out HTT.out (Nat.le_refl _))
    clear k1 k2
    clear b9
    refine hK.out _ _ (fun _ => ⟨(HZs1.out.cell (p := ⟨t, 2, none⟩) lt).trans t2, (HZs1.out.cell (p := ⟨C, 0, none⟩) ly).trans y0, (HZs1.out.cell (p := ⟨C, 1, none⟩) ly).trans y1, (HZs1.out.cell (p := ⟨C, 2, none⟩) ly).trans y2, (HZs1.out.cell (p := ⟨C, 3, none⟩) ly).trans y3, (HZs1.out.cell (p := ⟨C, 4, none⟩) ly).trans y4, (HZs1.out.cell (p := ⟨C, 5, none⟩) ly).trans y5, (HZs1.out.cell (p := ⟨C, 6, none⟩) ly).trans y6⟩) (fun hHelds1 => ?_)
    clear hK K
    replace hHelds1 := hHelds1 (by decide)
    try simp only [Act.put, List.setIfInBounds_toArray, List.set_cons_zero, List.set_cons_succ]
    refine wpAnyU_take2 (i := 9) (oi := { dst := some 29, op := Op.nilCheck (Operand.tmp 20), type := 0, pos := "keyed.go:23", after := #[{ on := 0, ground := Ground.data }, { on := 0, ground := Ground.phase }, { on := 1, ground := Ground.phase }, { on := 2, ground := Ground.phase }, { on := 3, ground := Ground.phase }, { on := 4, ground := Ground.phase }, { on := 5, ground := Ground.phase }, { on := 6, ground := Ground.phase }, { on := 7, ground := Ground.phase }, { on := 8, ground := Ground.phase }], guard := none }) (v := ?_) rfl (by kernel_rfl) (by kernel_rfl) (by kernel_rfl) ([9, 10]) (by kernel_rfl) (by kernel_rfl) (by kernel_rfl) (fun _ _ _ h => h) (Or.inl ⟨by rfl, ?_⟩) (by assumption) ?_
    rotate_left
    · intro wS hSw
      try dsimp only at hSw
      go_simp
      try with_reducible rfl
    try simp only [Act.put, List.setIfInBounds_toArray, List.set_cons_zero, List.set_cons_succ]
    refine wpAnyU_take2 (i := 10) (oi := { dst := some 30, op := Op.fieldAddr 100 (Operand.tmp 29) 2, type := 0, pos := "keyed.go:23", after := #[{ on := 9, ground := Ground.data }, { on := 0, ground := Ground.phase }, { on := 1, ground := Ground.phase }, { on := 2, ground := Ground.phase }, { on := 3, ground := Ground.phase }, { on := 4, ground := Ground.phase }, { on := 5, ground := Ground.phase }, { on := 6, ground := Ground.phase }, { on := 7, ground := Ground.phase }, { on := 8, ground := Ground.phase }], guard := none }) (v := ?_) rfl (by kernel_rfl) (by kernel_rfl) (by kernel_rfl) ([10]) (by kernel_rfl) (by kernel_rfl) (by kernel_rfl) (fun _ _ _ h => h) (Or.inl ⟨by rfl, ?_⟩) (by assumption) ?_
    rotate_left
    · intro wS hSw
      try dsimp only at hSw
      go_simp
      try with_reducible rfl
    try simp only [Act.put, List.setIfInBounds_toArray, List.set_cons_zero, List.set_cons_succ]
    refine wpAnyU_one (i := 11) (o := { dst := none, op := Op.store 98 (Operand.tmp 30) (Operand.tmp 28), type := 0, pos := "keyed.go:23", after := #[{ on := 10, ground := Ground.data }, { on := 8, ground := Ground.data }, { on := 8, ground := Ground.chain }, { on := 0, ground := Ground.phase }, { on := 1, ground := Ground.phase }, { on := 2, ground := Ground.phase }, { on := 3, ground := Ground.phase }, { on := 4, ground := Ground.phase }, { on := 5, ground := Ground.phase }, { on := 6, ground := Ground.phase }, { on := 7, ground := Ground.phase }, { on := 8, ground := Ground.phase }], guard := none }) (by kernel_rfl) rfl (fun K hK => ?_)
    go_simp
    refine hK.out _ _ (fun h => absurd h (by decide)) (fun hHelds2 => ?_)
    clear hK K
    try simp only [Act.put, List.setIfInBounds_toArray, List.set_cons_zero, List.set_cons_succ]
    refine wpAnyU_done (by kernel_rfl) ?_ _
    go_wp2
    go_ret
    exact ⟨rfl, T2, HS.out.1, HS.out.2.1, HK.out, gb_trans HG.out HS.out.2.2⟩
end Go.Proofs.Ytbibobjkclgogaa.D
