/- Tables: put: [hearth/api.Addr, hearth/neigh.host]. -/
import Derived.Test.YtbibobjkclgogaaDG
import Derived.Test.YtbibobjkclgogaaRegU
namespace Go.Proofs.Ytbibobjkclgogaa.D
open Go.RowKit Go.Deep
open Go.Proofs.Ytbibobjkclgogaa
set_option linter.unusedVariables false
set_option linter.unusedSimpArgs false
set_option maxRecDepth 100000
theorem val_cells {w : World} {R : Nat} {t : TypeId} {v0 v1 v2 v3 v4 v5 v6 : Value} (h : w.heap[R]? = some (.cells #[v0, v1, v2, v3, v4, v5, v6] t (0, 0))) : w.cell? ⟨R, 0, none⟩ = some v0 ∧ w.cell? ⟨R, 1, none⟩ = some v1 ∧ w.cell? ⟨R, 2, none⟩ = some v2 ∧ w.cell? ⟨R, 3, none⟩ = some v3 ∧ w.cell? ⟨R, 4, none⟩ = some v4 ∧ w.cell? ⟨R, 5, none⟩ = some v5 ∧ w.cell? ⟨R, 6, none⟩ = some v6 ∧ ∀ i, w.frozen? ⟨R, i, none⟩ = false := by
  refine ⟨?_, ?_, ?_, ?_, ?_, ?_, ?_, fun i => ?_⟩ <;> simp [World.cell?, World.frozen?, h]
set_option maxHeartbeats 1600000 in
theorem put_any (t : Nat) (most : Int) (fv : Value) (root : Option Addr) (τ : Int → Int) (k : Int) (v : NH) (hF : OrdF fv τ) : ∀ (T : BT KV) (w : World), TabAt w t most fv root → TIn w T → Asc τ (toL T) → nsz T ≤ 700000 →
    Calls Try.prog 53 #[.pointer (some ⟨t, 0, none⟩), .pointer (ad T), .int .u32 k, .agg #[.int .u8 v.m0, .int .u8 v.m1, .int .u8 v.m2, .int .u8 v.m3, .int .u8 v.m4, .int .u8 v.m5, .int .u64 v.e]] w (TreeAns w (insL τ k v (toL T))) := by
  intro T
  induction T with
  | nil =>
    intro w hT h ha hn
    show Calls Try.prog 53 #[.pointer (some ⟨t, 0, none⟩), .pointer none, .int .u32 k, .agg #[.int .u8 v.m0, .int .u8 v.m1, .int .u8 v.m2, .int .u8 v.m3, .int .u8 v.m4, .int .u8 v.m5, .int .u64 v.e]] w _
    clear hT h ha hn
    obtain ⟨W, hW, hb, hy⟩ : ∃ W, w.alloc (.cells #[.int .u8 v.m0, .int .u8 v.m1, .int .u8 v.m2, .int .u8 v.m3, .int .u8 v.m4, .int .u8 v.m5, .int .u64 v.e] 68) = W ∧ Below w.heap.size w W ∧ W.heap[w.heap.size]? = some (.cells #[.int .u8 v.m0, .int .u8 v.m1, .int .u8 v.m2, .int .u8 v.m3, .int .u8 v.m4, .int .u8 v.m5, .int .u64 v.e] 68 (0, 0)) := ⟨_, rfl, (Below.refl _ _).alloc (Nat.le_refl _) _, heap_alloc_new _ _⟩
    obtain ⟨C, hC⟩ : ∃ C, w.heap.size = C := ⟨_, rfl⟩
    rw [hC] at hy
    have HE := hide (And.intro hW hC)
    have HB := hide hb
    have HY := hide hy
    clear hW hC hb hy
    obtain ⟨y0, y1, y2, y3, y4, y5, y6, yf⟩ := val_cells HY.out
    have ly := lt_of_block HY.out
    go_enter Try.func53, Try.ntmps53
    go_upto_region 1 with (fail)
    rw [HE.out.1]
    try rw [HE.out.2]
    clear HE
    go_wp2_with fail
    go_ret
    exact ⟨.node W.heap.size 0 (k, v) .nil .nil, rfl, ⟨rfl, heap_alloc_new W _, trivial, trivial⟩, rfl, HB.out.alloc HB.out.size _⟩
  | node b o a l r ihl ihr =>
    intro w hT h ha hn
    obtain rfl := h.1
    rw [nsz_node] at hn
    show Calls Try.prog 53 #[.pointer (some ⟨t, 0, none⟩), .pointer (some ⟨b, 0, none⟩), .int .u32 k, .agg #[.int .u8 v.m0, .int .u8 v.m1, .int .u8 v.m2, .int .u8 v.m3, .int .u8 v.m4, .int .u8 v.m5, .int .u64 v.e]] w _
    have HAA := hide (asc_mid.1 ha)
    clear ha
    obtain ⟨W, hW, hb, hy⟩ : ∃ W, w.alloc (.cells #[.int .u8 v.m0, .int .u8 v.m1, .int .u8 v.m2, .int .u8 v.m3, .int .u8 v.m4, .int .u8 v.m5, .int .u64 v.e] 68) = W ∧ Below w.heap.size w W ∧ W.heap[w.heap.size]? = some (.cells #[.int .u8 v.m0, .int .u8 v.m1, .int .u8 v.m2, .int .u8 v.m3, .int .u8 v.m4, .int .u8 v.m5, .int .u64 v.e] 68 (0, 0)) := ⟨_, rfl, (Below.refl _ _).alloc (Nat.le_refl _) _, heap_alloc_new _ _⟩
    obtain ⟨C, hC⟩ : ∃ C, w.heap.size = C := ⟨_, rfl⟩
    rw [hC] at hy
    have HE := hide (And.intro hW hC)
    have HB := hide hb
    have HY := hide hy
    clear hW hC hb hy
    obtain ⟨y0, y1, y2, y3, y4, y5, y6, yf⟩ := val_cells HY.out
    have ly := lt_of_block HY.out
    have HT := hide (TIn.keep (NK.of_below HB.out (Nat.le_refl _)) h)
    have HTT := hide (hT.below HB.out)
    clear hT h
    rcases Int.lt_trichotomy (τ k) (τ a.1) with hk | hk | hk
    · have HW := hide (way_lt HTT.out hF HT.out hk)
      have HIN := hide (show insL τ k v (toL (.node b 0 a l r)) = insL τ k v (toL l) ++ a :: toL r from ins_left hk (toL l))
      clear hk
      go_enter Try.func53, Try.ntmps53
      go_upto_region 1 with (fail)
      rw [HE.out.1]
      try rw [HE.out.2]
      clear HE
      go_wp2_with fail
      refine HW.out.mono ?_
      rintro e w1 ⟨rfl, b2⟩
      have HB1 := hide (HB.out.trans (b2.mono HB.out.size))
      have HT1 := hide (TIn.keep (NK.of_below b2 (Nat.le_refl _)) HT.out)
      have HTT1 := hide (HTT.out.below b2)
      replace HY := hide (below_block b2 HY.out (Nat.le_refl _))
      clear y0 y1 y2 y3 y4 y5 y6 yf ly b2 HW
      obtain ⟨y0, y1, y2, y3, y4, y5, y6, yf⟩ := val_cells HY.out
      have ly := lt_of_block HY.out
      clear yf
      obtain ⟨_, _, _, _, _, _, _, _, _, c3, c4, cf⟩ := five_cells HT1.out.2.1
      have lb := lt_of_block HT1.out.2.1
      clear c4
      go_wp2_with fail
      have HTS := hide HT1.out.2.2.1
      have HAS := hide HAA.out.1
      have HZ0 := hide (show Below w1.heap.size w1 w1.drew from (Below.refl _ _).drew)
      refine wp_region_held_drew (S := fun w' => w'.cell? ⟨b, 9, none⟩ = some (.pointer (ad l)) ∧ w'.cell? ⟨C, 0, none⟩ = some (.int .u8 v.m0) ∧ w'.cell? ⟨C, 1, none⟩ = some (.int .u8 v.m1) ∧ w'.cell? ⟨C, 2, none⟩ = some (.int .u8 v.m2) ∧ w'.cell? ⟨C, 3, none⟩ = some (.int .u8 v.m3) ∧ w'.cell? ⟨C, 4, none⟩ = some (.int .u8 v.m4) ∧ w'.cell? ⟨C, 5, none⟩ = some (.int .u8 v.m5) ∧ w'.cell? ⟨C, 6, none⟩ = some (.int .u64 v.e)) (by kernel_rfl) (by exact ⟨(HZ0.out.cell (p := ⟨b, 9, none⟩) lb).trans c3, (HZ0.out.cell (p := ⟨C, 0, none⟩) ly).trans y0, (HZ0.out.cell (p := ⟨C, 1, none⟩) ly).trans y1, (HZ0.out.cell (p := ⟨C, 2, none⟩) ly).trans y2, (HZ0.out.cell (p := ⟨C, 3, none⟩) ly).trans y3, (HZ0.out.cell (p := ⟨C, 4, none⟩) ly).trans y4, (HZ0.out.cell (p := ⟨C, 5, none⟩) ly).trans y5, (HZ0.out.cell (p := ⟨C, 6, none⟩) ly).trans y6⟩) (fun hHeld => ?_)
      refine wpAnyH_take (i := 0) (oi := { dst := some 31, op := Op.move (Operand.tmp 1), type := 98, pos := "keyed.go:38", after := #[], guard := none }) (v := ?_) rfl (by kernel_rfl) (by kernel_rfl) (by kernel_rfl) (fun _ _ _ h => h) (Or.inl ⟨by rfl, ?_⟩) (by assumption) ?_
      rotate_left
      · intro wS hSw
        try dsimp only at hSw
        go_simp
        try with_reducible rfl
      try simp only [Act.put, List.setIfInBounds_toArray, List.set_cons_zero, List.set_cons_succ]
      refine wpAnyH_take (i := 1) (oi := { dst := some 32, op := Op.move (Operand.tmp 9), type := 3, pos := "keyed.go:38", after := #[], guard := none }) (v := ?_) rfl (by kernel_rfl) (by kernel_rfl) (by kernel_rfl) (fun _ _ _ h => h) (Or.inl ⟨by rfl, ?_⟩) (by assumption) ?_
      rotate_left
      · intro wS hSw
        try dsimp only at hSw
        go_simp
        try with_reducible rfl
      try simp only [Act.put, List.setIfInBounds_toArray, List.set_cons_zero, List.set_cons_succ]
      refine wpAnyH_take (i := 2) (oi := { dst := some 33, op := Op.move (Operand.tmp 0), type := 65, pos := "keyed.go:38", after := #[], guard := none }) (v := ?_) rfl (by kernel_rfl) (by kernel_rfl) (by kernel_rfl) (fun _ _ _ h => h) (Or.inl ⟨by rfl, ?_⟩) (by assumption) ?_
      rotate_left
      · intro wS hSw
        try dsimp only at hSw
        go_simp
        try with_reducible rfl
      try simp only [Act.put, List.setIfInBounds_toArray, List.set_cons_zero, List.set_cons_succ]
      refine wpAnyH_take (i := 3) (oi := { dst := some 34, op := Op.move (Operand.tmp 1), type := 98, pos := "keyed.go:38", after := #[], guard := none }) (v := ?_) rfl (by kernel_rfl) (by kernel_rfl) (by kernel_rfl) (fun _ _ _ h => h) (Or.inl ⟨by rfl, ?_⟩) (by assumption) ?_
      rotate_left
      · intro wS hSw
        try dsimp only at hSw
        go_simp
        try with_reducible rfl
      try simp only [Act.put, List.setIfInBounds_toArray, List.set_cons_zero, List.set_cons_succ]
      refine wpAnyH_take (i := 4) (oi := { dst := some 35, op := Op.move (Operand.tmp 9), type := 3, pos := "keyed.go:38", after := #[], guard := none }) (v := ?_) rfl (by kernel_rfl) (by kernel_rfl) (by kernel_rfl) (fun _ _ _ h => h) (Or.inl ⟨by rfl, ?_⟩) (by assumption) ?_
      rotate_left
      · intro wS hSw
        try dsimp only at hSw
        go_simp
        try with_reducible rfl
      try simp only [Act.put, List.setIfInBounds_toArray, List.set_cons_zero, List.set_cons_succ]
      refine wpAnyH_take (i := 5) (oi := { dst := some 36, op := Op.nilCheck (Operand.tmp 34), type := 0, pos := "keyed.go:38", after := #[{ on := 3, ground := Ground.data }], guard := none }) (v := ?_) rfl (by kernel_rfl) (by kernel_rfl) (by kernel_rfl) (fun _ _ _ h => h) (Or.inl ⟨by rfl, ?_⟩) (by assumption) ?_
      rotate_left
      · intro wS hSw
        try dsimp only at hSw
        go_simp
        try with_reducible rfl
      try simp only [Act.put, List.setIfInBounds_toArray, List.set_cons_zero, List.set_cons_succ]
      refine wpAnyH_take (i := 6) (oi := { dst := some 37, op := Op.fieldAddr 111 (Operand.tmp 36) 3, type := 0, pos := "keyed.go:38", after := #[{ on := 5, ground := Ground.data }], guard := none }) (v := ?_) rfl (by kernel_rfl) (by kernel_rfl) (by kernel_rfl) (fun _ _ _ h => h) (Or.inl ⟨by rfl, ?_⟩) (by assumption) ?_
      rotate_left
      · intro wS hSw
        try dsimp only at hSw
        go_simp
        try with_reducible rfl
      try simp only [Act.put, List.setIfInBounds_toArray, List.set_cons_zero, List.set_cons_succ]
      refine wpAnyH_take (i := 7) (oi := { dst := some 38, op := Op.indexAddr 109 (Operand.tmp 37) (Operand.tmp 35), type := 0, pos := "keyed.go:38", after := #[{ on := 6, ground := Ground.data }, { on := 4, ground := Ground.data }], guard := none }) (v := ?_) rfl (by kernel_rfl) (by kernel_rfl) (by kernel_rfl) (fun _ _ _ h => h) (Or.inl ⟨by rfl, ?_⟩) (by assumption) ?_
      rotate_left
      · intro wS hSw
        try dsimp only at hSw
        go_simp
        try with_reducible rfl
      try simp only [Act.put, List.setIfInBounds_toArray, List.set_cons_zero, List.set_cons_succ]
      refine wpAnyH_take (i := 8) (oi := { dst := some 39, op := Op.load 98 (Operand.tmp 38), type := 98, pos := "keyed.go:38", after := #[{ on := 7, ground := Ground.data }], guard := none }) (v := ?_) rfl (by kernel_rfl) (by kernel_rfl) (by kernel_rfl) (fun _ _ _ h => h) (Or.inl ⟨by rfl, ?_⟩) (by assumption) ?_
      rotate_left
      · intro wS hSw
        try dsimp only at hSw
        go_simp
        try with_reducible rfl
      try simp only [Act.put, List.setIfInBounds_toArray, List.set_cons_zero, List.set_cons_succ]
      refine wpAnyH_take (i := 9) (oi := { dst := some 40, op := Op.move (Operand.tmp 2), type := 25, pos := "keyed.go:38", after := #[], guard := none }) (v := ?_) rfl (by kernel_rfl) (by kernel_rfl) (by kernel_rfl) (fun _ _ _ h => h) (Or.inl ⟨by rfl, ?_⟩) (by assumption) ?_
      rotate_left
      · intro wS hSw
        try dsimp only at hSw
        go_simp
        try with_reducible rfl
      try simp only [Act.put, List.setIfInBounds_toArray, List.set_cons_zero, List.set_cons_succ]
      refine wpAnyH_take (i := 10) (oi := { dst := some 41, op := Op.load 68 (Operand.tmp 7), type := 68, pos := "keyed.go:38", after := #[], guard := none }) (v := ?_) rfl (by kernel_rfl) (by kernel_rfl) (by kernel_rfl) (fun _ _ _ h => h) (Or.inl ⟨by rfl, ?_⟩) (by assumption) ?_
      rotate_left
      · intro wS hSw
        try dsimp only at hSw
        go_simp
        try with_reducible rfl
      try simp only [Act.put, List.setIfInBounds_toArray, List.set_cons_zero, List.set_cons_succ]
      refine wpAnyH_ready (rs := [11]) (by kernel_rfl) (by simp) ?_
      refine AllReadyH.cons (o := { dst := some 42, op := Op.call { callee := Callee.value (Operand.func 53), args := #[Operand.tmp 33, Operand.tmp 39, Operand.tmp 40, Operand.tmp 41], argTypes := #[65, 98, 25, 68] }, type := 98, pos := "keyed.go:38", after := #[{ on := 2, ground := Ground.data }, { on := 8, ground := Ground.data }, { on := 9, ground := Ground.data }, { on := 10, ground := Ground.data }], guard := none }) rfl (fun K hK => ?_) AllReadyH.nil
      go_simp
      go_at_call 53
      (with_reducible refine (ihl _ (HTT1.out.below HZ0.out) (TIn.keep (NK.of_below HZ0.out (Nat.le_refl _)) HTS.out) HAS.out (by omega)).mono ?_)
      rintro e z1 ⟨T1, rfl, k1, k2, b9⟩
      have HZ1 := hide (show Below w1.heap.size w1 z1 from HZ0.out.trans (Below.mono b9 HZ0.out.size))
      have hsz : nsz T1 ≤ nsz l + 1 := by unfold nsz; rw [k2]; exact ins_le _
      have HWI := hide (with0_any b a l r T1 z1 (TIn.keep (NK.of_below HZ1.out (Nat.le_refl _)) HT1.out) k1 (by omega) (by omega))
      have HL := hide k2
      clear k1 k2
      clear b9
      refine hK.out _ _ (⟨(HZ1.out.cell (p := ⟨b, 9, none⟩) lb).trans c3, (HZ1.out.cell (p := ⟨C, 0, none⟩) ly).trans y0, (HZ1.out.cell (p := ⟨C, 1, none⟩) ly).trans y1, (HZ1.out.cell (p := ⟨C, 2, none⟩) ly).trans y2, (HZ1.out.cell (p := ⟨C, 3, none⟩) ly).trans y3, (HZ1.out.cell (p := ⟨C, 4, none⟩) ly).trans y4, (HZ1.out.cell (p := ⟨C, 5, none⟩) ly).trans y5, (HZ1.out.cell (p := ⟨C, 6, none⟩) ly).trans y6⟩) (fun hHeld1 => ?_)
      clear hK K
      try simp only [Act.put, List.setIfInBounds_toArray, List.set_cons_zero, List.set_cons_succ]
      refine wpAnyH_ready (rs := [12]) (by kernel_rfl) (by simp) ?_
      refine AllReadyH.cons (o := { dst := some 43, op := Op.call { callee := Callee.value (Operand.func 62), args := #[Operand.tmp 31, Operand.tmp 32, Operand.tmp 42], argTypes := #[98, 3, 98] }, type := 98, pos := "keyed.go:38", after := #[{ on := 0, ground := Ground.data }, { on := 1, ground := Ground.data }, { on := 11, ground := Ground.data }, { on := 11, ground := Ground.chain }], guard := none }) rfl (fun K hK => ?_) AllReadyH.nil
      go_simp
      go_at_call 62
      (with_reducible refine (HWI.out).mono ?_)
      rintro e z2 ⟨b1, rfl, k4, b9⟩
      have HZ2 := hide (show Below w1.heap.size w1 z2 from HZ1.out.trans (Below.mono b9 HZ1.out.size))
      have HEV := hide (even_any b1 a T1 r z2 k4 (by omega))
      clear k4
      clear b9
      refine hK.out _ _ (⟨(HZ2.out.cell (p := ⟨b, 9, none⟩) lb).trans c3, (HZ2.out.cell (p := ⟨C, 0, none⟩) ly).trans y0, (HZ2.out.cell (p := ⟨C, 1, none⟩) ly).trans y1, (HZ2.out.cell (p := ⟨C, 2, none⟩) ly).trans y2, (HZ2.out.cell (p := ⟨C, 3, none⟩) ly).trans y3, (HZ2.out.cell (p := ⟨C, 4, none⟩) ly).trans y4, (HZ2.out.cell (p := ⟨C, 5, none⟩) ly).trans y5, (HZ2.out.cell (p := ⟨C, 6, none⟩) ly).trans y6⟩) (fun hHeld2 => ?_)
      clear hK K
      try simp only [Act.put, List.setIfInBounds_toArray, List.set_cons_zero, List.set_cons_succ]
      refine wpAnyH_ready (rs := [13]) (by kernel_rfl) (by simp) ?_
      refine AllReadyH.cons (o := { dst := some 44, op := Op.call { callee := Callee.value (Operand.func 63), args := #[Operand.tmp 43], argTypes := #[98] }, type := 98, pos := "keyed.go:38", after := #[{ on := 12, ground := Ground.data }, { on := 12, ground := Ground.chain }], guard := none }) rfl (fun K hK => ?_) AllReadyH.nil
      go_simp
      go_at_call 63
      (with_reducible refine (HEV.out).mono ?_)
      rintro e z3 ⟨T2, rfl, k6, k7, b9⟩
      have HZ3 := hide (show Below w1.heap.size w1 z3 from HZ2.out.trans (Below.mono b9 HZ2.out.size))
      have H6 := hide k6
      have H7 := hide k7
      clear k6 k7
      clear b9
      refine hK.out _ _ (⟨(HZ3.out.cell (p := ⟨b, 9, none⟩) lb).trans c3, (HZ3.out.cell (p := ⟨C, 0, none⟩) ly).trans y0, (HZ3.out.cell (p := ⟨C, 1, none⟩) ly).trans y1, (HZ3.out.cell (p := ⟨C, 2, none⟩) ly).trans y2, (HZ3.out.cell (p := ⟨C, 3, none⟩) ly).trans y3, (HZ3.out.cell (p := ⟨C, 4, none⟩) ly).trans y4, (HZ3.out.cell (p := ⟨C, 5, none⟩) ly).trans y5, (HZ3.out.cell (p := ⟨C, 6, none⟩) ly).trans y6⟩) (fun hHeld3 => ?_)
      clear hK K
      try simp only [Act.put, List.setIfInBounds_toArray, List.set_cons_zero, List.set_cons_succ]
      refine wpAnyH_take (i := 14) (oi := { dst := some 8, op := Op.assign (Operand.tmp 44), type := 98, pos := "keyed.go:38", after := #[{ on := 13, ground := Ground.data }, { on := 13, ground := Ground.chain }, { on := 0, ground := Ground.phase }, { on := 1, ground := Ground.phase }, { on := 2, ground := Ground.phase }, { on := 3, ground := Ground.phase }, { on := 4, ground := Ground.phase }, { on := 5, ground := Ground.phase }, { on := 6, ground := Ground.phase }, { on := 7, ground := Ground.phase }, { on := 8, ground := Ground.phase }, { on := 9, ground := Ground.phase }, { on := 10, ground := Ground.phase }, { on := 11, ground := Ground.phase }, { on := 12, ground := Ground.phase }, { on := 13, ground := Ground.phase }], guard := none }) (v := ?_) rfl (by kernel_rfl) (by kernel_rfl) (by kernel_rfl) (fun _ _ _ h => h) (Or.inl ⟨by rfl, ?_⟩) (by assumption) ?_
      rotate_left
      · intro wS hSw
        try dsimp only at hSw
        go_simp
        try with_reducible rfl
      try simp only [Act.put, List.setIfInBounds_toArray, List.set_cons_zero, List.set_cons_succ]
      refine wpAnyH_done (by kernel_rfl) ?_ _
      go_wp2
      go_ret
      exact ⟨T2, rfl, H6.out, by rw [H7.out, HIN.out, HL.out], HB1.out.trans (HZ3.out.mono HB1.out.size)⟩
    · have HW := hide (way_eq HTT.out hF HT.out hk)
      have HIN := hide (show insL τ k v (toL (.node b 0 a l r)) = toL l ++ (a.1, v) :: toL r from ins_here hk (toL l) HAA.out.2.2.1)
      clear hk
      go_enter Try.func53, Try.ntmps53
      go_upto_region 1 with (fail)
      rw [HE.out.1]
      try rw [HE.out.2]
      clear HE
      go_wp2_with fail
      refine HW.out.mono ?_
      rintro e w1 ⟨rfl, b2⟩
      have HB1 := hide (HB.out.trans (b2.mono HB.out.size))
      have HT1 := hide (TIn.keep (NK.of_below b2 (Nat.le_refl _)) HT.out)
      have HTT1 := hide (HTT.out.below b2)
      replace HY := hide (below_block b2 HY.out (Nat.le_refl _))
      clear y0 y1 y2 y3 y4 y5 y6 yf ly b2 HW
      obtain ⟨y0, y1, y2, y3, y4, y5, y6, yf⟩ := val_cells HY.out
      have ly := lt_of_block HY.out
      clear yf
      obtain ⟨S0, hS0⟩ : ∃ S, nsz l + 1 + nsz r = S := ⟨_, rfl⟩
      have hh := HT1.out.2.1
      rw [hS0] at hh
      obtain ⟨c0, c1, c1a, c1b, c1c, c1d, c1e, c1f, c2, c3, c4, cf⟩ := five_cells hh
      have HS := hide hS0
      clear hh hS0
      go_wp2
      go_ret
      have hb := (Below.refl w1.heap.size w1).alloc (Nat.le_refl _) (.cells #[.int .u32 a.1, .int .u8 v.m0, .int .u8 v.m1, .int .u8 v.m2, .int .u8 v.m3, .int .u8 v.m4, .int .u8 v.m5, .int .u64 v.e, .int .i64 (S0 : Int), .pointer (ad l), .pointer (ad r)] 111)
      have hk := NK.of_below hb (Nat.le_refl _)
      refine ⟨.node w1.heap.size 0 (a.1, v) l r, rfl, ⟨rfl, ?_, TIn.keep hk HT1.out.2.2.1, TIn.keep hk HT1.out.2.2.2⟩, HIN.out.symm, HB1.out.trans (hb.mono HB1.out.size)⟩
      rw [HS.out]
      exact heap_alloc_new w1 _
    · have HW := hide (way_gt HTT.out hF HT.out hk)
      have HIN := hide (show insL τ k v (toL (.node b 0 a l r)) = toL l ++ a :: insL τ k v (toL r) from ins_right hk (toL l) HAA.out.2.2.1)
      clear hk
      go_enter Try.func53, Try.ntmps53
      go_upto_region 1 with (fail)
      rw [HE.out.1]
      try rw [HE.out.2]
      clear HE
      go_wp2_with fail
      refine HW.out.mono ?_
      rintro e w1 ⟨rfl, b2⟩
      have HB1 := hide (HB.out.trans (b2.mono HB.out.size))
      have HT1 := hide (TIn.keep (NK.of_below b2 (Nat.le_refl _)) HT.out)
      have HTT1 := hide (HTT.out.below b2)
      replace HY := hide (below_block b2 HY.out (Nat.le_refl _))
      clear y0 y1 y2 y3 y4 y5 y6 yf ly b2 HW
      obtain ⟨y0, y1, y2, y3, y4, y5, y6, yf⟩ := val_cells HY.out
      have ly := lt_of_block HY.out
      clear yf
      obtain ⟨_, _, _, _, _, _, _, _, _, c3, c4, cf⟩ := five_cells HT1.out.2.1
      have lb := lt_of_block HT1.out.2.1
      clear c3
      go_wp2_with fail
      have HTS := hide HT1.out.2.2.2
      have HAS := hide HAA.out.2.1
      have HZ0 := hide (show Below w1.heap.size w1 w1.drew from (Below.refl _ _).drew)
      refine wp_region_held_drew (S := fun w' => w'.cell? ⟨b, 10, none⟩ = some (.pointer (ad r)) ∧ w'.cell? ⟨C, 0, none⟩ = some (.int .u8 v.m0) ∧ w'.cell? ⟨C, 1, none⟩ = some (.int .u8 v.m1) ∧ w'.cell? ⟨C, 2, none⟩ = some (.int .u8 v.m2) ∧ w'.cell? ⟨C, 3, none⟩ = some (.int .u8 v.m3) ∧ w'.cell? ⟨C, 4, none⟩ = some (.int .u8 v.m4) ∧ w'.cell? ⟨C, 5, none⟩ = some (.int .u8 v.m5) ∧ w'.cell? ⟨C, 6, none⟩ = some (.int .u64 v.e)) (by kernel_rfl) (by exact ⟨(HZ0.out.cell (p := ⟨b, 10, none⟩) lb).trans c4, (HZ0.out.cell (p := ⟨C, 0, none⟩) ly).trans y0, (HZ0.out.cell (p := ⟨C, 1, none⟩) ly).trans y1, (HZ0.out.cell (p := ⟨C, 2, none⟩) ly).trans y2, (HZ0.out.cell (p := ⟨C, 3, none⟩) ly).trans y3, (HZ0.out.cell (p := ⟨C, 4, none⟩) ly).trans y4, (HZ0.out.cell (p := ⟨C, 5, none⟩) ly).trans y5, (HZ0.out.cell (p := ⟨C, 6, none⟩) ly).trans y6⟩) (fun hHeld => ?_)
      refine wpAnyH_take (i := 0) (oi := { dst := some 31, op := Op.move (Operand.tmp 1), type := 98, pos := "keyed.go:38", after := #[], guard := none }) (v := ?_) rfl (by kernel_rfl) (by kernel_rfl) (by kernel_rfl) (fun _ _ _ h => h) (Or.inl ⟨by rfl, ?_⟩) (by assumption) ?_
      rotate_left
      · intro wS hSw
        try dsimp only at hSw
        go_simp
        try with_reducible rfl
      try simp only [Act.put, List.setIfInBounds_toArray, List.set_cons_zero, List.set_cons_succ]
      refine wpAnyH_take (i := 1) (oi := { dst := some 32, op := Op.move (Operand.tmp 9), type := 3, pos := "keyed.go:38", after := #[], guard := none }) (v := ?_) rfl (by kernel_rfl) (by kernel_rfl) (by kernel_rfl) (fun _ _ _ h => h) (Or.inl ⟨by rfl, ?_⟩) (by assumption) ?_
      rotate_left
      · intro wS hSw
        try dsimp only at hSw
        go_simp
        try with_reducible rfl
      try simp only [Act.put, List.setIfInBounds_toArray, List.set_cons_zero, List.set_cons_succ]
      refine wpAnyH_take (i := 2) (oi := { dst := some 33, op := Op.move (Operand.tmp 0), type := 65, pos := "keyed.go:38", after := #[], guard := none }) (v := ?_) rfl (by kernel_rfl) (by kernel_rfl) (by kernel_rfl) (fun _ _ _ h => h) (Or.inl ⟨by rfl, ?_⟩) (by assumption) ?_
      rotate_left
      · intro wS hSw
        try dsimp only at hSw
        go_simp
        try with_reducible rfl
      try simp only [Act.put, List.setIfInBounds_toArray, List.set_cons_zero, List.set_cons_succ]
      refine wpAnyH_take (i := 3) (oi := { dst := some 34, op := Op.move (Operand.tmp 1), type := 98, pos := "keyed.go:38", after := #[], guard := none }) (v := ?_) rfl (by kernel_rfl) (by kernel_rfl) (by kernel_rfl) (fun _ _ _ h => h) (Or.inl ⟨by rfl, ?_⟩) (by assumption) ?_
      rotate_left
      · intro wS hSw
        try dsimp only at hSw
        go_simp
        try with_reducible rfl
      try simp only [Act.put, List.setIfInBounds_toArray, List.set_cons_zero, List.set_cons_succ]
      refine wpAnyH_take (i := 4) (oi := { dst := some 35, op := Op.move (Operand.tmp 9), type := 3, pos := "keyed.go:38", after := #[], guard := none }) (v := ?_) rfl (by kernel_rfl) (by kernel_rfl) (by kernel_rfl) (fun _ _ _ h => h) (Or.inl ⟨by rfl, ?_⟩) (by assumption) ?_
      rotate_left
      · intro wS hSw
        try dsimp only at hSw
        go_simp
        try with_reducible rfl
      try simp only [Act.put, List.setIfInBounds_toArray, List.set_cons_zero, List.set_cons_succ]
      refine wpAnyH_take (i := 5) (oi := { dst := some 36, op := Op.nilCheck (Operand.tmp 34), type := 0, pos := "keyed.go:38", after := #[{ on := 3, ground := Ground.data }], guard := none }) (v := ?_) rfl (by kernel_rfl) (by kernel_rfl) (by kernel_rfl) (fun _ _ _ h => h) (Or.inl ⟨by rfl, ?_⟩) (by assumption) ?_
      rotate_left
      · intro wS hSw
        try dsimp only at hSw
        go_simp
        try with_reducible rfl
      try simp only [Act.put, List.setIfInBounds_toArray, List.set_cons_zero, List.set_cons_succ]
      refine wpAnyH_take (i := 6) (oi := { dst := some 37, op := Op.fieldAddr 111 (Operand.tmp 36) 3, type := 0, pos := "keyed.go:38", after := #[{ on := 5, ground := Ground.data }], guard := none }) (v := ?_) rfl (by kernel_rfl) (by kernel_rfl) (by kernel_rfl) (fun _ _ _ h => h) (Or.inl ⟨by rfl, ?_⟩) (by assumption) ?_
      rotate_left
      · intro wS hSw
        try dsimp only at hSw
        go_simp
        try with_reducible rfl
      try simp only [Act.put, List.setIfInBounds_toArray, List.set_cons_zero, List.set_cons_succ]
      refine wpAnyH_take (i := 7) (oi := { dst := some 38, op := Op.indexAddr 109 (Operand.tmp 37) (Operand.tmp 35), type := 0, pos := "keyed.go:38", after := #[{ on := 6, ground := Ground.data }, { on := 4, ground := Ground.data }], guard := none }) (v := ?_) rfl (by kernel_rfl) (by kernel_rfl) (by kernel_rfl) (fun _ _ _ h => h) (Or.inl ⟨by rfl, ?_⟩) (by assumption) ?_
      rotate_left
      · intro wS hSw
        try dsimp only at hSw
        go_simp
        try with_reducible rfl
      try simp only [Act.put, List.setIfInBounds_toArray, List.set_cons_zero, List.set_cons_succ]
      refine wpAnyH_take (i := 8) (oi := { dst := some 39, op := Op.load 98 (Operand.tmp 38), type := 98, pos := "keyed.go:38", after := #[{ on := 7, ground := Ground.data }], guard := none }) (v := ?_) rfl (by kernel_rfl) (by kernel_rfl) (by kernel_rfl) (fun _ _ _ h => h) (Or.inl ⟨by rfl, ?_⟩) (by assumption) ?_
      rotate_left
      · intro wS hSw
        try dsimp only at hSw
        go_simp
        try with_reducible rfl
      try simp only [Act.put, List.setIfInBounds_toArray, List.set_cons_zero, List.set_cons_succ]
      refine wpAnyH_take (i := 9) (oi := { dst := some 40, op := Op.move (Operand.tmp 2), type := 25, pos := "keyed.go:38", after := #[], guard := none }) (v := ?_) rfl (by kernel_rfl) (by kernel_rfl) (by kernel_rfl) (fun _ _ _ h => h) (Or.inl ⟨by rfl, ?_⟩) (by assumption) ?_
      rotate_left
      · intro wS hSw
        try dsimp only at hSw
        go_simp
        try with_reducible rfl
      try simp only [Act.put, List.setIfInBounds_toArray, List.set_cons_zero, List.set_cons_succ]
      refine wpAnyH_take (i := 10) (oi := { dst := some 41, op := Op.load 68 (Operand.tmp 7), type := 68, pos := "keyed.go:38", after := #[], guard := none }) (v := ?_) rfl (by kernel_rfl) (by kernel_rfl) (by kernel_rfl) (fun _ _ _ h => h) (Or.inl ⟨by rfl, ?_⟩) (by assumption) ?_
      rotate_left
      · intro wS hSw
        try dsimp only at hSw
        go_simp
        try with_reducible rfl
      try simp only [Act.put, List.setIfInBounds_toArray, List.set_cons_zero, List.set_cons_succ]
      refine wpAnyH_ready (rs := [11]) (by kernel_rfl) (by simp) ?_
      refine AllReadyH.cons (o := { dst := some 42, op := Op.call { callee := Callee.value (Operand.func 53), args := #[Operand.tmp 33, Operand.tmp 39, Operand.tmp 40, Operand.tmp 41], argTypes := #[65, 98, 25, 68] }, type := 98, pos := "keyed.go:38", after := #[{ on := 2, ground := Ground.data }, { on := 8, ground := Ground.data }, { on := 9, ground := Ground.data }, { on := 10, ground := Ground.data }], guard := none }) rfl (fun K hK => ?_) AllReadyH.nil
      go_simp
      go_at_call 53
      (with_reducible refine (ihr _ (HTT1.out.below HZ0.out) (TIn.keep (NK.of_below HZ0.out (Nat.le_refl _)) HTS.out) HAS.out (by omega)).mono ?_)
      rintro e z1 ⟨T1, rfl, k1, k2, b9⟩
      have HZ1 := hide (show Below w1.heap.size w1 z1 from HZ0.out.trans (Below.mono b9 HZ0.out.size))
      have hsz : nsz T1 ≤ nsz r + 1 := by unfold nsz; rw [k2]; exact ins_le _
      have HWI := hide (with1_any b a l r T1 z1 (TIn.keep (NK.of_below HZ1.out (Nat.le_refl _)) HT1.out) k1 (by omega) (by omega))
      have HL := hide k2
      clear k1 k2
      clear b9
      refine hK.out _ _ (⟨(HZ1.out.cell (p := ⟨b, 10, none⟩) lb).trans c4, (HZ1.out.cell (p := ⟨C, 0, none⟩) ly).trans y0, (HZ1.out.cell (p := ⟨C, 1, none⟩) ly).trans y1, (HZ1.out.cell (p := ⟨C, 2, none⟩) ly).trans y2, (HZ1.out.cell (p := ⟨C, 3, none⟩) ly).trans y3, (HZ1.out.cell (p := ⟨C, 4, none⟩) ly).trans y4, (HZ1.out.cell (p := ⟨C, 5, none⟩) ly).trans y5, (HZ1.out.cell (p := ⟨C, 6, none⟩) ly).trans y6⟩) (fun hHeld1 => ?_)
      clear hK K
      try simp only [Act.put, List.setIfInBounds_toArray, List.set_cons_zero, List.set_cons_succ]
      refine wpAnyH_ready (rs := [12]) (by kernel_rfl) (by simp) ?_
      refine AllReadyH.cons (o := { dst := some 43, op := Op.call { callee := Callee.value (Operand.func 62), args := #[Operand.tmp 31, Operand.tmp 32, Operand.tmp 42], argTypes := #[98, 3, 98] }, type := 98, pos := "keyed.go:38", after := #[{ on := 0, ground := Ground.data }, { on := 1, ground := Ground.data }, { on := 11, ground := Ground.data }, { on := 11, ground := Ground.chain }], guard := none }) rfl (fun K hK => ?_) AllReadyH.nil
      go_simp
      go_at_call 62
      (with_reducible refine (HWI.out).mono ?_)
      rintro e z2 ⟨b1, rfl, k4, b9⟩
      have HZ2 := hide (show Below w1.heap.size w1 z2 from HZ1.out.trans (Below.mono b9 HZ1.out.size))
      have HEV := hide (even_any b1 a l T1 z2 k4 (by omega))
      clear k4
      clear b9
      refine hK.out _ _ (⟨(HZ2.out.cell (p := ⟨b, 10, none⟩) lb).trans c4, (HZ2.out.cell (p := ⟨C, 0, none⟩) ly).trans y0, (HZ2.out.cell (p := ⟨C, 1, none⟩) ly).trans y1, (HZ2.out.cell (p := ⟨C, 2, none⟩) ly).trans y2, (HZ2.out.cell (p := ⟨C, 3, none⟩) ly).trans y3, (HZ2.out.cell (p := ⟨C, 4, none⟩) ly).trans y4, (HZ2.out.cell (p := ⟨C, 5, none⟩) ly).trans y5, (HZ2.out.cell (p := ⟨C, 6, none⟩) ly).trans y6⟩) (fun hHeld2 => ?_)
      clear hK K
      try simp only [Act.put, List.setIfInBounds_toArray, List.set_cons_zero, List.set_cons_succ]
      refine wpAnyH_ready (rs := [13]) (by kernel_rfl) (by simp) ?_
      refine AllReadyH.cons (o := { dst := some 44, op := Op.call { callee := Callee.value (Operand.func 63), args := #[Operand.tmp 43], argTypes := #[98] }, type := 98, pos := "keyed.go:38", after := #[{ on := 12, ground := Ground.data }, { on := 12, ground := Ground.chain }], guard := none }) rfl (fun K hK => ?_) AllReadyH.nil
      go_simp
      go_at_call 63
      (with_reducible refine (HEV.out).mono ?_)
      rintro e z3 ⟨T2, rfl, k6, k7, b9⟩
      have HZ3 := hide (show Below w1.heap.size w1 z3 from HZ2.out.trans (Below.mono b9 HZ2.out.size))
      have H6 := hide k6
      have H7 := hide k7
      clear k6 k7
      clear b9
      refine hK.out _ _ (⟨(HZ3.out.cell (p := ⟨b, 10, none⟩) lb).trans c4, (HZ3.out.cell (p := ⟨C, 0, none⟩) ly).trans y0, (HZ3.out.cell (p := ⟨C, 1, none⟩) ly).trans y1, (HZ3.out.cell (p := ⟨C, 2, none⟩) ly).trans y2, (HZ3.out.cell (p := ⟨C, 3, none⟩) ly).trans y3, (HZ3.out.cell (p := ⟨C, 4, none⟩) ly).trans y4, (HZ3.out.cell (p := ⟨C, 5, none⟩) ly).trans y5, (HZ3.out.cell (p := ⟨C, 6, none⟩) ly).trans y6⟩) (fun hHeld3 => ?_)
      clear hK K
      try simp only [Act.put, List.setIfInBounds_toArray, List.set_cons_zero, List.set_cons_succ]
      refine wpAnyH_take (i := 14) (oi := { dst := some 8, op := Op.assign (Operand.tmp 44), type := 98, pos := "keyed.go:38", after := #[{ on := 13, ground := Ground.data }, { on := 13, ground := Ground.chain }, { on := 0, ground := Ground.phase }, { on := 1, ground := Ground.phase }, { on := 2, ground := Ground.phase }, { on := 3, ground := Ground.phase }, { on := 4, ground := Ground.phase }, { on := 5, ground := Ground.phase }, { on := 6, ground := Ground.phase }, { on := 7, ground := Ground.phase }, { on := 8, ground := Ground.phase }, { on := 9, ground := Ground.phase }, { on := 10, ground := Ground.phase }, { on := 11, ground := Ground.phase }, { on := 12, ground := Ground.phase }, { on := 13, ground := Ground.phase }], guard := none }) (v := ?_) rfl (by kernel_rfl) (by kernel_rfl) (by kernel_rfl) (fun _ _ _ h => h) (Or.inl ⟨by rfl, ?_⟩) (by assumption) ?_
      rotate_left
      · intro wS hSw
        try dsimp only at hSw
        go_simp
        try with_reducible rfl
      try simp only [Act.put, List.setIfInBounds_toArray, List.set_cons_zero, List.set_cons_succ]
      refine wpAnyH_done (by kernel_rfl) ?_ _
      go_wp2
      go_ret
      exact ⟨T2, rfl, H6.out, by rw [H7.out, HIN.out, HL.out], HB1.out.trans (HZ3.out.mono HB1.out.size)⟩
end Go.Proofs.Ytbibobjkclgogaa.D
