/- The example of layer 21. -/
import Derived.Test.YtinmlndimgengaaGreatDoorINat
namespace Go.Proofs.YtinmlndimgengaaGreatDoor
open Go.RowKit Go.Deep
set_option linter.unusedVariables false
set_option linter.unusedSimpArgs false
set_option maxRecDepth 100000
theorem yl_cfg {ops : Array Oper} {S : World → Prop} {op : Oper} {a : Act} (hw : Region.wanted op (yielded ops a.tmps) = true) (x : Operand) (ho : op.op = .load 28 x) (b : Nat) (hx : a.eval x = .pointer (some ⟨b, 0, none⟩)) (cs : Array Value)
    (hS : ∀ w, S w → w.rangeAt b 0 cs.toList) (hs : cs.size = 28) : YieldsIf Tryz.prog ops S op (.agg cs) a := by
  have := yieldsIf_load_mid (P := Tryz.prog) (ops := ops) (S := S) (op := op) (a := a) hw 28 x ho b 0 hx cs.toList _ hS Tryz.underlying28 rfl (by rw [Array.length_toList, hs]; exact info_cfg)
  simpa using this

theorem size_foldl1 (xs : List (Value × Nat)) (D : Array Value) : (xs.foldl (fun (cs : Array Value) (x : Value × Nat) => cs.setIfInBounds (1 + x.snd) x.fst) D).size = D.size := by
  induction xs generalizing D with
  | nil => rfl
  | cons x r ih => rw [List.foldl_cons, ih]; simp
theorem scene_size (pc : Array Value) (hp : pc.size = 28) (sp : Nat) : ∃ D, Array.foldl (fun (cs : Array Value) (x : Value × Nat) => cs.setIfInBounds (1 + x.snd) x.fst) #[.pointer (some ⟨sp, 0, none⟩), .int .u8 0, .int .u8 0, .int .u8 0, .int .u8 0, .int .u8 0, .int .u8 0, .int .u8 0, .int .u8 0, .int .u8 0, .int .u8 0, .int .u8 0, .int .u8 0, .int .u8 0, .int .u8 0, .int .u8 0, .int .u8 0, .int .u8 0, .int .u8 0, .int .u32 0, .int .u32 0, .int .i64 0, .int .i64 0, .int .i64 0, .int .i64 0, .int .i64 0, .slice none 0 0, .int .u32 0, .string ⟨#[]⟩, .int .u32 0, .int .u64 0] pc.zipIdx 0 28 = D ∧ D.size = 31 := by
  refine ⟨_, rfl, ?_⟩
  have h9 : ∀ n, n = pc.zipIdx.size → (Array.foldl (fun (cs : Array Value) (x : Value × Nat) => cs.setIfInBounds (1 + x.snd) x.fst) #[.pointer (some ⟨sp, 0, none⟩), .int .u8 0, .int .u8 0, .int .u8 0, .int .u8 0, .int .u8 0, .int .u8 0, .int .u8 0, .int .u8 0, .int .u8 0, .int .u8 0, .int .u8 0, .int .u8 0, .int .u8 0, .int .u8 0, .int .u8 0, .int .u8 0, .int .u8 0, .int .u8 0, .int .u32 0, .int .u32 0, .int .i64 0, .int .i64 0, .int .i64 0, .int .i64 0, .int .i64 0, .slice none 0 0, .int .u32 0, .string ⟨#[]⟩, .int .u32 0, .int .u64 0] pc.zipIdx 0 n).size = 31 := by
    rintro n rfl
    rw [← Array.foldl_toList, size_foldl1]
    rfl
  exact h9 28 (by simp [hp])
theorem row_form {w : World} {base m n : Nat} {e : TypeId} {v : Value} {xs : List Value} (h : w.ownsRow base e m v (n + 1) xs) : ∃ g c, v = .slice (some ⟨g, 0, none⟩) (n + 1) c ∧ base ≤ g := by
  rcases h.2 with ⟨_, h⟩ | ⟨g, c, cur, rfl, h1, _⟩
  · omega
  · exact ⟨g, c, rfl, h1⟩
theorem chain3 (w : World) (b : Nat) (u0 u1 u2 v0 v1 v2 : Value) (T : TypeId) (K : Nat) (w0 : World) (h : w.heap[b]? = some (.cells #[u0, u1, u2] T (0, 0))) (hK : K ≤ b) (hB : Below K w0 w) :
    ∃ z, ((w.setCell ⟨b, 0, none⟩ v0).setCell ⟨b, 1, none⟩ v1).setCell ⟨b, 2, none⟩ v2 = z ∧ z.heap[b]? = some (.cells #[v0, v1, v2] T (0, 0)) ∧ Below K w0 z ∧ (∀ k, k ≠ b → z.heap[k]? = w.heap[k]?) := by
  obtain ⟨q0, e0⟩ : ∃ q, w.setCell ⟨b, 0, none⟩ v0 = q := ⟨_, rfl⟩
  have a0 : q0.heap[b]? = some (.cells #[v0, u1, u2] T (0, 0)) := by rw [← e0]; exact heap_setCell_same w b 0 _ _ v0 h
  rw [e0]
  obtain ⟨q1, e1⟩ : ∃ q, q0.setCell ⟨b, 1, none⟩ v1 = q := ⟨_, rfl⟩
  have a1 : q1.heap[b]? = some (.cells #[v0, v1, u2] T (0, 0)) := by rw [← e1]; exact heap_setCell_same q0 b 1 _ _ v1 a0
  rw [e1]
  have a2 := heap_setCell_same q1 b 2 _ _ v2 a1
  refine ⟨_, rfl, a2, ?_, fun k hk => ?_⟩
  · rw [← e1, ← e0]
    exact Below.setCell (p := ⟨b, 2, none⟩) (Below.setCell (p := ⟨b, 1, none⟩) (Below.setCell (p := ⟨b, 0, none⟩) hB hK _) hK _) hK _
  · rw [heap_setCell_other _ _ _ _ hk, ← e1, heap_setCell_other _ _ _ _ hk, ← e0, heap_setCell_other _ _ _ _ hk]
/-- The row of the answer's arguments. -/
def RowG (z : World) (g : Nat) : Prop := ∃ cur f, z.heap[g]? = some (.cells cur 75 f) ∧ cur.toList.take 4 = natL.map .string
theorem RowG.of {w : World} {base g c : Nat} (h : w.ownsRow base 75 2 (.slice (some ⟨g, 0, none⟩) 2 c) 2 (natL.map .string)) : RowG w g := by
  rcases h.2 with ⟨h, _⟩ | ⟨g', c', cur, hv, h1, h2, _, _, _, h3⟩
  · cases h
  · injection hv with hv _ _
    injection hv with hv
    injection hv with hv
    subst hv
    exact ⟨cur, _, h2, h3⟩
theorem RowG.below {z z' : World} {g : Nat} (h : RowG z g) (hb : Below z.heap.size z z') : RowG z' g := by
  obtain ⟨cur, f, h1, h2⟩ := h
  exact ⟨cur, f, below_blk hb h1 (Nat.le_refl _), h2⟩
theorem RowG.other {z z' : World} {g R : Nat} {cs : Array Value} {f : Nat × Nat} (h : RowG z g) (hR : z.heap[R]? = some (.cells cs 40 f)) (ho : ∀ k, k ≠ R → z'.heap[k]? = z.heap[k]?) : RowG z' g := by
  obtain ⟨cur, f1, h1, h2⟩ := h
  refine ⟨cur, f1, (ho g (fun e => ?_)).trans h1, h2⟩
  subst e
  rw [hR] at h1
  injection h1 with h1
  injection h1 with _ h1 _
  exact absurd h1 (by decide)
theorem RowG.cells {z : World} {g : Nat} (h : RowG z g) : z.cell? ⟨g, 2, none⟩ = some (.string ⟨#[78, 101, 119, 78, 65, 84, 69, 110, 97, 98, 108, 101, 100]⟩) ∧ z.cell? ⟨g, 3, none⟩ = some (.string ⟨#[49]⟩) := by
  obtain ⟨cur, f, h1, h2⟩ := h
  have k : ∀ i v, (natL.map Value.string)[i]? = some v → z.cell? ⟨g, i, none⟩ = some v := fun i v hv => by
    have h3 := hv
    rw [← h2] at h3
    have hi : i < 4 := by
      have := (List.getElem?_eq_some_iff.1 hv).1
      simpa [natL] using this
    rw [List.getElem?_take_of_lt hi] at h3
    rw [cell_of_row _ _ _ _ _ f h1]
    simpa using h3
  exact ⟨k 2 _ rfl, k 3 _ rfl⟩
set_option maxHeartbeats 800000 in
theorem speaks_any (w : World) : Calls Tryz.prog 9 #[] w fun e w' => e = .returned (.bool true) ∧ Below w.heap.size w w' := by
  have HPL := hide (plain_any w)
  go_enter Tryz.func9, Tryz.ntmps9
  go_wp2_with fail
  refine HPL.out.mono ?_
  rintro e w1 ⟨rfl, b1⟩
  have HN0 := hide (fun (V : World) => mnew_any pl V none [] 0 0 (fun h => absurd rfl h) rfl (by omega))
  obtain ⟨pc, hpc⟩ : ∃ c, pl.cells none 0 0 = c := ⟨_, rfl⟩
  have hpz : pc.size = 28 := by rw [← hpc]; rfl
  have hp1 : pc.all (·.oneCell') = true := by rw [← hpc]; exact pl_one
  rw [hpc] at HN0 ⊢
  clear hpc HPL
  have HZ1 := hide (heap_alloc_new w1 (.cells zeroCfg 28))
  have HZ2 := hide ((Below.refl w1.heap.size w1).alloc (Nat.le_refl _) (.cells zeroCfg 28))
  obtain ⟨B, hB⟩ : ∃ b, w1.heap.size = b := ⟨_, rfl⟩
  rw [hB] at HZ1
  have HBE := hide hB
  go_upto_region 2 with ((refine st_cfg (o := ⟨none, _, _, _, _, _⟩) (.tmp 1) (.tmp 4) rfl (by rfl) B rfl zeroCfg pc rfl HZ1.out rfl hpz hp1 HZ2.out (Nat.le_of_eq HBE.out) ?_; rintro w2 hr2 hb2 ho2 hs2; have HR2 := hide hr2; have HB2 := hide hb2; clear hr2 hb2 ho2 hs2; try simp only [Act.put, List.setIfInBounds_toArray, List.set_cons_zero, List.set_cons_succ]))
  have x2 := HR2.out
  have b2 := HB2.out
  have HB := hide (b1.trans (b2.mono b1.size))
  have HSS := hide (fun (V : World) (hV : Below w2.heap.size w2 V) => (show V.rangeAt B 0 pc.toList from fun j v hv => by
    have h3 : pc[j]? = some v := by simpa using hv
    rw [cell_of_row _ _ _ _ _ (0, 0) (below_blk hV x2 (Nat.le_refl _)), Nat.zero_add]
    exact h3))
  have HNW := hide (fun (V : World) (hV : Below w2.heap.size w2 V) => HN0.out V)
  have HW0 := hide (below_drew w2)
  clear hB x2 b1 b2 HZ1 HZ2 HR2 HB2
  refine wp_region_held_drew (S := fun w' => w'.rangeAt B 0 pc.toList) (by kernel_rfl) (by exact HSS.out _ HW0.out) (fun hHeld => ?_)
  generalize w2.drew = z0 at *
  refine wpAnyH_take (i := 0) (oi := { dst := some 6, op := Op.load 28 (Operand.tmp 1), type := 28, pos := "law.go:25", after := #[], guard := none }) (v := .agg pc) rfl (by kernel_rfl) (by kernel_rfl) (by kernel_rfl) (fun _ _ _ h => h) (yl_cfg (by rfl) _ rfl B rfl pc (fun w h => h) hpz) (by assumption) ?_
  try simp only [Act.put, List.setIfInBounds_toArray, List.set_cons_zero, List.set_cons_succ]
  refine wpAnyH_take (i := 2) (oi := { dst := some 8, op := Op.load 28 (Operand.tmp 1), type := 28, pos := "law.go:25", after := #[], guard := none }) (v := .agg pc) rfl (by kernel_rfl) (by kernel_rfl) (by kernel_rfl) (fun _ _ _ h => h) (yl_cfg (by rfl) _ rfl B rfl pc (fun w h => h) hpz) (by assumption) ?_
  try simp only [Act.put, List.setIfInBounds_toArray, List.set_cons_zero, List.set_cons_succ]
  refine wpAnyH_take (i := 4) (oi := { dst := some 10, op := Op.build 40 #[(0, Operand.const (Value.string { data := #[117, 114, 110, 58, 115, 99, 104, 101, 109, 97, 115, 45, 117, 112, 110, 112, 45, 111, 114, 103, 58, 115, 101, 114, 118, 105, 99, 101, 58, 87, 65, 78, 73, 80, 67, 111, 110, 110, 101, 99, 116, 105, 111, 110, 58, 50] })), (1, Operand.const (Value.string { data := #[71, 101, 116, 78, 65, 84, 82, 83, 73, 80, 83, 116, 97, 116, 117, 115] }))], type := 40, pos := "law.go:25", after := #[], guard := none }) (v := ?_) rfl (by kernel_rfl) (by kernel_rfl) (by kernel_rfl) (fun _ _ _ h => h) (Or.inl ⟨by rfl, ?_⟩) (by assumption) ?_
  rotate_left
  · intro wS hSw
    try dsimp only at hSw
    go_simp
    try with_reducible rfl
  try simp only [Act.put, List.setIfInBounds_toArray, List.set_cons_zero, List.set_cons_succ]
  refine wpAnyH_ready (rs := [1, 9]) (by kernel_rfl) (by simp) ?_
  refine AllReadyH.cons (o := { dst := some 7, op := Op.call { callee := Callee.value (Operand.func 12), args := #[Operand.tmp 6], argTypes := #[28] }, type := 33, pos := "law.go:25", after := #[{ on := 0, ground := Ground.data }], guard := none }) rfl (fun K hK => ?_) ?_
  ·
    go_simp
    go_at_call 12
    refine (HNW.out _ HW0.out).mono ?_
    rintro e z1 ⟨sp, rfl, b9, _⟩
    have HH1 := hide (HW0.out.trans (b9.mono HW0.out.size))
    clear b9
    obtain ⟨D, hD, hDz⟩ := scene_size pc hpz sp
    refine hK.out _ _ (HSS.out _ HH1.out) (fun hHeld1 => ?_)
    clear hK K
    try simp only [Act.put, List.setIfInBounds_toArray, List.set_cons_zero, List.set_cons_succ]
    refine wpAnyH_take (i := 3) (oi := { dst := some 9, op := Op.build 46 #[(0, Operand.tmp 7), (1, Operand.tmp 8)], type := 46, pos := "law.go:25", after := #[{ on := 1, ground := Ground.data }, { on := 2, ground := Ground.data }], guard := none }) (v := ?_) rfl (by kernel_rfl) (by kernel_rfl) (by kernel_rfl) (fun _ _ _ h => h) (Or.inl ⟨by rfl, ?_⟩) (by assumption) ?_
    rotate_left
    · intro wS hSw
      try dsimp only at hSw
      go_simp
      try with_reducible rfl
    try simp only [Act.put, List.setIfInBounds_toArray, List.set_cons_zero, List.set_cons_succ]
    refine wpAnyH_ready (rs := [5, 9]) (by kernel_rfl) (by simp) ?_
    refine AllReadyH.cons (o := { dst := some 11, op := Op.call { callee := Callee.value (Operand.func 14), args := #[Operand.tmp 9, Operand.tmp 10], argTypes := #[46, 40] }, type := 43, pos := "law.go:25", after := #[{ on := 3, ground := Ground.data }, { on := 4, ground := Ground.data }, { on := 1, ground := Ground.chain }], guard := none }) rfl (fun K hK => ?_) ?_
    ·
      go_simp
      go_at_call 14
      try rw [hD]
      clear hD
      refine (do_nat _ D hDz _ _ none 0 rfl rfl).mono ?_
      rintro e z2 ⟨v, rfl, ho, b9⟩
      obtain ⟨g, cp, rfl, hg⟩ := row_form ho
      have RG2 := hide (RowG.of ho)
      have HH2 := hide (HH1.out.trans (b9.mono HH1.out.size))
      clear b9 ho hg
      refine hK.out _ _ (HSS.out _ HH2.out) (fun hHeld2 => ?_)
      clear hK K
      try simp only [Act.put, List.setIfInBounds_toArray, List.set_cons_zero, List.set_cons_succ]
      refine wpAnyH_take (i := 6) (oi := { dst := some 5, op := Op.move (Operand.tmp 11), type := 43, pos := "law.go:25", after := #[{ on := 5, ground := Ground.data }], guard := none }) (v := ?_) rfl (by kernel_rfl) (by kernel_rfl) (by kernel_rfl) (fun _ _ _ h => h) (Or.inl ⟨by rfl, ?_⟩) (by assumption) ?_
      rotate_left
      · intro wS hSw
        try dsimp only at hSw
        go_simp
        try with_reducible rfl
      try simp only [Act.put, List.setIfInBounds_toArray, List.set_cons_zero, List.set_cons_succ]
      refine wpAnyH_take (i := 7) (oi := { dst := some 12, op := Op.extract (Operand.tmp 5) 0, type := 40, pos := "law.go:25", after := #[{ on := 6, ground := Ground.data }], guard := none }) (v := ?_) rfl (by kernel_rfl) (by kernel_rfl) (by kernel_rfl) (fun _ _ _ h => h) (Or.inl ⟨by rfl, ?_⟩) (by assumption) ?_
      rotate_left
      · intro wS hSw
        try dsimp only at hSw
        go_simp
        try with_reducible rfl
      try simp only [Act.put, List.setIfInBounds_toArray, List.set_cons_zero, List.set_cons_succ]
      refine wpAnyH_take (i := 8) (oi := { dst := some 13, op := Op.extract (Operand.tmp 5) 1, type := 3, pos := "law.go:25", after := #[{ on := 6, ground := Ground.data }, { on := 10, ground := Ground.gcOnly Departure.lateStores }], guard := none }) (v := ?_) rfl (by kernel_rfl) (by kernel_rfl) (by kernel_rfl) (fun _ _ _ h => h) (Or.inl ⟨by rfl, ?_⟩) (by assumption) ?_
      rotate_left
      · intro wS hSw
        try dsimp only at hSw
        go_simp
        try with_reducible rfl
      try simp only [Act.put, List.setIfInBounds_toArray, List.set_cons_zero, List.set_cons_succ]
      refine wpAnyH_ready (rs := [9]) (by kernel_rfl) (by simp) ?_
      refine AllReadyH.cons (o := { dst := some 2, op := Op.alloc 40, type := 0, pos := "law.go:25", after := #[], guard := none }) rfl (fun K hK => ?_) ?_
      ·
        go_simp
        obtain ⟨z3, hz3, v3, vb3⟩ : ∃ V, z2.alloc (.cells #[.string ⟨#[]⟩, .string ⟨#[]⟩, .slice none 0 0] 40) = V ∧ V.heap[z2.heap.size]? = some (.cells #[.string ⟨#[]⟩, .string ⟨#[]⟩, .slice none 0 0] 40 (0, 0)) ∧ Below z2.heap.size z2 V := ⟨_, rfl, heap_alloc_new _ _, (Below.refl _ _).alloc (Nat.le_refl _) _⟩
        obtain ⟨R, hR3⟩ : ∃ b, z2.heap.size = b := ⟨_, rfl⟩
        rw [hR3] at v3
        rw [hz3, hR3]
        have HA3 := hide v3
        have HH3 := hide (HH2.out.trans (vb3.mono HH2.out.size))
        have HRB := hide (show w2.heap.size ≤ R from by rw [← hR3]; exact HH2.out.size)
        have RG3 := hide (RG2.out.below vb3)
        clear hz3 v3 vb3 hR3
        refine hK.out _ _ (HSS.out _ HH3.out) (fun hHeld3 => ?_)
        clear hK K
        try simp only [Act.put, List.setIfInBounds_toArray, List.set_cons_zero, List.set_cons_succ]
        refine wpAnyH_ready (rs := [10]) (by kernel_rfl) (by simp) ?_
        refine AllReadyH.cons (o := { dst := none, op := Op.store 40 (Operand.tmp 2) (Operand.tmp 12), type := 0, pos := "law.go:25", after := #[{ on := 9, ground := Ground.data }, { on := 7, ground := Ground.data }, { on := 5, ground := Ground.chain }, { on := 0, ground := Ground.phase }, { on := 1, ground := Ground.phase }, { on := 2, ground := Ground.phase }, { on := 3, ground := Ground.phase }, { on := 4, ground := Ground.phase }, { on := 5, ground := Ground.phase }, { on := 6, ground := Ground.phase }, { on := 7, ground := Ground.phase }, { on := 8, ground := Ground.textOnly Departure.lateStores }, { on := 9, ground := Ground.phase }], guard := none }) rfl (fun K hK => ?_) ?_
        ·
          obtain ⟨r0, r1, r2, rf⟩ := three_cells HA3.out
          go_simp
          obtain ⟨y, hy, hyr, hyb, hyo⟩ := chain3 z3 R (.string ⟨#[]⟩) (.string ⟨#[]⟩) (.slice none 0 0) (.string ⟨#[117, 114, 110, 58, 115, 99, 104, 101, 109, 97, 115, 45, 117, 112, 110, 112, 45, 111, 114, 103, 58, 115, 101, 114, 118, 105, 99, 101, 58, 87, 65, 78, 73, 80, 67, 111, 110, 110, 101, 99, 116, 105, 111, 110, 58, 50]⟩) (.string ⟨#[71, 101, 116, 78, 65, 84, 82, 83, 73, 80, 83, 116, 97, 116, 117, 115, 82, 101, 115, 112, 111, 110, 115, 101]⟩) (.slice (some ⟨g, 0, none⟩) 2 cp) _ w2.heap.size w2 HA3.out HRB.out HH3.out
          rw [hy]
          have HYR := hide hyr
          have HYB := hide hyb
          have RGY := hide (RG3.out.other HA3.out hyo)
          clear r0 r1 r2 rf hy hyr hyb hyo
          refine hK.out _ _ (HSS.out _ HYB.out) (fun hHeld4 => ?_)
          clear hK K
          try simp only [Act.put, List.setIfInBounds_toArray, List.set_cons_zero, List.set_cons_succ]
          refine wpAnyH_take (i := 11) (oi := { dst := some 3, op := Op.assign (Operand.tmp 13), type := 3, pos := "law.go:25", after := #[{ on := 8, ground := Ground.data }, { on := 10, ground := Ground.chain }, { on := 0, ground := Ground.phase }, { on := 1, ground := Ground.phase }, { on := 2, ground := Ground.phase }, { on := 3, ground := Ground.phase }, { on := 4, ground := Ground.phase }, { on := 5, ground := Ground.phase }, { on := 6, ground := Ground.phase }, { on := 7, ground := Ground.phase }, { on := 8, ground := Ground.phase }, { on := 9, ground := Ground.phase }, { on := 10, ground := Ground.phase }], guard := none }) (v := ?_) rfl (by kernel_rfl) (by kernel_rfl) (by kernel_rfl) (fun _ _ _ h => h) (Or.inl ⟨by rfl, ?_⟩) (by assumption) ?_
          rotate_left
          · intro wS hSw
            try dsimp only at hSw
            go_simp
            try with_reducible rfl
          try simp only [Act.put, List.setIfInBounds_toArray, List.set_cons_zero, List.set_cons_succ]
          refine wpAnyH_done (by kernel_rfl) ?_ _
          obtain ⟨r0, r1, r2, rf⟩ := three_cells HYR.out
          obtain ⟨g2, g3⟩ := RGY.out.cells
          go_wp2_with fail
          go_ret
          exact ⟨rfl, HB.out.trans (HYB.out.mono HB.out.size)⟩
        exact AllReadyH.nil
      exact AllReadyH.nil
    refine AllReadyH.cons (o := { dst := some 2, op := Op.alloc 40, type := 0, pos := "law.go:25", after := #[], guard := none }) rfl (fun K hK => ?_) ?_
    ·
      go_simp
      obtain ⟨z5, hz5, v5, vb5⟩ : ∃ V, z1.alloc (.cells #[.string ⟨#[]⟩, .string ⟨#[]⟩, .slice none 0 0] 40) = V ∧ V.heap[z1.heap.size]? = some (.cells #[.string ⟨#[]⟩, .string ⟨#[]⟩, .slice none 0 0] 40 (0, 0)) ∧ Below z1.heap.size z1 V := ⟨_, rfl, heap_alloc_new _ _, (Below.refl _ _).alloc (Nat.le_refl _) _⟩
      obtain ⟨R, hR5⟩ : ∃ b, z1.heap.size = b := ⟨_, rfl⟩
      rw [hR5] at v5
      rw [hz5, hR5]
      have HA5 := hide v5
      have HH5 := hide (HH1.out.trans (vb5.mono HH1.out.size))
      have HRB := hide (show w2.heap.size ≤ R from by rw [← hR5]; exact HH1.out.size)
      clear hz5 v5 vb5 hR5
      refine hK.out _ _ (HSS.out _ HH5.out) (fun hHeld5 => ?_)
      clear hK K
      try simp only [Act.put, List.setIfInBounds_toArray, List.set_cons_zero, List.set_cons_succ]
      refine wpAnyH_ready (rs := [5]) (by kernel_rfl) (by simp) ?_
      refine AllReadyH.cons (o := { dst := some 11, op := Op.call { callee := Callee.value (Operand.func 14), args := #[Operand.tmp 9, Operand.tmp 10], argTypes := #[46, 40] }, type := 43, pos := "law.go:25", after := #[{ on := 3, ground := Ground.data }, { on := 4, ground := Ground.data }, { on := 1, ground := Ground.chain }], guard := none }) rfl (fun K hK => ?_) ?_
      ·
        go_simp
        go_at_call 14
        try rw [hD]
        clear hD
        refine (do_nat _ D hDz _ _ none 0 rfl rfl).mono ?_
        rintro e z6 ⟨v, rfl, ho, b9⟩
        obtain ⟨g, cp, rfl, hg⟩ := row_form ho
        have RG6 := hide (RowG.of ho)
        have HH6 := hide (HH5.out.trans (b9.mono HH5.out.size))
        have HA6 := hide (below_blk b9 HA5.out (Nat.le_refl _))
        clear b9 ho hg
        refine hK.out _ _ (HSS.out _ HH6.out) (fun hHeld6 => ?_)
        clear hK K
        try simp only [Act.put, List.setIfInBounds_toArray, List.set_cons_zero, List.set_cons_succ]
        refine wpAnyH_take (i := 6) (oi := { dst := some 5, op := Op.move (Operand.tmp 11), type := 43, pos := "law.go:25", after := #[{ on := 5, ground := Ground.data }], guard := none }) (v := ?_) rfl (by kernel_rfl) (by kernel_rfl) (by kernel_rfl) (fun _ _ _ h => h) (Or.inl ⟨by rfl, ?_⟩) (by assumption) ?_
        rotate_left
        · intro wS hSw
          try dsimp only at hSw
          go_simp
          try with_reducible rfl
        try simp only [Act.put, List.setIfInBounds_toArray, List.set_cons_zero, List.set_cons_succ]
        refine wpAnyH_take (i := 7) (oi := { dst := some 12, op := Op.extract (Operand.tmp 5) 0, type := 40, pos := "law.go:25", after := #[{ on := 6, ground := Ground.data }], guard := none }) (v := ?_) rfl (by kernel_rfl) (by kernel_rfl) (by kernel_rfl) (fun _ _ _ h => h) (Or.inl ⟨by rfl, ?_⟩) (by assumption) ?_
        rotate_left
        · intro wS hSw
          try dsimp only at hSw
          go_simp
          try with_reducible rfl
        try simp only [Act.put, List.setIfInBounds_toArray, List.set_cons_zero, List.set_cons_succ]
        refine wpAnyH_take (i := 8) (oi := { dst := some 13, op := Op.extract (Operand.tmp 5) 1, type := 3, pos := "law.go:25", after := #[{ on := 6, ground := Ground.data }, { on := 10, ground := Ground.gcOnly Departure.lateStores }], guard := none }) (v := ?_) rfl (by kernel_rfl) (by kernel_rfl) (by kernel_rfl) (fun _ _ _ h => h) (Or.inl ⟨by rfl, ?_⟩) (by assumption) ?_
        rotate_left
        · intro wS hSw
          try dsimp only at hSw
          go_simp
          try with_reducible rfl
        try simp only [Act.put, List.setIfInBounds_toArray, List.set_cons_zero, List.set_cons_succ]
        refine wpAnyH_ready (rs := [10]) (by kernel_rfl) (by simp) ?_
        refine AllReadyH.cons (o := { dst := none, op := Op.store 40 (Operand.tmp 2) (Operand.tmp 12), type := 0, pos := "law.go:25", after := #[{ on := 9, ground := Ground.data }, { on := 7, ground := Ground.data }, { on := 5, ground := Ground.chain }, { on := 0, ground := Ground.phase }, { on := 1, ground := Ground.phase }, { on := 2, ground := Ground.phase }, { on := 3, ground := Ground.phase }, { on := 4, ground := Ground.phase }, { on := 5, ground := Ground.phase }, { on := 6, ground := Ground.phase }, { on := 7, ground := Ground.phase }, { on := 8, ground := Ground.textOnly Departure.lateStores }, { on := 9, ground := Ground.phase }], guard := none }) rfl (fun K hK => ?_) ?_
        ·
          obtain ⟨r0, r1, r2, rf⟩ := three_cells HA6.out
          go_simp
          obtain ⟨y, hy, hyr, hyb, hyo⟩ := chain3 z6 R (.string ⟨#[]⟩) (.string ⟨#[]⟩) (.slice none 0 0) (.string ⟨#[117, 114, 110, 58, 115, 99, 104, 101, 109, 97, 115, 45, 117, 112, 110, 112, 45, 111, 114, 103, 58, 115, 101, 114, 118, 105, 99, 101, 58, 87, 65, 78, 73, 80, 67, 111, 110, 110, 101, 99, 116, 105, 111, 110, 58, 50]⟩) (.string ⟨#[71, 101, 116, 78, 65, 84, 82, 83, 73, 80, 83, 116, 97, 116, 117, 115, 82, 101, 115, 112, 111, 110, 115, 101]⟩) (.slice (some ⟨g, 0, none⟩) 2 cp) _ w2.heap.size w2 HA6.out HRB.out HH6.out
          rw [hy]
          have HYR := hide hyr
          have HYB := hide hyb
          have RGY := hide (RG6.out.other HA6.out hyo)
          clear r0 r1 r2 rf hy hyr hyb hyo
          refine hK.out _ _ (HSS.out _ HYB.out) (fun hHeld7 => ?_)
          clear hK K
          try simp only [Act.put, List.setIfInBounds_toArray, List.set_cons_zero, List.set_cons_succ]
          refine wpAnyH_take (i := 11) (oi := { dst := some 3, op := Op.assign (Operand.tmp 13), type := 3, pos := "law.go:25", after := #[{ on := 8, ground := Ground.data }, { on := 10, ground := Ground.chain }, { on := 0, ground := Ground.phase }, { on := 1, ground := Ground.phase }, { on := 2, ground := Ground.phase }, { on := 3, ground := Ground.phase }, { on := 4, ground := Ground.phase }, { on := 5, ground := Ground.phase }, { on := 6, ground := Ground.phase }, { on := 7, ground := Ground.phase }, { on := 8, ground := Ground.phase }, { on := 9, ground := Ground.phase }, { on := 10, ground := Ground.phase }], guard := none }) (v := ?_) rfl (by kernel_rfl) (by kernel_rfl) (by kernel_rfl) (fun _ _ _ h => h) (Or.inl ⟨by rfl, ?_⟩) (by assumption) ?_
          rotate_left
          · intro wS hSw
            try dsimp only at hSw
            go_simp
            try with_reducible rfl
          try simp only [Act.put, List.setIfInBounds_toArray, List.set_cons_zero, List.set_cons_succ]
          refine wpAnyH_done (by kernel_rfl) ?_ _
          obtain ⟨r0, r1, r2, rf⟩ := three_cells HYR.out
          obtain ⟨g2, g3⟩ := RGY.out.cells
          go_wp2_with fail
          go_ret
          exact ⟨rfl, HB.out.trans (HYB.out.mono HB.out.size)⟩
        exact AllReadyH.nil
      exact AllReadyH.nil
    exact AllReadyH.nil
  refine AllReadyH.cons (o := { dst := some 2, op := Op.alloc 40, type := 0, pos := "law.go:25", after := #[], guard := none }) rfl (fun K hK => ?_) ?_
  ·
    go_simp
    obtain ⟨z8, hz8, v8, vb8⟩ : ∃ V, z0.alloc (.cells #[.string ⟨#[]⟩, .string ⟨#[]⟩, .slice none 0 0] 40) = V ∧ V.heap[z0.heap.size]? = some (.cells #[.string ⟨#[]⟩, .string ⟨#[]⟩, .slice none 0 0] 40 (0, 0)) ∧ Below z0.heap.size z0 V := ⟨_, rfl, heap_alloc_new _ _, (Below.refl _ _).alloc (Nat.le_refl _) _⟩
    obtain ⟨R, hR8⟩ : ∃ b, z0.heap.size = b := ⟨_, rfl⟩
    rw [hR8] at v8
    rw [hz8, hR8]
    have HA8 := hide v8
    have HH8 := hide (HW0.out.trans (vb8.mono HW0.out.size))
    have HRB := hide (show w2.heap.size ≤ R from by rw [← hR8]; exact HW0.out.size)
    clear hz8 v8 vb8 hR8
    refine hK.out _ _ (HSS.out _ HH8.out) (fun hHeld8 => ?_)
    clear hK K
    try simp only [Act.put, List.setIfInBounds_toArray, List.set_cons_zero, List.set_cons_succ]
    refine wpAnyH_ready (rs := [1]) (by kernel_rfl) (by simp) ?_
    refine AllReadyH.cons (o := { dst := some 7, op := Op.call { callee := Callee.value (Operand.func 12), args := #[Operand.tmp 6], argTypes := #[28] }, type := 33, pos := "law.go:25", after := #[{ on := 0, ground := Ground.data }], guard := none }) rfl (fun K hK => ?_) ?_
    ·
      go_simp
      go_at_call 12
      refine (HNW.out _ HH8.out).mono ?_
      rintro e z9 ⟨sp, rfl, b9, _⟩
      have HH9 := hide (HH8.out.trans (b9.mono HH8.out.size))
      have HA9 := hide (below_blk b9 HA8.out (Nat.le_refl _))
      clear b9
      obtain ⟨D, hD, hDz⟩ := scene_size pc hpz sp
      refine hK.out _ _ (HSS.out _ HH9.out) (fun hHeld9 => ?_)
      clear hK K
      try simp only [Act.put, List.setIfInBounds_toArray, List.set_cons_zero, List.set_cons_succ]
      refine wpAnyH_take (i := 3) (oi := { dst := some 9, op := Op.build 46 #[(0, Operand.tmp 7), (1, Operand.tmp 8)], type := 46, pos := "law.go:25", after := #[{ on := 1, ground := Ground.data }, { on := 2, ground := Ground.data }], guard := none }) (v := ?_) rfl (by kernel_rfl) (by kernel_rfl) (by kernel_rfl) (fun _ _ _ h => h) (Or.inl ⟨by rfl, ?_⟩) (by assumption) ?_
      rotate_left
      · intro wS hSw
        try dsimp only at hSw
        go_simp
        try with_reducible rfl
      try simp only [Act.put, List.setIfInBounds_toArray, List.set_cons_zero, List.set_cons_succ]
      refine wpAnyH_ready (rs := [5]) (by kernel_rfl) (by simp) ?_
      refine AllReadyH.cons (o := { dst := some 11, op := Op.call { callee := Callee.value (Operand.func 14), args := #[Operand.tmp 9, Operand.tmp 10], argTypes := #[46, 40] }, type := 43, pos := "law.go:25", after := #[{ on := 3, ground := Ground.data }, { on := 4, ground := Ground.data }, { on := 1, ground := Ground.chain }], guard := none }) rfl (fun K hK => ?_) ?_
      ·
        go_simp
        go_at_call 14
        try rw [hD]
        clear hD
        refine (do_nat _ D hDz _ _ none 0 rfl rfl).mono ?_
        rintro e z10 ⟨v, rfl, ho, b9⟩
        obtain ⟨g, cp, rfl, hg⟩ := row_form ho
        have RG10 := hide (RowG.of ho)
        have HH10 := hide (HH9.out.trans (b9.mono HH9.out.size))
        have HA10 := hide (below_blk b9 HA9.out (Nat.le_refl _))
        clear b9 ho hg
        refine hK.out _ _ (HSS.out _ HH10.out) (fun hHeld10 => ?_)
        clear hK K
        try simp only [Act.put, List.setIfInBounds_toArray, List.set_cons_zero, List.set_cons_succ]
        refine wpAnyH_take (i := 6) (oi := { dst := some 5, op := Op.move (Operand.tmp 11), type := 43, pos := "law.go:25", after := #[{ on := 5, ground := Ground.data }], guard := none }) (v := ?_) rfl (by kernel_rfl) (by kernel_rfl) (by kernel_rfl) (fun _ _ _ h => h) (Or.inl ⟨by rfl, ?_⟩) (by assumption) ?_
        rotate_left
        · intro wS hSw
          try dsimp only at hSw
          go_simp
          try with_reducible rfl
        try simp only [Act.put, List.setIfInBounds_toArray, List.set_cons_zero, List.set_cons_succ]
        refine wpAnyH_take (i := 7) (oi := { dst := some 12, op := Op.extract (Operand.tmp 5) 0, type := 40, pos := "law.go:25", after := #[{ on := 6, ground := Ground.data }], guard := none }) (v := ?_) rfl (by kernel_rfl) (by kernel_rfl) (by kernel_rfl) (fun _ _ _ h => h) (Or.inl ⟨by rfl, ?_⟩) (by assumption) ?_
        rotate_left
        · intro wS hSw
          try dsimp only at hSw
          go_simp
          try with_reducible rfl
        try simp only [Act.put, List.setIfInBounds_toArray, List.set_cons_zero, List.set_cons_succ]
        refine wpAnyH_take (i := 8) (oi := { dst := some 13, op := Op.extract (Operand.tmp 5) 1, type := 3, pos := "law.go:25", after := #[{ on := 6, ground := Ground.data }, { on := 10, ground := Ground.gcOnly Departure.lateStores }], guard := none }) (v := ?_) rfl (by kernel_rfl) (by kernel_rfl) (by kernel_rfl) (fun _ _ _ h => h) (Or.inl ⟨by rfl, ?_⟩) (by assumption) ?_
        rotate_left
        · intro wS hSw
          try dsimp only at hSw
          go_simp
          try with_reducible rfl
        try simp only [Act.put, List.setIfInBounds_toArray, List.set_cons_zero, List.set_cons_succ]
        refine wpAnyH_ready (rs := [10]) (by kernel_rfl) (by simp) ?_
        refine AllReadyH.cons (o := { dst := none, op := Op.store 40 (Operand.tmp 2) (Operand.tmp 12), type := 0, pos := "law.go:25", after := #[{ on := 9, ground := Ground.data }, { on := 7, ground := Ground.data }, { on := 5, ground := Ground.chain }, { on := 0, ground := Ground.phase }, { on := 1, ground := Ground.phase }, { on := 2, ground := Ground.phase }, { on := 3, ground := Ground.phase }, { on := 4, ground := Ground.phase }, { on := 5, ground := Ground.phase }, { on := 6, ground := Ground.phase }, { on := 7, ground := Ground.phase }, { on := 8, ground := Ground.textOnly Departure.lateStores }, { on := 9, ground := Ground.phase }], guard := none }) rfl (fun K hK => ?_) ?_
        ·
          obtain ⟨r0, r1, r2, rf⟩ := three_cells HA10.out
          go_simp
          obtain ⟨y, hy, hyr, hyb, hyo⟩ := chain3 z10 R (.string ⟨#[]⟩) (.string ⟨#[]⟩) (.slice none 0 0) (.string ⟨#[117, 114, 110, 58, 115, 99, 104, 101, 109, 97, 115, 45, 117, 112, 110, 112, 45, 111, 114, 103, 58, 115, 101, 114, 118, 105, 99, 101, 58, 87, 65, 78, 73, 80, 67, 111, 110, 110, 101, 99, 116, 105, 111, 110, 58, 50]⟩) (.string ⟨#[71, 101, 116, 78, 65, 84, 82, 83, 73, 80, 83, 116, 97, 116, 117, 115, 82, 101, 115, 112, 111, 110, 115, 101]⟩) (.slice (some ⟨g, 0, none⟩) 2 cp) _ w2.heap.size w2 HA10.out HRB.out HH10.out
          rw [hy]
          have HYR := hide hyr
          have HYB := hide hyb
          have RGY := hide (RG10.out.other HA10.out hyo)
          clear r0 r1 r2 rf hy hyr hyb hyo
          refine hK.out _ _ (HSS.out _ HYB.out) (fun hHeld11 => ?_)
          clear hK K
          try simp only [Act.put, List.setIfInBounds_toArray, List.set_cons_zero, List.set_cons_succ]
          refine wpAnyH_take (i := 11) (oi := { dst := some 3, op := Op.assign (Operand.tmp 13), type := 3, pos := "law.go:25", after := #[{ on := 8, ground := Ground.data }, { on := 10, ground := Ground.chain }, { on := 0, ground := Ground.phase }, { on := 1, ground := Ground.phase }, { on := 2, ground := Ground.phase }, { on := 3, ground := Ground.phase }, { on := 4, ground := Ground.phase }, { on := 5, ground := Ground.phase }, { on := 6, ground := Ground.phase }, { on := 7, ground := Ground.phase }, { on := 8, ground := Ground.phase }, { on := 9, ground := Ground.phase }, { on := 10, ground := Ground.phase }], guard := none }) (v := ?_) rfl (by kernel_rfl) (by kernel_rfl) (by kernel_rfl) (fun _ _ _ h => h) (Or.inl ⟨by rfl, ?_⟩) (by assumption) ?_
          rotate_left
          · intro wS hSw
            try dsimp only at hSw
            go_simp
            try with_reducible rfl
          try simp only [Act.put, List.setIfInBounds_toArray, List.set_cons_zero, List.set_cons_succ]
          refine wpAnyH_done (by kernel_rfl) ?_ _
          obtain ⟨r0, r1, r2, rf⟩ := three_cells HYR.out
          obtain ⟨g2, g3⟩ := RGY.out.cells
          go_wp2_with fail
          go_ret
          exact ⟨rfl, HB.out.trans (HYB.out.mono HB.out.size)⟩
        exact AllReadyH.nil
      exact AllReadyH.nil
    exact AllReadyH.nil
  exact AllReadyH.nil

end Go.Proofs.YtinmlndimgengaaGreatDoor
