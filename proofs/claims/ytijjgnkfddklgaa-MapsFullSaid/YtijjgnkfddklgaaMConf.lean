/- A set's configuration: is it full, does a forward have a port? -/
import Derived.Test.YtijjgnkfddklgaaMFns
namespace Go.Proofs.Ytijjgnkfddklgaa
open Go.RowKit Go.Deep
set_option linter.unusedVariables false
set_option linter.unusedSimpArgs false
set_option maxRecDepth 100000
theorem yl_cfg {ops : Array Oper} {S : World → Prop} {op : Oper} {a : Act} (hw : Region.wanted op (yielded ops a.tmps) = true) (x : Operand) (ho : op.op = .load 28 x) (b : Nat) (hx : a.eval x = .pointer (some ⟨b, 0, none⟩)) (cs : Array Value)
    (hS : ∀ w, S w → w.rangeAt b 0 cs.toList) (hs : cs.size = 28) : YieldsIf Try.prog ops S op (.agg cs) a := by
  have := yieldsIf_load_mid (P := Try.prog) (ops := ops) (S := S) (op := op) (a := a) hw 28 x ho b 0 hx cs.toList _ hS Try.underlying28 rfl (by rw [Array.length_toList, hs]; exact info_cfg)
  simpa using this
theorem SAt.range {w : World} {sp tt : Nat} {cs : Array Value} {up : Int} {L : ML} (h : SAt w sp tt cs up L) : w.rangeAt sp 0 cs.toList := by
  intro j v hv
  have h2 : cs[j]? = some v := by simpa using hv
  have := h.conf h2
  simpa using this
set_option maxHeartbeats 800000 in
theorem full_any (w : World) (sp tt : Nat) (cs : Array Value) (up : Int) (L : ML) (mm : Int) (h : SAt w sp tt cs up L) (hm : cs[22]? = some (.int .i64 mm)) :
    Calls Try.prog 55 #[.pointer (some ⟨sp, 0, none⟩)] w fun e w' => e = .returned (.bool (decide (mm ≤ (L.length : Int)))) ∧ Below w.heap.size w w' := by
  have HLE := hide (fun m => (slen_any (w.drewN m) sp tt cs up L (h.below (bdrewN (Below.refl _ _) _))))
  have c22 := h.conf hm
  clear h hm
  go_enter Try.func55, Try.ntmps55
  go_wp2_with fail
  go_quiet ((go_at_call 15; exact Calls.quiet_of_same (HLE.out _)))
  go_wp2_with fail
  go_ret
  exact ⟨rfl, bdrewN (Below.refl _ _) _⟩
theorem below_drew (w : World) : Below w.heap.size w w.drew := (Below.refl _ _).drew
set_option maxHeartbeats 3000000 in
theorem forwarded_any (w : World) (sp tt : Nat) (cs : Array Value) (up : Int) (L : ML) (a : Option Addr) (fs : List Fwd) (n cap p q : Nat) (m2 m3 m4 : Int) (h : SAt w sp tt cs up L) (hc : CfF cs a n cap) (hf : FwAt w a fs) (hl : fs.length = n) (hn : n ≤ 1000000) :
    Calls Try.prog 75 #[.pointer (some ⟨sp, 0, none⟩), .agg #[.int .u8 (p : Int), .int .u16 (q : Int), .int .u16 m2, .int .u32 m3, .int .u32 m4]] w fun e w' => e = .returned (.bool (findL fs p q).isSome) ∧ Below w.heap.size w w' := by
  obtain ⟨W, hW, hb, hx⟩ : ∃ W, w.alloc (.cells #[.int .u8 (p : Int), .int .u16 (q : Int), .int .u16 m2, .int .u32 m3, .int .u32 m4] 38) = W ∧ Below w.heap.size w W ∧ W.heap[w.heap.size]? = some (.cells #[.int .u8 (p : Int), .int .u16 (q : Int), .int .u16 m2, .int .u32 m3, .int .u32 m4] 38 (0, 0)) := ⟨_, rfl, (Below.refl _ _).alloc (Nat.le_refl _) _, heap_alloc_new _ _⟩
  obtain ⟨B, hB⟩ : ∃ B, w.heap.size = B := ⟨_, rfl⟩
  rw [hB] at hx
  have HE := hide (And.intro hW hB)
  have HB := hide hb
  have hS := h.below hb
  have hcs := hS.csz
  have HSS := hide (fun (V : World) (hV : Below W.heap.size W V) => (show V.rangeAt sp 0 cs.toList ∧ V.cell? ⟨B, 0, none⟩ = some (.int .u8 (p : Int)) ∧ V.cell? ⟨B, 1, none⟩ = some (.int .u16 (q : Int)) from by
    have h1 := below_block hV hx (Nat.le_refl _)
    refine ⟨(hS.below hV).range, ?_, ?_⟩ <;> simp [World.cell?, h1]))
  have hfW := hf.below hb (Nat.le_refl _)
  have hfi := fun (V : World) (hV : Below W.heap.size W V) => findC_any cs V a fs n cap p q hc (hfW.below hV (Nat.le_refl _)) hl hn
  obtain ⟨fd, hfd⟩ : ∃ f, findL fs p q = f := ⟨_, rfl⟩
  rw [hfd] at hfi ⊢
  obtain ⟨f0, hf0⟩ : ∃ f, ((fwF fd).1 : Int) = f := ⟨_, rfl⟩
  obtain ⟨f1, hf1⟩ : ∃ f, ((fwF fd).2.1 : Int) = f := ⟨_, rfl⟩
  obtain ⟨f2, hf2⟩ : ∃ f, ((fwF fd).2.2.1 : Int) = f := ⟨_, rfl⟩
  obtain ⟨f3, hf3⟩ : ∃ f, ((fwF fd).2.2.2 : Int) = f := ⟨_, rfl⟩
  rw [hf0, hf1, hf2, hf3] at hfi
  obtain ⟨ok, hok⟩ : ∃ b, fd.isSome = b := ⟨_, rfl⟩
  rw [hok] at hfi ⊢
  have HFI := hide hfi
  have HW0 := hide (below_drew W)
  clear hW hB hb hx h hS hc hf hfW hfi hfd hf0 hf1 hf2 hf3 hok hl hn
  go_enter Try.func75, Try.ntmps75
  go_upto_region 1 with (fail)
  rw [HE.out.1]
  try rw [HE.out.2]
  clear HE
  refine wp_region_held_drew (S := fun w' => w'.rangeAt sp 0 cs.toList ∧ w'.cell? ⟨B, 0, none⟩ = some (.int .u8 (p : Int)) ∧ w'.cell? ⟨B, 1, none⟩ = some (.int .u16 (q : Int))) (by kernel_rfl) (by exact HSS.out _ (Below.refl _ _).drew) (fun hHeld => ?_)
  generalize W.drew = z0 at *
  refine wpAnyH_take (i := 0) (oi := { dst := some 8, op := Op.move (Operand.tmp 0), type := 33, pos := "entries.go:59", after := #[], guard := none }) (v := ?_) rfl (by kernel_rfl) (by kernel_rfl) (by kernel_rfl) (fun _ _ _ h => h) (Or.inl ⟨by rfl, ?_⟩) (by assumption) ?_
  rotate_left
  · intro wS hSw
    try dsimp only at hSw
    go_simp
    try with_reducible rfl
  try simp only [Act.put, List.setIfInBounds_toArray, List.set_cons_zero, List.set_cons_succ]
  refine wpAnyH_take (i := 1) (oi := { dst := some 9, op := Op.nilCheck (Operand.tmp 8), type := 0, pos := "entries.go:59", after := #[{ on := 0, ground := Ground.data }], guard := none }) (v := ?_) rfl (by kernel_rfl) (by kernel_rfl) (by kernel_rfl) (fun _ _ _ h => h) (Or.inl ⟨by rfl, ?_⟩) (by assumption) ?_
  rotate_left
  · intro wS hSw
    try dsimp only at hSw
    go_simp
    try with_reducible rfl
  try simp only [Act.put, List.setIfInBounds_toArray, List.set_cons_zero, List.set_cons_succ]
  refine wpAnyH_take (i := 2) (oi := { dst := some 10, op := Op.fieldAddr 79 (Operand.tmp 9) 0, type := 0, pos := "entries.go:59", after := #[{ on := 1, ground := Ground.data }], guard := none }) (v := ?_) rfl (by kernel_rfl) (by kernel_rfl) (by kernel_rfl) (fun _ _ _ h => h) (Or.inl ⟨by rfl, ?_⟩) (by assumption) ?_
  rotate_left
  · intro wS hSw
    try dsimp only at hSw
    go_simp
    try with_reducible rfl
  try simp only [Act.put, List.setIfInBounds_toArray, List.set_cons_zero, List.set_cons_succ]
  refine wpAnyH_take (i := 3) (oi := { dst := some 11, op := Op.load 28 (Operand.tmp 10), type := 28, pos := "entries.go:59", after := #[{ on := 2, ground := Ground.data }], guard := none }) (v := .agg cs) rfl (by kernel_rfl) (by kernel_rfl) (by kernel_rfl) (fun _ _ _ h => h) (yl_cfg (by rfl) _ rfl sp rfl cs (fun w h => h.1) hcs) (by assumption) ?_
  try simp only [Act.put, List.setIfInBounds_toArray, List.set_cons_zero, List.set_cons_succ]
  refine wpAnyH_take (i := 4) (oi := { dst := some 12, op := Op.fieldAddr 38 (Operand.tmp 3) 0, type := 0, pos := "entries.go:59", after := #[], guard := none }) (v := ?_) rfl (by kernel_rfl) (by kernel_rfl) (by kernel_rfl) (fun _ _ _ h => h) (Or.inl ⟨by rfl, ?_⟩) (by assumption) ?_
  rotate_left
  · intro wS hSw
    try dsimp only at hSw
    go_simp
    try with_reducible rfl
  try simp only [Act.put, List.setIfInBounds_toArray, List.set_cons_zero, List.set_cons_succ]
  refine wpAnyH_take (i := 5) (oi := { dst := some 13, op := Op.load 5 (Operand.tmp 12), type := 5, pos := "entries.go:59", after := #[{ on := 4, ground := Ground.data }], guard := none }) (v := ?_) rfl (by kernel_rfl) (by kernel_rfl) (by kernel_rfl) (fun _ _ _ h => h) (Or.inl ⟨by rfl, ?_⟩) (by assumption) ?_
  rotate_left
  · intro wS hSw
    try dsimp only at hSw
    go_simp
    try with_reducible rfl
  try simp only [Act.put, List.setIfInBounds_toArray, List.set_cons_zero, List.set_cons_succ]
  refine wpAnyH_take (i := 6) (oi := { dst := some 14, op := Op.fieldAddr 38 (Operand.tmp 3) 1, type := 0, pos := "entries.go:59", after := #[], guard := none }) (v := ?_) rfl (by kernel_rfl) (by kernel_rfl) (by kernel_rfl) (fun _ _ _ h => h) (Or.inl ⟨by rfl, ?_⟩) (by assumption) ?_
  rotate_left
  · intro wS hSw
    try dsimp only at hSw
    go_simp
    try with_reducible rfl
  try simp only [Act.put, List.setIfInBounds_toArray, List.set_cons_zero, List.set_cons_succ]
  refine wpAnyH_take (i := 7) (oi := { dst := some 15, op := Op.load 36 (Operand.tmp 14), type := 36, pos := "entries.go:59", after := #[{ on := 6, ground := Ground.data }], guard := none }) (v := ?_) rfl (by kernel_rfl) (by kernel_rfl) (by kernel_rfl) (fun _ _ _ h => h) (Or.inl ⟨by rfl, ?_⟩) (by assumption) ?_
  rotate_left
  · intro wS hSw
    try dsimp only at hSw
    go_simp
    try with_reducible rfl
  try simp only [Act.put, List.setIfInBounds_toArray, List.set_cons_zero, List.set_cons_succ]
  refine wpAnyH_ready (rs := [8, 12]) (by kernel_rfl) (by simp) ?_
  refine AllReadyH.cons (o := { dst := some 16, op := Op.call { callee := Callee.value (Operand.func 93), args := #[Operand.tmp 11, Operand.tmp 13, Operand.tmp 15], argTypes := #[28, 5, 36] }, type := 53, pos := "entries.go:59", after := #[{ on := 3, ground := Ground.data }, { on := 5, ground := Ground.data }, { on := 7, ground := Ground.data }], guard := none }) rfl (fun K hK => ?_) ?_
  ·
    go_simp
    go_at_call 93
    refine (HFI.out _ HW0.out).mono ?_
    rintro e z1 ⟨rfl, b9⟩
    have HH1 := hide (HW0.out.trans (b9.mono HW0.out.size))
    have HS1 := hide (HSS.out _ HH1.out)
    clear b9
    refine hK.out _ _ (HS1.out) (fun hHeld1 => ?_)
    clear hK K
    try simp only [Act.put, List.setIfInBounds_toArray, List.set_cons_zero, List.set_cons_succ]
    refine wpAnyH_take (i := 9) (oi := { dst := some 7, op := Op.move (Operand.tmp 16), type := 53, pos := "entries.go:59", after := #[{ on := 8, ground := Ground.data }], guard := none }) (v := ?_) rfl (by kernel_rfl) (by kernel_rfl) (by kernel_rfl) (fun _ _ _ h => h) (Or.inl ⟨by rfl, ?_⟩) (by assumption) ?_
    rotate_left
    · intro wS hSw
      try dsimp only at hSw
      go_simp
      try with_reducible rfl
    try simp only [Act.put, List.setIfInBounds_toArray, List.set_cons_zero, List.set_cons_succ]
    refine wpAnyH_take (i := 10) (oi := { dst := some 17, op := Op.extract (Operand.tmp 7) 0, type := 52, pos := "entries.go:59", after := #[{ on := 9, ground := Ground.data }], guard := none }) (v := ?_) rfl (by kernel_rfl) (by kernel_rfl) (by kernel_rfl) (fun _ _ _ h => h) (Or.inl ⟨by rfl, ?_⟩) (by assumption) ?_
    rotate_left
    · intro wS hSw
      try dsimp only at hSw
      go_simp
      try with_reducible rfl
    try simp only [Act.put, List.setIfInBounds_toArray, List.set_cons_zero, List.set_cons_succ]
    refine wpAnyH_take (i := 11) (oi := { dst := some 18, op := Op.extract (Operand.tmp 7) 1, type := 4, pos := "entries.go:59", after := #[{ on := 9, ground := Ground.data }, { on := 13, ground := Ground.gcOnly Departure.lateStores }], guard := none }) (v := ?_) rfl (by kernel_rfl) (by kernel_rfl) (by kernel_rfl) (fun _ _ _ h => h) (Or.inl ⟨by rfl, ?_⟩) (by assumption) ?_
    rotate_left
    · intro wS hSw
      try dsimp only at hSw
      go_simp
      try with_reducible rfl
    try simp only [Act.put, List.setIfInBounds_toArray, List.set_cons_zero, List.set_cons_succ]
    refine wpAnyH_ready (rs := [12]) (by kernel_rfl) (by simp) ?_
    refine AllReadyH.cons (o := { dst := some 5, op := Op.alloc 52, type := 0, pos := "entries.go:59", after := #[], guard := none }) rfl (fun K hK => ?_) ?_
    ·
      go_simp
      obtain ⟨z2, hz, HH2, HC2, cb, hcb, lcb⟩ : ∃ q, World.alloc z1 (.cells #[.int .u8 0, .int .u16 0, .int .u16 0, .int .u32 0] 52) = q ∧ Hid (Below W.heap.size W q) ∧ Hid (q.heap[z1.heap.size]? = some (.cells #[.int .u8 0, .int .u16 0, .int .u16 0, .int .u32 0] 52 (0, 0))) ∧ ∃ c, z1.heap.size = c ∧ Hid (W.heap.size ≤ c) := ⟨_, rfl, hide (HH1.out.alloc HH1.out.size _), hide (heap_alloc_new _ _), _, rfl, hide HH1.out.size⟩
      rw [hz, hcb]
      rw [hcb] at HC2
      have HS2 := hide (HSS.out _ HH2.out)
      clear hz hcb
      refine hK.out _ _ (HS2.out) (fun hHeld2 => ?_)
      clear hK K
      try simp only [Act.put, List.setIfInBounds_toArray, List.set_cons_zero, List.set_cons_succ]
      refine wpAnyH_ready (rs := [13]) (by kernel_rfl) (by simp) ?_
      refine AllReadyH.cons (o := { dst := none, op := Op.store 52 (Operand.tmp 5) (Operand.tmp 17), type := 0, pos := "entries.go:59", after := #[{ on := 12, ground := Ground.data }, { on := 10, ground := Ground.data }, { on := 8, ground := Ground.chain }, { on := 0, ground := Ground.phase }, { on := 1, ground := Ground.phase }, { on := 2, ground := Ground.phase }, { on := 3, ground := Ground.phase }, { on := 4, ground := Ground.phase }, { on := 5, ground := Ground.phase }, { on := 6, ground := Ground.phase }, { on := 7, ground := Ground.phase }, { on := 8, ground := Ground.phase }, { on := 9, ground := Ground.phase }, { on := 10, ground := Ground.phase }, { on := 11, ground := Ground.textOnly Departure.lateStores }, { on := 12, ground := Ground.phase }], guard := none }) rfl (fun K hK => ?_) ?_
      ·
        obtain ⟨d0, d1, d2, d3, df⟩ := four_cells HC2.out
        go_simp
        obtain ⟨z3, hz, HH3⟩ : ∃ q, ((((z2.setCell ⟨cb, 0, none⟩ (.int .u8 f0)).setCell ⟨cb, 1, none⟩ (.int .u16 f1)).setCell ⟨cb, 2, none⟩ (.int .u16 f2)).setCell ⟨cb, 3, none⟩ (.int .u32 f3)) = q ∧ Hid (Below W.heap.size W q) := ⟨_, rfl, hide ((((HH2.out.setCell (p := ⟨cb, 0, none⟩) lcb.out (.int .u8 f0)).setCell (p := ⟨cb, 1, none⟩) lcb.out (.int .u16 f1)).setCell (p := ⟨cb, 2, none⟩) lcb.out (.int .u16 f2)).setCell (p := ⟨cb, 3, none⟩) lcb.out (.int .u32 f3))⟩
        rw [hz]
        have HS3 := hide (HSS.out _ HH3.out)
        clear hz
        refine hK.out _ _ (HS3.out) (fun hHeld3 => ?_)
        clear hK K
        try simp only [Act.put, List.setIfInBounds_toArray, List.set_cons_zero, List.set_cons_succ]
        refine wpAnyH_take (i := 14) (oi := { dst := some 6, op := Op.assign (Operand.tmp 18), type := 4, pos := "entries.go:59", after := #[{ on := 11, ground := Ground.data }, { on := 13, ground := Ground.chain }, { on := 0, ground := Ground.phase }, { on := 1, ground := Ground.phase }, { on := 2, ground := Ground.phase }, { on := 3, ground := Ground.phase }, { on := 4, ground := Ground.phase }, { on := 5, ground := Ground.phase }, { on := 6, ground := Ground.phase }, { on := 7, ground := Ground.phase }, { on := 8, ground := Ground.phase }, { on := 9, ground := Ground.phase }, { on := 10, ground := Ground.phase }, { on := 11, ground := Ground.phase }, { on := 12, ground := Ground.phase }, { on := 13, ground := Ground.phase }], guard := none }) (v := ?_) rfl (by kernel_rfl) (by kernel_rfl) (by kernel_rfl) (fun _ _ _ h => h) (Or.inl ⟨by rfl, ?_⟩) (by assumption) ?_
        rotate_left
        · intro wS hSw
          try dsimp only at hSw
          go_simp
          try with_reducible rfl
        try simp only [Act.put, List.setIfInBounds_toArray, List.set_cons_zero, List.set_cons_succ]
        refine wpAnyH_done (by kernel_rfl) ?_ _
        go_wp2_with fail
        go_ret
        exact ⟨rfl, HB.out.trans (HH3.out.mono HB.out.size)⟩
      exact AllReadyH.nil
    exact AllReadyH.nil
  refine AllReadyH.cons (o := { dst := some 5, op := Op.alloc 52, type := 0, pos := "entries.go:59", after := #[], guard := none }) rfl (fun K hK => ?_) ?_
  ·
    go_simp
    obtain ⟨z4, hz, HH4, HC4, cb, hcb, lcb⟩ : ∃ q, World.alloc z0 (.cells #[.int .u8 0, .int .u16 0, .int .u16 0, .int .u32 0] 52) = q ∧ Hid (Below W.heap.size W q) ∧ Hid (q.heap[z0.heap.size]? = some (.cells #[.int .u8 0, .int .u16 0, .int .u16 0, .int .u32 0] 52 (0, 0))) ∧ ∃ c, z0.heap.size = c ∧ Hid (W.heap.size ≤ c) := ⟨_, rfl, hide (HW0.out.alloc HW0.out.size _), hide (heap_alloc_new _ _), _, rfl, hide HW0.out.size⟩
    rw [hz, hcb]
    rw [hcb] at HC4
    have HS4 := hide (HSS.out _ HH4.out)
    clear hz hcb
    refine hK.out _ _ (HS4.out) (fun hHeld4 => ?_)
    clear hK K
    try simp only [Act.put, List.setIfInBounds_toArray, List.set_cons_zero, List.set_cons_succ]
    refine wpAnyH_ready (rs := [8]) (by kernel_rfl) (by simp) ?_
    refine AllReadyH.cons (o := { dst := some 16, op := Op.call { callee := Callee.value (Operand.func 93), args := #[Operand.tmp 11, Operand.tmp 13, Operand.tmp 15], argTypes := #[28, 5, 36] }, type := 53, pos := "entries.go:59", after := #[{ on := 3, ground := Ground.data }, { on := 5, ground := Ground.data }, { on := 7, ground := Ground.data }], guard := none }) rfl (fun K hK => ?_) ?_
    ·
      go_simp
      go_at_call 93
      refine (HFI.out _ HH4.out).mono ?_
      rintro e z5 ⟨rfl, b9⟩
      have HH5 := hide (HH4.out.trans (b9.mono HH4.out.size))
      have HC5 := hide (below_block b9 HC4.out (Nat.le_refl _))
      have HS5 := hide (HSS.out _ HH5.out)
      clear b9
      refine hK.out _ _ (HS5.out) (fun hHeld5 => ?_)
      clear hK K
      try simp only [Act.put, List.setIfInBounds_toArray, List.set_cons_zero, List.set_cons_succ]
      refine wpAnyH_take (i := 9) (oi := { dst := some 7, op := Op.move (Operand.tmp 16), type := 53, pos := "entries.go:59", after := #[{ on := 8, ground := Ground.data }], guard := none }) (v := ?_) rfl (by kernel_rfl) (by kernel_rfl) (by kernel_rfl) (fun _ _ _ h => h) (Or.inl ⟨by rfl, ?_⟩) (by assumption) ?_
      rotate_left
      · intro wS hSw
        try dsimp only at hSw
        go_simp
        try with_reducible rfl
      try simp only [Act.put, List.setIfInBounds_toArray, List.set_cons_zero, List.set_cons_succ]
      refine wpAnyH_take (i := 10) (oi := { dst := some 17, op := Op.extract (Operand.tmp 7) 0, type := 52, pos := "entries.go:59", after := #[{ on := 9, ground := Ground.data }], guard := none }) (v := ?_) rfl (by kernel_rfl) (by kernel_rfl) (by kernel_rfl) (fun _ _ _ h => h) (Or.inl ⟨by rfl, ?_⟩) (by assumption) ?_
      rotate_left
      · intro wS hSw
        try dsimp only at hSw
        go_simp
        try with_reducible rfl
      try simp only [Act.put, List.setIfInBounds_toArray, List.set_cons_zero, List.set_cons_succ]
      refine wpAnyH_take (i := 11) (oi := { dst := some 18, op := Op.extract (Operand.tmp 7) 1, type := 4, pos := "entries.go:59", after := #[{ on := 9, ground := Ground.data }, { on := 13, ground := Ground.gcOnly Departure.lateStores }], guard := none }) (v := ?_) rfl (by kernel_rfl) (by kernel_rfl) (by kernel_rfl) (fun _ _ _ h => h) (Or.inl ⟨by rfl, ?_⟩) (by assumption) ?_
      rotate_left
      · intro wS hSw
        try dsimp only at hSw
        go_simp
        try with_reducible rfl
      try simp only [Act.put, List.setIfInBounds_toArray, List.set_cons_zero, List.set_cons_succ]
      refine wpAnyH_ready (rs := [13]) (by kernel_rfl) (by simp) ?_
      refine AllReadyH.cons (o := { dst := none, op := Op.store 52 (Operand.tmp 5) (Operand.tmp 17), type := 0, pos := "entries.go:59", after := #[{ on := 12, ground := Ground.data }, { on := 10, ground := Ground.data }, { on := 8, ground := Ground.chain }, { on := 0, ground := Ground.phase }, { on := 1, ground := Ground.phase }, { on := 2, ground := Ground.phase }, { on := 3, ground := Ground.phase }, { on := 4, ground := Ground.phase }, { on := 5, ground := Ground.phase }, { on := 6, ground := Ground.phase }, { on := 7, ground := Ground.phase }, { on := 8, ground := Ground.phase }, { on := 9, ground := Ground.phase }, { on := 10, ground := Ground.phase }, { on := 11, ground := Ground.textOnly Departure.lateStores }, { on := 12, ground := Ground.phase }], guard := none }) rfl (fun K hK => ?_) ?_
      ·
        obtain ⟨d0, d1, d2, d3, df⟩ := four_cells HC5.out
        go_simp
        obtain ⟨z6, hz, HH6⟩ : ∃ q, ((((z5.setCell ⟨cb, 0, none⟩ (.int .u8 f0)).setCell ⟨cb, 1, none⟩ (.int .u16 f1)).setCell ⟨cb, 2, none⟩ (.int .u16 f2)).setCell ⟨cb, 3, none⟩ (.int .u32 f3)) = q ∧ Hid (Below W.heap.size W q) := ⟨_, rfl, hide ((((HH5.out.setCell (p := ⟨cb, 0, none⟩) lcb.out (.int .u8 f0)).setCell (p := ⟨cb, 1, none⟩) lcb.out (.int .u16 f1)).setCell (p := ⟨cb, 2, none⟩) lcb.out (.int .u16 f2)).setCell (p := ⟨cb, 3, none⟩) lcb.out (.int .u32 f3))⟩
        rw [hz]
        have HS6 := hide (HSS.out _ HH6.out)
        clear hz
        refine hK.out _ _ (HS6.out) (fun hHeld6 => ?_)
        clear hK K
        try simp only [Act.put, List.setIfInBounds_toArray, List.set_cons_zero, List.set_cons_succ]
        refine wpAnyH_take (i := 14) (oi := { dst := some 6, op := Op.assign (Operand.tmp 18), type := 4, pos := "entries.go:59", after := #[{ on := 11, ground := Ground.data }, { on := 13, ground := Ground.chain }, { on := 0, ground := Ground.phase }, { on := 1, ground := Ground.phase }, { on := 2, ground := Ground.phase }, { on := 3, ground := Ground.phase }, { on := 4, ground := Ground.phase }, { on := 5, ground := Ground.phase }, { on := 6, ground := Ground.phase }, { on := 7, ground := Ground.phase }, { on := 8, ground := Ground.phase }, { on := 9, ground := Ground.phase }, { on := 10, ground := Ground.phase }, { on := 11, ground := Ground.phase }, { on := 12, ground := Ground.phase }, { on := 13, ground := Ground.phase }], guard := none }) (v := ?_) rfl (by kernel_rfl) (by kernel_rfl) (by kernel_rfl) (fun _ _ _ h => h) (Or.inl ⟨by rfl, ?_⟩) (by assumption) ?_
        rotate_left
        · intro wS hSw
          try dsimp only at hSw
          go_simp
          try with_reducible rfl
        try simp only [Act.put, List.setIfInBounds_toArray, List.set_cons_zero, List.set_cons_succ]
        refine wpAnyH_done (by kernel_rfl) ?_ _
        go_wp2_with fail
        go_ret
        exact ⟨rfl, HB.out.trans (HH6.out.mono HB.out.size)⟩
      exact AllReadyH.nil
    exact AllReadyH.nil
  exact AllReadyH.nil
end Go.Proofs.Ytijjgnkfddklgaa
