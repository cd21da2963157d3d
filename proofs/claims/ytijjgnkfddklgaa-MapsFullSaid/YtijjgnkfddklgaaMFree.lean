/- Is there just this mapping? -/
import Derived.Test.YtijjgnkfddklgaaMHin
namespace Go.Proofs.Ytijjgnkfddklgaa
open Go.RowKit Go.Deep Go.Shelf
set_option linter.unusedVariables false
set_option linter.unusedSimpArgs false
set_option maxRecDepth 100000
/-- Is an entry just this mapping? -/
def eqM (v : ME) (k : MK) (mt mh : Int) : Bool := v.p == k.p && (v.x == k.x && (v.t == mt && (v.r == k.r && v.h == mh)))
def hasE (L : ML) (k : MK) (mt mh : Int) : Bool := hasL tM k L && eqM (gE (getL tM k L)) k mt mh
set_option maxHeartbeats 6000000 in
theorem has_any (w : World) (sp tt : Nat) (g : CG) (up : Int) (L : ML) (k : MK) (mt mh : Int) (h : SA w sp tt g up L) :
    Calls Try.prog 56 #[.pointer (some ⟨sp, 0, none⟩), .agg #[.int .u8 k.p, .int .u16 k.x, .int .u16 mt, .int .u32 k.r, .int .u32 mh]] w fun e w' => e = .returned (.bool (hasE L k mt mh)) ∧ Below w.heap.size w w' := by
  obtain ⟨W, hW, hb, hx⟩ : ∃ W, w.alloc (.cells #[.int .u8 k.p, .int .u16 k.x, .int .u16 mt, .int .u32 k.r, .int .u32 mh] 38) = W ∧ Below w.heap.size w W ∧ W.heap[w.heap.size]? = some (.cells #[.int .u8 k.p, .int .u16 k.x, .int .u16 mt, .int .u32 k.r, .int .u32 mh] 38 (0, 0)) := ⟨_, rfl, (Below.refl _ _).alloc (Nat.le_refl _) _, heap_alloc_new _ _⟩
  obtain ⟨B, hB⟩ : ∃ B, w.heap.size = B := ⟨_, rfl⟩
  rw [hB] at hx
  have HE := hide (And.intro hW hB)
  have HB := hide hb
  have hS := h.below hb
  have HSA := hide (fun (V : World) (hV : Below W.heap.size W V) => hS.below hV)
  have HSS := hide (fun (V : World) (hV : Below W.heap.size W V) => (show V.cell? ⟨sp, 28, none⟩ = some (.pointer (some ⟨tt, 0, none⟩)) ∧ V.cell? ⟨B, 0, none⟩ = some (.int .u8 k.p) ∧ V.cell? ⟨B, 1, none⟩ = some (.int .u16 k.x) ∧ V.cell? ⟨B, 2, none⟩ = some (.int .u16 mt) ∧ V.cell? ⟨B, 3, none⟩ = some (.int .u32 k.r) ∧ V.cell? ⟨B, 4, none⟩ = some (.int .u32 mh) from by
    have h1 := below_block hV hx (Nat.le_refl _)
    refine ⟨(hS.below hV).st.c28, ?_, ?_, ?_, ?_, ?_⟩ <;> simp [World.cell?, h1]))
  obtain ⟨ge, hge⟩ : ∃ x, gE (getL tM k L) = x := ⟨_, rfl⟩
  obtain ⟨ok, hok⟩ : ∃ b, hasL tM k L = b := ⟨_, rfl⟩
  have HGE := hide (fun (V : World) (hV : Below W.heap.size W V) => by
    have h1 := C.GetL (hS.below hV).st.tab C.oF_ord k
    rw [gv_gE, hge, hok] at h1
    exact h1)
  have HGV := hide (And.intro hge hok)
  have HW0 := hide (below_drew W)
  clear hW hB hb hx hS hge hok
  clear h HSA
  go_enter Try.func56, Try.ntmps56
  go_upto_region 1 with (fail)
  rw [HE.out.1]
  try rw [HE.out.2]
  clear HE
  refine wp_region_held_drew (S := fun w' => w'.cell? ⟨sp, 28, none⟩ = some (.pointer (some ⟨tt, 0, none⟩)) ∧ w'.cell? ⟨B, 0, none⟩ = some (.int .u8 k.p) ∧ w'.cell? ⟨B, 1, none⟩ = some (.int .u16 k.x) ∧ w'.cell? ⟨B, 2, none⟩ = some (.int .u16 mt) ∧ w'.cell? ⟨B, 3, none⟩ = some (.int .u32 k.r) ∧ w'.cell? ⟨B, 4, none⟩ = some (.int .u32 mh)) (by kernel_rfl) (by exact HSS.out _ (Below.refl _ _).drew) (fun hHeld => ?_)
  generalize W.drew = z0 at *
  apply have_rest2 (A := fun z c => Hid (Below W.heap.size W z ∧ z.heap[c]? = some (.cells #[.int .u8 ge.p, .int .u16 ge.x, .int .u16 ge.t, .int .u32 ge.r, .int .u32 ge.h, .bool ge.en, .string ge.ws, .int .u64 ge.e] 40 (0, 0))))
  case m =>
    intro HRS
    refine wpAnyH_take (i := 0) (oi := { dst := some 8, op := Op.move (Operand.tmp 0), type := 33, pos := "entries.go:78", after := #[], guard := none }) (v := ?_) rfl (by kernel_rfl) (by kernel_rfl) (by kernel_rfl) (fun _ _ _ h => h) (Or.inl ⟨by rfl, ?_⟩) (by assumption) ?_
    rotate_left
    · intro wS hSw
      try dsimp only at hSw
      go_simp
      try with_reducible rfl
    try simp only [Act.put, List.setIfInBounds_toArray, List.set_cons_zero, List.set_cons_succ]
    refine wpAnyH_take (i := 1) (oi := { dst := some 9, op := Op.nilCheck (Operand.tmp 8), type := 0, pos := "entries.go:78", after := #[{ on := 0, ground := Ground.data }], guard := none }) (v := ?_) rfl (by kernel_rfl) (by kernel_rfl) (by kernel_rfl) (fun _ _ _ h => h) (Or.inl ⟨by rfl, ?_⟩) (by assumption) ?_
    rotate_left
    · intro wS hSw
      try dsimp only at hSw
      go_simp
      try with_reducible rfl
    try simp only [Act.put, List.setIfInBounds_toArray, List.set_cons_zero, List.set_cons_succ]
    refine wpAnyH_take (i := 2) (oi := { dst := some 10, op := Op.fieldAddr 79 (Operand.tmp 9) 1, type := 0, pos := "entries.go:78", after := #[{ on := 1, ground := Ground.data }], guard := none }) (v := ?_) rfl (by kernel_rfl) (by kernel_rfl) (by kernel_rfl) (fun _ _ _ h => h) (Or.inl ⟨by rfl, ?_⟩) (by assumption) ?_
    rotate_left
    · intro wS hSw
      try dsimp only at hSw
      go_simp
      try with_reducible rfl
    try simp only [Act.put, List.setIfInBounds_toArray, List.set_cons_zero, List.set_cons_succ]
    refine wpAnyH_take (i := 3) (oi := { dst := some 11, op := Op.load 73 (Operand.tmp 10), type := 73, pos := "entries.go:78", after := #[{ on := 2, ground := Ground.data }], guard := none }) (v := ?_) rfl (by kernel_rfl) (by kernel_rfl) (by kernel_rfl) (fun _ _ _ h => h) (Or.inl ⟨by rfl, ?_⟩) (by assumption) ?_
    rotate_left
    · intro wS hSw
      try dsimp only at hSw
      go_simp
      try with_reducible rfl
    try simp only [Act.put, List.setIfInBounds_toArray, List.set_cons_zero, List.set_cons_succ]
    refine wpAnyH_take (i := 4) (oi := { dst := some 12, op := Op.load 38 (Operand.tmp 3), type := 38, pos := "entries.go:78", after := #[], guard := none }) (v := ?_) rfl (by kernel_rfl) (by kernel_rfl) (by kernel_rfl) (fun _ _ _ h => h) (Or.inl ⟨by rfl, ?_⟩) (by assumption) ?_
    rotate_left
    · intro wS hSw
      try dsimp only at hSw
      go_simp
      try with_reducible rfl
    try simp only [Act.put, List.setIfInBounds_toArray, List.set_cons_zero, List.set_cons_succ]
    refine wpAnyH_ready (rs := [5, 10]) (by kernel_rfl) (by simp) ?_
    refine AllReadyH.cons (o := { dst := some 13, op := Op.call { callee := Callee.value (Operand.func 53), args := #[Operand.tmp 12], argTypes := #[38] }, type := 76, pos := "entries.go:78", after := #[{ on := 4, ground := Ground.data }], guard := none }) rfl (fun K hK => ?_) ?_
    ·
      go_simp
      go_at_call 53
      refine (keyOf_any _ _ _ _ _ _).mono ?_
      rintro e z1 ⟨rfl, b9⟩
      have HH1 := hide (HW0.out.trans (b9.mono HW0.out.size))
      clear b9
      refine hK.out _ _ (HSS.out _ HH1.out) (fun hHeld1 => ?_)
      clear hK K
      try simp only [Act.put, List.setIfInBounds_toArray, List.set_cons_zero, List.set_cons_succ]
      refine wpAnyH_ready (rs := [6, 10]) (by kernel_rfl) (by simp) ?_
      refine AllReadyH.cons (o := { dst := some 14, op := Op.call { callee := Callee.value (Operand.func 52), args := #[Operand.tmp 11, Operand.tmp 13], argTypes := #[73, 76] }, type := 96, pos := "entries.go:78", after := #[{ on := 3, ground := Ground.data }, { on := 5, ground := Ground.data }, { on := 5, ground := Ground.chain }], guard := none }) rfl (fun K hK => ?_) ?_
      ·
        go_simp
        go_at_call 52
        with_reducible refine (HGE.out _ HH1.out).mono ?_
        rintro e z2 ⟨rfl, b9⟩
        have HH2 := hide (HH1.out.trans (b9.mono HH1.out.size))
        clear b9
        refine hK.out _ _ (HSS.out _ HH2.out) (fun hHeld2 => ?_)
        clear hK K
        try simp only [Act.put, List.setIfInBounds_toArray, List.set_cons_zero, List.set_cons_succ]
        refine wpAnyH_take (i := 7) (oi := { dst := some 7, op := Op.move (Operand.tmp 14), type := 96, pos := "entries.go:78", after := #[{ on := 6, ground := Ground.data }], guard := none }) (v := ?_) rfl (by kernel_rfl) (by kernel_rfl) (by kernel_rfl) (fun _ _ _ h => h) (Or.inl ⟨by rfl, ?_⟩) (by assumption) ?_
        rotate_left
        · intro wS hSw
          try dsimp only at hSw
          go_simp
          try with_reducible rfl
        try simp only [Act.put, List.setIfInBounds_toArray, List.set_cons_zero, List.set_cons_succ]
        refine wpAnyH_take (i := 8) (oi := { dst := some 15, op := Op.extract (Operand.tmp 7) 0, type := 40, pos := "entries.go:78", after := #[{ on := 7, ground := Ground.data }], guard := none }) (v := ?_) rfl (by kernel_rfl) (by kernel_rfl) (by kernel_rfl) (fun _ _ _ h => h) (Or.inl ⟨by rfl, ?_⟩) (by assumption) ?_
        rotate_left
        · intro wS hSw
          try dsimp only at hSw
          go_simp
          try with_reducible rfl
        try simp only [Act.put, List.setIfInBounds_toArray, List.set_cons_zero, List.set_cons_succ]
        refine wpAnyH_take (i := 9) (oi := { dst := some 16, op := Op.extract (Operand.tmp 7) 1, type := 4, pos := "entries.go:78", after := #[{ on := 7, ground := Ground.data }, { on := 11, ground := Ground.gcOnly Departure.lateStores }], guard := none }) (v := ?_) rfl (by kernel_rfl) (by kernel_rfl) (by kernel_rfl) (fun _ _ _ h => h) (Or.inl ⟨by rfl, ?_⟩) (by assumption) ?_
        rotate_left
        · intro wS hSw
          try dsimp only at hSw
          go_simp
          try with_reducible rfl
        try simp only [Act.put, List.setIfInBounds_toArray, List.set_cons_zero, List.set_cons_succ]
        refine wpAnyH_ready (rs := [10]) (by kernel_rfl) (by simp) ?_
        refine AllReadyH.cons (o := { dst := some 5, op := Op.alloc 40, type := 0, pos := "entries.go:78", after := #[], guard := none }) rfl (fun K hK => ?_) ?_
        ·
          go_simp
          obtain ⟨z3, hz, HH3, HC3, cb, hcb, lcb⟩ : ∃ q, World.alloc z2 (.cells #[.int .u8 0, .int .u16 0, .int .u16 0, .int .u32 0, .int .u32 0, .bool false, .string ⟨#[]⟩, .int .u64 0] 40) = q ∧ Hid (Below W.heap.size W q) ∧ Hid (q.heap[z2.heap.size]? = some (.cells #[.int .u8 0, .int .u16 0, .int .u16 0, .int .u32 0, .int .u32 0, .bool false, .string ⟨#[]⟩, .int .u64 0] 40 (0, 0))) ∧ ∃ c, z2.heap.size = c ∧ Hid (W.heap.size ≤ c) := ⟨_, rfl, hide (HH2.out.alloc HH2.out.size _), hide (heap_alloc_new _ _), _, rfl, hide HH2.out.size⟩
          rw [hz, hcb]
          rw [hcb] at HC3
          clear hz hcb
          refine hK.out _ _ (HSS.out _ HH3.out) (fun hHeld3 => ?_)
          clear hK K
          try simp only [Act.put, List.setIfInBounds_toArray, List.set_cons_zero, List.set_cons_succ]
          refine wpAnyH_ready (rs := [11]) (by kernel_rfl) (by simp) ?_
          refine AllReadyH.cons (o := { dst := none, op := Op.store 40 (Operand.tmp 5) (Operand.tmp 15), type := 0, pos := "entries.go:78", after := #[{ on := 10, ground := Ground.data }, { on := 8, ground := Ground.data }, { on := 6, ground := Ground.chain }, { on := 0, ground := Ground.phase }, { on := 1, ground := Ground.phase }, { on := 2, ground := Ground.phase }, { on := 3, ground := Ground.phase }, { on := 4, ground := Ground.phase }, { on := 5, ground := Ground.phase }, { on := 6, ground := Ground.phase }, { on := 7, ground := Ground.phase }, { on := 8, ground := Ground.phase }, { on := 9, ground := Ground.textOnly Departure.lateStores }, { on := 10, ground := Ground.phase }], guard := none }) rfl (fun K hK => ?_) ?_
          ·
            obtain ⟨d0, d1, d2, d3, d4, d5, d6, d7, df⟩ := C.val_cells HC3.out
            go_simp
            obtain ⟨z4, hz, hc9, hb9⟩ := chain8 z3 cb _ _ _ _ _ _ _ _ (.int .u8 ge.p) (.int .u16 ge.x) (.int .u16 ge.t) (.int .u32 ge.r) (.int .u32 ge.h) (.bool ge.en) (.string ge.ws) (.int .u64 ge.e) _ HC3.out
            rw [hz]
            have HH4 := hide (hb9 _ _ lcb.out HH3.out)
            have HC4 := hide hc9
            clear hz hc9 hb9 d0 d1 d2 d3 d4 d5 d6 d7 df
            refine hK.out _ _ (HSS.out _ HH4.out) (fun hHeld4 => ?_)
            clear hK K
            try simp only [Act.put, List.setIfInBounds_toArray, List.set_cons_zero, List.set_cons_succ]
            refine wpAnyH_take (i := 12) (oi := { dst := some 6, op := Op.assign (Operand.tmp 16), type := 4, pos := "entries.go:78", after := #[{ on := 9, ground := Ground.data }, { on := 11, ground := Ground.chain }, { on := 0, ground := Ground.phase }, { on := 1, ground := Ground.phase }, { on := 2, ground := Ground.phase }, { on := 3, ground := Ground.phase }, { on := 4, ground := Ground.phase }, { on := 5, ground := Ground.phase }, { on := 6, ground := Ground.phase }, { on := 7, ground := Ground.phase }, { on := 8, ground := Ground.phase }, { on := 9, ground := Ground.phase }, { on := 10, ground := Ground.phase }, { on := 11, ground := Ground.phase }], guard := none }) (v := ?_) rfl (by kernel_rfl) (by kernel_rfl) (by kernel_rfl) (fun _ _ _ h => h) (Or.inl ⟨by rfl, ?_⟩) (by assumption) ?_
            rotate_left
            · intro wS hSw
              try dsimp only at hSw
              go_simp
              try with_reducible rfl
            try simp only [Act.put, List.setIfInBounds_toArray, List.set_cons_zero, List.set_cons_succ]
            refine wpAnyH_done (by kernel_rfl) ?_ _
            exact HRS z4 cb (hide ⟨HH4.out, HC4.out⟩)
          exact AllReadyH.nil
        exact AllReadyH.nil
      refine AllReadyH.cons (o := { dst := some 5, op := Op.alloc 40, type := 0, pos := "entries.go:78", after := #[], guard := none }) rfl (fun K hK => ?_) ?_
      ·
        go_simp
        obtain ⟨z5, hz, HH5, HC5, cb, hcb, lcb⟩ : ∃ q, World.alloc z1 (.cells #[.int .u8 0, .int .u16 0, .int .u16 0, .int .u32 0, .int .u32 0, .bool false, .string ⟨#[]⟩, .int .u64 0] 40) = q ∧ Hid (Below W.heap.size W q) ∧ Hid (q.heap[z1.heap.size]? = some (.cells #[.int .u8 0, .int .u16 0, .int .u16 0, .int .u32 0, .int .u32 0, .bool false, .string ⟨#[]⟩, .int .u64 0] 40 (0, 0))) ∧ ∃ c, z1.heap.size = c ∧ Hid (W.heap.size ≤ c) := ⟨_, rfl, hide (HH1.out.alloc HH1.out.size _), hide (heap_alloc_new _ _), _, rfl, hide HH1.out.size⟩
        rw [hz, hcb]
        rw [hcb] at HC5
        clear hz hcb
        refine hK.out _ _ (HSS.out _ HH5.out) (fun hHeld5 => ?_)
        clear hK K
        try simp only [Act.put, List.setIfInBounds_toArray, List.set_cons_zero, List.set_cons_succ]
        refine wpAnyH_ready (rs := [6]) (by kernel_rfl) (by simp) ?_
        refine AllReadyH.cons (o := { dst := some 14, op := Op.call { callee := Callee.value (Operand.func 52), args := #[Operand.tmp 11, Operand.tmp 13], argTypes := #[73, 76] }, type := 96, pos := "entries.go:78", after := #[{ on := 3, ground := Ground.data }, { on := 5, ground := Ground.data }, { on := 5, ground := Ground.chain }], guard := none }) rfl (fun K hK => ?_) ?_
        ·
          go_simp
          go_at_call 52
          with_reducible refine (HGE.out _ HH5.out).mono ?_
          rintro e z6 ⟨rfl, b9⟩
          have HH6 := hide (HH5.out.trans (b9.mono HH5.out.size))
          have HC6 := hide (below_block b9 HC5.out (Nat.le_refl _))
          clear b9
          refine hK.out _ _ (HSS.out _ HH6.out) (fun hHeld6 => ?_)
          clear hK K
          try simp only [Act.put, List.setIfInBounds_toArray, List.set_cons_zero, List.set_cons_succ]
          refine wpAnyH_take (i := 7) (oi := { dst := some 7, op := Op.move (Operand.tmp 14), type := 96, pos := "entries.go:78", after := #[{ on := 6, ground := Ground.data }], guard := none }) (v := ?_) rfl (by kernel_rfl) (by kernel_rfl) (by kernel_rfl) (fun _ _ _ h => h) (Or.inl ⟨by rfl, ?_⟩) (by assumption) ?_
          rotate_left
          · intro wS hSw
            try dsimp only at hSw
            go_simp
            try with_reducible rfl
          try simp only [Act.put, List.setIfInBounds_toArray, List.set_cons_zero, List.set_cons_succ]
          refine wpAnyH_take (i := 8) (oi := { dst := some 15, op := Op.extract (Operand.tmp 7) 0, type := 40, pos := "entries.go:78", after := #[{ on := 7, ground := Ground.data }], guard := none }) (v := ?_) rfl (by kernel_rfl) (by kernel_rfl) (by kernel_rfl) (fun _ _ _ h => h) (Or.inl ⟨by rfl, ?_⟩) (by assumption) ?_
          rotate_left
          · intro wS hSw
            try dsimp only at hSw
            go_simp
            try with_reducible rfl
          try simp only [Act.put, List.setIfInBounds_toArray, List.set_cons_zero, List.set_cons_succ]
          refine wpAnyH_take (i := 9) (oi := { dst := some 16, op := Op.extract (Operand.tmp 7) 1, type := 4, pos := "entries.go:78", after := #[{ on := 7, ground := Ground.data }, { on := 11, ground := Ground.gcOnly Departure.lateStores }], guard := none }) (v := ?_) rfl (by kernel_rfl) (by kernel_rfl) (by kernel_rfl) (fun _ _ _ h => h) (Or.inl ⟨by rfl, ?_⟩) (by assumption) ?_
          rotate_left
          · intro wS hSw
            try dsimp only at hSw
            go_simp
            try with_reducible rfl
          try simp only [Act.put, List.setIfInBounds_toArray, List.set_cons_zero, List.set_cons_succ]
          refine wpAnyH_ready (rs := [11]) (by kernel_rfl) (by simp) ?_
          refine AllReadyH.cons (o := { dst := none, op := Op.store 40 (Operand.tmp 5) (Operand.tmp 15), type := 0, pos := "entries.go:78", after := #[{ on := 10, ground := Ground.data }, { on := 8, ground := Ground.data }, { on := 6, ground := Ground.chain }, { on := 0, ground := Ground.phase }, { on := 1, ground := Ground.phase }, { on := 2, ground := Ground.phase }, { on := 3, ground := Ground.phase }, { on := 4, ground := Ground.phase }, { on := 5, ground := Ground.phase }, { on := 6, ground := Ground.phase }, { on := 7, ground := Ground.phase }, { on := 8, ground := Ground.phase }, { on := 9, ground := Ground.textOnly Departure.lateStores }, { on := 10, ground := Ground.phase }], guard := none }) rfl (fun K hK => ?_) ?_
          ·
            obtain ⟨d0, d1, d2, d3, d4, d5, d6, d7, df⟩ := C.val_cells HC6.out
            go_simp
            obtain ⟨z7, hz, hc9, hb9⟩ := chain8 z6 cb _ _ _ _ _ _ _ _ (.int .u8 ge.p) (.int .u16 ge.x) (.int .u16 ge.t) (.int .u32 ge.r) (.int .u32 ge.h) (.bool ge.en) (.string ge.ws) (.int .u64 ge.e) _ HC6.out
            rw [hz]
            have HH7 := hide (hb9 _ _ lcb.out HH6.out)
            have HC7 := hide hc9
            clear hz hc9 hb9 d0 d1 d2 d3 d4 d5 d6 d7 df
            refine hK.out _ _ (HSS.out _ HH7.out) (fun hHeld7 => ?_)
            clear hK K
            try simp only [Act.put, List.setIfInBounds_toArray, List.set_cons_zero, List.set_cons_succ]
            refine wpAnyH_take (i := 12) (oi := { dst := some 6, op := Op.assign (Operand.tmp 16), type := 4, pos := "entries.go:78", after := #[{ on := 9, ground := Ground.data }, { on := 11, ground := Ground.chain }, { on := 0, ground := Ground.phase }, { on := 1, ground := Ground.phase }, { on := 2, ground := Ground.phase }, { on := 3, ground := Ground.phase }, { on := 4, ground := Ground.phase }, { on := 5, ground := Ground.phase }, { on := 6, ground := Ground.phase }, { on := 7, ground := Ground.phase }, { on := 8, ground := Ground.phase }, { on := 9, ground := Ground.phase }, { on := 10, ground := Ground.phase }, { on := 11, ground := Ground.phase }], guard := none }) (v := ?_) rfl (by kernel_rfl) (by kernel_rfl) (by kernel_rfl) (fun _ _ _ h => h) (Or.inl ⟨by rfl, ?_⟩) (by assumption) ?_
            rotate_left
            · intro wS hSw
              try dsimp only at hSw
              go_simp
              try with_reducible rfl
            try simp only [Act.put, List.setIfInBounds_toArray, List.set_cons_zero, List.set_cons_succ]
            refine wpAnyH_done (by kernel_rfl) ?_ _
            exact HRS z7 cb (hide ⟨HH7.out, HC7.out⟩)
          exact AllReadyH.nil
        exact AllReadyH.nil
      exact AllReadyH.nil
    refine AllReadyH.cons (o := { dst := some 5, op := Op.alloc 40, type := 0, pos := "entries.go:78", after := #[], guard := none }) rfl (fun K hK => ?_) ?_
    ·
      go_simp
      obtain ⟨z8, hz, HH8, HC8, cb, hcb, lcb⟩ : ∃ q, World.alloc z0 (.cells #[.int .u8 0, .int .u16 0, .int .u16 0, .int .u32 0, .int .u32 0, .bool false, .string ⟨#[]⟩, .int .u64 0] 40) = q ∧ Hid (Below W.heap.size W q) ∧ Hid (q.heap[z0.heap.size]? = some (.cells #[.int .u8 0, .int .u16 0, .int .u16 0, .int .u32 0, .int .u32 0, .bool false, .string ⟨#[]⟩, .int .u64 0] 40 (0, 0))) ∧ ∃ c, z0.heap.size = c ∧ Hid (W.heap.size ≤ c) := ⟨_, rfl, hide (HW0.out.alloc HW0.out.size _), hide (heap_alloc_new _ _), _, rfl, hide HW0.out.size⟩
      rw [hz, hcb]
      rw [hcb] at HC8
      clear hz hcb
      refine hK.out _ _ (HSS.out _ HH8.out) (fun hHeld8 => ?_)
      clear hK K
      try simp only [Act.put, List.setIfInBounds_toArray, List.set_cons_zero, List.set_cons_succ]
      refine wpAnyH_ready (rs := [5]) (by kernel_rfl) (by simp) ?_
      refine AllReadyH.cons (o := { dst := some 13, op := Op.call { callee := Callee.value (Operand.func 53), args := #[Operand.tmp 12], argTypes := #[38] }, type := 76, pos := "entries.go:78", after := #[{ on := 4, ground := Ground.data }], guard := none }) rfl (fun K hK => ?_) ?_
      ·
        go_simp
        go_at_call 53
        refine (keyOf_any _ _ _ _ _ _).mono ?_
        rintro e z9 ⟨rfl, b9⟩
        have HH9 := hide (HH8.out.trans (b9.mono HH8.out.size))
        have HC9 := hide (below_block b9 HC8.out (Nat.le_refl _))
        clear b9
        refine hK.out _ _ (HSS.out _ HH9.out) (fun hHeld9 => ?_)
        clear hK K
        try simp only [Act.put, List.setIfInBounds_toArray, List.set_cons_zero, List.set_cons_succ]
        refine wpAnyH_ready (rs := [6]) (by kernel_rfl) (by simp) ?_
        refine AllReadyH.cons (o := { dst := some 14, op := Op.call { callee := Callee.value (Operand.func 52), args := #[Operand.tmp 11, Operand.tmp 13], argTypes := #[73, 76] }, type := 96, pos := "entries.go:78", after := #[{ on := 3, ground := Ground.data }, { on := 5, ground := Ground.data }, { on := 5, ground := Ground.chain }], guard := none }) rfl (fun K hK => ?_) ?_
        ·
          go_simp
          go_at_call 52
          with_reducible refine (HGE.out _ HH9.out).mono ?_
          rintro e z10 ⟨rfl, b9⟩
          have HH10 := hide (HH9.out.trans (b9.mono HH9.out.size))
          have HC10 := hide (below_block b9 HC9.out (Nat.le_refl _))
          clear b9
          refine hK.out _ _ (HSS.out _ HH10.out) (fun hHeld10 => ?_)
          clear hK K
          try simp only [Act.put, List.setIfInBounds_toArray, List.set_cons_zero, List.set_cons_succ]
          refine wpAnyH_take (i := 7) (oi := { dst := some 7, op := Op.move (Operand.tmp 14), type := 96, pos := "entries.go:78", after := #[{ on := 6, ground := Ground.data }], guard := none }) (v := ?_) rfl (by kernel_rfl) (by kernel_rfl) (by kernel_rfl) (fun _ _ _ h => h) (Or.inl ⟨by rfl, ?_⟩) (by assumption) ?_
          rotate_left
          · intro wS hSw
            try dsimp only at hSw
            go_simp
            try with_reducible rfl
          try simp only [Act.put, List.setIfInBounds_toArray, List.set_cons_zero, List.set_cons_succ]
          refine wpAnyH_take (i := 8) (oi := { dst := some 15, op := Op.extract (Operand.tmp 7) 0, type := 40, pos := "entries.go:78", after := #[{ on := 7, ground := Ground.data }], guard := none }) (v := ?_) rfl (by kernel_rfl) (by kernel_rfl) (by kernel_rfl) (fun _ _ _ h => h) (Or.inl ⟨by rfl, ?_⟩) (by assumption) ?_
          rotate_left
          · intro wS hSw
            try dsimp only at hSw
            go_simp
            try with_reducible rfl
          try simp only [Act.put, List.setIfInBounds_toArray, List.set_cons_zero, List.set_cons_succ]
          refine wpAnyH_take (i := 9) (oi := { dst := some 16, op := Op.extract (Operand.tmp 7) 1, type := 4, pos := "entries.go:78", after := #[{ on := 7, ground := Ground.data }, { on := 11, ground := Ground.gcOnly Departure.lateStores }], guard := none }) (v := ?_) rfl (by kernel_rfl) (by kernel_rfl) (by kernel_rfl) (fun _ _ _ h => h) (Or.inl ⟨by rfl, ?_⟩) (by assumption) ?_
          rotate_left
          · intro wS hSw
            try dsimp only at hSw
            go_simp
            try with_reducible rfl
          try simp only [Act.put, List.setIfInBounds_toArray, List.set_cons_zero, List.set_cons_succ]
          refine wpAnyH_ready (rs := [11]) (by kernel_rfl) (by simp) ?_
          refine AllReadyH.cons (o := { dst := none, op := Op.store 40 (Operand.tmp 5) (Operand.tmp 15), type := 0, pos := "entries.go:78", after := #[{ on := 10, ground := Ground.data }, { on := 8, ground := Ground.data }, { on := 6, ground := Ground.chain }, { on := 0, ground := Ground.phase }, { on := 1, ground := Ground.phase }, { on := 2, ground := Ground.phase }, { on := 3, ground := Ground.phase }, { on := 4, ground := Ground.phase }, { on := 5, ground := Ground.phase }, { on := 6, ground := Ground.phase }, { on := 7, ground := Ground.phase }, { on := 8, ground := Ground.phase }, { on := 9, ground := Ground.textOnly Departure.lateStores }, { on := 10, ground := Ground.phase }], guard := none }) rfl (fun K hK => ?_) ?_
          ·
            obtain ⟨d0, d1, d2, d3, d4, d5, d6, d7, df⟩ := C.val_cells HC10.out
            go_simp
            obtain ⟨z11, hz, hc9, hb9⟩ := chain8 z10 cb _ _ _ _ _ _ _ _ (.int .u8 ge.p) (.int .u16 ge.x) (.int .u16 ge.t) (.int .u32 ge.r) (.int .u32 ge.h) (.bool ge.en) (.string ge.ws) (.int .u64 ge.e) _ HC10.out
            rw [hz]
            have HH11 := hide (hb9 _ _ lcb.out HH10.out)
            have HC11 := hide hc9
            clear hz hc9 hb9 d0 d1 d2 d3 d4 d5 d6 d7 df
            refine hK.out _ _ (HSS.out _ HH11.out) (fun hHeld11 => ?_)
            clear hK K
            try simp only [Act.put, List.setIfInBounds_toArray, List.set_cons_zero, List.set_cons_succ]
            refine wpAnyH_take (i := 12) (oi := { dst := some 6, op := Op.assign (Operand.tmp 16), type := 4, pos := "entries.go:78", after := #[{ on := 9, ground := Ground.data }, { on := 11, ground := Ground.chain }, { on := 0, ground := Ground.phase }, { on := 1, ground := Ground.phase }, { on := 2, ground := Ground.phase }, { on := 3, ground := Ground.phase }, { on := 4, ground := Ground.phase }, { on := 5, ground := Ground.phase }, { on := 6, ground := Ground.phase }, { on := 7, ground := Ground.phase }, { on := 8, ground := Ground.phase }, { on := 9, ground := Ground.phase }, { on := 10, ground := Ground.phase }, { on := 11, ground := Ground.phase }], guard := none }) (v := ?_) rfl (by kernel_rfl) (by kernel_rfl) (by kernel_rfl) (fun _ _ _ h => h) (Or.inl ⟨by rfl, ?_⟩) (by assumption) ?_
            rotate_left
            · intro wS hSw
              try dsimp only at hSw
              go_simp
              try with_reducible rfl
            try simp only [Act.put, List.setIfInBounds_toArray, List.set_cons_zero, List.set_cons_succ]
            refine wpAnyH_done (by kernel_rfl) ?_ _
            exact HRS z11 cb (hide ⟨HH11.out, HC11.out⟩)
          exact AllReadyH.nil
        exact AllReadyH.nil
      exact AllReadyH.nil
    exact AllReadyH.nil
  case r =>
    intro z cb HZ
    obtain ⟨e0, e1, e2, e3, e4, e5, e6, e7, ef⟩ := C.val_cells HZ.out.2
    obtain ⟨x0, x1, x2, x3, x4⟩ := (HSS.out z HZ.out.1).2
    have HRES := hide (show hasE L k mt mh = (ok && eqM ge k mt mh) by unfold hasE; rw [HGV.out.1, HGV.out.2])
    clear HGE ef
    cases ok with
    | true =>
      have hbb := HB.out.trans (HZ.out.1.mono HB.out.size)
      cases hq : eqM ge k mt mh with
      | true =>
        have hq2 := hq
        unfold eqM at hq2
        simp only [Bool.and_eq_true, beq_iff_eq] at hq2
        obtain ⟨q0, q1, q2, q3, q4⟩ := hq2
        rw [hq] at HRES
        clear hq
        go_wp2_with fail
        go_ret
        exact ⟨by rw [HRES.out]; rfl, hbb⟩
      | false =>
        have hq2 := hide hq
        rw [hq] at HRES
        clear hq
        go_wp2_with fail
        all_goals
          go_ret
          refine ⟨?_, hbb⟩
          rw [HRES.out]
          first
            | rfl
            | (exfalso; have h3 := hq2.out; unfold eqM at h3; simp_all)
    | false =>
      go_wp2_with fail
      go_ret
      exact ⟨by rw [HRES.out]; rfl, HB.out.trans (HZ.out.1.mono HB.out.size)⟩
end Go.Proofs.Ytijjgnkfddklgaa

/- The first port with which a mapping may be there. -/
namespace Go.Proofs.Ytijjgnkfddklgaa
open Go.RowKit Go.Deep Go.Shelf
set_option linter.unusedVariables false
set_option linter.unusedSimpArgs false
set_option maxRecDepth 100000
def setX (k : MK) (n : Nat) (h : n ≤ 65535) : MK := ⟨k.p, (n : Int), k.r, k.hp, by omega, k.hr⟩
/-- What is said of a port. -/
def hinX (g : CG) (L : ML) (k : MK) (mt mh : Int) (n : Nat) : Int := if h : n ≤ 65535 then hinV g L (setX k n h) mt mh else 1
/-- Its own port will do. -/
def ownB (g : CG) (L : ML) (k : MK) (mt mh : Int) : Bool := k.x != 0 && (hinV g L k mt mh == 0)
/-- What free answers. -/
def FreeAns (g : CG) (L : ML) (k : MK) (mt mh : Int) (w : World) (e : Ending) (w' : World) : Prop :=
  ((ownB g L k mt mh = true ∧ e = .returned (.tuple #[.int .u16 k.x, .bool true])) ∨
   (ownB g L k mt mh = false ∧ ∃ i : Nat, i < 64512 ∧ (∀ j, j < i → hinX g L k mt mh (1024 + j) ≠ 0) ∧ hinX g L k mt mh (1024 + i) = 0 ∧ e = .returned (.tuple #[.int .u16 ((1024 + i : Nat) : Int), .bool true])) ∨
   (ownB g L k mt mh = false ∧ (∀ j, j < 64512 → hinX g L k mt mh (1024 + j) ≠ 0) ∧ e = .returned (.tuple #[.int .u16 0, .bool false]))) ∧ Below w.heap.size w w'
theorem five_c {w : World} {R : Nat} {t : TypeId} {v0 v1 v2 v3 v4 : Value} (h : w.heap[R]? = some (.cells #[v0, v1, v2, v3, v4] t (0, 0))) : w.cell? ⟨R, 0, none⟩ = some v0 ∧ w.cell? ⟨R, 1, none⟩ = some v1 ∧ w.cell? ⟨R, 2, none⟩ = some v2 ∧ w.cell? ⟨R, 3, none⟩ = some v3 ∧ w.cell? ⟨R, 4, none⟩ = some v4 ∧ ∀ i, w.frozen? ⟨R, i, none⟩ = false := by
  refine ⟨?_, ?_, ?_, ?_, ?_, fun i => ?_⟩ <;> simp [World.cell?, World.frozen?, h]
def FrRel (g : CG) (L : ML) (k : MK) (mt mh : Int) (w : World) (B i : Nat) (wr : World) : Prop := (∃ c : Int, wr.heap[B]? = some (.cells #[.int .u8 k.p, .int .u16 c, .int .u16 mt, .int .u32 k.r, .int .u32 mh] 38 (0, 0))) ∧ Below w.heap.size w wr ∧ ∀ j, j < i → hinX g L k mt mh (1024 + j) ≠ 0
set_option maxHeartbeats 4000000 in
theorem free_any (w : World) (sp tt : Nat) (g : CG) (up : Int) (L : ML) (k : MK) (mt mh : Int) (h : SA w sp tt g up L) (hL : L.length ≤ 500000) :
    Calls Try.prog 57 #[.pointer (some ⟨sp, 0, none⟩), .agg #[.int .u8 k.p, .int .u16 k.x, .int .u16 mt, .int .u32 k.r, .int .u32 mh]] w (FreeAns g L k mt mh w) := by
  obtain ⟨W, hW, hb, hx⟩ : ∃ W, w.alloc (.cells #[.int .u8 k.p, .int .u16 k.x, .int .u16 mt, .int .u32 k.r, .int .u32 mh] 38) = W ∧ Below w.heap.size w W ∧ W.heap[w.heap.size]? = some (.cells #[.int .u8 k.p, .int .u16 k.x, .int .u16 mt, .int .u32 k.r, .int .u32 mh] 38 (0, 0)) := ⟨_, rfl, (Below.refl _ _).alloc (Nat.le_refl _) _, heap_alloc_new _ _⟩
  obtain ⟨B, hB⟩ : ∃ B, w.heap.size = B := ⟨_, rfl⟩
  rw [hB] at hx
  have HE := hide (And.intro hW hB)
  have HBB := hide (show w.heap.size ≤ B by omega)
  have HB := hide hb
  have HX := hide hx
  have HH := hide h
  have HLN := hide hL
  obtain ⟨x0, x1, x2, x3, x4, xf⟩ := five_c hx
  have HHI := hide (hindrance_any W sp tt g up L k mt mh (h.below hb) hL)
  clear hW hB hb hx h hL
  cases t1 : (k.x != (0 : Int)) with
  | false =>
    have HOB := hide (show ownB g L k mt mh = false by unfold ownB; rw [t1]; rfl)
    have HR := hide (show FrRel g L k mt mh w B 0 W from ⟨⟨_, HX.out⟩, HB.out, fun j hj => by omega⟩)
    go_enter Try.func57, Try.ntmps57
    go_upto_region 1 with (fail)
    rw [HE.out.1]
    try rw [HE.out.2]
    clear HE HHI
    go_wp2_with fail
    go_loopw [18, 6, 20, 21, 22, 23, 24, 25, 26, 27, 28, 19, 29, 30, 31] (fun u18 u6 u20 u21 u22 u23 u24 u25 u26 u27 u28 u19 u29 u30 u31 wr => ∃ i : Nat, i ≤ 64512 ∧ u18 = .int .i64 (i : Int) ∧ Hid (FrRel g L k mt mh w B i wr)) (fun u18 _ _ _ _ _ _ _ _ _ _ _ _ _ _ _ => 64512 - (intOf u18).toNat)
    case atStart => exact ⟨0, Nat.zero_le _, rfl, HR⟩
    case round =>
      clear HR
      obtain ⟨i, hi, rfl, HF⟩ := hrel
      obtain ⟨⟨c, hc⟩, hbw, hno⟩ := HF.out
      obtain ⟨x0, x1, x2, x3, x4, xf⟩ := five_c hc
      have HC := hide hc
      have HBW := hide hbw
      have HNO := hide hno
      clear hc hbw hno HF
      by_cases hlt : i < 64512
      · have hd : decide ((i : Int) < 64512) = true := by simp; omega
        obtain ⟨p, hp⟩ : ∃ p, 1024 + i = p := ⟨_, rfl⟩
        have hp2 : p ≤ 65535 := by omega
        have hw2 : IntKind.u16.wrap ((1024 : Int) + (i : Int)) = (p : Int) := by rw [IntKind.wrap_u16]; omega
        have HP := hide hp
        have HLT := hide hlt
        have HP2 := hide hp2
        obtain ⟨V, hV, hv, hb2⟩ : ∃ V, wr.setCell ⟨B, 1, none⟩ (.int .u16 (p : Int)) = V ∧ V.heap[B]? = some (.cells #[.int .u8 k.p, .int .u16 (p : Int), .int .u16 mt, .int .u32 k.r, .int .u32 mh] 38 (0, 0)) ∧ Below w.heap.size w V := ⟨_, rfl, heap_setCell_same _ _ 1 _ _ _ HC.out, HBW.out.setCell (p := ⟨B, 1, none⟩) HBB.out _⟩
        have HV := hide hV
        have HVX := hide hv
        have HB2 := hide hb2
        clear hp hp2 hlt hV hv hb2
        go_wp2_with fail
        go_upto_region 7 with (fail)
        rw [HV.out]
        have hh := hindrance_any V sp tt g up L (setX k p HP2.out) mt mh (HH.out.below HB2.out) HLN.out
        have hx2 : hinX g L k mt mh p = hinV g L (setX k p HP2.out) mt mh := by unfold hinX; rw [dif_pos HP2.out]
        rw [← hx2] at hh
        have HHX := hide hh
        obtain ⟨y0, y1, y2, y3, y4, yf⟩ := five_c HVX.out
        clear hh hx2 x0 x1 x2 x3 x4 xf hw2 hd
        go_wp2_with fail
        refine HHX.out.mono ?_
        rintro e w2 ⟨rfl, b2⟩
        have HB3 := hide (HB2.out.trans (b2.mono HB2.out.size))
        have hx3 := below_block b2 HVX.out (Nat.le_refl _)
        obtain ⟨z0, z1, z2, z3, z4, zf⟩ := five_c hx3
        have HX3 := hide hx3
        clear y0 y1 y2 y3 y4 yf b2 HHX hx3
        obtain ⟨v, hv⟩ : ∃ v, hinX g L k mt mh p = v := ⟨_, rfl⟩
        rw [hv]
        by_cases h0 : v = 0
        · have hd : (v == (0 : Int)) = true := by simpa using h0
          have HV0 := hide (hv.trans h0)
          clear hv h0
          go_wp2_with fail
          go_ret2
          exact ⟨.inr (.inl ⟨HOB.out, i, HLT.out, HNO.out, by rw [HP.out]; exact HV0.out, by rw [HP.out]; rfl⟩), HB3.out⟩
        · have hd : (v == (0 : Int)) = false := by simpa using h0
          have HV0 := hide (fun e => h0 (hv.symm.trans e) : hinX g L k mt mh p ≠ 0)
          clear hv h0
          go_wp2_with fail
          go_roundw
          case rel => exact ⟨i + 1, HLT.out, by go_num, hide ⟨⟨_, HX3.out⟩, HB3.out, fun j hj => by
            by_cases e : j = i
            · subst e; rw [HP.out]; exact HV0.out
            · exact HNO.out j (by omega)⟩⟩
          case measure => simp [intOf]; have := HLT.out; omega
      · obtain rfl : i = 64512 := by omega
        have hd : decide ((64512 : Int) < 64512) = false := by simp
        clear hlt hi
        go_wp2_with fail
        go_ret2
        exact ⟨.inr (.inr ⟨HOB.out, HNO.out, rfl⟩), HBW.out⟩
  | true =>
    go_enter Try.func57, Try.ntmps57
    go_upto_region 1 with (fail)
    rw [HE.out.1]
    try rw [HE.out.2]
    clear HE
    go_wp2_with fail
    refine HHI.out.mono ?_
    rintro e w1 ⟨rfl, b1⟩
    have hx1 := below_block b1 HX.out (Nat.le_refl _)
    have HR := hide (show FrRel g L k mt mh w B 0 w1 from ⟨⟨_, hx1⟩, HB.out.trans (b1.mono HB.out.size), fun j hj => by omega⟩)
    obtain ⟨y0, y1, y2, y3, y4, yf⟩ := five_c hx1
    obtain ⟨v, hv⟩ : ∃ v, hinV g L k mt mh = v := ⟨_, rfl⟩
    rw [hv]
    clear x0 x1 x2 x3 x4 xf b1 hx1 HHI
    by_cases h0 : v = 0
    · have hd : (v == (0 : Int)) = true := by simpa using h0
      have HOB := hide (show ownB g L k mt mh = true by unfold ownB; rw [t1, hv, h0]; rfl)
      clear hv h0
      go_wp2_with fail
      go_ret2
      exact ⟨.inl ⟨HOB.out, rfl⟩, HR.out.2.1⟩
    · have hd : (v == (0 : Int)) = false := by simpa using h0
      have HOB := hide (show ownB g L k mt mh = false by unfold ownB; rw [t1, hv, hd]; rfl)
      clear hv h0 y0 y1 y2 y3 y4 yf
      go_wp2_with fail
      go_loopw [18, 6, 20, 21, 22, 23, 24, 25, 26, 27, 28, 19, 29, 30, 31] (fun u18 u6 u20 u21 u22 u23 u24 u25 u26 u27 u28 u19 u29 u30 u31 wr => ∃ i : Nat, i ≤ 64512 ∧ u18 = .int .i64 (i : Int) ∧ Hid (FrRel g L k mt mh w B i wr)) (fun u18 _ _ _ _ _ _ _ _ _ _ _ _ _ _ _ => 64512 - (intOf u18).toNat)
      case atStart => exact ⟨0, Nat.zero_le _, rfl, HR⟩
      case round =>
        clear HR
        obtain ⟨i, hi, rfl, HF⟩ := hrel
        obtain ⟨⟨c, hc⟩, hbw, hno⟩ := HF.out
        obtain ⟨x0, x1, x2, x3, x4, xf⟩ := five_c hc
        have HC := hide hc
        have HBW := hide hbw
        have HNO := hide hno
        clear hc hbw hno HF
        by_cases hlt : i < 64512
        · have hd : decide ((i : Int) < 64512) = true := by simp; omega
          obtain ⟨p, hp⟩ : ∃ p, 1024 + i = p := ⟨_, rfl⟩
          have hp2 : p ≤ 65535 := by omega
          have hw2 : IntKind.u16.wrap ((1024 : Int) + (i : Int)) = (p : Int) := by rw [IntKind.wrap_u16]; omega
          have HP := hide hp
          have HLT := hide hlt
          have HP2 := hide hp2
          obtain ⟨V, hV, hv, hb2⟩ : ∃ V, wr.setCell ⟨B, 1, none⟩ (.int .u16 (p : Int)) = V ∧ V.heap[B]? = some (.cells #[.int .u8 k.p, .int .u16 (p : Int), .int .u16 mt, .int .u32 k.r, .int .u32 mh] 38 (0, 0)) ∧ Below w.heap.size w V := ⟨_, rfl, heap_setCell_same _ _ 1 _ _ _ HC.out, HBW.out.setCell (p := ⟨B, 1, none⟩) HBB.out _⟩
          have HV := hide hV
          have HVX := hide hv
          have HB2 := hide hb2
          clear hp hp2 hlt hV hv hb2
          go_wp2_with fail
          go_upto_region 7 with (fail)
          rw [HV.out]
          have hh := hindrance_any V sp tt g up L (setX k p HP2.out) mt mh (HH.out.below HB2.out) HLN.out
          have hx2 : hinX g L k mt mh p = hinV g L (setX k p HP2.out) mt mh := by unfold hinX; rw [dif_pos HP2.out]
          rw [← hx2] at hh
          have HHX := hide hh
          obtain ⟨y0, y1, y2, y3, y4, yf⟩ := five_c HVX.out
          clear hh hx2 x0 x1 x2 x3 x4 xf hw2 hd
          go_wp2_with fail
          refine HHX.out.mono ?_
          rintro e w2 ⟨rfl, b2⟩
          have HB3 := hide (HB2.out.trans (b2.mono HB2.out.size))
          have hx3 := below_block b2 HVX.out (Nat.le_refl _)
          obtain ⟨z0, z1, z2, z3, z4, zf⟩ := five_c hx3
          have HX3 := hide hx3
          clear y0 y1 y2 y3 y4 yf b2 HHX hx3
          obtain ⟨v, hv⟩ : ∃ v, hinX g L k mt mh p = v := ⟨_, rfl⟩
          rw [hv]
          by_cases h0 : v = 0
          · have hd : (v == (0 : Int)) = true := by simpa using h0
            have HV0 := hide (hv.trans h0)
            clear hv h0
            go_wp2_with fail
            go_ret2
            exact ⟨.inr (.inl ⟨HOB.out, i, HLT.out, HNO.out, by rw [HP.out]; exact HV0.out, by rw [HP.out]; rfl⟩), HB3.out⟩
          · have hd : (v == (0 : Int)) = false := by simpa using h0
            have HV0 := hide (fun e => h0 (hv.symm.trans e) : hinX g L k mt mh p ≠ 0)
            clear hv h0
            go_wp2_with fail
            go_roundw
            case rel => exact ⟨i + 1, HLT.out, by go_num, hide ⟨⟨_, HX3.out⟩, HB3.out, fun j hj => by
              by_cases e : j = i
              · subst e; rw [HP.out]; exact HV0.out
              · exact HNO.out j (by omega)⟩⟩
            case measure => simp [intOf]; have := HLT.out; omega
        · obtain rfl : i = 64512 := by omega
          have hd : decide ((64512 : Int) < 64512) = false := by simp
          clear hlt hi
          go_wp2_with fail
          go_ret2
          exact ⟨.inr (.inr ⟨HOB.out, HNO.out, rfl⟩), HBW.out⟩
end Go.Proofs.Ytijjgnkfddklgaa
