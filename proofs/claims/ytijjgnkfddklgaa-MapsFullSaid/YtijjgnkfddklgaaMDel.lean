/- A mapping is taken away. -/
import Derived.Test.YtijjgnkfddklgaaMHin
import Derived.Test.YtijjgnkfddklgaaMPut
namespace Go.Proofs.Ytijjgnkfddklgaa
open Go.RowKit Go.Deep Go.Shelf
set_option linter.unusedVariables false
set_option linter.unusedSimpArgs false
set_option maxRecDepth 100000
theorem have_rest3 {P : Prop} {A : World → World → Prop} {G : World → World → Prop} (m : (∀ x y, A x y → G x y) → P) (r : ∀ x y, A x y → G x y) : P := m r
theorem or2 (V : World) (a b : Int) :
    Calls Try.prog 45 #[.slice (some ⟨V.heap.size, 0, none⟩) 2 2] (V.alloc (.cells #[.int .i64 a, .int .i64 b] 3)) fun x w' => x = .returned (.int .i64 (nzF [a, b])) ∧ w' = V.alloc (.cells #[.int .i64 a, .int .i64 b] 3) := by
  refine or_any [a, b] _ V.heap.size 2 (fun i hi => ?_) (by simp)
  have h := heap_alloc_new V (.cells #[.int .i64 a, .int .i64 b] 3)
  match i, hi with
  | 0, _ => exact (cell_of_row _ _ 0 _ _ (0, 0) h).trans rfl
  | 1, _ => exact (cell_of_row _ _ 1 _ _ (0, 0) h).trans rfl
def delV (L : ML) (who : Nat) (k : MK) : Int := nzF [if (!hasL tM k L) = true then 714 else 0, if ((gE (getL tM k L)).h != (who : Int)) = true then 606 else 0]
/-- What Delete answers, and leaves. -/
def DelAns (sp tt : Nat) (g : CG) (up : Int) (L : ML) (who : Nat) (k : MK) (w : World) (e : Ending) (w' : World) : Prop :=
  e = .returned (.int .i64 (delV L who k)) ∧ (delV L who k = 0 → SA w' sp tt g (IntKind.u32.wrap (up + 1)) (delL tM k L)) ∧ (delV L who k ≠ 0 → SA w' sp tt g up L) ∧ OnlyS (fun q => q = sp ∨ q = tt) w w'
set_option maxHeartbeats 6000000 in
theorem mdel_any (w : World) (sp tt : Nat) (g : CG) (up : Int) (L : ML) (who : Nat) (k : MK) (mt mh : Int) (h : SA w sp tt g up L) (hL : L.length ≤ 500000) :
    Calls Try.prog 23 #[.pointer (some ⟨sp, 0, none⟩), .int .u32 (who : Int), .agg #[.int .u8 k.p, .int .u16 k.x, .int .u16 mt, .int .u32 k.r, .int .u32 mh]] w (DelAns sp tt g up L who k w) := by
  obtain ⟨W, hW, hb, hx⟩ : ∃ W, w.alloc (.cells #[.int .u8 k.p, .int .u16 k.x, .int .u16 mt, .int .u32 k.r, .int .u32 mh] 38) = W ∧ Below w.heap.size w W ∧ W.heap[w.heap.size]? = some (.cells #[.int .u8 k.p, .int .u16 k.x, .int .u16 mt, .int .u32 k.r, .int .u32 mh] 38 (0, 0)) := ⟨_, rfl, (Below.refl _ _).alloc (Nat.le_refl _) _, heap_alloc_new _ _⟩
  obtain ⟨B, hB⟩ : ∃ B, w.heap.size = B := ⟨_, rfl⟩
  rw [hB] at hx
  have HE := hide (And.intro hW hB)
  have HB := hide hb
  have hS := h.below hb
  have HSA := hide (fun (V : World) (hV : Below W.heap.size W V) => hS.below hV)
  have HBX := hide (fun (V : World) (hV : Below W.heap.size W V) => below_block hV hx (Nat.le_refl _))
  have HSS := hide (fun (V : World) (hV : Below W.heap.size W V) => (show V.cell? ⟨sp, 28, none⟩ = some (.pointer (some ⟨tt, 0, none⟩)) ∧ V.cell? ⟨B, 0, none⟩ = some (.int .u8 k.p) ∧ V.cell? ⟨B, 1, none⟩ = some (.int .u16 k.x) ∧ V.cell? ⟨B, 2, none⟩ = some (.int .u16 mt) ∧ V.cell? ⟨B, 3, none⟩ = some (.int .u32 k.r) ∧ V.cell? ⟨B, 4, none⟩ = some (.int .u32 mh) from by
    have h1 := below_block hV hx (Nat.le_refl _)
    refine ⟨(hS.below hV).st.c28, ?_, ?_, ?_, ?_, ?_⟩ <;> simp [World.cell?, h1]))
  obtain ⟨ge, hge⟩ : ∃ x, gE (getL tM k L) = x := ⟨_, rfl⟩
  obtain ⟨ok, hok⟩ : ∃ b, hasL tM k L = b := ⟨_, rfl⟩
  have HGE := hide (fun (V : World) (hV : Below W.heap.size W V) => by
    have h1 := C.GetL (hS.below hV).st.tab C.oF_ord k
    rw [gv_gE, hge, hok] at h1
    exact h1)
  have HGV := hide (And.intro hge hok)
  have HW0 := hide (below_drew W)
  clear hW hB hb hx hS hge hok
  have HLN := hide hL
  obtain ⟨b2, hb2⟩ : ∃ b, (ge.h != (who : Int)) = b := ⟨_, rfl⟩
  obtain ⟨v1, hv1⟩ : ∃ v : Int, (if (!ok) = true then 714 else 0) = v := ⟨_, rfl⟩
  obtain ⟨v2, hv2⟩ : ∃ v : Int, (if b2 = true then 606 else 0) = v := ⟨_, rfl⟩
  have HV1 := hide (fun V => by have h1 := when_any (!ok) 714 V; rw [hv1] at h1; exact h1)
  have HV2 := hide (fun V => by have h1 := when_any b2 606 V; rw [hv2] at h1; exact h1)
  obtain ⟨cd, hcd⟩ : ∃ c, nzF [v1, v2] = c := ⟨_, rfl⟩
  have HRES := hide (show delV L who k = cd by unfold delV; rw [HGV.out.1, HGV.out.2, hb2, hv1, hv2, hcd])
  have HCD := hide hcd
  have HDR := hide (fun (V : World) (hV : Below W.heap.size W V) => C.DropL (HSA.out V hV).st.tab C.oF_ord k (by have := HLN.out; omega))
  have HSG := hide (fun (V V' : World) (hV : Below W.heap.size W V) (hg : V.grownBy V' (some tt)) => (show V'.cell? ⟨sp, 28, none⟩ = some (.pointer (some ⟨tt, 0, none⟩)) ∧ V'.cell? ⟨B, 0, none⟩ = some (.int .u8 k.p) ∧ V'.cell? ⟨B, 1, none⟩ = some (.int .u16 k.x) ∧ V'.cell? ⟨B, 2, none⟩ = some (.int .u16 mt) ∧ V'.cell? ⟨B, 3, none⟩ = some (.int .u32 k.r) ∧ V'.cell? ⟨B, 4, none⟩ = some (.int .u32 mh) from by
    have h1 := (HSA.out V hV).st
    have h2 := HSS.out V hV
    refine ⟨by rw [World.cell?_of_block (hg.block sp (lt_of_block h1.blk) (fun e => h1.ne (Option.some.inj e)))]; exact h1.c28, ?_⟩
    have hk : ∀ i, V'.cell? ⟨B, i, none⟩ = V.cell? ⟨B, i, none⟩ := fun i => World.cell?_of_block (hg.block B (lt_of_block (HBX.out V hV)) (fun e => by
      obtain ⟨ds, h3⟩ := tab_hd h1.tab
      have h4 := HBX.out V hV
      rw [Option.some.inj e, h3] at h4
      injection h4 with h4; injection h4 with _ h5 _; exact absurd h5 (by decide)))
    rw [hk, hk, hk, hk, hk]
    exact h2.2))
  clear hL h hv1 hv2 hcd
  go_enter Try.func23, Try.ntmps23
  go_upto_region 1 with (fail)
  rw [HE.out.1]
  try rw [HE.out.2]
  clear HE
  refine wp_region_held_drew (S := fun w' => w'.cell? ⟨sp, 28, none⟩ = some (.pointer (some ⟨tt, 0, none⟩)) ∧ w'.cell? ⟨B, 0, none⟩ = some (.int .u8 k.p) ∧ w'.cell? ⟨B, 1, none⟩ = some (.int .u16 k.x) ∧ w'.cell? ⟨B, 2, none⟩ = some (.int .u16 mt) ∧ w'.cell? ⟨B, 3, none⟩ = some (.int .u32 k.r) ∧ w'.cell? ⟨B, 4, none⟩ = some (.int .u32 mh)) (by kernel_rfl) (by exact HSS.out _ (Below.refl _ _).drew) (fun hHeld => ?_)
  generalize W.drew = z0 at *
  apply have_rest2 (A := fun z c => Hid (Below W.heap.size W z ∧ z.heap[c]? = some (.cells #[.int .u8 ge.p, .int .u16 ge.x, .int .u16 ge.t, .int .u32 ge.r, .int .u32 ge.h, .bool ge.en, .string ge.ws, .int .u64 ge.e] 40 (0, 0))))
  case m =>
    intro HRS
    refine wpAnyH_take (i := 0) (oi := { dst := some 11, op := Op.move (Operand.tmp 0), type := 33, pos := "maps.go:62", after := #[], guard := none }) (v := ?_) rfl (by kernel_rfl) (by kernel_rfl) (by kernel_rfl) (fun _ _ _ h => h) (Or.inl ⟨by rfl, ?_⟩) (by assumption) ?_
    rotate_left
    · intro wS hSw
      try dsimp only at hSw
      go_simp
      try with_reducible rfl
    try simp only [Act.put, List.setIfInBounds_toArray, List.set_cons_zero, List.set_cons_succ]
    refine wpAnyH_take (i := 1) (oi := { dst := some 12, op := Op.nilCheck (Operand.tmp 11), type := 0, pos := "maps.go:62", after := #[{ on := 0, ground := Ground.data }], guard := none }) (v := ?_) rfl (by kernel_rfl) (by kernel_rfl) (by kernel_rfl) (fun _ _ _ h => h) (Or.inl ⟨by rfl, ?_⟩) (by assumption) ?_
    rotate_left
    · intro wS hSw
      try dsimp only at hSw
      go_simp
      try with_reducible rfl
    try simp only [Act.put, List.setIfInBounds_toArray, List.set_cons_zero, List.set_cons_succ]
    refine wpAnyH_take (i := 2) (oi := { dst := some 13, op := Op.fieldAddr 79 (Operand.tmp 12) 1, type := 0, pos := "maps.go:62", after := #[{ on := 1, ground := Ground.data }], guard := none }) (v := ?_) rfl (by kernel_rfl) (by kernel_rfl) (by kernel_rfl) (fun _ _ _ h => h) (Or.inl ⟨by rfl, ?_⟩) (by assumption) ?_
    rotate_left
    · intro wS hSw
      try dsimp only at hSw
      go_simp
      try with_reducible rfl
    try simp only [Act.put, List.setIfInBounds_toArray, List.set_cons_zero, List.set_cons_succ]
    refine wpAnyH_take (i := 3) (oi := { dst := some 14, op := Op.load 73 (Operand.tmp 13), type := 73, pos := "maps.go:62", after := #[{ on := 2, ground := Ground.data }], guard := none }) (v := ?_) rfl (by kernel_rfl) (by kernel_rfl) (by kernel_rfl) (fun _ _ _ h => h) (Or.inl ⟨by rfl, ?_⟩) (by assumption) ?_
    rotate_left
    · intro wS hSw
      try dsimp only at hSw
      go_simp
      try with_reducible rfl
    try simp only [Act.put, List.setIfInBounds_toArray, List.set_cons_zero, List.set_cons_succ]
    refine wpAnyH_take (i := 4) (oi := { dst := some 15, op := Op.load 38 (Operand.tmp 5), type := 38, pos := "maps.go:62", after := #[], guard := none }) (v := ?_) rfl (by kernel_rfl) (by kernel_rfl) (by kernel_rfl) (fun _ _ _ h => h) (Or.inl ⟨by rfl, ?_⟩) (by assumption) ?_
    rotate_left
    · intro wS hSw
      try dsimp only at hSw
      go_simp
      try with_reducible rfl
    try simp only [Act.put, List.setIfInBounds_toArray, List.set_cons_zero, List.set_cons_succ]
    refine wpAnyH_ready (rs := [5, 10]) (by kernel_rfl) (by simp) ?_
    refine AllReadyH.cons (o := { dst := some 16, op := Op.call { callee := Callee.value (Operand.func 53), args := #[Operand.tmp 15], argTypes := #[38] }, type := 76, pos := "maps.go:62", after := #[{ on := 4, ground := Ground.data }], guard := none }) rfl (fun K hK => ?_) ?_
    ·
      go_simp
      go_at_call 53
      refine (keyOf_any _ _ _ _ _ _).mono ?_
      rintro e z1 ⟨rfl, b9⟩
      have HH1 := hide (HW0.out.trans (b9.mono HW0.out.size))
      clear b9
      refine hK.out _ _ (HSS.out _ HH1.out) (fun hHeld1 => ?_)
      clear hK K
      try simp only [Act.put, List.setIfInBounds_toArray, List.set_cons_zero, List.set_cons_succ]
      refine wpAnyH_ready (rs := [6, 10]) (by kernel_rfl) (by simp) ?_
      refine AllReadyH.cons (o := { dst := some 17, op := Op.call { callee := Callee.value (Operand.func 52), args := #[Operand.tmp 14, Operand.tmp 16], argTypes := #[73, 76] }, type := 96, pos := "maps.go:62", after := #[{ on := 3, ground := Ground.data }, { on := 5, ground := Ground.data }, { on := 5, ground := Ground.chain }], guard := none }) rfl (fun K hK => ?_) ?_
      ·
        go_simp
        go_at_call 52
        with_reducible refine (HGE.out _ HH1.out).mono ?_
        rintro e z2 ⟨rfl, b9⟩
        have HH2 := hide (HH1.out.trans (b9.mono HH1.out.size))
        clear b9
        refine hK.out _ _ (HSS.out _ HH2.out) (fun hHeld2 => ?_)
        clear hK K
        try simp only [Act.put, List.setIfInBounds_toArray, List.set_cons_zero, List.set_cons_succ]
        refine wpAnyH_take (i := 7) (oi := { dst := some 10, op := Op.move (Operand.tmp 17), type := 96, pos := "maps.go:62", after := #[{ on := 6, ground := Ground.data }], guard := none }) (v := ?_) rfl (by kernel_rfl) (by kernel_rfl) (by kernel_rfl) (fun _ _ _ h => h) (Or.inl ⟨by rfl, ?_⟩) (by assumption) ?_
        rotate_left
        · intro wS hSw
          try dsimp only at hSw
          go_simp
          try with_reducible rfl
        try simp only [Act.put, List.setIfInBounds_toArray, List.set_cons_zero, List.set_cons_succ]
        refine wpAnyH_take (i := 8) (oi := { dst := some 18, op := Op.extract (Operand.tmp 10) 0, type := 40, pos := "maps.go:62", after := #[{ on := 7, ground := Ground.data }], guard := none }) (v := ?_) rfl (by kernel_rfl) (by kernel_rfl) (by kernel_rfl) (fun _ _ _ h => h) (Or.inl ⟨by rfl, ?_⟩) (by assumption) ?_
        rotate_left
        · intro wS hSw
          try dsimp only at hSw
          go_simp
          try with_reducible rfl
        try simp only [Act.put, List.setIfInBounds_toArray, List.set_cons_zero, List.set_cons_succ]
        refine wpAnyH_take (i := 9) (oi := { dst := some 19, op := Op.extract (Operand.tmp 10) 1, type := 4, pos := "maps.go:62", after := #[{ on := 7, ground := Ground.data }, { on := 11, ground := Ground.gcOnly Departure.lateStores }], guard := none }) (v := ?_) rfl (by kernel_rfl) (by kernel_rfl) (by kernel_rfl) (fun _ _ _ h => h) (Or.inl ⟨by rfl, ?_⟩) (by assumption) ?_
        rotate_left
        · intro wS hSw
          try dsimp only at hSw
          go_simp
          try with_reducible rfl
        try simp only [Act.put, List.setIfInBounds_toArray, List.set_cons_zero, List.set_cons_succ]
        refine wpAnyH_ready (rs := [10]) (by kernel_rfl) (by simp) ?_
        refine AllReadyH.cons (o := { dst := some 7, op := Op.alloc 40, type := 0, pos := "maps.go:62", after := #[], guard := none }) rfl (fun K hK => ?_) ?_
        ·
          go_simp
          obtain ⟨z3, hz, HH3, HC3, cb, hcb, lcb⟩ : ∃ q, World.alloc z2 (.cells #[.int .u8 0, .int .u16 0, .int .u16 0, .int .u32 0, .int .u32 0, .bool false, .string ⟨#[]⟩, .int .u64 0] 40) = q ∧ Hid (Below W.heap.size W q) ∧ Hid (q.heap[z2.heap.size]? = some (.cells #[.int .u8 0, .int .u16 0, .int .u16 0, .int .u32 0, .int .u32 0, .bool false, .string ⟨#[]⟩, .int .u64 0] 40 (0, 0))) ∧ ∃ c, z2.heap.size = c ∧ Hid (W.heap.size ≤ c) := ⟨_, rfl, hide (HH2.out.alloc HH2.out.size _), hide (heap_alloc_new _ _), _, rfl, hide HH2.out.size⟩
          rw [hz, hcb]
          rw [hcb] at HC3
          clear hz hcb
          refine hK.out _ _ (HSS.out _ HH3.out) (fun hHeld3 => ?_)
          clear hK K
          try simp only [Act.put, List.setIfInBounds_toArray, List.set_cons_zero, List.set_cons_succ]
          refine wpAnyH_ready (rs := [11]) (by kernel_rfl) (by simp) ?_
          refine AllReadyH.cons (o := { dst := none, op := Op.store 40 (Operand.tmp 7) (Operand.tmp 18), type := 0, pos := "maps.go:62", after := #[{ on := 10, ground := Ground.data }, { on := 8, ground := Ground.data }, { on := 6, ground := Ground.chain }, { on := 0, ground := Ground.phase }, { on := 1, ground := Ground.phase }, { on := 2, ground := Ground.phase }, { on := 3, ground := Ground.phase }, { on := 4, ground := Ground.phase }, { on := 5, ground := Ground.phase }, { on := 6, ground := Ground.phase }, { on := 7, ground := Ground.phase }, { on := 8, ground := Ground.phase }, { on := 9, ground := Ground.textOnly Departure.lateStores }, { on := 10, ground := Ground.phase }], guard := none }) rfl (fun K hK => ?_) ?_
          ·
            obtain ⟨d0, d1, d2, d3, d4, d5, d6, d7, df⟩ := C.val_cells HC3.out
            go_simp
            obtain ⟨z4, hz, hc9, hb9⟩ := chain8 z3 cb _ _ _ _ _ _ _ _ (.int .u8 ge.p) (.int .u16 ge.x) (.int .u16 ge.t) (.int .u32 ge.r) (.int .u32 ge.h) (.bool ge.en) (.string ge.ws) (.int .u64 ge.e) _ HC3.out
            rw [hz]
            have HH4 := hide (hb9 _ _ lcb.out HH3.out)
            have HC4 := hide hc9
            clear hz hc9 hb9 d0 d1 d2 d3 d4 d5 d6 d7 df
            refine hK.out _ _ (HSS.out _ HH4.out) (fun hHeld4 => ?_)
            clear hK K
            try simp only [Act.put, List.setIfInBounds_toArray, List.set_cons_zero, List.set_cons_succ]
            refine wpAnyH_take (i := 12) (oi := { dst := some 8, op := Op.assign (Operand.tmp 19), type := 4, pos := "maps.go:62", after := #[{ on := 9, ground := Ground.data }, { on := 11, ground := Ground.chain }, { on := 0, ground := Ground.phase }, { on := 1, ground := Ground.phase }, { on := 2, ground := Ground.phase }, { on := 3, ground := Ground.phase }, { on := 4, ground := Ground.phase }, { on := 5, ground := Ground.phase }, { on := 6, ground := Ground.phase }, { on := 7, ground := Ground.phase }, { on := 8, ground := Ground.phase }, { on := 9, ground := Ground.phase }, { on := 10, ground := Ground.phase }, { on := 11, ground := Ground.phase }], guard := none }) (v := ?_) rfl (by kernel_rfl) (by kernel_rfl) (by kernel_rfl) (fun _ _ _ h => h) (Or.inl ⟨by rfl, ?_⟩) (by assumption) ?_
            rotate_left
            · intro wS hSw
              try dsimp only at hSw
              go_simp
              try with_reducible rfl
            try simp only [Act.put, List.setIfInBounds_toArray, List.set_cons_zero, List.set_cons_succ]
            refine wpAnyH_done (by kernel_rfl) ?_ _
            exact HRS z4 cb (hide ⟨HH4.out, HC4.out⟩)
          exact AllReadyH.nil
        exact AllReadyH.nil
      refine AllReadyH.cons (o := { dst := some 7, op := Op.alloc 40, type := 0, pos := "maps.go:62", after := #[], guard := none }) rfl (fun K hK => ?_) ?_
      ·
        go_simp
        obtain ⟨z5, hz, HH5, HC5, cb, hcb, lcb⟩ : ∃ q, World.alloc z1 (.cells #[.int .u8 0, .int .u16 0, .int .u16 0, .int .u32 0, .int .u32 0, .bool false, .string ⟨#[]⟩, .int .u64 0] 40) = q ∧ Hid (Below W.heap.size W q) ∧ Hid (q.heap[z1.heap.size]? = some (.cells #[.int .u8 0, .int .u16 0, .int .u16 0, .int .u32 0, .int .u32 0, .bool false, .string ⟨#[]⟩, .int .u64 0] 40 (0, 0))) ∧ ∃ c, z1.heap.size = c ∧ Hid (W.heap.size ≤ c) := ⟨_, rfl, hide (HH1.out.alloc HH1.out.size _), hide (heap_alloc_new _ _), _, rfl, hide HH1.out.size⟩
        rw [hz, hcb]
        rw [hcb] at HC5
        clear hz hcb
        refine hK.out _ _ (HSS.out _ HH5.out) (fun hHeld5 => ?_)
        clear hK K
        try simp only [Act.put, List.setIfInBounds_toArray, List.set_cons_zero, List.set_cons_succ]
        refine wpAnyH_ready (rs := [6]) (by kernel_rfl) (by simp) ?_
        refine AllReadyH.cons (o := { dst := some 17, op := Op.call { callee := Callee.value (Operand.func 52), args := #[Operand.tmp 14, Operand.tmp 16], argTypes := #[73, 76] }, type := 96, pos := "maps.go:62", after := #[{ on := 3, ground := Ground.data }, { on := 5, ground := Ground.data }, { on := 5, ground := Ground.chain }], guard := none }) rfl (fun K hK => ?_) ?_
        ·
          go_simp
          go_at_call 52
          with_reducible refine (HGE.out _ HH5.out).mono ?_
          rintro e z6 ⟨rfl, b9⟩
          have HH6 := hide (HH5.out.trans (b9.mono HH5.out.size))
          have HC6 := hide (below_block b9 HC5.out (Nat.le_refl _))
          clear b9
          refine hK.out _ _ (HSS.out _ HH6.out) (fun hHeld6 => ?_)
          clear hK K
          try simp only [Act.put, List.setIfInBounds_toArray, List.set_cons_zero, List.set_cons_succ]
          refine wpAnyH_take (i := 7) (oi := { dst := some 10, op := Op.move (Operand.tmp 17), type := 96, pos := "maps.go:62", after := #[{ on := 6, ground := Ground.data }], guard := none }) (v := ?_) rfl (by kernel_rfl) (by kernel_rfl) (by kernel_rfl) (fun _ _ _ h => h) (Or.inl ⟨by rfl, ?_⟩) (by assumption) ?_
          rotate_left
          · intro wS hSw
            try dsimp only at hSw
            go_simp
            try with_reducible rfl
          try simp only [Act.put, List.setIfInBounds_toArray, List.set_cons_zero, List.set_cons_succ]
          refine wpAnyH_take (i := 8) (oi := { dst := some 18, op := Op.extract (Operand.tmp 10) 0, type := 40, pos := "maps.go:62", after := #[{ on := 7, ground := Ground.data }], guard := none }) (v := ?_) rfl (by kernel_rfl) (by kernel_rfl) (by kernel_rfl) (fun _ _ _ h => h) (Or.inl ⟨by rfl, ?_⟩) (by assumption) ?_
          rotate_left
          · intro wS hSw
            try dsimp only at hSw
            go_simp
            try with_reducible rfl
          try simp only [Act.put, List.setIfInBounds_toArray, List.set_cons_zero, List.set_cons_succ]
          refine wpAnyH_take (i := 9) (oi := { dst := some 19, op := Op.extract (Operand.tmp 10) 1, type := 4, pos := "maps.go:62", after := #[{ on := 7, ground := Ground.data }, { on := 11, ground := Ground.gcOnly Departure.lateStores }], guard := none }) (v := ?_) rfl (by kernel_rfl) (by kernel_rfl) (by kernel_rfl) (fun _ _ _ h => h) (Or.inl ⟨by rfl, ?_⟩) (by assumption) ?_
          rotate_left
          · intro wS hSw
            try dsimp only at hSw
            go_simp
            try with_reducible rfl
          try simp only [Act.put, List.setIfInBounds_toArray, List.set_cons_zero, List.set_cons_succ]
          refine wpAnyH_ready (rs := [11]) (by kernel_rfl) (by simp) ?_
          refine AllReadyH.cons (o := { dst := none, op := Op.store 40 (Operand.tmp 7) (Operand.tmp 18), type := 0, pos := "maps.go:62", after := #[{ on := 10, ground := Ground.data }, { on := 8, ground := Ground.data }, { on := 6, ground := Ground.chain }, { on := 0, ground := Ground.phase }, { on := 1, ground := Ground.phase }, { on := 2, ground := Ground.phase }, { on := 3, ground := Ground.phase }, { on := 4, ground := Ground.phase }, { on := 5, ground := Ground.phase }, { on := 6, ground := Ground.phase }, { on := 7, ground := Ground.phase }, { on := 8, ground := Ground.phase }, { on := 9, ground := Ground.textOnly Departure.lateStores }, { on := 10, ground := Ground.phase }], guard := none }) rfl (fun K hK => ?_) ?_
          ·
            obtain ⟨d0, d1, d2, d3, d4, d5, d6, d7, df⟩ := C.val_cells HC6.out
            go_simp
            obtain ⟨z7, hz, hc9, hb9⟩ := chain8 z6 cb _ _ _ _ _ _ _ _ (.int .u8 ge.p) (.int .u16 ge.x) (.int .u16 ge.t) (.int .u32 ge.r) (.int .u32 ge.h) (.bool ge.en) (.string ge.ws) (.int .u64 ge.e) _ HC6.out
            rw [hz]
            have HH7 := hide (hb9 _ _ lcb.out HH6.out)
            have HC7 := hide hc9
            clear hz hc9 hb9 d0 d1 d2 d3 d4 d5 d6 d7 df
            refine hK.out _ _ (HSS.out _ HH7.out) (fun hHeld7 => ?_)
            clear hK K
            try simp only [Act.put, List.setIfInBounds_toArray, List.set_cons_zero, List.set_cons_succ]
            refine wpAnyH_take (i := 12) (oi := { dst := some 8, op := Op.assign (Operand.tmp 19), type := 4, pos := "maps.go:62", after := #[{ on := 9, ground := Ground.data }, { on := 11, ground := Ground.chain }, { on := 0, ground := Ground.phase }, { on := 1, ground := Ground.phase }, { on := 2, ground := Ground.phase }, { on := 3, ground := Ground.phase }, { on := 4, ground := Ground.phase }, { on := 5, ground := Ground.phase }, { on := 6, ground := Ground.phase }, { on := 7, ground := Ground.phase }, { on := 8, ground := Ground.phase }, { on := 9, ground := Ground.phase }, { on := 10, ground := Ground.phase }, { on := 11, ground := Ground.phase }], guard := none }) (v := ?_) rfl (by kernel_rfl) (by kernel_rfl) (by kernel_rfl) (fun _ _ _ h => h) (Or.inl ⟨by rfl, ?_⟩) (by assumption) ?_
            rotate_left
            · intro wS hSw
              try dsimp only at hSw
              go_simp
              try with_reducible rfl
            try simp only [Act.put, List.setIfInBounds_toArray, List.set_cons_zero, List.set_cons_succ]
            refine wpAnyH_done (by kernel_rfl) ?_ _
            exact HRS z7 cb (hide ⟨HH7.out, HC7.out⟩)
          exact AllReadyH.nil
        exact AllReadyH.nil
      exact AllReadyH.nil
    refine AllReadyH.cons (o := { dst := some 7, op := Op.alloc 40, type := 0, pos := "maps.go:62", after := #[], guard := none }) rfl (fun K hK => ?_) ?_
    ·
      go_simp
      obtain ⟨z8, hz, HH8, HC8, cb, hcb, lcb⟩ : ∃ q, World.alloc z0 (.cells #[.int .u8 0, .int .u16 0, .int .u16 0, .int .u32 0, .int .u32 0, .bool false, .string ⟨#[]⟩, .int .u64 0] 40) = q ∧ Hid (Below W.heap.size W q) ∧ Hid (q.heap[z0.heap.size]? = some (.cells #[.int .u8 0, .int .u16 0, .int .u16 0, .int .u32 0, .int .u32 0, .bool false, .string ⟨#[]⟩, .int .u64 0] 40 (0, 0))) ∧ ∃ c, z0.heap.size = c ∧ Hid (W.heap.size ≤ c) := ⟨_, rfl, hide (HW0.out.alloc HW0.out.size _), hide (heap_alloc_new _ _), _, rfl, hide HW0.out.size⟩
      rw [hz, hcb]
      rw [hcb] at HC8
      clear hz hcb
      refine hK.out _ _ (HSS.out _ HH8.out) (fun hHeld8 => ?_)
      clear hK K
      try simp only [Act.put, List.setIfInBounds_toArray, List.set_cons_zero, List.set_cons_succ]
      refine wpAnyH_ready (rs := [5]) (by kernel_rfl) (by simp) ?_
      refine AllReadyH.cons (o := { dst := some 16, op := Op.call { callee := Callee.value (Operand.func 53), args := #[Operand.tmp 15], argTypes := #[38] }, type := 76, pos := "maps.go:62", after := #[{ on := 4, ground := Ground.data }], guard := none }) rfl (fun K hK => ?_) ?_
      ·
        go_simp
        go_at_call 53
        refine (keyOf_any _ _ _ _ _ _).mono ?_
        rintro e z9 ⟨rfl, b9⟩
        have HH9 := hide (HH8.out.trans (b9.mono HH8.out.size))
        have HC9 := hide (below_block b9 HC8.out (Nat.le_refl _))
        clear b9
        refine hK.out _ _ (HSS.out _ HH9.out) (fun hHeld9 => ?_)
        clear hK K
        try simp only [Act.put, List.setIfInBounds_toArray, List.set_cons_zero, List.set_cons_succ]
        refine wpAnyH_ready (rs := [6]) (by kernel_rfl) (by simp) ?_
        refine AllReadyH.cons (o := { dst := some 17, op := Op.call { callee := Callee.value (Operand.func 52), args := #[Operand.tmp 14, Operand.tmp 16], argTypes := #[73, 76] }, type := 96, pos := "maps.go:62", after := #[{ on := 3, ground := Ground.data }, { on := 5, ground := Ground.data }, { on := 5, ground := Ground.chain }], guard := none }) rfl (fun K hK => ?_) ?_
        ·
          go_simp
          go_at_call 52
          with_reducible refine (HGE.out _ HH9.out).mono ?_
          rintro e z10 ⟨rfl, b9⟩
          have HH10 := hide (HH9.out.trans (b9.mono HH9.out.size))
          have HC10 := hide (below_block b9 HC9.out (Nat.le_refl _))
          clear b9
          refine hK.out _ _ (HSS.out _ HH10.out) (fun hHeld10 => ?_)
          clear hK K
          try simp only [Act.put, List.setIfInBounds_toArray, List.set_cons_zero, List.set_cons_succ]
          refine wpAnyH_take (i := 7) (oi := { dst := some 10, op := Op.move (Operand.tmp 17), type := 96, pos := "maps.go:62", after := #[{ on := 6, ground := Ground.data }], guard := none }) (v := ?_) rfl (by kernel_rfl) (by kernel_rfl) (by kernel_rfl) (fun _ _ _ h => h) (Or.inl ⟨by rfl, ?_⟩) (by assumption) ?_
          rotate_left
          · intro wS hSw
            try dsimp only at hSw
            go_simp
            try with_reducible rfl
          try simp only [Act.put, List.setIfInBounds_toArray, List.set_cons_zero, List.set_cons_succ]
          refine wpAnyH_take (i := 8) (oi := { dst := some 18, op := Op.extract (Operand.tmp 10) 0, type := 40, pos := "maps.go:62", after := #[{ on := 7, ground := Ground.data }], guard := none }) (v := ?_) rfl (by kernel_rfl) (by kernel_rfl) (by kernel_rfl) (fun _ _ _ h => h) (Or.inl ⟨by rfl, ?_⟩) (by assumption) ?_
          rotate_left
          · intro wS hSw
            try dsimp only at hSw
            go_simp
            try with_reducible rfl
          try simp only [Act.put, List.setIfInBounds_toArray, List.set_cons_zero, List.set_cons_succ]
          refine wpAnyH_take (i := 9) (oi := { dst := some 19, op := Op.extract (Operand.tmp 10) 1, type := 4, pos := "maps.go:62", after := #[{ on := 7, ground := Ground.data }, { on := 11, ground := Ground.gcOnly Departure.lateStores }], guard := none }) (v := ?_) rfl (by kernel_rfl) (by kernel_rfl) (by kernel_rfl) (fun _ _ _ h => h) (Or.inl ⟨by rfl, ?_⟩) (by assumption) ?_
          rotate_left
          · intro wS hSw
            try dsimp only at hSw
            go_simp
            try with_reducible rfl
          try simp only [Act.put, List.setIfInBounds_toArray, List.set_cons_zero, List.set_cons_succ]
          refine wpAnyH_ready (rs := [11]) (by kernel_rfl) (by simp) ?_
          refine AllReadyH.cons (o := { dst := none, op := Op.store 40 (Operand.tmp 7) (Operand.tmp 18), type := 0, pos := "maps.go:62", after := #[{ on := 10, ground := Ground.data }, { on := 8, ground := Ground.data }, { on := 6, ground := Ground.chain }, { on := 0, ground := Ground.phase }, { on := 1, ground := Ground.phase }, { on := 2, ground := Ground.phase }, { on := 3, ground := Ground.phase }, { on := 4, ground := Ground.phase }, { on := 5, ground := Ground.phase }, { on := 6, ground := Ground.phase }, { on := 7, ground := Ground.phase }, { on := 8, ground := Ground.phase }, { on := 9, ground := Ground.textOnly Departure.lateStores }, { on := 10, ground := Ground.phase }], guard := none }) rfl (fun K hK => ?_) ?_
          ·
            obtain ⟨d0, d1, d2, d3, d4, d5, d6, d7, df⟩ := C.val_cells HC10.out
            go_simp
            obtain ⟨z11, hz, hc9, hb9⟩ := chain8 z10 cb _ _ _ _ _ _ _ _ (.int .u8 ge.p) (.int .u16 ge.x) (.int .u16 ge.t) (.int .u32 ge.r) (.int .u32 ge.h) (.bool ge.en) (.string ge.ws) (.int .u64 ge.e) _ HC10.out
            rw [hz]
            have HH11 := hide (hb9 _ _ lcb.out HH10.out)
            have HC11 := hide hc9
            clear hz hc9 hb9 d0 d1 d2 d3 d4 d5 d6 d7 df
            refine hK.out _ _ (HSS.out _ HH11.out) (fun hHeld11 => ?_)
            clear hK K
            try simp only [Act.put, List.setIfInBounds_toArray, List.set_cons_zero, List.set_cons_succ]
            refine wpAnyH_take (i := 12) (oi := { dst := some 8, op := Op.assign (Operand.tmp 19), type := 4, pos := "maps.go:62", after := #[{ on := 9, ground := Ground.data }, { on := 11, ground := Ground.chain }, { on := 0, ground := Ground.phase }, { on := 1, ground := Ground.phase }, { on := 2, ground := Ground.phase }, { on := 3, ground := Ground.phase }, { on := 4, ground := Ground.phase }, { on := 5, ground := Ground.phase }, { on := 6, ground := Ground.phase }, { on := 7, ground := Ground.phase }, { on := 8, ground := Ground.phase }, { on := 9, ground := Ground.phase }, { on := 10, ground := Ground.phase }, { on := 11, ground := Ground.phase }], guard := none }) (v := ?_) rfl (by kernel_rfl) (by kernel_rfl) (by kernel_rfl) (fun _ _ _ h => h) (Or.inl ⟨by rfl, ?_⟩) (by assumption) ?_
            rotate_left
            · intro wS hSw
              try dsimp only at hSw
              go_simp
              try with_reducible rfl
            try simp only [Act.put, List.setIfInBounds_toArray, List.set_cons_zero, List.set_cons_succ]
            refine wpAnyH_done (by kernel_rfl) ?_ _
            exact HRS z11 cb (hide ⟨HH11.out, HC11.out⟩)
          exact AllReadyH.nil
        exact AllReadyH.nil
      exact AllReadyH.nil
    exact AllReadyH.nil
  case r =>
    intro z cb HZ
    have HEC := hide (fun (V : World) (hV : Below z.heap.size z V) => (show V.cell? ⟨cb, 0, none⟩ = some (.int .u8 ge.p) ∧ V.cell? ⟨cb, 1, none⟩ = some (.int .u16 ge.x) ∧ V.cell? ⟨cb, 2, none⟩ = some (.int .u16 ge.t) ∧ V.cell? ⟨cb, 3, none⟩ = some (.int .u32 ge.r) ∧ V.cell? ⟨cb, 4, none⟩ = some (.int .u32 ge.h) ∧ V.cell? ⟨cb, 5, none⟩ = some (.bool ge.en) ∧ V.cell? ⟨cb, 6, none⟩ = some (.string ge.ws) ∧ V.cell? ⟨cb, 7, none⟩ = some (.int .u64 ge.e) from by
      obtain ⟨y0, y1, y2, y3, y4, y5, y6, y7, _⟩ := C.val_cells (below_block hV HZ.out.2 (Nat.le_refl _))
      exact ⟨y0, y1, y2, y3, y4, y5, y6, y7⟩))
    have HW1 := hide (below_drew z)
    go_wp2_with fail
    refine wp_region_held_drew (S := fun w' => w'.cell? ⟨cb, 0, none⟩ = some (.int .u8 ge.p) ∧ w'.cell? ⟨cb, 1, none⟩ = some (.int .u16 ge.x) ∧ w'.cell? ⟨cb, 2, none⟩ = some (.int .u16 ge.t) ∧ w'.cell? ⟨cb, 3, none⟩ = some (.int .u32 ge.r) ∧ w'.cell? ⟨cb, 4, none⟩ = some (.int .u32 ge.h) ∧ w'.cell? ⟨cb, 5, none⟩ = some (.bool ge.en) ∧ w'.cell? ⟨cb, 6, none⟩ = some (.string ge.ws) ∧ w'.cell? ⟨cb, 7, none⟩ = some (.int .u64 ge.e)) (by kernel_rfl) (by exact HEC.out _ (Below.refl _ _).drew) (fun hHeld => ?_)
    generalize z.drew = z0 at *
    apply have_rest2 (A := fun x c => Hid (Below z.heap.size z x))
    case m =>
      intro HREST
      refine wpAnyH_take (i := 0) (oi := { dst := some 20, op := Op.move (Operand.tmp 8), type := 4, pos := "maps.go:63", after := #[], guard := none }) (v := ?_) rfl (by kernel_rfl) (by kernel_rfl) (by kernel_rfl) (fun _ _ _ h => h) (Or.inl ⟨by rfl, ?_⟩) (by assumption) ?_
      rotate_left
      · intro wS hSw
        try dsimp only at hSw
        go_simp
        try with_reducible rfl
      try simp only [Act.put, List.setIfInBounds_toArray, List.set_cons_zero, List.set_cons_succ]
      refine wpAnyH_take (i := 1) (oi := { dst := some 21, op := Op.unOp UnOp.not 4 (Operand.tmp 20), type := 4, pos := "maps.go:63", after := #[{ on := 0, ground := Ground.data }], guard := none }) (v := ?_) rfl (by kernel_rfl) (by kernel_rfl) (by kernel_rfl) (fun _ _ _ h => h) (Or.inl ⟨by rfl, ?_⟩) (by assumption) ?_
      rotate_left
      · intro wS hSw
        try dsimp only at hSw
        go_simp
        try with_reducible rfl
      try simp only [Act.put, List.setIfInBounds_toArray, List.set_cons_zero, List.set_cons_succ]
      refine wpAnyH_take (i := 3) (oi := { dst := some 23, op := Op.fieldAddr 40 (Operand.tmp 7) 0, type := 0, pos := "maps.go:63", after := #[], guard := none }) (v := ?_) rfl (by kernel_rfl) (by kernel_rfl) (by kernel_rfl) (fun _ _ _ h => h) (Or.inl ⟨by rfl, ?_⟩) (by assumption) ?_
      rotate_left
      · intro wS hSw
        try dsimp only at hSw
        go_simp
        try with_reducible rfl
      try simp only [Act.put, List.setIfInBounds_toArray, List.set_cons_zero, List.set_cons_succ]
      refine wpAnyH_take (i := 4) (oi := { dst := some 24, op := Op.fieldAddr 38 (Operand.tmp 23) 4, type := 0, pos := "maps.go:63", after := #[{ on := 3, ground := Ground.data }], guard := none }) (v := ?_) rfl (by kernel_rfl) (by kernel_rfl) (by kernel_rfl) (fun _ _ _ h => h) (Or.inl ⟨by rfl, ?_⟩) (by assumption) ?_
      rotate_left
      · intro wS hSw
        try dsimp only at hSw
        go_simp
        try with_reducible rfl
      try simp only [Act.put, List.setIfInBounds_toArray, List.set_cons_zero, List.set_cons_succ]
      refine wpAnyH_take (i := 5) (oi := { dst := some 25, op := Op.load 25 (Operand.tmp 24), type := 25, pos := "maps.go:63", after := #[{ on := 4, ground := Ground.data }], guard := none }) (v := ?_) rfl (by kernel_rfl) (by kernel_rfl) (by kernel_rfl) (fun _ _ _ h => h) (Or.inl ⟨by rfl, ?_⟩) (by assumption) ?_
      rotate_left
      · intro wS hSw
        try dsimp only at hSw
        go_simp
        try with_reducible rfl
      try simp only [Act.put, List.setIfInBounds_toArray, List.set_cons_zero, List.set_cons_succ]
      refine wpAnyH_take (i := 6) (oi := { dst := some 26, op := Op.move (Operand.tmp 1), type := 25, pos := "maps.go:63", after := #[], guard := none }) (v := ?_) rfl (by kernel_rfl) (by kernel_rfl) (by kernel_rfl) (fun _ _ _ h => h) (Or.inl ⟨by rfl, ?_⟩) (by assumption) ?_
      rotate_left
      · intro wS hSw
        try dsimp only at hSw
        go_simp
        try with_reducible rfl
      try simp only [Act.put, List.setIfInBounds_toArray, List.set_cons_zero, List.set_cons_succ]
      refine wpAnyH_take (i := 7) (oi := { dst := some 27, op := Op.binOp BinOp.neq 25 (Operand.tmp 25) (Operand.tmp 26) 25, type := 4, pos := "maps.go:63", after := #[{ on := 5, ground := Ground.data }, { on := 6, ground := Ground.data }], guard := none }) (v := ?_) rfl (by kernel_rfl) (by kernel_rfl) (by kernel_rfl) (fun _ _ _ h => h) (Or.inl ⟨by rfl, ?_⟩) (by assumption) ?_
      rotate_left
      · intro wS hSw
        try dsimp only at hSw
        go_simp
        try with_reducible rfl
      try simp only [Act.put, List.setIfInBounds_toArray, List.set_cons_zero, List.set_cons_succ]
      refine wpAnyH_ready (rs := [2]) (by kernel_rfl) (by simp) ?_
      refine AllReadyH.cons (o := { dst := some 22, op := Op.call { callee := Callee.value (Operand.func 46), args := #[Operand.tmp 21, Operand.const (Value.int IntKind.i64 714)], argTypes := #[4, 3] }, type := 3, pos := "maps.go:63", after := #[{ on := 1, ground := Ground.data }], guard := none }) rfl (fun K hK => ?_) ?_
      ·
        go_simp
        go_at_call 46
        refine (HV1.out _).mono ?_
        rintro e w1 ⟨rfl, hq⟩
        obtain rfl := hq.symm
        refine hK.out _ _ (HEC.out _ HW1.out) (fun hHeld1 => ?_)
        clear hK K
        try simp only [Act.put, List.setIfInBounds_toArray, List.set_cons_zero, List.set_cons_succ]
        refine wpAnyH_ready (rs := [8]) (by kernel_rfl) (by simp) ?_
        refine AllReadyH.cons (o := { dst := some 28, op := Op.call { callee := Callee.value (Operand.func 46), args := #[Operand.tmp 27, Operand.const (Value.int IntKind.i64 606)], argTypes := #[4, 3] }, type := 3, pos := "maps.go:63", after := #[{ on := 7, ground := Ground.data }, { on := 2, ground := Ground.chain }], guard := none }) rfl (fun K hK => ?_) ?_
        ·
          go_simp
          go_at_call 46
          refine (HV2.out _).mono ?_
          rintro e w2 ⟨rfl, hq⟩
          obtain rfl := hq.symm
          refine hK.out _ _ (HEC.out _ HW1.out) (fun hHeld2 => ?_)
          clear hK K
          try simp only [Act.put, List.setIfInBounds_toArray, List.set_cons_zero, List.set_cons_succ]
          refine wpAnyH_ready (rs := [9]) (by kernel_rfl) (by simp) ?_
          refine AllReadyH.cons (o := { dst := some 29, op := Op.buildSlice 115 2 #[(0, Operand.tmp 22), (1, Operand.tmp 28)], type := 115, pos := "maps.go:63", after := #[{ on := 2, ground := Ground.data }, { on := 8, ground := Ground.data }], guard := none }) rfl (fun K hK => ?_) AllReadyH.nil
          go_simp
          refine hK.out _ _ (HEC.out _ (HW1.out.alloc HW1.out.size _)) (fun hHeld3 => ?_)
          clear hK K
          try simp only [Act.put, List.setIfInBounds_toArray, List.set_cons_zero, List.set_cons_succ]
          refine wpAnyH_ready (rs := [10]) (by kernel_rfl) (by simp) ?_
          refine AllReadyH.cons (o := { dst := some 30, op := Op.call { callee := Callee.value (Operand.func 45), args := #[Operand.tmp 29], argTypes := #[115] }, type := 3, pos := "maps.go:63", after := #[{ on := 9, ground := Ground.data }, { on := 8, ground := Ground.chain }], guard := none }) rfl (fun K hK => ?_) AllReadyH.nil
          go_simp
          go_at_call 45
          refine (or2 _ _ _).mono ?_
          rintro e w4 ⟨rfl, hw9⟩
          have HHF := hide (show Below z.heap.size z w4 by rw [hw9]; exact HW1.out.alloc HW1.out.size _)
          clear hw9
          refine hK.out _ _ (HEC.out _ HHF.out) (fun hHeld4 => ?_)
          clear hK K
          try simp only [Act.put, List.setIfInBounds_toArray, List.set_cons_zero, List.set_cons_succ]
          refine wpAnyH_take (i := 11) (oi := { dst := some 9, op := Op.assign (Operand.tmp 30), type := 3, pos := "maps.go:63", after := #[{ on := 10, ground := Ground.data }, { on := 10, ground := Ground.chain }, { on := 0, ground := Ground.phase }, { on := 1, ground := Ground.phase }, { on := 2, ground := Ground.phase }, { on := 3, ground := Ground.phase }, { on := 4, ground := Ground.phase }, { on := 5, ground := Ground.phase }, { on := 6, ground := Ground.phase }, { on := 7, ground := Ground.phase }, { on := 8, ground := Ground.phase }, { on := 9, ground := Ground.phase }, { on := 10, ground := Ground.phase }], guard := none }) (v := ?_) rfl (by kernel_rfl) (by kernel_rfl) (by kernel_rfl) (fun _ _ _ h => h) (Or.inl ⟨by rfl, ?_⟩) (by assumption) ?_
          rotate_left
          · intro wS hSw
            try dsimp only at hSw
            go_simp
            try with_reducible rfl
          try simp only [Act.put, List.setIfInBounds_toArray, List.set_cons_zero, List.set_cons_succ]
          refine wpAnyH_done (by kernel_rfl) ?_ _
          obtain ⟨sz, hsz⟩ : ∃ c, z0.heap.size = c := ⟨_, rfl⟩
          rw [hsz]
          exact HREST _ sz HHF
        exact AllReadyH.nil
      exact AllReadyH.nil
    case r =>
      intro x sz HX
      rw [HCD.out]
      have HXW := hide (HZ.out.1.trans (HX.out.mono HZ.out.1.size))
      by_cases hc : cd = 0
      · have hd : (cd == (0 : Int)) = true := by simpa using hc
        have HC := hide hc
        have HW2 := hide (HXW.out.trans ((below_drew x).mono HXW.out.size))
        clear hc
        go_wp2_with fail
        refine wp_region_held_drew (S := fun w' => w'.cell? ⟨sp, 28, none⟩ = some (.pointer (some ⟨tt, 0, none⟩)) ∧ w'.cell? ⟨B, 0, none⟩ = some (.int .u8 k.p) ∧ w'.cell? ⟨B, 1, none⟩ = some (.int .u16 k.x) ∧ w'.cell? ⟨B, 2, none⟩ = some (.int .u16 mt) ∧ w'.cell? ⟨B, 3, none⟩ = some (.int .u32 k.r) ∧ w'.cell? ⟨B, 4, none⟩ = some (.int .u32 mh)) (by kernel_rfl) (by exact HSS.out _ HW2.out) (fun hHeld => ?_)
        generalize x.drew = z0 at *
        apply have_rest3 (A := fun x y => Hid (Below W.heap.size W x ∧ C.Tab y tt MX C.oF tM (delL tM k L) ∧ x.grownBy y (some tt)))
        case m =>
          intro HRS
          refine wpAnyH_take (i := 0) (oi := { dst := some 33, op := Op.move (Operand.tmp 0), type := 33, pos := "maps.go:65", after := #[], guard := none }) (v := ?_) rfl (by kernel_rfl) (by kernel_rfl) (by kernel_rfl) (fun _ _ _ h => h) (Or.inl ⟨by rfl, ?_⟩) (by assumption) ?_
          rotate_left
          · intro wS hSw
            try dsimp only at hSw
            go_simp
            try with_reducible rfl
          try simp only [Act.put, List.setIfInBounds_toArray, List.set_cons_zero, List.set_cons_succ]
          refine wpAnyH_take (i := 1) (oi := { dst := some 34, op := Op.nilCheck (Operand.tmp 33), type := 0, pos := "maps.go:65", after := #[{ on := 0, ground := Ground.data }], guard := none }) (v := ?_) rfl (by kernel_rfl) (by kernel_rfl) (by kernel_rfl) (fun _ _ _ h => h) (Or.inl ⟨by rfl, ?_⟩) (by assumption) ?_
          rotate_left
          · intro wS hSw
            try dsimp only at hSw
            go_simp
            try with_reducible rfl
          try simp only [Act.put, List.setIfInBounds_toArray, List.set_cons_zero, List.set_cons_succ]
          refine wpAnyH_take (i := 2) (oi := { dst := some 35, op := Op.fieldAddr 79 (Operand.tmp 34) 1, type := 0, pos := "maps.go:65", after := #[{ on := 1, ground := Ground.data }], guard := none }) (v := ?_) rfl (by kernel_rfl) (by kernel_rfl) (by kernel_rfl) (fun _ _ _ h => h) (Or.inl ⟨by rfl, ?_⟩) (by assumption) ?_
          rotate_left
          · intro wS hSw
            try dsimp only at hSw
            go_simp
            try with_reducible rfl
          try simp only [Act.put, List.setIfInBounds_toArray, List.set_cons_zero, List.set_cons_succ]
          refine wpAnyH_take (i := 3) (oi := { dst := some 36, op := Op.load 73 (Operand.tmp 35), type := 73, pos := "maps.go:65", after := #[{ on := 2, ground := Ground.data }], guard := none }) (v := ?_) rfl (by kernel_rfl) (by kernel_rfl) (by kernel_rfl) (fun _ _ _ h => h) (Or.inl ⟨by rfl, ?_⟩) (by assumption) ?_
          rotate_left
          · intro wS hSw
            try dsimp only at hSw
            go_simp
            try with_reducible rfl
          try simp only [Act.put, List.setIfInBounds_toArray, List.set_cons_zero, List.set_cons_succ]
          refine wpAnyH_take (i := 4) (oi := { dst := some 37, op := Op.load 38 (Operand.tmp 5), type := 38, pos := "maps.go:65", after := #[], guard := none }) (v := ?_) rfl (by kernel_rfl) (by kernel_rfl) (by kernel_rfl) (fun _ _ _ h => h) (Or.inl ⟨by rfl, ?_⟩) (by assumption) ?_
          rotate_left
          · intro wS hSw
            try dsimp only at hSw
            go_simp
            try with_reducible rfl
          try simp only [Act.put, List.setIfInBounds_toArray, List.set_cons_zero, List.set_cons_succ]
          refine wpAnyH_ready (rs := [5]) (by kernel_rfl) (by simp) ?_
          refine AllReadyH.cons (o := { dst := some 38, op := Op.call { callee := Callee.value (Operand.func 53), args := #[Operand.tmp 37], argTypes := #[38] }, type := 76, pos := "maps.go:65", after := #[{ on := 4, ground := Ground.data }], guard := none }) rfl (fun K hK => ?_) ?_
          ·
            go_simp
            go_at_call 53
            refine (keyOf_any _ _ _ _ _ _).mono ?_
            rintro e z1 ⟨rfl, b9⟩
            have HH1 := hide (HW2.out.trans (b9.mono HW2.out.size))
            clear b9
            refine hK.out _ _ (HSS.out _ HH1.out) (fun hHeld1 => ?_)
            clear hK K
            try simp only [Act.put, List.setIfInBounds_toArray, List.set_cons_zero, List.set_cons_succ]
            refine wpAnyH_ready (rs := [6]) (by kernel_rfl) (by simp) ?_
            refine AllReadyH.cons (o := { dst := some 39, op := Op.call { callee := Callee.value (Operand.func 54), args := #[Operand.tmp 36, Operand.tmp 38], argTypes := #[73, 76] }, type := 4, pos := "maps.go:65", after := #[{ on := 3, ground := Ground.data }, { on := 5, ground := Ground.data }, { on := 5, ground := Ground.chain }], guard := none }) rfl (fun K hK => ?_) ?_
            ·
              go_simp
              go_at_call 54
              with_reducible refine (HDR.out _ HH1.out).mono ?_
              rintro e q2 ⟨rfl, ht9, hg9⟩
              have HT9 := hide ht9
              have HG9 := hide hg9
              have HS9 := hide (HSG.out _ _ HH1.out hg9)
              clear ht9 hg9
              refine hK.out _ _ (HS9.out) (fun hHeld2 => ?_)
              clear hK K
              try simp only [Act.put, List.setIfInBounds_toArray, List.set_cons_zero, List.set_cons_succ]
              refine wpAnyH_done (by kernel_rfl) ?_ _
              exact HRS _ _ (hide ⟨HH1.out, HT9.out, HG9.out⟩)
            exact AllReadyH.nil
          exact AllReadyH.nil
        case r =>
          intro x2 y HY
          have hsa := HSA.out x2 HY.out.1
          have hx9 := hsa.st.tabs HY.out.2.1 HY.out.2.2
          have HX9 := hide hx9
          have c29 := hx9.c29
          have hf9 := frozen_of_row _ sp 29 _ _ hx9.blk
          have HO9 := hide (((OnlyS.of (X := fun q => q = sp ∨ q = tt) (HB.out.trans (HY.out.1.mono HB.out.size))).grown HY.out.2.2 (fun k e => by cases e; exact .inl (.inr rfl))).setCell sp 29 (.int .u32 (IntKind.u32.wrap (up + 1))) (.inl (.inl rfl)))
          have HSB := hide hsa
          have HOX := hide (((OnlyS.of (X := fun q => q = sp ∨ q = tt) (Below.refl x2.heap.size x2)).grown HY.out.2.2 (fun k e => by cases e; exact .inl (.inr rfl))).setCell sp 29 (.int .u32 (IntKind.u32.wrap (up + 1))) (.inl (.inl rfl)))
          clear hsa hx9
          go_wp2_with fail
          go_ret
          unfold DelAns
          rw [HRES.out]
          exact ⟨rfl, fun _ => HSB.out.only (HX9.out.upd _) HOX.out, fun h => absurd HC.out h, HO9.out⟩
      · have hd : (cd == (0 : Int)) = false := by simpa using hc
        have HC := hide hc
        clear hc
        go_wp2_with fail
        go_ret
        unfold DelAns
        rw [HRES.out]
        exact ⟨rfl, fun h => absurd h HC.out, fun _ => HSA.out x HXW.out, OnlyS.of (HB.out.trans (HXW.out.mono HB.out.size))⟩
end Go.Proofs.Ytijjgnkfddklgaa
