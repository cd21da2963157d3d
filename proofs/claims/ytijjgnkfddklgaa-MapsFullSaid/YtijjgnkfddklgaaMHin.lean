/- What stands in a mapping's way. -/
import Derived.Test.YtijjgnkfddklgaaMSet
import Derived.Test.YtijjgnkfddklgaaMRef
namespace Go.Proofs.Ytijjgnkfddklgaa
open Go.RowKit Go.Deep Go.Shelf
set_option linter.unusedVariables false
set_option linter.unusedSimpArgs false
set_option maxRecDepth 100000
theorem have_rest1 {P : Prop} {A G : World → Prop} (m : (∀ z, A z → G z) → P) (r : ∀ z, A z → G z) : P := m r
theorem have_rest2 {P : Prop} {A G : World → Nat → Prop} (m : (∀ z c, A z c → G z c) → P) (r : ∀ z c, A z c → G z c) : P := m r
set_option maxHeartbeats 6000000 in
theorem hindrance_any (w : World) (sp tt : Nat) (g : CG) (up : Int) (L : ML) (k : MK) (mt mh : Int) (h : SA w sp tt g up L) (hL : L.length ≤ 500000) :
    Calls Try.prog 48 #[.pointer (some ⟨sp, 0, none⟩), .agg #[.int .u8 k.p, .int .u16 k.x, .int .u16 mt, .int .u32 k.r, .int .u32 mh]] w fun e w' => e = .returned (.int .i64 (hinV g L k mt mh)) ∧ Below w.heap.size w w' := by
  obtain ⟨W, hW, hb, hx⟩ : ∃ W, w.alloc (.cells #[.int .u8 k.p, .int .u16 k.x, .int .u16 mt, .int .u32 k.r, .int .u32 mh] 38) = W ∧ Below w.heap.size w W ∧ W.heap[w.heap.size]? = some (.cells #[.int .u8 k.p, .int .u16 k.x, .int .u16 mt, .int .u32 k.r, .int .u32 mh] 38 (0, 0)) := ⟨_, rfl, (Below.refl _ _).alloc (Nat.le_refl _) _, heap_alloc_new _ _⟩
  obtain ⟨B, hB⟩ : ∃ B, w.heap.size = B := ⟨_, rfl⟩
  rw [hB] at hx
  have HE := hide (And.intro hW hB)
  have HB := hide hb
  have hS := h.below hb
  have HSA := hide (fun (V : World) (hV : Below W.heap.size W V) => hS.below hV)
  have HSS := hide (fun (V : World) (hV : Below W.heap.size W V) => (show V.cell? ⟨sp, 28, none⟩ = some (.pointer (some ⟨tt, 0, none⟩)) ∧ V.cell? ⟨B, 0, none⟩ = some (.int .u8 k.p) ∧ V.cell? ⟨B, 1, none⟩ = some (.int .u16 k.x) ∧ V.cell? ⟨B, 2, none⟩ = some (.int .u16 mt) ∧ V.cell? ⟨B, 3, none⟩ = some (.int .u32 k.r) ∧ V.cell? ⟨B, 4, none⟩ = some (.int .u32 mh) from by
    have h1 := below_block hV hx (Nat.le_refl _)
    refine ⟨(hS.below hV).st.c28, ?_, ?_, ?_, ?_, ?_⟩ <;> simp [World.cell?, h1]))
  obtain ⟨ge, hge⟩ : ∃ x, gE (getL tM k L) = x := ⟨_, rfl⟩
  obtain ⟨ok, hok⟩ : ∃ b, hasL tM k L = b := ⟨_, rfl⟩
  have HGE := hide (fun (V : World) (hV : Below W.heap.size W V) => by
    have h1 := C.GetL (hS.below hV).st.tab C.oF_ord k
    rw [gv_gE, hge, hok] at h1
    exact h1)
  have HGV := hide (And.intro hge hok)
  have HW0 := hide (below_drew W)
  clear hW hB hb hx hS hge hok
  have HLN := hide hL
  obtain ⟨fd, hfd⟩ : ∃ b, fgB g k = b := ⟨_, rfl⟩
  obtain ⟨cf, hcf⟩ : ∃ b, conflB (k0 k) mt mh L = b := ⟨_, rfl⟩
  obtain ⟨fu, hfu⟩ : ∃ b, decide (g.mm ≤ (L.length : Int)) = b := ⟨_, rfl⟩
  have HFD := hide (fun (V : World) (hV : Below W.heap.size W V) => by have h1 := fwd_any V sp tt g up L k mt k.r mh (HSA.out V hV); rw [hfd] at h1; exact h1)
  have HCF := hide (fun (V : World) (hV : Below W.heap.size W V) => by have h1 := con_any V sp tt g up L k mt k.r mh (HSA.out V hV) HLN.out; rw [hcf] at h1; exact h1)
  have HFU := hide (fun (V : World) (hV : Below W.heap.size W V) => by have h1 := ful_any V sp tt g up L (HSA.out V hV); rw [hfu] at h1; exact h1)
  obtain ⟨v1, hv1⟩ : ∃ v : Int, (if fd = true then 729 else 0) = v := ⟨_, rfl⟩
  obtain ⟨v2, hv2⟩ : ∃ v : Int, (if cf = true then 718 else 0) = v := ⟨_, rfl⟩
  obtain ⟨v3, hv3⟩ : ∃ v : Int, (if (!ok && fu) = true then 728 else 0) = v := ⟨_, rfl⟩
  have HV1 := hide (fun V => by have h1 := when_any fd 729 V; rw [hv1] at h1; exact h1)
  have HV2 := hide (fun V => by have h1 := when_any cf 718 V; rw [hv2] at h1; exact h1)
  have HV3 := hide (fun V => by have h1 := when_any (!ok && fu) 728 V; rw [hv3] at h1; exact h1)
  have HRES := hide (show hinV g L k mt mh = nzF [v1, v2, v3] by unfold hinV; rw [hfd, hcf, hfu, HGV.out.2, ← hv1, ← hv2, ← hv3])
  clear hL hfd hcf hfu h hv1 hv2 hv3
  go_enter Try.func48, Try.ntmps48
  go_upto_region 1 with (fail)
  rw [HE.out.1]
  try rw [HE.out.2]
  clear HE
  refine wp_region_held_drew (S := fun w' => w'.cell? ⟨sp, 28, none⟩ = some (.pointer (some ⟨tt, 0, none⟩)) ∧ w'.cell? ⟨B, 0, none⟩ = some (.int .u8 k.p) ∧ w'.cell? ⟨B, 1, none⟩ = some (.int .u16 k.x) ∧ w'.cell? ⟨B, 2, none⟩ = some (.int .u16 mt) ∧ w'.cell? ⟨B, 3, none⟩ = some (.int .u32 k.r) ∧ w'.cell? ⟨B, 4, none⟩ = some (.int .u32 mh)) (by kernel_rfl) (by exact HSS.out _ (Below.refl _ _).drew) (fun hHeld => ?_)
  generalize W.drew = z0 at *
  apply have_rest2 (A := fun z c => Hid (Below W.heap.size W z))
  case m =>
    intro HRS
    refine wpAnyH_take (i := 0) (oi := { dst := some 8, op := Op.move (Operand.tmp 0), type := 33, pos := "entries.go:50", after := #[], guard := none }) (v := ?_) rfl (by kernel_rfl) (by kernel_rfl) (by kernel_rfl) (fun _ _ _ h => h) (Or.inl ⟨by rfl, ?_⟩) (by assumption) ?_
    rotate_left
    · intro wS hSw
      try dsimp only at hSw
      go_simp
      try with_reducible rfl
    try simp only [Act.put, List.setIfInBounds_toArray, List.set_cons_zero, List.set_cons_succ]
    refine wpAnyH_take (i := 1) (oi := { dst := some 9, op := Op.nilCheck (Operand.tmp 8), type := 0, pos := "entries.go:50", after := #[{ on := 0, ground := Ground.data }], guard := none }) (v := ?_) rfl (by kernel_rfl) (by kernel_rfl) (by kernel_rfl) (fun _ _ _ h => h) (Or.inl ⟨by rfl, ?_⟩) (by assumption) ?_
    rotate_left
    · intro wS hSw
      try dsimp only at hSw
      go_simp
      try with_reducible rfl
    try simp only [Act.put, List.setIfInBounds_toArray, List.set_cons_zero, List.set_cons_succ]
    refine wpAnyH_take (i := 2) (oi := { dst := some 10, op := Op.fieldAddr 79 (Operand.tmp 9) 1, type := 0, pos := "entries.go:50", after := #[{ on := 1, ground := Ground.data }], guard := none }) (v := ?_) rfl (by kernel_rfl) (by kernel_rfl) (by kernel_rfl) (fun _ _ _ h => h) (Or.inl ⟨by rfl, ?_⟩) (by assumption) ?_
    rotate_left
    · intro wS hSw
      try dsimp only at hSw
      go_simp
      try with_reducible rfl
    try simp only [Act.put, List.setIfInBounds_toArray, List.set_cons_zero, List.set_cons_succ]
    refine wpAnyH_take (i := 3) (oi := { dst := some 11, op := Op.load 73 (Operand.tmp 10), type := 73, pos := "entries.go:50", after := #[{ on := 2, ground := Ground.data }], guard := none }) (v := ?_) rfl (by kernel_rfl) (by kernel_rfl) (by kernel_rfl) (fun _ _ _ h => h) (Or.inl ⟨by rfl, ?_⟩) (by assumption) ?_
    rotate_left
    · intro wS hSw
      try dsimp only at hSw
      go_simp
      try with_reducible rfl
    try simp only [Act.put, List.setIfInBounds_toArray, List.set_cons_zero, List.set_cons_succ]
    refine wpAnyH_take (i := 4) (oi := { dst := some 12, op := Op.load 38 (Operand.tmp 3), type := 38, pos := "entries.go:50", after := #[], guard := none }) (v := ?_) rfl (by kernel_rfl) (by kernel_rfl) (by kernel_rfl) (fun _ _ _ h => h) (Or.inl ⟨by rfl, ?_⟩) (by assumption) ?_
    rotate_left
    · intro wS hSw
      try dsimp only at hSw
      go_simp
      try with_reducible rfl
    try simp only [Act.put, List.setIfInBounds_toArray, List.set_cons_zero, List.set_cons_succ]
    refine wpAnyH_ready (rs := [5, 10]) (by kernel_rfl) (by simp) ?_
    refine AllReadyH.cons (o := { dst := some 13, op := Op.call { callee := Callee.value (Operand.func 53), args := #[Operand.tmp 12], argTypes := #[38] }, type := 76, pos := "entries.go:50", after := #[{ on := 4, ground := Ground.data }], guard := none }) rfl (fun K hK => ?_) ?_
    ·
      go_simp
      go_at_call 53
      refine (keyOf_any _ _ _ _ _ _).mono ?_
      rintro e z1 ⟨rfl, b9⟩
      have HH1 := hide (HW0.out.trans (b9.mono HW0.out.size))
      clear b9
      refine hK.out _ _ (HSS.out _ HH1.out) (fun hHeld1 => ?_)
      clear hK K
      try simp only [Act.put, List.setIfInBounds_toArray, List.set_cons_zero, List.set_cons_succ]
      refine wpAnyH_ready (rs := [6, 10]) (by kernel_rfl) (by simp) ?_
      refine AllReadyH.cons (o := { dst := some 14, op := Op.call { callee := Callee.value (Operand.func 52), args := #[Operand.tmp 11, Operand.tmp 13], argTypes := #[73, 76] }, type := 96, pos := "entries.go:50", after := #[{ on := 3, ground := Ground.data }, { on := 5, ground := Ground.data }, { on := 5, ground := Ground.chain }], guard := none }) rfl (fun K hK => ?_) ?_
      ·
        go_simp
        go_at_call 52
        with_reducible refine (HGE.out _ HH1.out).mono ?_
        rintro e z2 ⟨rfl, b9⟩
        have HH2 := hide (HH1.out.trans (b9.mono HH1.out.size))
        clear b9
        refine hK.out _ _ (HSS.out _ HH2.out) (fun hHeld2 => ?_)
        clear hK K
        try simp only [Act.put, List.setIfInBounds_toArray, List.set_cons_zero, List.set_cons_succ]
        refine wpAnyH_take (i := 7) (oi := { dst := some 7, op := Op.move (Operand.tmp 14), type := 96, pos := "entries.go:50", after := #[{ on := 6, ground := Ground.data }], guard := none }) (v := ?_) rfl (by kernel_rfl) (by kernel_rfl) (by kernel_rfl) (fun _ _ _ h => h) (Or.inl ⟨by rfl, ?_⟩) (by assumption) ?_
        rotate_left
        · intro wS hSw
          try dsimp only at hSw
          go_simp
          try with_reducible rfl
        try simp only [Act.put, List.setIfInBounds_toArray, List.set_cons_zero, List.set_cons_succ]
        refine wpAnyH_take (i := 8) (oi := { dst := some 15, op := Op.extract (Operand.tmp 7) 0, type := 40, pos := "entries.go:50", after := #[{ on := 7, ground := Ground.data }], guard := none }) (v := ?_) rfl (by kernel_rfl) (by kernel_rfl) (by kernel_rfl) (fun _ _ _ h => h) (Or.inl ⟨by rfl, ?_⟩) (by assumption) ?_
        rotate_left
        · intro wS hSw
          try dsimp only at hSw
          go_simp
          try with_reducible rfl
        try simp only [Act.put, List.setIfInBounds_toArray, List.set_cons_zero, List.set_cons_succ]
        refine wpAnyH_take (i := 9) (oi := { dst := some 16, op := Op.extract (Operand.tmp 7) 1, type := 4, pos := "entries.go:50", after := #[{ on := 7, ground := Ground.data }, { on := 11, ground := Ground.gcOnly Departure.lateStores }], guard := none }) (v := ?_) rfl (by kernel_rfl) (by kernel_rfl) (by kernel_rfl) (fun _ _ _ h => h) (Or.inl ⟨by rfl, ?_⟩) (by assumption) ?_
        rotate_left
        · intro wS hSw
          try dsimp only at hSw
          go_simp
          try with_reducible rfl
        try simp only [Act.put, List.setIfInBounds_toArray, List.set_cons_zero, List.set_cons_succ]
        refine wpAnyH_ready (rs := [10]) (by kernel_rfl) (by simp) ?_
        refine AllReadyH.cons (o := { dst := some 5, op := Op.alloc 40, type := 0, pos := "entries.go:50", after := #[], guard := none }) rfl (fun K hK => ?_) ?_
        ·
          go_simp
          obtain ⟨z3, hz, HH3, HC3, cb, hcb, lcb⟩ : ∃ q, World.alloc z2 (.cells #[.int .u8 0, .int .u16 0, .int .u16 0, .int .u32 0, .int .u32 0, .bool false, .string ⟨#[]⟩, .int .u64 0] 40) = q ∧ Hid (Below W.heap.size W q) ∧ Hid (q.heap[z2.heap.size]? = some (.cells #[.int .u8 0, .int .u16 0, .int .u16 0, .int .u32 0, .int .u32 0, .bool false, .string ⟨#[]⟩, .int .u64 0] 40 (0, 0))) ∧ ∃ c, z2.heap.size = c ∧ Hid (W.heap.size ≤ c) := ⟨_, rfl, hide (HH2.out.alloc HH2.out.size _), hide (heap_alloc_new _ _), _, rfl, hide HH2.out.size⟩
          rw [hz, hcb]
          rw [hcb] at HC3
          clear hz hcb
          refine hK.out _ _ (HSS.out _ HH3.out) (fun hHeld3 => ?_)
          clear hK K
          try simp only [Act.put, List.setIfInBounds_toArray, List.set_cons_zero, List.set_cons_succ]
          refine wpAnyH_ready (rs := [11]) (by kernel_rfl) (by simp) ?_
          refine AllReadyH.cons (o := { dst := none, op := Op.store 40 (Operand.tmp 5) (Operand.tmp 15), type := 0, pos := "entries.go:50", after := #[{ on := 10, ground := Ground.data }, { on := 8, ground := Ground.data }, { on := 6, ground := Ground.chain }, { on := 0, ground := Ground.phase }, { on := 1, ground := Ground.phase }, { on := 2, ground := Ground.phase }, { on := 3, ground := Ground.phase }, { on := 4, ground := Ground.phase }, { on := 5, ground := Ground.phase }, { on := 6, ground := Ground.phase }, { on := 7, ground := Ground.phase }, { on := 8, ground := Ground.phase }, { on := 9, ground := Ground.textOnly Departure.lateStores }, { on := 10, ground := Ground.phase }], guard := none }) rfl (fun K hK => ?_) ?_
          ·
            obtain ⟨d0, d1, d2, d3, d4, d5, d6, d7, df⟩ := C.val_cells HC3.out
            go_simp
            obtain ⟨z4, hz, hc9, hb9⟩ := chain8 z3 cb _ _ _ _ _ _ _ _ (.int .u8 ge.p) (.int .u16 ge.x) (.int .u16 ge.t) (.int .u32 ge.r) (.int .u32 ge.h) (.bool ge.en) (.string ge.ws) (.int .u64 ge.e) _ HC3.out
            rw [hz]
            have HH4 := hide (hb9 _ _ lcb.out HH3.out)
            have HC4 := hide hc9
            clear hz hc9 hb9 d0 d1 d2 d3 d4 d5 d6 d7 df
            refine hK.out _ _ (HSS.out _ HH4.out) (fun hHeld4 => ?_)
            clear hK K
            try simp only [Act.put, List.setIfInBounds_toArray, List.set_cons_zero, List.set_cons_succ]
            refine wpAnyH_take (i := 12) (oi := { dst := some 6, op := Op.assign (Operand.tmp 16), type := 4, pos := "entries.go:50", after := #[{ on := 9, ground := Ground.data }, { on := 11, ground := Ground.chain }, { on := 0, ground := Ground.phase }, { on := 1, ground := Ground.phase }, { on := 2, ground := Ground.phase }, { on := 3, ground := Ground.phase }, { on := 4, ground := Ground.phase }, { on := 5, ground := Ground.phase }, { on := 6, ground := Ground.phase }, { on := 7, ground := Ground.phase }, { on := 8, ground := Ground.phase }, { on := 9, ground := Ground.phase }, { on := 10, ground := Ground.phase }, { on := 11, ground := Ground.phase }], guard := none }) (v := ?_) rfl (by kernel_rfl) (by kernel_rfl) (by kernel_rfl) (fun _ _ _ h => h) (Or.inl ⟨by rfl, ?_⟩) (by assumption) ?_
            rotate_left
            · intro wS hSw
              try dsimp only at hSw
              go_simp
              try with_reducible rfl
            try simp only [Act.put, List.setIfInBounds_toArray, List.set_cons_zero, List.set_cons_succ]
            refine wpAnyH_done (by kernel_rfl) ?_ _
            exact HRS z4 cb HH4
          exact AllReadyH.nil
        exact AllReadyH.nil
      refine AllReadyH.cons (o := { dst := some 5, op := Op.alloc 40, type := 0, pos := "entries.go:50", after := #[], guard := none }) rfl (fun K hK => ?_) ?_
      ·
        go_simp
        obtain ⟨z5, hz, HH5, HC5, cb, hcb, lcb⟩ : ∃ q, World.alloc z1 (.cells #[.int .u8 0, .int .u16 0, .int .u16 0, .int .u32 0, .int .u32 0, .bool false, .string ⟨#[]⟩, .int .u64 0] 40) = q ∧ Hid (Below W.heap.size W q) ∧ Hid (q.heap[z1.heap.size]? = some (.cells #[.int .u8 0, .int .u16 0, .int .u16 0, .int .u32 0, .int .u32 0, .bool false, .string ⟨#[]⟩, .int .u64 0] 40 (0, 0))) ∧ ∃ c, z1.heap.size = c ∧ Hid (W.heap.size ≤ c) := ⟨_, rfl, hide (HH1.out.alloc HH1.out.size _), hide (heap_alloc_new _ _), _, rfl, hide HH1.out.size⟩
        rw [hz, hcb]
        rw [hcb] at HC5
        clear hz hcb
        refine hK.out _ _ (HSS.out _ HH5.out) (fun hHeld5 => ?_)
        clear hK K
        try simp only [Act.put, List.setIfInBounds_toArray, List.set_cons_zero, List.set_cons_succ]
        refine wpAnyH_ready (rs := [6]) (by kernel_rfl) (by simp) ?_
        refine AllReadyH.cons (o := { dst := some 14, op := Op.call { callee := Callee.value (Operand.func 52), args := #[Operand.tmp 11, Operand.tmp 13], argTypes := #[73, 76] }, type := 96, pos := "entries.go:50", after := #[{ on := 3, ground := Ground.data }, { on := 5, ground := Ground.data }, { on := 5, ground := Ground.chain }], guard := none }) rfl (fun K hK => ?_) ?_
        ·
          go_simp
          go_at_call 52
          with_reducible refine (HGE.out _ HH5.out).mono ?_
          rintro e z6 ⟨rfl, b9⟩
          have HH6 := hide (HH5.out.trans (b9.mono HH5.out.size))
          have HC6 := hide (below_block b9 HC5.out (Nat.le_refl _))
          clear b9
          refine hK.out _ _ (HSS.out _ HH6.out) (fun hHeld6 => ?_)
          clear hK K
          try simp only [Act.put, List.setIfInBounds_toArray, List.set_cons_zero, List.set_cons_succ]
          refine wpAnyH_take (i := 7) (oi := { dst := some 7, op := Op.move (Operand.tmp 14), type := 96, pos := "entries.go:50", after := #[{ on := 6, ground := Ground.data }], guard := none }) (v := ?_) rfl (by kernel_rfl) (by kernel_rfl) (by kernel_rfl) (fun _ _ _ h => h) (Or.inl ⟨by rfl, ?_⟩) (by assumption) ?_
          rotate_left
          · intro wS hSw
            try dsimp only at hSw
            go_simp
            try with_reducible rfl
          try simp only [Act.put, List.setIfInBounds_toArray, List.set_cons_zero, List.set_cons_succ]
          refine wpAnyH_take (i := 8) (oi := { dst := some 15, op := Op.extract (Operand.tmp 7) 0, type := 40, pos := "entries.go:50", after := #[{ on := 7, ground := Ground.data }], guard := none }) (v := ?_) rfl (by kernel_rfl) (by kernel_rfl) (by kernel_rfl) (fun _ _ _ h => h) (Or.inl ⟨by rfl, ?_⟩) (by assumption) ?_
          rotate_left
          · intro wS hSw
            try dsimp only at hSw
            go_simp
            try with_reducible rfl
          try simp only [Act.put, List.setIfInBounds_toArray, List.set_cons_zero, List.set_cons_succ]
          refine wpAnyH_take (i := 9) (oi := { dst := some 16, op := Op.extract (Operand.tmp 7) 1, type := 4, pos := "entries.go:50", after := #[{ on := 7, ground := Ground.data }, { on := 11, ground := Ground.gcOnly Departure.lateStores }], guard := none }) (v := ?_) rfl (by kernel_rfl) (by kernel_rfl) (by kernel_rfl) (fun _ _ _ h => h) (Or.inl ⟨by rfl, ?_⟩) (by assumption) ?_
          rotate_left
          · intro wS hSw
            try dsimp only at hSw
            go_simp
            try with_reducible rfl
          try simp only [Act.put, List.setIfInBounds_toArray, List.set_cons_zero, List.set_cons_succ]
          refine wpAnyH_ready (rs := [11]) (by kernel_rfl) (by simp) ?_
          refine AllReadyH.cons (o := { dst := none, op := Op.store 40 (Operand.tmp 5) (Operand.tmp 15), type := 0, pos := "entries.go:50", after := #[{ on := 10, ground := Ground.data }, { on := 8, ground := Ground.data }, { on := 6, ground := Ground.chain }, { on := 0, ground := Ground.phase }, { on := 1, ground := Ground.phase }, { on := 2, ground := Ground.phase }, { on := 3, ground := Ground.phase }, { on := 4, ground := Ground.phase }, { on := 5, ground := Ground.phase }, { on := 6, ground := Ground.phase }, { on := 7, ground := Ground.phase }, { on := 8, ground := Ground.phase }, { on := 9, ground := Ground.textOnly Departure.lateStores }, { on := 10, ground := Ground.phase }], guard := none }) rfl (fun K hK => ?_) ?_
          ·
            obtain ⟨d0, d1, d2, d3, d4, d5, d6, d7, df⟩ := C.val_cells HC6.out
            go_simp
            obtain ⟨z7, hz, hc9, hb9⟩ := chain8 z6 cb _ _ _ _ _ _ _ _ (.int .u8 ge.p) (.int .u16 ge.x) (.int .u16 ge.t) (.int .u32 ge.r) (.int .u32 ge.h) (.bool ge.en) (.string ge.ws) (.int .u64 ge.e) _ HC6.out
            rw [hz]
            have HH7 := hide (hb9 _ _ lcb.out HH6.out)
            have HC7 := hide hc9
            clear hz hc9 hb9 d0 d1 d2 d3 d4 d5 d6 d7 df
            refine hK.out _ _ (HSS.out _ HH7.out) (fun hHeld7 => ?_)
            clear hK K
            try simp only [Act.put, List.setIfInBounds_toArray, List.set_cons_zero, List.set_cons_succ]
            refine wpAnyH_take (i := 12) (oi := { dst := some 6, op := Op.assign (Operand.tmp 16), type := 4, pos := "entries.go:50", after := #[{ on := 9, ground := Ground.data }, { on := 11, ground := Ground.chain }, { on := 0, ground := Ground.phase }, { on := 1, ground := Ground.phase }, { on := 2, ground := Ground.phase }, { on := 3, ground := Ground.phase }, { on := 4, ground := Ground.phase }, { on := 5, ground := Ground.phase }, { on := 6, ground := Ground.phase }, { on := 7, ground := Ground.phase }, { on := 8, ground := Ground.phase }, { on := 9, ground := Ground.phase }, { on := 10, ground := Ground.phase }, { on := 11, ground := Ground.phase }], guard := none }) (v := ?_) rfl (by kernel_rfl) (by kernel_rfl) (by kernel_rfl) (fun _ _ _ h => h) (Or.inl ⟨by rfl, ?_⟩) (by assumption) ?_
            rotate_left
            · intro wS hSw
              try dsimp only at hSw
              go_simp
              try with_reducible rfl
            try simp only [Act.put, List.setIfInBounds_toArray, List.set_cons_zero, List.set_cons_succ]
            refine wpAnyH_done (by kernel_rfl) ?_ _
            exact HRS z7 cb HH7
          exact AllReadyH.nil
        exact AllReadyH.nil
      exact AllReadyH.nil
    refine AllReadyH.cons (o := { dst := some 5, op := Op.alloc 40, type := 0, pos := "entries.go:50", after := #[], guard := none }) rfl (fun K hK => ?_) ?_
    ·
      go_simp
      obtain ⟨z8, hz, HH8, HC8, cb, hcb, lcb⟩ : ∃ q, World.alloc z0 (.cells #[.int .u8 0, .int .u16 0, .int .u16 0, .int .u32 0, .int .u32 0, .bool false, .string ⟨#[]⟩, .int .u64 0] 40) = q ∧ Hid (Below W.heap.size W q) ∧ Hid (q.heap[z0.heap.size]? = some (.cells #[.int .u8 0, .int .u16 0, .int .u16 0, .int .u32 0, .int .u32 0, .bool false, .string ⟨#[]⟩, .int .u64 0] 40 (0, 0))) ∧ ∃ c, z0.heap.size = c ∧ Hid (W.heap.size ≤ c) := ⟨_, rfl, hide (HW0.out.alloc HW0.out.size _), hide (heap_alloc_new _ _), _, rfl, hide HW0.out.size⟩
      rw [hz, hcb]
      rw [hcb] at HC8
      clear hz hcb
      refine hK.out _ _ (HSS.out _ HH8.out) (fun hHeld8 => ?_)
      clear hK K
      try simp only [Act.put, List.setIfInBounds_toArray, List.set_cons_zero, List.set_cons_succ]
      refine wpAnyH_ready (rs := [5]) (by kernel_rfl) (by simp) ?_
      refine AllReadyH.cons (o := { dst := some 13, op := Op.call { callee := Callee.value (Operand.func 53), args := #[Operand.tmp 12], argTypes := #[38] }, type := 76, pos := "entries.go:50", after := #[{ on := 4, ground := Ground.data }], guard := none }) rfl (fun K hK => ?_) ?_
      ·
        go_simp
        go_at_call 53
        refine (keyOf_any _ _ _ _ _ _).mono ?_
        rintro e z9 ⟨rfl, b9⟩
        have HH9 := hide (HH8.out.trans (b9.mono HH8.out.size))
        have HC9 := hide (below_block b9 HC8.out (Nat.le_refl _))
        clear b9
        refine hK.out _ _ (HSS.out _ HH9.out) (fun hHeld9 => ?_)
        clear hK K
        try simp only [Act.put, List.setIfInBounds_toArray, List.set_cons_zero, List.set_cons_succ]
        refine wpAnyH_ready (rs := [6]) (by kernel_rfl) (by simp) ?_
        refine AllReadyH.cons (o := { dst := some 14, op := Op.call { callee := Callee.value (Operand.func 52), args := #[Operand.tmp 11, Operand.tmp 13], argTypes := #[73, 76] }, type := 96, pos := "entries.go:50", after := #[{ on := 3, ground := Ground.data }, { on := 5, ground := Ground.data }, { on := 5, ground := Ground.chain }], guard := none }) rfl (fun K hK => ?_) ?_
        ·
          go_simp
          go_at_call 52
          with_reducible refine (HGE.out _ HH9.out).mono ?_
          rintro e z10 ⟨rfl, b9⟩
          have HH10 := hide (HH9.out.trans (b9.mono HH9.out.size))
          have HC10 := hide (below_block b9 HC9.out (Nat.le_refl _))
          clear b9
          refine hK.out _ _ (HSS.out _ HH10.out) (fun hHeld10 => ?_)
          clear hK K
          try simp only [Act.put, List.setIfInBounds_toArray, List.set_cons_zero, List.set_cons_succ]
          refine wpAnyH_take (i := 7) (oi := { dst := some 7, op := Op.move (Operand.tmp 14), type := 96, pos := "entries.go:50", after := #[{ on := 6, ground := Ground.data }], guard := none }) (v := ?_) rfl (by kernel_rfl) (by kernel_rfl) (by kernel_rfl) (fun _ _ _ h => h) (Or.inl ⟨by rfl, ?_⟩) (by assumption) ?_
          rotate_left
          · intro wS hSw
            try dsimp only at hSw
            go_simp
            try with_reducible rfl
          try simp only [Act.put, List.setIfInBounds_toArray, List.set_cons_zero, List.set_cons_succ]
          refine wpAnyH_take (i := 8) (oi := { dst := some 15, op := Op.extract (Operand.tmp 7) 0, type := 40, pos := "entries.go:50", after := #[{ on := 7, ground := Ground.data }], guard := none }) (v := ?_) rfl (by kernel_rfl) (by kernel_rfl) (by kernel_rfl) (fun _ _ _ h => h) (Or.inl ⟨by rfl, ?_⟩) (by assumption) ?_
          rotate_left
          · intro wS hSw
            try dsimp only at hSw
            go_simp
            try with_reducible rfl
          try simp only [Act.put, List.setIfInBounds_toArray, List.set_cons_zero, List.set_cons_succ]
          refine wpAnyH_take (i := 9) (oi := { dst := some 16, op := Op.extract (Operand.tmp 7) 1, type := 4, pos := "entries.go:50", after := #[{ on := 7, ground := Ground.data }, { on := 11, ground := Ground.gcOnly Departure.lateStores }], guard := none }) (v := ?_) rfl (by kernel_rfl) (by kernel_rfl) (by kernel_rfl) (fun _ _ _ h => h) (Or.inl ⟨by rfl, ?_⟩) (by assumption) ?_
          rotate_left
          · intro wS hSw
            try dsimp only at hSw
            go_simp
            try with_reducible rfl
          try simp only [Act.put, List.setIfInBounds_toArray, List.set_cons_zero, List.set_cons_succ]
          refine wpAnyH_ready (rs := [11]) (by kernel_rfl) (by simp) ?_
          refine AllReadyH.cons (o := { dst := none, op := Op.store 40 (Operand.tmp 5) (Operand.tmp 15), type := 0, pos := "entries.go:50", after := #[{ on := 10, ground := Ground.data }, { on := 8, ground := Ground.data }, { on := 6, ground := Ground.chain }, { on := 0, ground := Ground.phase }, { on := 1, ground := Ground.phase }, { on := 2, ground := Ground.phase }, { on := 3, ground := Ground.phase }, { on := 4, ground := Ground.phase }, { on := 5, ground := Ground.phase }, { on := 6, ground := Ground.phase }, { on := 7, ground := Ground.phase }, { on := 8, ground := Ground.phase }, { on := 9, ground := Ground.textOnly Departure.lateStores }, { on := 10, ground := Ground.phase }], guard := none }) rfl (fun K hK => ?_) ?_
          ·
            obtain ⟨d0, d1, d2, d3, d4, d5, d6, d7, df⟩ := C.val_cells HC10.out
            go_simp
            obtain ⟨z11, hz, hc9, hb9⟩ := chain8 z10 cb _ _ _ _ _ _ _ _ (.int .u8 ge.p) (.int .u16 ge.x) (.int .u16 ge.t) (.int .u32 ge.r) (.int .u32 ge.h) (.bool ge.en) (.string ge.ws) (.int .u64 ge.e) _ HC10.out
            rw [hz]
            have HH11 := hide (hb9 _ _ lcb.out HH10.out)
            have HC11 := hide hc9
            clear hz hc9 hb9 d0 d1 d2 d3 d4 d5 d6 d7 df
            refine hK.out _ _ (HSS.out _ HH11.out) (fun hHeld11 => ?_)
            clear hK K
            try simp only [Act.put, List.setIfInBounds_toArray, List.set_cons_zero, List.set_cons_succ]
            refine wpAnyH_take (i := 12) (oi := { dst := some 6, op := Op.assign (Operand.tmp 16), type := 4, pos := "entries.go:50", after := #[{ on := 9, ground := Ground.data }, { on := 11, ground := Ground.chain }, { on := 0, ground := Ground.phase }, { on := 1, ground := Ground.phase }, { on := 2, ground := Ground.phase }, { on := 3, ground := Ground.phase }, { on := 4, ground := Ground.phase }, { on := 5, ground := Ground.phase }, { on := 6, ground := Ground.phase }, { on := 7, ground := Ground.phase }, { on := 8, ground := Ground.phase }, { on := 9, ground := Ground.phase }, { on := 10, ground := Ground.phase }, { on := 11, ground := Ground.phase }], guard := none }) (v := ?_) rfl (by kernel_rfl) (by kernel_rfl) (by kernel_rfl) (fun _ _ _ h => h) (Or.inl ⟨by rfl, ?_⟩) (by assumption) ?_
            rotate_left
            · intro wS hSw
              try dsimp only at hSw
              go_simp
              try with_reducible rfl
            try simp only [Act.put, List.setIfInBounds_toArray, List.set_cons_zero, List.set_cons_succ]
            refine wpAnyH_done (by kernel_rfl) ?_ _
            exact HRS z11 cb HH11
          exact AllReadyH.nil
        exact AllReadyH.nil
      exact AllReadyH.nil
    exact AllReadyH.nil
  case r =>
    intro z cb HZ
    cases ok with
    | true =>
      go_wp2_with fail
      refine wp_region_held_drew (S := fun w' => w'.cell? ⟨B, 0, none⟩ = some (.int .u8 k.p) ∧ w'.cell? ⟨B, 1, none⟩ = some (.int .u16 k.x) ∧ w'.cell? ⟨B, 2, none⟩ = some (.int .u16 mt) ∧ w'.cell? ⟨B, 3, none⟩ = some (.int .u32 k.r) ∧ w'.cell? ⟨B, 4, none⟩ = some (.int .u32 mh)) (by kernel_rfl) (by exact (HSS.out _ (HZ.out.trans (below_drew z |>.mono HZ.out.size))).2) (fun hHeld => ?_)
      have HW1 := hide (HZ.out.trans ((below_drew z).mono HZ.out.size))
      generalize z.drew = z0 at *
      refine wpAnyH_take (i := 0) (oi := { dst := some 17, op := Op.move (Operand.tmp 0), type := 33, pos := "entries.go:51", after := #[], guard := none }) (v := ?_) rfl (by kernel_rfl) (by kernel_rfl) (by kernel_rfl) (fun _ _ _ h => h) (Or.inl ⟨by rfl, ?_⟩) (by assumption) ?_
      rotate_left
      · intro wS hSw
        try dsimp only at hSw
        go_simp
        try with_reducible rfl
      try simp only [Act.put, List.setIfInBounds_toArray, List.set_cons_zero, List.set_cons_succ]
      refine wpAnyH_take (i := 1) (oi := { dst := some 18, op := Op.load 38 (Operand.tmp 3), type := 38, pos := "entries.go:51", after := #[], guard := none }) (v := ?_) rfl (by kernel_rfl) (by kernel_rfl) (by kernel_rfl) (fun _ _ _ h => h) (Or.inl ⟨by rfl, ?_⟩) (by assumption) ?_
      rotate_left
      · intro wS hSw
        try dsimp only at hSw
        go_simp
        try with_reducible rfl
      try simp only [Act.put, List.setIfInBounds_toArray, List.set_cons_zero, List.set_cons_succ]
      refine wpAnyH_take (i := 4) (oi := { dst := some 21, op := Op.move (Operand.tmp 0), type := 33, pos := "entries.go:51", after := #[], guard := none }) (v := ?_) rfl (by kernel_rfl) (by kernel_rfl) (by kernel_rfl) (fun _ _ _ h => h) (Or.inl ⟨by rfl, ?_⟩) (by assumption) ?_
      rotate_left
      · intro wS hSw
        try dsimp only at hSw
        go_simp
        try with_reducible rfl
      try simp only [Act.put, List.setIfInBounds_toArray, List.set_cons_zero, List.set_cons_succ]
      refine wpAnyH_take (i := 5) (oi := { dst := some 22, op := Op.load 38 (Operand.tmp 3), type := 38, pos := "entries.go:51", after := #[], guard := none }) (v := ?_) rfl (by kernel_rfl) (by kernel_rfl) (by kernel_rfl) (fun _ _ _ h => h) (Or.inl ⟨by rfl, ?_⟩) (by assumption) ?_
      rotate_left
      · intro wS hSw
        try dsimp only at hSw
        go_simp
        try with_reducible rfl
      try simp only [Act.put, List.setIfInBounds_toArray, List.set_cons_zero, List.set_cons_succ]
      refine wpAnyH_take (i := 8) (oi := { dst := some 25, op := Op.move (Operand.tmp 6), type := 4, pos := "entries.go:51", after := #[], guard := none }) (v := ?_) rfl (by kernel_rfl) (by kernel_rfl) (by kernel_rfl) (fun _ _ _ h => h) (Or.inl ⟨by rfl, ?_⟩) (by assumption) ?_
      rotate_left
      · intro wS hSw
        try dsimp only at hSw
        go_simp
        try with_reducible rfl
      try simp only [Act.put, List.setIfInBounds_toArray, List.set_cons_zero, List.set_cons_succ]
      refine wpAnyH_take (i := 9) (oi := { dst := some 26, op := Op.unOp UnOp.not 4 (Operand.tmp 25), type := 4, pos := "entries.go:51", after := #[{ on := 8, ground := Ground.data }], guard := none }) (v := ?_) rfl (by kernel_rfl) (by kernel_rfl) (by kernel_rfl) (fun _ _ _ h => h) (Or.inl ⟨by rfl, ?_⟩) (by assumption) ?_
      rotate_left
      · intro wS hSw
        try dsimp only at hSw
        go_simp
        try with_reducible rfl
      try simp only [Act.put, List.setIfInBounds_toArray, List.set_cons_zero, List.set_cons_succ]
      refine wpAnyH_ready (rs := [2]) (by kernel_rfl) (by simp) ?_
      refine AllReadyH.cons (o := { dst := some 19, op := Op.call { callee := Callee.value (Operand.func 75), args := #[Operand.tmp 17, Operand.tmp 18], argTypes := #[33, 38] }, type := 4, pos := "entries.go:52", after := #[{ on := 0, ground := Ground.data }, { on := 1, ground := Ground.data }], guard := none }) rfl (fun K hK => ?_) ?_
      ·
        go_simp
        go_at_call 75
        refine (HFD.out _ HW1.out).mono ?_
        rintro e z1 ⟨rfl, b9⟩
        have HH1 := hide (HW1.out.trans (b9.mono HW1.out.size))
        clear b9
        refine hK.out _ _ ((HSS.out _ HH1.out).2) (fun hHeld1 => ?_)
        clear hK K
        try simp only [Act.put, List.setIfInBounds_toArray, List.set_cons_zero, List.set_cons_succ]
        refine wpAnyH_ready (rs := [3]) (by kernel_rfl) (by simp) ?_
        refine AllReadyH.cons (o := { dst := some 20, op := Op.call { callee := Callee.value (Operand.func 46), args := #[Operand.tmp 19, Operand.const (Value.int IntKind.i64 729)], argTypes := #[4, 3] }, type := 3, pos := "entries.go:52", after := #[{ on := 2, ground := Ground.data }, { on := 2, ground := Ground.chain }], guard := none }) rfl (fun K hK => ?_) ?_
        ·
          go_simp
          go_at_call 46
          refine (HV1.out _).mono ?_
          rintro e w2 ⟨rfl, rfl⟩
          refine hK.out _ _ ((HSS.out _ HH1.out).2) (fun hHeld2 => ?_)
          clear hK K
          try simp only [Act.put, List.setIfInBounds_toArray, List.set_cons_zero, List.set_cons_succ]
          refine wpAnyH_ready (rs := [6]) (by kernel_rfl) (by simp) ?_
          refine AllReadyH.cons (o := { dst := some 23, op := Op.call { callee := Callee.value (Operand.func 76), args := #[Operand.tmp 21, Operand.tmp 22], argTypes := #[33, 38] }, type := 4, pos := "entries.go:53", after := #[{ on := 4, ground := Ground.data }, { on := 5, ground := Ground.data }, { on := 3, ground := Ground.chain }], guard := none }) rfl (fun K hK => ?_) ?_
          ·
            go_simp
            go_at_call 76
            refine (HCF.out _ HH1.out).mono ?_
            rintro e z3 ⟨rfl, b9⟩
            have HH3 := hide (HH1.out.trans (b9.mono HH1.out.size))
            clear b9
            refine hK.out _ _ ((HSS.out _ HH3.out).2) (fun hHeld3 => ?_)
            clear hK K
            try simp only [Act.put, List.setIfInBounds_toArray, List.set_cons_zero, List.set_cons_succ]
            refine wpAnyH_ready (rs := [7]) (by kernel_rfl) (by simp) ?_
            refine AllReadyH.cons (o := { dst := some 24, op := Op.call { callee := Callee.value (Operand.func 46), args := #[Operand.tmp 23, Operand.const (Value.int IntKind.i64 718)], argTypes := #[4, 3] }, type := 3, pos := "entries.go:53", after := #[{ on := 6, ground := Ground.data }, { on := 6, ground := Ground.chain }], guard := none }) rfl (fun K hK => ?_) ?_
            ·
              go_simp
              go_at_call 46
              refine (HV2.out _).mono ?_
              rintro e w4 ⟨rfl, rfl⟩
              refine hK.out _ _ ((HSS.out _ HH3.out).2) (fun hHeld4 => ?_)
              clear hK K
              try simp only [Act.put, List.setIfInBounds_toArray, List.set_cons_zero, List.set_cons_succ]
              refine wpAnyH_take (i := 10) (oi := { dst := some 27, op := Op.move (Operand.tmp 26), type := 4, pos := "entries.go:51", after := #[{ on := 9, ground := Ground.data }, { on := 7, ground := Ground.chain }], guard := none }) (v := ?_) rfl (by kernel_rfl) (by kernel_rfl) (by kernel_rfl) (fun _ _ _ h => h) (Or.inl ⟨by rfl, ?_⟩) (by assumption) ?_
              rotate_left
              · intro wS hSw
                try dsimp only at hSw
                go_simp
                try with_reducible rfl
              try simp only [Act.put, List.setIfInBounds_toArray, List.set_cons_zero, List.set_cons_succ]
              refine wpAnyH_take (i := 11) (oi := { dst := some 28, op := Op.move (Operand.tmp 0), type := 33, pos := "entries.go:51", after := #[{ on := 10, ground := Ground.guard }], guard := some (10, true) }) (v := undef) rfl (by kernel_rfl) (by kernel_rfl) (by kernel_rfl) (fun _ _ _ h => h) (Or.inr ⟨by rfl, rfl⟩) (by assumption) ?_
              try simp only [Act.put, List.setIfInBounds_toArray, List.set_cons_zero, List.set_cons_succ]
              refine wpAnyH_take (i := 12) (oi := { dst := some 29, op := Op.call { callee := Callee.value (Operand.func 55), args := #[Operand.tmp 28], argTypes := #[33] }, type := 4, pos := "entries.go:54", after := #[{ on := 11, ground := Ground.data }, { on := 10, ground := Ground.chain }, { on := 10, ground := Ground.guard }], guard := some (10, true) }) (v := undef) rfl (by kernel_rfl) (by kernel_rfl) (by kernel_rfl) (fun _ _ _ h => h) (Or.inr ⟨by rfl, rfl⟩) (by assumption) ?_
              try simp only [Act.put, List.setIfInBounds_toArray, List.set_cons_zero, List.set_cons_succ]
              refine wpAnyH_take (i := 13) (oi := { dst := some 30, op := Op.pick (Operand.tmp 27) (Operand.tmp 29) (Operand.const (Value.bool false)), type := 4, pos := "entries.go:51", after := #[{ on := 10, ground := Ground.data }, { on := 12, ground := Ground.data }], guard := none }) (v := ?_) rfl (by kernel_rfl) (by kernel_rfl) (by kernel_rfl) (fun _ _ _ h => h) (Or.inl ⟨by rfl, ?_⟩) (by assumption) ?_
              rotate_left
              · intro wS hSw
                try dsimp only at hSw
                go_simp
                try with_reducible rfl
              try simp only [Act.put, List.setIfInBounds_toArray, List.set_cons_zero, List.set_cons_succ]
              refine wpAnyH_ready (rs := [14]) (by kernel_rfl) (by simp) ?_
              refine AllReadyH.cons (o := { dst := some 31, op := Op.call { callee := Callee.value (Operand.func 46), args := #[Operand.tmp 30, Operand.const (Value.int IntKind.i64 728)], argTypes := #[4, 3] }, type := 3, pos := "entries.go:54", after := #[{ on := 13, ground := Ground.data }, { on := 12, ground := Ground.chain }], guard := none }) rfl (fun K hK => ?_) ?_
              ·
                go_simp
                go_at_call 46
                refine (HV3.out _).mono ?_
                rintro e w5 ⟨rfl, rfl⟩
                refine hK.out _ _ ((HSS.out _ HH3.out).2) (fun hHeld5 => ?_)
                clear hK K
                try simp only [Act.put, List.setIfInBounds_toArray, List.set_cons_zero, List.set_cons_succ]
                refine wpAnyH_ready (rs := [15]) (by kernel_rfl) (by simp) ?_
                refine AllReadyH.cons (o := { dst := some 32, op := Op.buildSlice 115 3 #[(0, Operand.tmp 20), (1, Operand.tmp 24), (2, Operand.tmp 31)], type := 115, pos := "entries.go:51", after := #[{ on := 3, ground := Ground.data }, { on := 7, ground := Ground.data }, { on := 14, ground := Ground.data }], guard := none }) rfl (fun K hK => ?_) AllReadyH.nil
                go_simp
                refine hK.out _ _ ((HSS.out _ (HH3.out.alloc HH3.out.size _)).2) (fun hHeld6 => ?_)
                clear hK K
                try simp only [Act.put, List.setIfInBounds_toArray, List.set_cons_zero, List.set_cons_succ]
                refine wpAnyH_ready (rs := [16]) (by kernel_rfl) (by simp) ?_
                refine AllReadyH.cons (o := { dst := some 33, op := Op.call { callee := Callee.value (Operand.func 45), args := #[Operand.tmp 32], argTypes := #[115] }, type := 3, pos := "entries.go:51", after := #[{ on := 15, ground := Ground.data }, { on := 14, ground := Ground.chain }], guard := none }) rfl (fun K hK => ?_) AllReadyH.nil
                go_simp
                go_at_call 45
                refine (or3 _ _ _ _).mono ?_
                rintro e w7 ⟨rfl, rfl⟩
                refine hK.out _ _ ((HSS.out _ (HH3.out.alloc HH3.out.size _)).2) (fun hHeld7 => ?_)
                clear hK K
                try simp only [Act.put, List.setIfInBounds_toArray, List.set_cons_zero, List.set_cons_succ]
                refine wpAnyH_take (i := 17) (oi := { dst := some 4, op := Op.assign (Operand.tmp 33), type := 3, pos := "entries.go:51", after := #[{ on := 16, ground := Ground.data }, { on := 16, ground := Ground.chain }, { on := 0, ground := Ground.phase }, { on := 1, ground := Ground.phase }, { on := 2, ground := Ground.phase }, { on := 3, ground := Ground.phase }, { on := 4, ground := Ground.phase }, { on := 5, ground := Ground.phase }, { on := 6, ground := Ground.phase }, { on := 7, ground := Ground.phase }, { on := 8, ground := Ground.phase }, { on := 9, ground := Ground.phase }, { on := 10, ground := Ground.phase }, { on := 11, ground := Ground.phase }, { on := 12, ground := Ground.phase }, { on := 13, ground := Ground.phase }, { on := 14, ground := Ground.phase }, { on := 15, ground := Ground.phase }, { on := 16, ground := Ground.phase }], guard := none }) (v := ?_) rfl (by kernel_rfl) (by kernel_rfl) (by kernel_rfl) (fun _ _ _ h => h) (Or.inl ⟨by rfl, ?_⟩) (by assumption) ?_
                rotate_left
                · intro wS hSw
                  try dsimp only at hSw
                  go_simp
                  try with_reducible rfl
                try simp only [Act.put, List.setIfInBounds_toArray, List.set_cons_zero, List.set_cons_succ]
                refine wpAnyH_done (by kernel_rfl) ?_ _
                go_wp2_with fail
                go_ret
                exact ⟨by rw [HRES.out]; rfl, HB.out.trans ((HH3.out.alloc HH3.out.size _).mono HB.out.size)⟩
              exact AllReadyH.nil
            exact AllReadyH.nil
          exact AllReadyH.nil
        exact AllReadyH.nil
      exact AllReadyH.nil
    | false =>
      go_wp2_with fail
      refine wp_region_held_drew (S := fun w' => w'.cell? ⟨B, 0, none⟩ = some (.int .u8 k.p) ∧ w'.cell? ⟨B, 1, none⟩ = some (.int .u16 k.x) ∧ w'.cell? ⟨B, 2, none⟩ = some (.int .u16 mt) ∧ w'.cell? ⟨B, 3, none⟩ = some (.int .u32 k.r) ∧ w'.cell? ⟨B, 4, none⟩ = some (.int .u32 mh)) (by kernel_rfl) (by exact (HSS.out _ (HZ.out.trans (below_drew z |>.mono HZ.out.size))).2) (fun hHeld => ?_)
      have HW1 := hide (HZ.out.trans ((below_drew z).mono HZ.out.size))
      generalize z.drew = z0 at *
      refine wpAnyH_take (i := 0) (oi := { dst := some 17, op := Op.move (Operand.tmp 0), type := 33, pos := "entries.go:51", after := #[], guard := none }) (v := ?_) rfl (by kernel_rfl) (by kernel_rfl) (by kernel_rfl) (fun _ _ _ h => h) (Or.inl ⟨by rfl, ?_⟩) (by assumption) ?_
      rotate_left
      · intro wS hSw
        try dsimp only at hSw
        go_simp
        try with_reducible rfl
      try simp only [Act.put, List.setIfInBounds_toArray, List.set_cons_zero, List.set_cons_succ]
      refine wpAnyH_take (i := 1) (oi := { dst := some 18, op := Op.load 38 (Operand.tmp 3), type := 38, pos := "entries.go:51", after := #[], guard := none }) (v := ?_) rfl (by kernel_rfl) (by kernel_rfl) (by kernel_rfl) (fun _ _ _ h => h) (Or.inl ⟨by rfl, ?_⟩) (by assumption) ?_
      rotate_left
      · intro wS hSw
        try dsimp only at hSw
        go_simp
        try with_reducible rfl
      try simp only [Act.put, List.setIfInBounds_toArray, List.set_cons_zero, List.set_cons_succ]
      refine wpAnyH_take (i := 4) (oi := { dst := some 21, op := Op.move (Operand.tmp 0), type := 33, pos := "entries.go:51", after := #[], guard := none }) (v := ?_) rfl (by kernel_rfl) (by kernel_rfl) (by kernel_rfl) (fun _ _ _ h => h) (Or.inl ⟨by rfl, ?_⟩) (by assumption) ?_
      rotate_left
      · intro wS hSw
        try dsimp only at hSw
        go_simp
        try with_reducible rfl
      try simp only [Act.put, List.setIfInBounds_toArray, List.set_cons_zero, List.set_cons_succ]
      refine wpAnyH_take (i := 5) (oi := { dst := some 22, op := Op.load 38 (Operand.tmp 3), type := 38, pos := "entries.go:51", after := #[], guard := none }) (v := ?_) rfl (by kernel_rfl) (by kernel_rfl) (by kernel_rfl) (fun _ _ _ h => h) (Or.inl ⟨by rfl, ?_⟩) (by assumption) ?_
      rotate_left
      · intro wS hSw
        try dsimp only at hSw
        go_simp
        try with_reducible rfl
      try simp only [Act.put, List.setIfInBounds_toArray, List.set_cons_zero, List.set_cons_succ]
      refine wpAnyH_take (i := 8) (oi := { dst := some 25, op := Op.move (Operand.tmp 6), type := 4, pos := "entries.go:51", after := #[], guard := none }) (v := ?_) rfl (by kernel_rfl) (by kernel_rfl) (by kernel_rfl) (fun _ _ _ h => h) (Or.inl ⟨by rfl, ?_⟩) (by assumption) ?_
      rotate_left
      · intro wS hSw
        try dsimp only at hSw
        go_simp
        try with_reducible rfl
      try simp only [Act.put, List.setIfInBounds_toArray, List.set_cons_zero, List.set_cons_succ]
      refine wpAnyH_take (i := 9) (oi := { dst := some 26, op := Op.unOp UnOp.not 4 (Operand.tmp 25), type := 4, pos := "entries.go:51", after := #[{ on := 8, ground := Ground.data }], guard := none }) (v := ?_) rfl (by kernel_rfl) (by kernel_rfl) (by kernel_rfl) (fun _ _ _ h => h) (Or.inl ⟨by rfl, ?_⟩) (by assumption) ?_
      rotate_left
      · intro wS hSw
        try dsimp only at hSw
        go_simp
        try with_reducible rfl
      try simp only [Act.put, List.setIfInBounds_toArray, List.set_cons_zero, List.set_cons_succ]
      refine wpAnyH_ready (rs := [2]) (by kernel_rfl) (by simp) ?_
      refine AllReadyH.cons (o := { dst := some 19, op := Op.call { callee := Callee.value (Operand.func 75), args := #[Operand.tmp 17, Operand.tmp 18], argTypes := #[33, 38] }, type := 4, pos := "entries.go:52", after := #[{ on := 0, ground := Ground.data }, { on := 1, ground := Ground.data }], guard := none }) rfl (fun K hK => ?_) ?_
      ·
        go_simp
        go_at_call 75
        refine (HFD.out _ HW1.out).mono ?_
        rintro e z1 ⟨rfl, b9⟩
        have HH1 := hide (HW1.out.trans (b9.mono HW1.out.size))
        clear b9
        refine hK.out _ _ ((HSS.out _ HH1.out).2) (fun hHeld1 => ?_)
        clear hK K
        try simp only [Act.put, List.setIfInBounds_toArray, List.set_cons_zero, List.set_cons_succ]
        refine wpAnyH_ready (rs := [3]) (by kernel_rfl) (by simp) ?_
        refine AllReadyH.cons (o := { dst := some 20, op := Op.call { callee := Callee.value (Operand.func 46), args := #[Operand.tmp 19, Operand.const (Value.int IntKind.i64 729)], argTypes := #[4, 3] }, type := 3, pos := "entries.go:52", after := #[{ on := 2, ground := Ground.data }, { on := 2, ground := Ground.chain }], guard := none }) rfl (fun K hK => ?_) ?_
        ·
          go_simp
          go_at_call 46
          refine (HV1.out _).mono ?_
          rintro e w2 ⟨rfl, rfl⟩
          refine hK.out _ _ ((HSS.out _ HH1.out).2) (fun hHeld2 => ?_)
          clear hK K
          try simp only [Act.put, List.setIfInBounds_toArray, List.set_cons_zero, List.set_cons_succ]
          refine wpAnyH_ready (rs := [6]) (by kernel_rfl) (by simp) ?_
          refine AllReadyH.cons (o := { dst := some 23, op := Op.call { callee := Callee.value (Operand.func 76), args := #[Operand.tmp 21, Operand.tmp 22], argTypes := #[33, 38] }, type := 4, pos := "entries.go:53", after := #[{ on := 4, ground := Ground.data }, { on := 5, ground := Ground.data }, { on := 3, ground := Ground.chain }], guard := none }) rfl (fun K hK => ?_) ?_
          ·
            go_simp
            go_at_call 76
            refine (HCF.out _ HH1.out).mono ?_
            rintro e z3 ⟨rfl, b9⟩
            have HH3 := hide (HH1.out.trans (b9.mono HH1.out.size))
            clear b9
            refine hK.out _ _ ((HSS.out _ HH3.out).2) (fun hHeld3 => ?_)
            clear hK K
            try simp only [Act.put, List.setIfInBounds_toArray, List.set_cons_zero, List.set_cons_succ]
            refine wpAnyH_ready (rs := [7]) (by kernel_rfl) (by simp) ?_
            refine AllReadyH.cons (o := { dst := some 24, op := Op.call { callee := Callee.value (Operand.func 46), args := #[Operand.tmp 23, Operand.const (Value.int IntKind.i64 718)], argTypes := #[4, 3] }, type := 3, pos := "entries.go:53", after := #[{ on := 6, ground := Ground.data }, { on := 6, ground := Ground.chain }], guard := none }) rfl (fun K hK => ?_) ?_
            ·
              go_simp
              go_at_call 46
              refine (HV2.out _).mono ?_
              rintro e w4 ⟨rfl, rfl⟩
              refine hK.out _ _ ((HSS.out _ HH3.out).2) (fun hHeld4 => ?_)
              clear hK K
              try simp only [Act.put, List.setIfInBounds_toArray, List.set_cons_zero, List.set_cons_succ]
              refine wpAnyH_take (i := 10) (oi := { dst := some 27, op := Op.move (Operand.tmp 26), type := 4, pos := "entries.go:51", after := #[{ on := 9, ground := Ground.data }, { on := 7, ground := Ground.chain }], guard := none }) (v := ?_) rfl (by kernel_rfl) (by kernel_rfl) (by kernel_rfl) (fun _ _ _ h => h) (Or.inl ⟨by rfl, ?_⟩) (by assumption) ?_
              rotate_left
              · intro wS hSw
                try dsimp only at hSw
                go_simp
                try with_reducible rfl
              try simp only [Act.put, List.setIfInBounds_toArray, List.set_cons_zero, List.set_cons_succ]
              refine wpAnyH_take (i := 11) (oi := { dst := some 28, op := Op.move (Operand.tmp 0), type := 33, pos := "entries.go:51", after := #[{ on := 10, ground := Ground.guard }], guard := some (10, true) }) (v := ?_) rfl (by kernel_rfl) (by kernel_rfl) (by kernel_rfl) (fun _ _ _ h => h) (Or.inl ⟨by rfl, ?_⟩) (by assumption) ?_
              rotate_left
              · intro wS hSw
                try dsimp only at hSw
                go_simp
                try with_reducible rfl
              try simp only [Act.put, List.setIfInBounds_toArray, List.set_cons_zero, List.set_cons_succ]
              refine wpAnyH_ready (rs := [12]) (by kernel_rfl) (by simp) ?_
              refine AllReadyH.cons (o := { dst := some 29, op := Op.call { callee := Callee.value (Operand.func 55), args := #[Operand.tmp 28], argTypes := #[33] }, type := 4, pos := "entries.go:54", after := #[{ on := 11, ground := Ground.data }, { on := 10, ground := Ground.chain }, { on := 10, ground := Ground.guard }], guard := some (10, true) }) rfl (fun K hK => ?_) ?_
              ·
                go_simp
                go_at_call 55
                refine (HFU.out _ HH3.out).mono ?_
                rintro e z5 ⟨rfl, b9⟩
                have HH5 := hide (HH3.out.trans (b9.mono HH3.out.size))
                clear b9
                refine hK.out _ _ ((HSS.out _ HH5.out).2) (fun hHeld5 => ?_)
                clear hK K
                try simp only [Act.put, List.setIfInBounds_toArray, List.set_cons_zero, List.set_cons_succ]
                refine wpAnyH_take (i := 13) (oi := { dst := some 30, op := Op.pick (Operand.tmp 27) (Operand.tmp 29) (Operand.const (Value.bool false)), type := 4, pos := "entries.go:51", after := #[{ on := 10, ground := Ground.data }, { on := 12, ground := Ground.data }], guard := none }) (v := ?_) rfl (by kernel_rfl) (by kernel_rfl) (by kernel_rfl) (fun _ _ _ h => h) (Or.inl ⟨by rfl, ?_⟩) (by assumption) ?_
                rotate_left
                · intro wS hSw
                  try dsimp only at hSw
                  go_simp
                  try with_reducible rfl
                try simp only [Act.put, List.setIfInBounds_toArray, List.set_cons_zero, List.set_cons_succ]
                refine wpAnyH_ready (rs := [14]) (by kernel_rfl) (by simp) ?_
                refine AllReadyH.cons (o := { dst := some 31, op := Op.call { callee := Callee.value (Operand.func 46), args := #[Operand.tmp 30, Operand.const (Value.int IntKind.i64 728)], argTypes := #[4, 3] }, type := 3, pos := "entries.go:54", after := #[{ on := 13, ground := Ground.data }, { on := 12, ground := Ground.chain }], guard := none }) rfl (fun K hK => ?_) ?_
                ·
                  go_simp
                  go_at_call 46
                  refine (HV3.out _).mono ?_
                  rintro e w6 ⟨rfl, rfl⟩
                  refine hK.out _ _ ((HSS.out _ HH5.out).2) (fun hHeld6 => ?_)
                  clear hK K
                  try simp only [Act.put, List.setIfInBounds_toArray, List.set_cons_zero, List.set_cons_succ]
                  refine wpAnyH_ready (rs := [15]) (by kernel_rfl) (by simp) ?_
                  refine AllReadyH.cons (o := { dst := some 32, op := Op.buildSlice 115 3 #[(0, Operand.tmp 20), (1, Operand.tmp 24), (2, Operand.tmp 31)], type := 115, pos := "entries.go:51", after := #[{ on := 3, ground := Ground.data }, { on := 7, ground := Ground.data }, { on := 14, ground := Ground.data }], guard := none }) rfl (fun K hK => ?_) AllReadyH.nil
                  go_simp
                  refine hK.out _ _ ((HSS.out _ (HH5.out.alloc HH5.out.size _)).2) (fun hHeld7 => ?_)
                  clear hK K
                  try simp only [Act.put, List.setIfInBounds_toArray, List.set_cons_zero, List.set_cons_succ]
                  refine wpAnyH_ready (rs := [16]) (by kernel_rfl) (by simp) ?_
                  refine AllReadyH.cons (o := { dst := some 33, op := Op.call { callee := Callee.value (Operand.func 45), args := #[Operand.tmp 32], argTypes := #[115] }, type := 3, pos := "entries.go:51", after := #[{ on := 15, ground := Ground.data }, { on := 14, ground := Ground.chain }], guard := none }) rfl (fun K hK => ?_) AllReadyH.nil
                  go_simp
                  go_at_call 45
                  refine (or3 _ _ _ _).mono ?_
                  rintro e w8 ⟨rfl, rfl⟩
                  refine hK.out _ _ ((HSS.out _ (HH5.out.alloc HH5.out.size _)).2) (fun hHeld8 => ?_)
                  clear hK K
                  try simp only [Act.put, List.setIfInBounds_toArray, List.set_cons_zero, List.set_cons_succ]
                  refine wpAnyH_take (i := 17) (oi := { dst := some 4, op := Op.assign (Operand.tmp 33), type := 3, pos := "entries.go:51", after := #[{ on := 16, ground := Ground.data }, { on := 16, ground := Ground.chain }, { on := 0, ground := Ground.phase }, { on := 1, ground := Ground.phase }, { on := 2, ground := Ground.phase }, { on := 3, ground := Ground.phase }, { on := 4, ground := Ground.phase }, { on := 5, ground := Ground.phase }, { on := 6, ground := Ground.phase }, { on := 7, ground := Ground.phase }, { on := 8, ground := Ground.phase }, { on := 9, ground := Ground.phase }, { on := 10, ground := Ground.phase }, { on := 11, ground := Ground.phase }, { on := 12, ground := Ground.phase }, { on := 13, ground := Ground.phase }, { on := 14, ground := Ground.phase }, { on := 15, ground := Ground.phase }, { on := 16, ground := Ground.phase }], guard := none }) (v := ?_) rfl (by kernel_rfl) (by kernel_rfl) (by kernel_rfl) (fun _ _ _ h => h) (Or.inl ⟨by rfl, ?_⟩) (by assumption) ?_
                  rotate_left
                  · intro wS hSw
                    try dsimp only at hSw
                    go_simp
                    try with_reducible rfl
                  try simp only [Act.put, List.setIfInBounds_toArray, List.set_cons_zero, List.set_cons_succ]
                  refine wpAnyH_done (by kernel_rfl) ?_ _
                  go_wp2_with fail
                  go_ret
                  exact ⟨by rw [HRES.out]; rfl, HB.out.trans ((HH5.out.alloc HH5.out.size _).mono HB.out.size)⟩
                exact AllReadyH.nil
              exact AllReadyH.nil
            exact AllReadyH.nil
          exact AllReadyH.nil
        exact AllReadyH.nil
      exact AllReadyH.nil
end Go.Proofs.Ytijjgnkfddklgaa
