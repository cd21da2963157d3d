/- A mapping is added, of another port if need be. -/
import Derived.Test.YtijjgnkfddklgaaMAdd
import Derived.Test.YtijjgnkfddklgaaMFree
namespace Go.Proofs.Ytijjgnkfddklgaa
open Go.RowKit Go.Deep Go.Shelf
set_option linter.unusedVariables false
set_option linter.unusedSimpArgs false
set_option maxRecDepth 100000
def FreeIs (g : CG) (L : ML) (k : MK) (mt mh : Int) (p : Nat) : Prop := (ownB g L k mt mh = true ∧ (p : Int) = k.x) ∨ (ownB g L k mt mh = false ∧ ∃ i : Nat, i < 64512 ∧ (∀ j, j < i → hinX g L k mt mh (1024 + j) ≠ 0) ∧ hinX g L k mt mh (1024 + i) = 0 ∧ p = 1024 + i)
def FreeNo (g : CG) (L : ML) (k : MK) (mt mh : Int) : Prop := ownB g L k mt mh = false ∧ ∀ j, j < 64512 → hinX g L k mt mh (1024 + j) ≠ 0
theorem free_ans {g : CG} {L : ML} {k : MK} {mt mh : Int} {e : Ending} (h : (ownB g L k mt mh = true ∧ e = .returned (.tuple #[.int .u16 k.x, .bool true])) ∨
   (ownB g L k mt mh = false ∧ ∃ i : Nat, i < 64512 ∧ (∀ j, j < i → hinX g L k mt mh (1024 + j) ≠ 0) ∧ hinX g L k mt mh (1024 + i) = 0 ∧ e = .returned (.tuple #[.int .u16 ((1024 + i : Nat) : Int), .bool true])) ∨
   (ownB g L k mt mh = false ∧ (∀ j, j < 64512 → hinX g L k mt mh (1024 + j) ≠ 0) ∧ e = .returned (.tuple #[.int .u16 0, .bool false]))) :
   (∃ p : Nat, FreeIs g L k mt mh p ∧ p ≤ 65535 ∧ e = .returned (.tuple #[.int .u16 (p : Int), .bool true])) ∨ (FreeNo g L k mt mh ∧ e = .returned (.tuple #[.int .u16 0, .bool false])) := by
  have hx := k.hx
  rcases h with ⟨h1, rfl⟩ | ⟨h1, i, h2, h3, h4, rfl⟩ | ⟨h1, h2, rfl⟩
  · exact .inl ⟨k.x.toNat, .inl ⟨h1, by omega⟩, by omega, by rw [show ((k.x.toNat : Nat) : Int) = k.x by omega]⟩
  · exact .inl ⟨1024 + i, .inr ⟨h1, i, h2, h3, h4, rfl⟩, by omega, rfl⟩
  · exact .inr ⟨⟨h1, h2⟩, rfl⟩
def anyV (g : CG) (L : ML) (who : Nat) (k : MK) (mt mh lease : Int) : Int := nzF [if (mt == 0) = true then 732 else 0, refE g who k mh lease, if (decide (g.mm ≤ (L.length : Int)) && !hasE L k mt mh) = true then 728 else 0]
/-- What AddAny answers, and leaves. -/
def AnyAns (sp tt : Nat) (g : CG) (up : Int) (L : ML) (who : Nat) (k : MK) (mt mh : Int) (en : Bool) (ws : ByteArray) (lease now : Int) (w : World) (e : Ending) (w' : World) : Prop :=
  (anyV g L who k mt mh lease ≠ 0 ∧ e = .returned (.tuple #[.int .u16 0, .int .i64 (anyV g L who k mt mh lease)]) ∧ SA w' sp tt g up L ∧ OnlyS (fun q => q = sp ∨ q = tt) w w') ∨
  (anyV g L who k mt mh lease = 0 ∧ ∃ p : Nat, ∃ hp : p ≤ 65535, FreeIs g L k mt mh p ∧ e = .returned (.tuple #[.int .u16 (p : Int), .int .i64 0]) ∧ SA w' sp tt g (IntKind.u32.wrap (up + 1)) (insL tM (setX k p hp) (mkE (setX k p hp) mt mh en ws (endsE lease now)) L) ∧ OnlyS (fun q => q = sp ∨ q = tt) w w') ∨
  (anyV g L who k mt mh lease = 0 ∧ FreeNo g L k mt mh ∧ e = .returned (.tuple #[.int .u16 0, .int .i64 728]) ∧ SA w' sp tt g up L ∧ OnlyS (fun q => q = sp ∨ q = tt) w w')
set_option maxHeartbeats 6000000 in
theorem many_any (w : World) (sp tt : Nat) (g : CG) (up : Int) (L : ML) (who : Nat) (k : MK) (mt mh : Int) (en : Bool) (ws : ByteArray) (en2 lease now : Int) (h : SA w sp tt g up L) (hL : L.length ≤ 500000) (hwho : who ≤ 4294967295) (hl : 0 ≤ lease ∧ lease ≤ 18446744073709551615) (hn : 0 ≤ now ∧ now ≤ 18446744073709551615) (hws : ws.size ≤ 1000000) :
    Calls Try.prog 24 #[.pointer (some ⟨sp, 0, none⟩), .int .u32 (who : Int), .agg #[.int .u8 k.p, .int .u16 k.x, .int .u16 mt, .int .u32 k.r, .int .u32 mh, .bool en, .string ws, .int .u64 en2], .int .u64 lease, .int .u64 now] w (AnyAns sp tt g up L who k mt mh en ws lease now w) := by
  obtain ⟨W, hW, hb, hx⟩ : ∃ W, w.alloc (.cells #[.int .u8 k.p, .int .u16 k.x, .int .u16 mt, .int .u32 k.r, .int .u32 mh, .bool en, .string ws, .int .u64 en2] 40) = W ∧ Below w.heap.size w W ∧ W.heap[w.heap.size]? = some (.cells #[.int .u8 k.p, .int .u16 k.x, .int .u16 mt, .int .u32 k.r, .int .u32 mh, .bool en, .string ws, .int .u64 en2] 40 (0, 0)) := ⟨_, rfl, (Below.refl _ _).alloc (Nat.le_refl _) _, heap_alloc_new _ _⟩
  obtain ⟨B, hB⟩ : ∃ B, w.heap.size = B := ⟨_, rfl⟩
  rw [hB] at hx
  have HE := hide (And.intro hW hB)
  have HB := hide hb
  have hS := h.below hb
  have HSA := hide (fun (V : World) (hV : Below W.heap.size W V) => hS.below hV)
  have HBX := hide (fun (V : World) (hV : Below W.heap.size W V) => below_block hV hx (Nat.le_refl _))
  have HSS := hide (fun (V : World) (hV : Below W.heap.size W V) => (show V.cell? ⟨B, 0, none⟩ = some (.int .u8 k.p) ∧ V.cell? ⟨B, 1, none⟩ = some (.int .u16 k.x) ∧ V.cell? ⟨B, 2, none⟩ = some (.int .u16 mt) ∧ V.cell? ⟨B, 3, none⟩ = some (.int .u32 k.r) ∧ V.cell? ⟨B, 4, none⟩ = some (.int .u32 mh) ∧ V.cell? ⟨B, 5, none⟩ = some (.bool en) ∧ V.cell? ⟨B, 6, none⟩ = some (.string ws) ∧ V.cell? ⟨B, 7, none⟩ = some (.int .u64 en2) from by
    have h1 := below_block hV hx (Nat.le_refl _)
    obtain ⟨y0, y1, y2, y3, y4, y5, y6, y7, _⟩ := C.val_cells h1
    exact ⟨y0, y1, y2, y3, y4, y5, y6, y7⟩))
  have HW0 := hide (below_drew W)
  have HBB := hide (show w.heap.size ≤ B by omega)
  have hha := fun (V : World) (hV : Below W.heap.size W V) => has_any V sp tt g up L k mt mh (HSA.out V hV)
  have hrf := fun (V : World) (hV : Below W.heap.size W V) => refusal_any V sp tt g.cs up L g.lan g.nb who k.p k.x mt k.r mh en ws en2 lease (HSA.out V hV).st h.ok.h h.ok.lan hwho
  have hfu := fun (V : World) (hV : Below W.heap.size W V) => ful_any V sp tt g up L (HSA.out V hV)
  have HFR := hide (fun (V : World) (hV : Below W.heap.size W V) => free_any V sp tt g up L k mt mh (HSA.out V hV) hL)
  have HH := hide h
  have HBD := hide (show L.length ≤ 500000 ∧ (0 ≤ lease ∧ lease ≤ 18446744073709551615) ∧ (0 ≤ now ∧ now ≤ 18446744073709551615) ∧ ws.size ≤ 1000000 from ⟨hL, hl, hn, hws⟩)
  obtain ⟨he, hhe⟩ : ∃ b, hasE L k mt mh = b := ⟨_, rfl⟩
  obtain ⟨fu, hfue⟩ : ∃ b, decide (g.mm ≤ (L.length : Int)) = b := ⟨_, rfl⟩
  obtain ⟨v2, hv2⟩ : ∃ v, refE g who k mh lease = v := ⟨_, rfl⟩
  obtain ⟨b1, hb1⟩ : ∃ b, (mt == (0 : Int)) = b := ⟨_, rfl⟩
  obtain ⟨v1, hv1⟩ : ∃ v : Int, (if b1 = true then 732 else 0) = v := ⟨_, rfl⟩
  obtain ⟨v3, hv3⟩ : ∃ v : Int, (if (fu && !he) = true then 728 else 0) = v := ⟨_, rfl⟩
  have HV1 := hide (fun V => by have h1 := when_any b1 732 V; rw [hv1] at h1; exact h1)
  have HV3 := hide (fun V => by have h1 := when_any (fu && !he) 728 V; rw [hv3] at h1; exact h1)
  obtain ⟨cd, hcd⟩ : ∃ c, nzF [v1, v2, v3] = c := ⟨_, rfl⟩
  have HRES := hide (show anyV g L who k mt mh lease = cd by unfold anyV; rw [hb1, hv1, hv2, hhe, hfue, hv3, hcd])
  have HCD := hide hcd
  unfold refE at hv2
  rw [hv2] at hrf
  rw [hhe] at hha
  rw [hfue] at hfu
  have HHA := hide hha
  have HRF := hide hrf
  have HFU := hide hfu
  clear hW hB hb hx hS h hL hwho hl hn hws hv1 hv2 hv3 hcd hha hrf hfu hhe hfue
  cases fu with
  | true =>
    go_enter Try.func24, Try.ntmps24
    go_upto_region 1 with (fail)
    rw [HE.out.1]
    try rw [HE.out.2]
    clear HE
    refine wp_region_held_drew (S := fun w' => w'.cell? ⟨B, 0, none⟩ = some (.int .u8 k.p) ∧ w'.cell? ⟨B, 1, none⟩ = some (.int .u16 k.x) ∧ w'.cell? ⟨B, 2, none⟩ = some (.int .u16 mt) ∧ w'.cell? ⟨B, 3, none⟩ = some (.int .u32 k.r) ∧ w'.cell? ⟨B, 4, none⟩ = some (.int .u32 mh) ∧ w'.cell? ⟨B, 5, none⟩ = some (.bool en) ∧ w'.cell? ⟨B, 6, none⟩ = some (.string ws) ∧ w'.cell? ⟨B, 7, none⟩ = some (.int .u64 en2)) (by kernel_rfl) (by exact HSS.out _ (Below.refl _ _).drew) (fun hHeld => ?_)
    generalize W.drew = z0 at *
    apply have_rest2 (A := fun z c => Hid (Below W.heap.size W z))
    case m =>
      intro HREST
      refine wpAnyH_take (i := 0) (oi := { dst := some 15, op := Op.fieldAddr 40 (Operand.tmp 7) 0, type := 0, pos := "maps.go:44", after := #[], guard := none }) (v := ?_) rfl (by kernel_rfl) (by kernel_rfl) (by kernel_rfl) (fun _ _ _ h => h) (Or.inl ⟨by rfl, ?_⟩) (by assumption) ?_
      rotate_left
      · intro wS hSw
        try dsimp only at hSw
        go_simp
        try with_reducible rfl
      try simp only [Act.put, List.setIfInBounds_toArray, List.set_cons_zero, List.set_cons_succ]
      refine wpAnyH_take (i := 1) (oi := { dst := some 16, op := Op.fieldAddr 38 (Operand.tmp 15) 2, type := 0, pos := "maps.go:44", after := #[{ on := 0, ground := Ground.data }], guard := none }) (v := ?_) rfl (by kernel_rfl) (by kernel_rfl) (by kernel_rfl) (fun _ _ _ h => h) (Or.inl ⟨by rfl, ?_⟩) (by assumption) ?_
      rotate_left
      · intro wS hSw
        try dsimp only at hSw
        go_simp
        try with_reducible rfl
      try simp only [Act.put, List.setIfInBounds_toArray, List.set_cons_zero, List.set_cons_succ]
      refine wpAnyH_take (i := 2) (oi := { dst := some 17, op := Op.load 36 (Operand.tmp 16), type := 36, pos := "maps.go:44", after := #[{ on := 1, ground := Ground.data }], guard := none }) (v := ?_) rfl (by kernel_rfl) (by kernel_rfl) (by kernel_rfl) (fun _ _ _ h => h) (Or.inl ⟨by rfl, ?_⟩) (by assumption) ?_
      rotate_left
      · intro wS hSw
        try dsimp only at hSw
        go_simp
        try with_reducible rfl
      try simp only [Act.put, List.setIfInBounds_toArray, List.set_cons_zero, List.set_cons_succ]
      refine wpAnyH_take (i := 3) (oi := { dst := some 18, op := Op.binOp BinOp.eql 36 (Operand.tmp 17) (Operand.const (Value.int IntKind.u16 0)) 36, type := 4, pos := "maps.go:44", after := #[{ on := 2, ground := Ground.data }], guard := none }) (v := ?_) rfl (by kernel_rfl) (by kernel_rfl) (by kernel_rfl) (fun _ _ _ h => h) (Or.inl ⟨by rfl, ?_⟩) (by assumption) ?_
      rotate_left
      · intro wS hSw
        try dsimp only at hSw
        go_simp
        try with_reducible rfl
      try simp only [Act.put, List.setIfInBounds_toArray, List.set_cons_zero, List.set_cons_succ]
      refine wpAnyH_take (i := 5) (oi := { dst := some 20, op := Op.move (Operand.tmp 0), type := 33, pos := "maps.go:44", after := #[], guard := none }) (v := ?_) rfl (by kernel_rfl) (by kernel_rfl) (by kernel_rfl) (fun _ _ _ h => h) (Or.inl ⟨by rfl, ?_⟩) (by assumption) ?_
      rotate_left
      · intro wS hSw
        try dsimp only at hSw
        go_simp
        try with_reducible rfl
      try simp only [Act.put, List.setIfInBounds_toArray, List.set_cons_zero, List.set_cons_succ]
      refine wpAnyH_take (i := 6) (oi := { dst := some 21, op := Op.move (Operand.tmp 1), type := 25, pos := "maps.go:44", after := #[], guard := none }) (v := ?_) rfl (by kernel_rfl) (by kernel_rfl) (by kernel_rfl) (fun _ _ _ h => h) (Or.inl ⟨by rfl, ?_⟩) (by assumption) ?_
      rotate_left
      · intro wS hSw
        try dsimp only at hSw
        go_simp
        try with_reducible rfl
      try simp only [Act.put, List.setIfInBounds_toArray, List.set_cons_zero, List.set_cons_succ]
      refine wpAnyH_take (i := 7) (oi := { dst := some 22, op := Op.load 40 (Operand.tmp 7), type := 40, pos := "maps.go:44", after := #[], guard := none }) (v := ?_) rfl (by kernel_rfl) (by kernel_rfl) (by kernel_rfl) (fun _ _ _ h => h) (Or.inl ⟨by rfl, ?_⟩) (by assumption) ?_
      rotate_left
      · intro wS hSw
        try dsimp only at hSw
        go_simp
        try with_reducible rfl
      try simp only [Act.put, List.setIfInBounds_toArray, List.set_cons_zero, List.set_cons_succ]
      refine wpAnyH_take (i := 8) (oi := { dst := some 23, op := Op.move (Operand.tmp 3), type := 35, pos := "maps.go:44", after := #[], guard := none }) (v := ?_) rfl (by kernel_rfl) (by kernel_rfl) (by kernel_rfl) (fun _ _ _ h => h) (Or.inl ⟨by rfl, ?_⟩) (by assumption) ?_
      rotate_left
      · intro wS hSw
        try dsimp only at hSw
        go_simp
        try with_reducible rfl
      try simp only [Act.put, List.setIfInBounds_toArray, List.set_cons_zero, List.set_cons_succ]
      refine wpAnyH_take (i := 10) (oi := { dst := some 25, op := Op.move (Operand.tmp 0), type := 33, pos := "maps.go:44", after := #[], guard := none }) (v := ?_) rfl (by kernel_rfl) (by kernel_rfl) (by kernel_rfl) (fun _ _ _ h => h) (Or.inl ⟨by rfl, ?_⟩) (by assumption) ?_
      rotate_left
      · intro wS hSw
        try dsimp only at hSw
        go_simp
        try with_reducible rfl
      try simp only [Act.put, List.setIfInBounds_toArray, List.set_cons_zero, List.set_cons_succ]
      refine wpAnyH_ready (rs := [4]) (by kernel_rfl) (by simp) ?_
      refine AllReadyH.cons (o := { dst := some 19, op := Op.call { callee := Callee.value (Operand.func 46), args := #[Operand.tmp 18, Operand.const (Value.int IntKind.i64 732)], argTypes := #[4, 3] }, type := 3, pos := "maps.go:45", after := #[{ on := 3, ground := Ground.data }], guard := none }) rfl (fun K hK => ?_) ?_
      ·
        go_simp
        go_at_call 46
        refine (HV1.out _).mono ?_
        rintro e w1 ⟨rfl, hq⟩
        obtain rfl := hq.symm
        refine hK.out _ _ (HSS.out _ HW0.out) (fun hHeld1 => ?_)
        clear hK K
        try simp only [Act.put, List.setIfInBounds_toArray, List.set_cons_zero, List.set_cons_succ]
        refine wpAnyH_ready (rs := [9]) (by kernel_rfl) (by simp) ?_
        refine AllReadyH.cons (o := { dst := some 24, op := Op.call { callee := Callee.value (Operand.func 47), args := #[Operand.tmp 20, Operand.tmp 21, Operand.tmp 22, Operand.tmp 23], argTypes := #[33, 25, 40, 35] }, type := 3, pos := "maps.go:46", after := #[{ on := 5, ground := Ground.data }, { on := 6, ground := Ground.data }, { on := 7, ground := Ground.data }, { on := 8, ground := Ground.data }, { on := 4, ground := Ground.chain }], guard := none }) rfl (fun K hK => ?_) ?_
        ·
          go_simp
          go_at_call 47
          refine (HRF.out _ HW0.out).mono ?_
          rintro e z2 ⟨rfl, b9⟩
          have HH2 := hide (HW0.out.trans (b9.mono HW0.out.size))
          clear b9
          refine hK.out _ _ (HSS.out _ HH2.out) (fun hHeld2 => ?_)
          clear hK K
          try simp only [Act.put, List.setIfInBounds_toArray, List.set_cons_zero, List.set_cons_succ]
          refine wpAnyH_ready (rs := [11]) (by kernel_rfl) (by simp) ?_
          refine AllReadyH.cons (o := { dst := some 26, op := Op.call { callee := Callee.value (Operand.func 55), args := #[Operand.tmp 25], argTypes := #[33] }, type := 4, pos := "maps.go:47", after := #[{ on := 10, ground := Ground.data }, { on := 9, ground := Ground.chain }], guard := none }) rfl (fun K hK => ?_) ?_
          ·
            go_simp
            go_at_call 55
            refine (HFU.out _ HH2.out).mono ?_
            rintro e z3 ⟨rfl, b9⟩
            have HH3 := hide (HH2.out.trans (b9.mono HH2.out.size))
            clear b9
            refine hK.out _ _ (HSS.out _ HH3.out) (fun hHeld3 => ?_)
            clear hK K
            try simp only [Act.put, List.setIfInBounds_toArray, List.set_cons_zero, List.set_cons_succ]
            refine wpAnyH_take (i := 12) (oi := { dst := some 27, op := Op.move (Operand.tmp 26), type := 4, pos := "maps.go:44", after := #[{ on := 11, ground := Ground.data }, { on := 11, ground := Ground.chain }], guard := none }) (v := ?_) rfl (by kernel_rfl) (by kernel_rfl) (by kernel_rfl) (fun _ _ _ h => h) (Or.inl ⟨by rfl, ?_⟩) (by assumption) ?_
            rotate_left
            · intro wS hSw
              try dsimp only at hSw
              go_simp
              try with_reducible rfl
            try simp only [Act.put, List.setIfInBounds_toArray, List.set_cons_zero, List.set_cons_succ]
            refine wpAnyH_take (i := 13) (oi := { dst := some 28, op := Op.move (Operand.tmp 0), type := 33, pos := "maps.go:44", after := #[{ on := 12, ground := Ground.guard }], guard := some (12, true) }) (v := ?_) rfl (by kernel_rfl) (by kernel_rfl) (by kernel_rfl) (fun _ _ _ h => h) (Or.inl ⟨by rfl, ?_⟩) (by assumption) ?_
            rotate_left
            · intro wS hSw
              try dsimp only at hSw
              go_simp
              try with_reducible rfl
            try simp only [Act.put, List.setIfInBounds_toArray, List.set_cons_zero, List.set_cons_succ]
            refine wpAnyH_take (i := 14) (oi := { dst := some 29, op := Op.fieldAddr 40 (Operand.tmp 7) 0, type := 0, pos := "maps.go:44", after := #[{ on := 12, ground := Ground.guard }], guard := some (12, true) }) (v := ?_) rfl (by kernel_rfl) (by kernel_rfl) (by kernel_rfl) (fun _ _ _ h => h) (Or.inl ⟨by rfl, ?_⟩) (by assumption) ?_
            rotate_left
            · intro wS hSw
              try dsimp only at hSw
              go_simp
              try with_reducible rfl
            try simp only [Act.put, List.setIfInBounds_toArray, List.set_cons_zero, List.set_cons_succ]
            refine wpAnyH_take (i := 15) (oi := { dst := some 30, op := Op.load 38 (Operand.tmp 29), type := 38, pos := "maps.go:44", after := #[{ on := 14, ground := Ground.data }, { on := 12, ground := Ground.guard }], guard := some (12, true) }) (v := ?_) rfl (by kernel_rfl) (by kernel_rfl) (by kernel_rfl) (fun _ _ _ h => h) (Or.inl ⟨by rfl, ?_⟩) (by assumption) ?_
            rotate_left
            · intro wS hSw
              try dsimp only at hSw
              go_simp
              try with_reducible rfl
            try simp only [Act.put, List.setIfInBounds_toArray, List.set_cons_zero, List.set_cons_succ]
            refine wpAnyH_ready (rs := [16]) (by kernel_rfl) (by simp) ?_
            refine AllReadyH.cons (o := { dst := some 31, op := Op.call { callee := Callee.value (Operand.func 56), args := #[Operand.tmp 28, Operand.tmp 30], argTypes := #[33, 38] }, type := 4, pos := "maps.go:47", after := #[{ on := 13, ground := Ground.data }, { on := 15, ground := Ground.data }, { on := 12, ground := Ground.chain }, { on := 12, ground := Ground.guard }], guard := some (12, true) }) rfl (fun K hK => ?_) ?_
            ·
              go_simp
              go_at_call 56
              refine (HHA.out _ HH3.out).mono ?_
              rintro e z4 ⟨rfl, b9⟩
              have HH4 := hide (HH3.out.trans (b9.mono HH3.out.size))
              clear b9
              refine hK.out _ _ (HSS.out _ HH4.out) (fun hHeld4 => ?_)
              clear hK K
              try simp only [Act.put, List.setIfInBounds_toArray, List.set_cons_zero, List.set_cons_succ]
              refine wpAnyH_take (i := 17) (oi := { dst := some 32, op := Op.unOp UnOp.not 4 (Operand.tmp 31), type := 4, pos := "maps.go:44", after := #[{ on := 16, ground := Ground.data }, { on := 12, ground := Ground.guard }], guard := some (12, true) }) (v := ?_) rfl (by kernel_rfl) (by kernel_rfl) (by kernel_rfl) (fun _ _ _ h => h) (Or.inl ⟨by rfl, ?_⟩) (by assumption) ?_
              rotate_left
              · intro wS hSw
                try dsimp only at hSw
                go_simp
                try with_reducible rfl
              try simp only [Act.put, List.setIfInBounds_toArray, List.set_cons_zero, List.set_cons_succ]
              refine wpAnyH_take (i := 18) (oi := { dst := some 33, op := Op.pick (Operand.tmp 27) (Operand.tmp 32) (Operand.const (Value.bool false)), type := 4, pos := "maps.go:44", after := #[{ on := 12, ground := Ground.data }, { on := 17, ground := Ground.data }], guard := none }) (v := ?_) rfl (by kernel_rfl) (by kernel_rfl) (by kernel_rfl) (fun _ _ _ h => h) (Or.inl ⟨by rfl, ?_⟩) (by assumption) ?_
              rotate_left
              · intro wS hSw
                try dsimp only at hSw
                go_simp
                try with_reducible rfl
              try simp only [Act.put, List.setIfInBounds_toArray, List.set_cons_zero, List.set_cons_succ]
              refine wpAnyH_ready (rs := [19]) (by kernel_rfl) (by simp) ?_
              refine AllReadyH.cons (o := { dst := some 34, op := Op.call { callee := Callee.value (Operand.func 46), args := #[Operand.tmp 33, Operand.const (Value.int IntKind.i64 728)], argTypes := #[4, 3] }, type := 3, pos := "maps.go:47", after := #[{ on := 18, ground := Ground.data }, { on := 16, ground := Ground.chain }], guard := none }) rfl (fun K hK => ?_) ?_
              ·
                go_simp
                go_at_call 46
                refine (HV3.out _).mono ?_
                rintro e w5 ⟨rfl, hq⟩
                obtain rfl := hq.symm
                refine hK.out _ _ (HSS.out _ HH4.out) (fun hHeld5 => ?_)
                clear hK K
                try simp only [Act.put, List.setIfInBounds_toArray, List.set_cons_zero, List.set_cons_succ]
                refine wpAnyH_ready (rs := [20]) (by kernel_rfl) (by simp) ?_
                refine AllReadyH.cons (o := { dst := some 35, op := Op.buildSlice 115 3 #[(0, Operand.tmp 19), (1, Operand.tmp 24), (2, Operand.tmp 34)], type := 115, pos := "maps.go:44", after := #[{ on := 4, ground := Ground.data }, { on := 9, ground := Ground.data }, { on := 19, ground := Ground.data }], guard := none }) rfl (fun K hK => ?_) AllReadyH.nil
                go_simp
                refine hK.out _ _ (HSS.out _ (HH4.out.alloc HH4.out.size _)) (fun hHeld6 => ?_)
                clear hK K
                try simp only [Act.put, List.setIfInBounds_toArray, List.set_cons_zero, List.set_cons_succ]
                refine wpAnyH_ready (rs := [21]) (by kernel_rfl) (by simp) ?_
                refine AllReadyH.cons (o := { dst := some 36, op := Op.call { callee := Callee.value (Operand.func 45), args := #[Operand.tmp 35], argTypes := #[115] }, type := 3, pos := "maps.go:44", after := #[{ on := 20, ground := Ground.data }, { on := 19, ground := Ground.chain }], guard := none }) rfl (fun K hK => ?_) AllReadyH.nil
                go_simp
                go_at_call 45
                refine (or3 _ _ _ _).mono ?_
                rintro e w7 ⟨rfl, hw9⟩
                have HHF := hide (show Below W.heap.size W w7 by rw [hw9]; exact HH4.out.alloc HH4.out.size _)
                clear hw9
                refine hK.out _ _ (HSS.out _ HHF.out) (fun hHeld7 => ?_)
                clear hK K
                try simp only [Act.put, List.setIfInBounds_toArray, List.set_cons_zero, List.set_cons_succ]
                refine wpAnyH_take (i := 22) (oi := { dst := some 12, op := Op.assign (Operand.tmp 36), type := 3, pos := "maps.go:44", after := #[{ on := 21, ground := Ground.data }, { on := 21, ground := Ground.chain }, { on := 0, ground := Ground.phase }, { on := 1, ground := Ground.phase }, { on := 2, ground := Ground.phase }, { on := 3, ground := Ground.phase }, { on := 4, ground := Ground.phase }, { on := 5, ground := Ground.phase }, { on := 6, ground := Ground.phase }, { on := 7, ground := Ground.phase }, { on := 8, ground := Ground.phase }, { on := 9, ground := Ground.phase }, { on := 10, ground := Ground.phase }, { on := 11, ground := Ground.phase }, { on := 12, ground := Ground.phase }, { on := 13, ground := Ground.phase }, { on := 14, ground := Ground.phase }, { on := 15, ground := Ground.phase }, { on := 16, ground := Ground.phase }, { on := 17, ground := Ground.phase }, { on := 18, ground := Ground.phase }, { on := 19, ground := Ground.phase }, { on := 20, ground := Ground.phase }, { on := 21, ground := Ground.phase }], guard := none }) (v := ?_) rfl (by kernel_rfl) (by kernel_rfl) (by kernel_rfl) (fun _ _ _ h => h) (Or.inl ⟨by rfl, ?_⟩) (by assumption) ?_
                rotate_left
                · intro wS hSw
                  try dsimp only at hSw
                  go_simp
                  try with_reducible rfl
                try simp only [Act.put, List.setIfInBounds_toArray, List.set_cons_zero, List.set_cons_succ]
                refine wpAnyH_done (by kernel_rfl) ?_ _
                obtain ⟨sz, hsz⟩ : ∃ c, z4.heap.size = c := ⟨_, rfl⟩
                rw [hsz]
                exact HREST _ sz HHF
              exact AllReadyH.nil
            exact AllReadyH.nil
          exact AllReadyH.nil
        exact AllReadyH.nil
      exact AllReadyH.nil
    case r =>
      intro z sz HZ
      rw [HCD.out]
      obtain ⟨x0, x1, x2, x3, x4, x5, x6, x7⟩ := HSS.out z HZ.out
      have hfz := frozen_of_row z B 1 _ _ (HBX.out z HZ.out)
      by_cases hc : cd = 0
      · have hd : (cd != (0 : Int)) = false := by simpa using hc
        have HC := hide (HRES.out.trans hc)
        clear hc
        go_wp2_with fail
        refine (HFR.out _ HZ.out).mono ?_
        rintro e z2 ⟨hfr, b2⟩
        have HZ2 := hide (HZ.out.trans (b2.mono HZ.out.size))
        have hx2 := HBX.out z2 HZ2.out
        obtain ⟨y0, y1, y2, y3, y4, y5, y6, y7, yf⟩ := C.val_cells hx2
        have HX2 := hide hx2
        have hfp : (∃ p : Nat, FreeIs g L k mt mh p ∧ p ≤ 65535 ∧ e = .returned (.tuple #[.int .u16 (p : Int), .bool true])) ∨ (FreeNo g L k mt mh ∧ e = .returned (.tuple #[.int .u16 0, .bool false])) := free_ans hfr
        clear b2 hx2 hfr x0 x1 x2 x3 x4 x5 x6 x7 HFR hfz
        rcases hfp with ⟨p, hp, hp2, rfl⟩ | ⟨hno, rfl⟩
        · have HP := hide hp
          have HP2 := hide hp2
          obtain ⟨V, hV, hv, hb2⟩ : ∃ V, z2.setCell ⟨B, 1, none⟩ (.int .u16 (p : Int)) = V ∧ V.heap[B]? = some (.cells #[.int .u8 k.p, .int .u16 (p : Int), .int .u16 mt, .int .u32 k.r, .int .u32 mh, .bool en, .string ws, .int .u64 en2] 40 (0, 0)) ∧ Below w.heap.size w V := ⟨_, rfl, heap_setCell_same _ _ 1 _ _ _ HX2.out, (HB.out.trans (HZ2.out.mono HB.out.size)).setCell (p := ⟨B, 1, none⟩) HBB.out _⟩
          have HV := hide hV
          have HB2 := hide hb2
          have HSV := hide (HH.out.below hb2)
          have hpu := mput_any V sp tt g.cs up L (setX k p hp2) (mkE (setX k p hp2) mt mh en ws en2) lease now ⟨rfl, rfl, rfl⟩ HSV.out.st HBD.out.1 HBD.out.2.1 HBD.out.2.2.1 (fun Z => clone_any2 ws Z (by have := HBD.out.2.2.2; omega))
          unfold mkE setX at hpu
          dsimp only at hpu
          have HPU := hide hpu
          have HVX := hide hv
          clear hV hb2 hp hpu hv
          go_wp2_with fail
          go_upto_region 8 with (fail)
          rw [HV.out]
          clear y0 y1 y2 y3 y4 y5 y6 y7 yf
          obtain ⟨r0, r1, r2, r3, r4, r5, r6, r7, rf⟩ := C.val_cells HVX.out
          go_wp2_with fail
          with_reducible refine HPU.out.mono ?_
          rintro e z3 ⟨⟨v, rfl⟩, hs, ho⟩
          have HS3 := hide (HSV.out.only hs ho)
          have HO3 := hide ((OnlyS.of HB2.out).tr ho)
          clear hs ho HPU r0 r1 r2 r3 r4 r5 r6 r7 rf
          go_wp2_with fail
          go_ret2
          exact .inr (.inl ⟨HC.out, p, HP2.out, HP.out, rfl, HS3.out, HO3.out⟩)
        · have HNO := hide hno
          clear hno y0 y1 y2 y3 y4 y5 y6 y7 yf
          go_wp2_with fail
          go_ret2
          exact .inr (.inr ⟨HC.out, HNO.out, rfl, HSA.out _ HZ2.out, OnlyS.of (HB.out.trans (HZ2.out.mono HB.out.size))⟩)
      · have hd : (cd != (0 : Int)) = true := by simpa using hc
        have HC := hide hc
        clear hc x0 x1 x2 x3 x4 x5 x6 x7 hfz
        go_wp2_with fail
        go_ret2
        exact .inl ⟨by rw [HRES.out]; exact HC.out, by rw [HRES.out]; rfl, HSA.out z HZ.out, OnlyS.of (HB.out.trans (HZ.out.mono HB.out.size))⟩
  | false =>
    go_enter Try.func24, Try.ntmps24
    go_upto_region 1 with (fail)
    rw [HE.out.1]
    try rw [HE.out.2]
    clear HE
    refine wp_region_held_drew (S := fun w' => w'.cell? ⟨B, 0, none⟩ = some (.int .u8 k.p) ∧ w'.cell? ⟨B, 1, none⟩ = some (.int .u16 k.x) ∧ w'.cell? ⟨B, 2, none⟩ = some (.int .u16 mt) ∧ w'.cell? ⟨B, 3, none⟩ = some (.int .u32 k.r) ∧ w'.cell? ⟨B, 4, none⟩ = some (.int .u32 mh) ∧ w'.cell? ⟨B, 5, none⟩ = some (.bool en) ∧ w'.cell? ⟨B, 6, none⟩ = some (.string ws) ∧ w'.cell? ⟨B, 7, none⟩ = some (.int .u64 en2)) (by kernel_rfl) (by exact HSS.out _ (Below.refl _ _).drew) (fun hHeld => ?_)
    generalize W.drew = z0 at *
    apply have_rest2 (A := fun z c => Hid (Below W.heap.size W z))
    case m =>
      intro HREST
      refine wpAnyH_take (i := 0) (oi := { dst := some 15, op := Op.fieldAddr 40 (Operand.tmp 7) 0, type := 0, pos := "maps.go:44", after := #[], guard := none }) (v := ?_) rfl (by kernel_rfl) (by kernel_rfl) (by kernel_rfl) (fun _ _ _ h => h) (Or.inl ⟨by rfl, ?_⟩) (by assumption) ?_
      rotate_left
      · intro wS hSw
        try dsimp only at hSw
        go_simp
        try with_reducible rfl
      try simp only [Act.put, List.setIfInBounds_toArray, List.set_cons_zero, List.set_cons_succ]
      refine wpAnyH_take (i := 1) (oi := { dst := some 16, op := Op.fieldAddr 38 (Operand.tmp 15) 2, type := 0, pos := "maps.go:44", after := #[{ on := 0, ground := Ground.data }], guard := none }) (v := ?_) rfl (by kernel_rfl) (by kernel_rfl) (by kernel_rfl) (fun _ _ _ h => h) (Or.inl ⟨by rfl, ?_⟩) (by assumption) ?_
      rotate_left
      · intro wS hSw
        try dsimp only at hSw
        go_simp
        try with_reducible rfl
      try simp only [Act.put, List.setIfInBounds_toArray, List.set_cons_zero, List.set_cons_succ]
      refine wpAnyH_take (i := 2) (oi := { dst := some 17, op := Op.load 36 (Operand.tmp 16), type := 36, pos := "maps.go:44", after := #[{ on := 1, ground := Ground.data }], guard := none }) (v := ?_) rfl (by kernel_rfl) (by kernel_rfl) (by kernel_rfl) (fun _ _ _ h => h) (Or.inl ⟨by rfl, ?_⟩) (by assumption) ?_
      rotate_left
      · intro wS hSw
        try dsimp only at hSw
        go_simp
        try with_reducible rfl
      try simp only [Act.put, List.setIfInBounds_toArray, List.set_cons_zero, List.set_cons_succ]
      refine wpAnyH_take (i := 3) (oi := { dst := some 18, op := Op.binOp BinOp.eql 36 (Operand.tmp 17) (Operand.const (Value.int IntKind.u16 0)) 36, type := 4, pos := "maps.go:44", after := #[{ on := 2, ground := Ground.data }], guard := none }) (v := ?_) rfl (by kernel_rfl) (by kernel_rfl) (by kernel_rfl) (fun _ _ _ h => h) (Or.inl ⟨by rfl, ?_⟩) (by assumption) ?_
      rotate_left
      · intro wS hSw
        try dsimp only at hSw
        go_simp
        try with_reducible rfl
      try simp only [Act.put, List.setIfInBounds_toArray, List.set_cons_zero, List.set_cons_succ]
      refine wpAnyH_take (i := 5) (oi := { dst := some 20, op := Op.move (Operand.tmp 0), type := 33, pos := "maps.go:44", after := #[], guard := none }) (v := ?_) rfl (by kernel_rfl) (by kernel_rfl) (by kernel_rfl) (fun _ _ _ h => h) (Or.inl ⟨by rfl, ?_⟩) (by assumption) ?_
      rotate_left
      · intro wS hSw
        try dsimp only at hSw
        go_simp
        try with_reducible rfl
      try simp only [Act.put, List.setIfInBounds_toArray, List.set_cons_zero, List.set_cons_succ]
      refine wpAnyH_take (i := 6) (oi := { dst := some 21, op := Op.move (Operand.tmp 1), type := 25, pos := "maps.go:44", after := #[], guard := none }) (v := ?_) rfl (by kernel_rfl) (by kernel_rfl) (by kernel_rfl) (fun _ _ _ h => h) (Or.inl ⟨by rfl, ?_⟩) (by assumption) ?_
      rotate_left
      · intro wS hSw
        try dsimp only at hSw
        go_simp
        try with_reducible rfl
      try simp only [Act.put, List.setIfInBounds_toArray, List.set_cons_zero, List.set_cons_succ]
      refine wpAnyH_take (i := 7) (oi := { dst := some 22, op := Op.load 40 (Operand.tmp 7), type := 40, pos := "maps.go:44", after := #[], guard := none }) (v := ?_) rfl (by kernel_rfl) (by kernel_rfl) (by kernel_rfl) (fun _ _ _ h => h) (Or.inl ⟨by rfl, ?_⟩) (by assumption) ?_
      rotate_left
      · intro wS hSw
        try dsimp only at hSw
        go_simp
        try with_reducible rfl
      try simp only [Act.put, List.setIfInBounds_toArray, List.set_cons_zero, List.set_cons_succ]
      refine wpAnyH_take (i := 8) (oi := { dst := some 23, op := Op.move (Operand.tmp 3), type := 35, pos := "maps.go:44", after := #[], guard := none }) (v := ?_) rfl (by kernel_rfl) (by kernel_rfl) (by kernel_rfl) (fun _ _ _ h => h) (Or.inl ⟨by rfl, ?_⟩) (by assumption) ?_
      rotate_left
      · intro wS hSw
        try dsimp only at hSw
        go_simp
        try with_reducible rfl
      try simp only [Act.put, List.setIfInBounds_toArray, List.set_cons_zero, List.set_cons_succ]
      refine wpAnyH_take (i := 10) (oi := { dst := some 25, op := Op.move (Operand.tmp 0), type := 33, pos := "maps.go:44", after := #[], guard := none }) (v := ?_) rfl (by kernel_rfl) (by kernel_rfl) (by kernel_rfl) (fun _ _ _ h => h) (Or.inl ⟨by rfl, ?_⟩) (by assumption) ?_
      rotate_left
      · intro wS hSw
        try dsimp only at hSw
        go_simp
        try with_reducible rfl
      try simp only [Act.put, List.setIfInBounds_toArray, List.set_cons_zero, List.set_cons_succ]
      refine wpAnyH_ready (rs := [4]) (by kernel_rfl) (by simp) ?_
      refine AllReadyH.cons (o := { dst := some 19, op := Op.call { callee := Callee.value (Operand.func 46), args := #[Operand.tmp 18, Operand.const (Value.int IntKind.i64 732)], argTypes := #[4, 3] }, type := 3, pos := "maps.go:45", after := #[{ on := 3, ground := Ground.data }], guard := none }) rfl (fun K hK => ?_) ?_
      ·
        go_simp
        go_at_call 46
        refine (HV1.out _).mono ?_
        rintro e w1 ⟨rfl, hq⟩
        obtain rfl := hq.symm
        refine hK.out _ _ (HSS.out _ HW0.out) (fun hHeld1 => ?_)
        clear hK K
        try simp only [Act.put, List.setIfInBounds_toArray, List.set_cons_zero, List.set_cons_succ]
        refine wpAnyH_ready (rs := [9]) (by kernel_rfl) (by simp) ?_
        refine AllReadyH.cons (o := { dst := some 24, op := Op.call { callee := Callee.value (Operand.func 47), args := #[Operand.tmp 20, Operand.tmp 21, Operand.tmp 22, Operand.tmp 23], argTypes := #[33, 25, 40, 35] }, type := 3, pos := "maps.go:46", after := #[{ on := 5, ground := Ground.data }, { on := 6, ground := Ground.data }, { on := 7, ground := Ground.data }, { on := 8, ground := Ground.data }, { on := 4, ground := Ground.chain }], guard := none }) rfl (fun K hK => ?_) ?_
        ·
          go_simp
          go_at_call 47
          refine (HRF.out _ HW0.out).mono ?_
          rintro e z2 ⟨rfl, b9⟩
          have HH2 := hide (HW0.out.trans (b9.mono HW0.out.size))
          clear b9
          refine hK.out _ _ (HSS.out _ HH2.out) (fun hHeld2 => ?_)
          clear hK K
          try simp only [Act.put, List.setIfInBounds_toArray, List.set_cons_zero, List.set_cons_succ]
          refine wpAnyH_ready (rs := [11]) (by kernel_rfl) (by simp) ?_
          refine AllReadyH.cons (o := { dst := some 26, op := Op.call { callee := Callee.value (Operand.func 55), args := #[Operand.tmp 25], argTypes := #[33] }, type := 4, pos := "maps.go:47", after := #[{ on := 10, ground := Ground.data }, { on := 9, ground := Ground.chain }], guard := none }) rfl (fun K hK => ?_) ?_
          ·
            go_simp
            go_at_call 55
            refine (HFU.out _ HH2.out).mono ?_
            rintro e z3 ⟨rfl, b9⟩
            have HH3 := hide (HH2.out.trans (b9.mono HH2.out.size))
            clear b9
            refine hK.out _ _ (HSS.out _ HH3.out) (fun hHeld3 => ?_)
            clear hK K
            try simp only [Act.put, List.setIfInBounds_toArray, List.set_cons_zero, List.set_cons_succ]
            refine wpAnyH_take (i := 12) (oi := { dst := some 27, op := Op.move (Operand.tmp 26), type := 4, pos := "maps.go:44", after := #[{ on := 11, ground := Ground.data }, { on := 11, ground := Ground.chain }], guard := none }) (v := ?_) rfl (by kernel_rfl) (by kernel_rfl) (by kernel_rfl) (fun _ _ _ h => h) (Or.inl ⟨by rfl, ?_⟩) (by assumption) ?_
            rotate_left
            · intro wS hSw
              try dsimp only at hSw
              go_simp
              try with_reducible rfl
            try simp only [Act.put, List.setIfInBounds_toArray, List.set_cons_zero, List.set_cons_succ]
            refine wpAnyH_take (i := 13) (oi := { dst := some 28, op := Op.move (Operand.tmp 0), type := 33, pos := "maps.go:44", after := #[{ on := 12, ground := Ground.guard }], guard := some (12, true) }) (v := undef) rfl (by kernel_rfl) (by kernel_rfl) (by kernel_rfl) (fun _ _ _ h => h) (Or.inr ⟨by rfl, rfl⟩) (by assumption) ?_
            try simp only [Act.put, List.setIfInBounds_toArray, List.set_cons_zero, List.set_cons_succ]
            refine wpAnyH_take (i := 14) (oi := { dst := some 29, op := Op.fieldAddr 40 (Operand.tmp 7) 0, type := 0, pos := "maps.go:44", after := #[{ on := 12, ground := Ground.guard }], guard := some (12, true) }) (v := undef) rfl (by kernel_rfl) (by kernel_rfl) (by kernel_rfl) (fun _ _ _ h => h) (Or.inr ⟨by rfl, rfl⟩) (by assumption) ?_
            try simp only [Act.put, List.setIfInBounds_toArray, List.set_cons_zero, List.set_cons_succ]
            refine wpAnyH_take (i := 15) (oi := { dst := some 30, op := Op.load 38 (Operand.tmp 29), type := 38, pos := "maps.go:44", after := #[{ on := 14, ground := Ground.data }, { on := 12, ground := Ground.guard }], guard := some (12, true) }) (v := undef) rfl (by kernel_rfl) (by kernel_rfl) (by kernel_rfl) (fun _ _ _ h => h) (Or.inr ⟨by rfl, rfl⟩) (by assumption) ?_
            try simp only [Act.put, List.setIfInBounds_toArray, List.set_cons_zero, List.set_cons_succ]
            refine wpAnyH_take (i := 16) (oi := { dst := some 31, op := Op.call { callee := Callee.value (Operand.func 56), args := #[Operand.tmp 28, Operand.tmp 30], argTypes := #[33, 38] }, type := 4, pos := "maps.go:47", after := #[{ on := 13, ground := Ground.data }, { on := 15, ground := Ground.data }, { on := 12, ground := Ground.chain }, { on := 12, ground := Ground.guard }], guard := some (12, true) }) (v := undef) rfl (by kernel_rfl) (by kernel_rfl) (by kernel_rfl) (fun _ _ _ h => h) (Or.inr ⟨by rfl, rfl⟩) (by assumption) ?_
            try simp only [Act.put, List.setIfInBounds_toArray, List.set_cons_zero, List.set_cons_succ]
            refine wpAnyH_take (i := 17) (oi := { dst := some 32, op := Op.unOp UnOp.not 4 (Operand.tmp 31), type := 4, pos := "maps.go:44", after := #[{ on := 16, ground := Ground.data }, { on := 12, ground := Ground.guard }], guard := some (12, true) }) (v := undef) rfl (by kernel_rfl) (by kernel_rfl) (by kernel_rfl) (fun _ _ _ h => h) (Or.inr ⟨by rfl, rfl⟩) (by assumption) ?_
            try simp only [Act.put, List.setIfInBounds_toArray, List.set_cons_zero, List.set_cons_succ]
            refine wpAnyH_take (i := 18) (oi := { dst := some 33, op := Op.pick (Operand.tmp 27) (Operand.tmp 32) (Operand.const (Value.bool false)), type := 4, pos := "maps.go:44", after := #[{ on := 12, ground := Ground.data }, { on := 17, ground := Ground.data }], guard := none }) (v := ?_) rfl (by kernel_rfl) (by kernel_rfl) (by kernel_rfl) (fun _ _ _ h => h) (Or.inl ⟨by rfl, ?_⟩) (by assumption) ?_
            rotate_left
            · intro wS hSw
              try dsimp only at hSw
              go_simp
              try with_reducible rfl
            try simp only [Act.put, List.setIfInBounds_toArray, List.set_cons_zero, List.set_cons_succ]
            refine wpAnyH_ready (rs := [19]) (by kernel_rfl) (by simp) ?_
            refine AllReadyH.cons (o := { dst := some 34, op := Op.call { callee := Callee.value (Operand.func 46), args := #[Operand.tmp 33, Operand.const (Value.int IntKind.i64 728)], argTypes := #[4, 3] }, type := 3, pos := "maps.go:47", after := #[{ on := 18, ground := Ground.data }, { on := 16, ground := Ground.chain }], guard := none }) rfl (fun K hK => ?_) ?_
            ·
              go_simp
              go_at_call 46
              refine (HV3.out _).mono ?_
              rintro e w4 ⟨rfl, hq⟩
              obtain rfl := hq.symm
              refine hK.out _ _ (HSS.out _ HH3.out) (fun hHeld4 => ?_)
              clear hK K
              try simp only [Act.put, List.setIfInBounds_toArray, List.set_cons_zero, List.set_cons_succ]
              refine wpAnyH_ready (rs := [20]) (by kernel_rfl) (by simp) ?_
              refine AllReadyH.cons (o := { dst := some 35, op := Op.buildSlice 115 3 #[(0, Operand.tmp 19), (1, Operand.tmp 24), (2, Operand.tmp 34)], type := 115, pos := "maps.go:44", after := #[{ on := 4, ground := Ground.data }, { on := 9, ground := Ground.data }, { on := 19, ground := Ground.data }], guard := none }) rfl (fun K hK => ?_) AllReadyH.nil
              go_simp
              refine hK.out _ _ (HSS.out _ (HH3.out.alloc HH3.out.size _)) (fun hHeld5 => ?_)
              clear hK K
              try simp only [Act.put, List.setIfInBounds_toArray, List.set_cons_zero, List.set_cons_succ]
              refine wpAnyH_ready (rs := [21]) (by kernel_rfl) (by simp) ?_
              refine AllReadyH.cons (o := { dst := some 36, op := Op.call { callee := Callee.value (Operand.func 45), args := #[Operand.tmp 35], argTypes := #[115] }, type := 3, pos := "maps.go:44", after := #[{ on := 20, ground := Ground.data }, { on := 19, ground := Ground.chain }], guard := none }) rfl (fun K hK => ?_) AllReadyH.nil
              go_simp
              go_at_call 45
              refine (or3 _ _ _ _).mono ?_
              rintro e w6 ⟨rfl, hw9⟩
              have HHF := hide (show Below W.heap.size W w6 by rw [hw9]; exact HH3.out.alloc HH3.out.size _)
              clear hw9
              refine hK.out _ _ (HSS.out _ HHF.out) (fun hHeld6 => ?_)
              clear hK K
              try simp only [Act.put, List.setIfInBounds_toArray, List.set_cons_zero, List.set_cons_succ]
              refine wpAnyH_take (i := 22) (oi := { dst := some 12, op := Op.assign (Operand.tmp 36), type := 3, pos := "maps.go:44", after := #[{ on := 21, ground := Ground.data }, { on := 21, ground := Ground.chain }, { on := 0, ground := Ground.phase }, { on := 1, ground := Ground.phase }, { on := 2, ground := Ground.phase }, { on := 3, ground := Ground.phase }, { on := 4, ground := Ground.phase }, { on := 5, ground := Ground.phase }, { on := 6, ground := Ground.phase }, { on := 7, ground := Ground.phase }, { on := 8, ground := Ground.phase }, { on := 9, ground := Ground.phase }, { on := 10, ground := Ground.phase }, { on := 11, ground := Ground.phase }, { on := 12, ground := Ground.phase }, { on := 13, ground := Ground.phase }, { on := 14, ground := Ground.phase }, { on := 15, ground := Ground.phase }, { on := 16, ground := Ground.phase }, { on := 17, ground := Ground.phase }, { on := 18, ground := Ground.phase }, { on := 19, ground := Ground.phase }, { on := 20, ground := Ground.phase }, { on := 21, ground := Ground.phase }], guard := none }) (v := ?_) rfl (by kernel_rfl) (by kernel_rfl) (by kernel_rfl) (fun _ _ _ h => h) (Or.inl ⟨by rfl, ?_⟩) (by assumption) ?_
              rotate_left
              · intro wS hSw
                try dsimp only at hSw
                go_simp
                try with_reducible rfl
              try simp only [Act.put, List.setIfInBounds_toArray, List.set_cons_zero, List.set_cons_succ]
              refine wpAnyH_done (by kernel_rfl) ?_ _
              obtain ⟨sz, hsz⟩ : ∃ c, z3.heap.size = c := ⟨_, rfl⟩
              rw [hsz]
              exact HREST _ sz HHF
            exact AllReadyH.nil
          exact AllReadyH.nil
        exact AllReadyH.nil
      exact AllReadyH.nil
    case r =>
      intro z sz HZ
      rw [HCD.out]
      obtain ⟨x0, x1, x2, x3, x4, x5, x6, x7⟩ := HSS.out z HZ.out
      have hfz := frozen_of_row z B 1 _ _ (HBX.out z HZ.out)
      by_cases hc : cd = 0
      · have hd : (cd != (0 : Int)) = false := by simpa using hc
        have HC := hide (HRES.out.trans hc)
        clear hc
        go_wp2_with fail
        refine (HFR.out _ HZ.out).mono ?_
        rintro e z2 ⟨hfr, b2⟩
        have HZ2 := hide (HZ.out.trans (b2.mono HZ.out.size))
        have hx2 := HBX.out z2 HZ2.out
        obtain ⟨y0, y1, y2, y3, y4, y5, y6, y7, yf⟩ := C.val_cells hx2
        have HX2 := hide hx2
        have hfp : (∃ p : Nat, FreeIs g L k mt mh p ∧ p ≤ 65535 ∧ e = .returned (.tuple #[.int .u16 (p : Int), .bool true])) ∨ (FreeNo g L k mt mh ∧ e = .returned (.tuple #[.int .u16 0, .bool false])) := free_ans hfr
        clear b2 hx2 hfr x0 x1 x2 x3 x4 x5 x6 x7 HFR hfz
        rcases hfp with ⟨p, hp, hp2, rfl⟩ | ⟨hno, rfl⟩
        · have HP := hide hp
          have HP2 := hide hp2
          obtain ⟨V, hV, hv, hb2⟩ : ∃ V, z2.setCell ⟨B, 1, none⟩ (.int .u16 (p : Int)) = V ∧ V.heap[B]? = some (.cells #[.int .u8 k.p, .int .u16 (p : Int), .int .u16 mt, .int .u32 k.r, .int .u32 mh, .bool en, .string ws, .int .u64 en2] 40 (0, 0)) ∧ Below w.heap.size w V := ⟨_, rfl, heap_setCell_same _ _ 1 _ _ _ HX2.out, (HB.out.trans (HZ2.out.mono HB.out.size)).setCell (p := ⟨B, 1, none⟩) HBB.out _⟩
          have HV := hide hV
          have HB2 := hide hb2
          have HSV := hide (HH.out.below hb2)
          have hpu := mput_any V sp tt g.cs up L (setX k p hp2) (mkE (setX k p hp2) mt mh en ws en2) lease now ⟨rfl, rfl, rfl⟩ HSV.out.st HBD.out.1 HBD.out.2.1 HBD.out.2.2.1 (fun Z => clone_any2 ws Z (by have := HBD.out.2.2.2; omega))
          unfold mkE setX at hpu
          dsimp only at hpu
          have HPU := hide hpu
          have HVX := hide hv
          clear hV hb2 hp hpu hv
          go_wp2_with fail
          go_upto_region 8 with (fail)
          rw [HV.out]
          clear y0 y1 y2 y3 y4 y5 y6 y7 yf
          obtain ⟨r0, r1, r2, r3, r4, r5, r6, r7, rf⟩ := C.val_cells HVX.out
          go_wp2_with fail
          with_reducible refine HPU.out.mono ?_
          rintro e z3 ⟨⟨v, rfl⟩, hs, ho⟩
          have HS3 := hide (HSV.out.only hs ho)
          have HO3 := hide ((OnlyS.of HB2.out).tr ho)
          clear hs ho HPU r0 r1 r2 r3 r4 r5 r6 r7 rf
          go_wp2_with fail
          go_ret2
          exact .inr (.inl ⟨HC.out, p, HP2.out, HP.out, rfl, HS3.out, HO3.out⟩)
        · have HNO := hide hno
          clear hno y0 y1 y2 y3 y4 y5 y6 y7 yf
          go_wp2_with fail
          go_ret2
          exact .inr (.inr ⟨HC.out, HNO.out, rfl, HSA.out _ HZ2.out, OnlyS.of (HB.out.trans (HZ2.out.mono HB.out.size))⟩)
      · have hd : (cd != (0 : Int)) = true := by simpa using hc
        have HC := hide hc
        clear hc x0 x1 x2 x3 x4 x5 x6 x7 hfz
        go_wp2_with fail
        go_ret2
        exact .inl ⟨by rw [HRES.out]; exact HC.out, by rw [HRES.out]; rfl, HSA.out z HZ.out, OnlyS.of (HB.out.trans (HZ.out.mono HB.out.size))⟩
end Go.Proofs.Ytijjgnkfddklgaa
