/- A mapping is added, or renewed. -/
import Derived.Test.YtijjgnkfddklgaaMHin
import Derived.Test.YtijjgnkfddklgaaMPut
import Derived.Test.YtijjgnkfddklgaaShelf
namespace Go.Proofs.Ytijjgnkfddklgaa
open Go.RowKit Go.Deep Go.Shelf
set_option linter.unusedVariables false
set_option linter.unusedSimpArgs false
set_option maxRecDepth 100000
theorem clone_any2 (s : ByteArray) (w : World) (hs : s.size ≤ 281474976710656) : Calls Try.prog 77 #[.string s] w fun e w' => e = .returned (.string s) ∧ Below w.heap.size w w' := by
  have HC := hide (Try.stringslite_Clone s w hs)
  clear hs
  go_enter Try.func77, Try.ntmps77
  go_wp2_with fail
  refine HC.out.mono ?_
  rintro e w1 ⟨rfl, b1⟩
  have HB := hide b1
  clear b1 HC
  go_wp2_with fail
  go_ret
  exact ⟨rfl, HB.out⟩
theorem or4 (V : World) (a b c d : Int) :
    Calls Try.prog 45 #[.slice (some ⟨V.heap.size, 0, none⟩) 4 4] (V.alloc (.cells #[.int .i64 a, .int .i64 b, .int .i64 c, .int .i64 d] 3)) fun x w' => x = .returned (.int .i64 (nzF [a, b, c, d])) ∧ w' = V.alloc (.cells #[.int .i64 a, .int .i64 b, .int .i64 c, .int .i64 d] 3) := by
  refine or_any [a, b, c, d] _ V.heap.size 4 (fun i hi => ?_) (by simp)
  have h := heap_alloc_new V (.cells #[.int .i64 a, .int .i64 b, .int .i64 c, .int .i64 d] 3)
  match i, hi with
  | 0, _ => exact (cell_of_row _ _ 0 _ _ (0, 0) h).trans rfl
  | 1, _ => exact (cell_of_row _ _ 1 _ _ (0, 0) h).trans rfl
  | 2, _ => exact (cell_of_row _ _ 2 _ _ (0, 0) h).trans rfl
  | 3, _ => exact (cell_of_row _ _ 3 _ _ (0, 0) h).trans rfl
def mkE (k : MK) (mt mh : Int) (en : Bool) (ws : ByteArray) (e : Int) : ME := ⟨k.p, k.x, mt, k.r, mh, en, ws, e⟩
def refE (g : CG) (who : Nat) (k : MK) (mh lease : Int) : Int := refV (k.p != 6) (k.p != 17) (mh != (who : Int)) (hostB g.lan g.nb who) (decide (604800 < lease))
def addV (g : CG) (L : ML) (who : Nat) (k : MK) (mt mh lease : Int) : Int := nzF [if (mt == 0) = true then 732 else 0, if (k.x == 0) = true then 716 else 0, refE g who k mh lease, hinV g L k mt mh]
/-- What Add answers, and leaves. -/
def AddAns (sp tt : Nat) (g : CG) (up : Int) (L : ML) (who : Nat) (k : MK) (mt mh : Int) (en : Bool) (ws : ByteArray) (lease now : Int) (w : World) (e : Ending) (w' : World) : Prop :=
  e = .returned (.int .i64 (addV g L who k mt mh lease)) ∧ (addV g L who k mt mh lease = 0 → SA w' sp tt g (IntKind.u32.wrap (up + 1)) (insL tM k (mkE k mt mh en ws (endsE lease now)) L)) ∧ (addV g L who k mt mh lease ≠ 0 → SA w' sp tt g up L) ∧ OnlyS (fun q => q = sp ∨ q = tt) w w'
set_option maxHeartbeats 6000000 in
theorem madd_any (w : World) (sp tt : Nat) (g : CG) (up : Int) (L : ML) (who : Nat) (k : MK) (mt mh : Int) (en : Bool) (ws : ByteArray) (en2 lease now : Int) (h : SA w sp tt g up L) (hL : L.length ≤ 500000) (hwho : who ≤ 4294967295) (hl : 0 ≤ lease ∧ lease ≤ 18446744073709551615) (hn : 0 ≤ now ∧ now ≤ 18446744073709551615) (hws : ws.size ≤ 1000000) :
    Calls Try.prog 20 #[.pointer (some ⟨sp, 0, none⟩), .int .u32 (who : Int), .agg #[.int .u8 k.p, .int .u16 k.x, .int .u16 mt, .int .u32 k.r, .int .u32 mh, .bool en, .string ws, .int .u64 en2], .int .u64 lease, .int .u64 now] w (AddAns sp tt g up L who k mt mh en ws lease now w) := by
  obtain ⟨W, hW, hb, hx⟩ : ∃ W, w.alloc (.cells #[.int .u8 k.p, .int .u16 k.x, .int .u16 mt, .int .u32 k.r, .int .u32 mh, .bool en, .string ws, .int .u64 en2] 40) = W ∧ Below w.heap.size w W ∧ W.heap[w.heap.size]? = some (.cells #[.int .u8 k.p, .int .u16 k.x, .int .u16 mt, .int .u32 k.r, .int .u32 mh, .bool en, .string ws, .int .u64 en2] 40 (0, 0)) := ⟨_, rfl, (Below.refl _ _).alloc (Nat.le_refl _) _, heap_alloc_new _ _⟩
  obtain ⟨B, hB⟩ : ∃ B, w.heap.size = B := ⟨_, rfl⟩
  rw [hB] at hx
  have HE := hide (And.intro hW hB)
  have HB := hide hb
  have hS := h.below hb
  have HSA := hide (fun (V : World) (hV : Below W.heap.size W V) => hS.below hV)
  have HBX := hide (fun (V : World) (hV : Below W.heap.size W V) => below_block hV hx (Nat.le_refl _))
  have HSS := hide (fun (V : World) (hV : Below W.heap.size W V) => (show V.cell? ⟨B, 0, none⟩ = some (.int .u8 k.p) ∧ V.cell? ⟨B, 1, none⟩ = some (.int .u16 k.x) ∧ V.cell? ⟨B, 2, none⟩ = some (.int .u16 mt) ∧ V.cell? ⟨B, 3, none⟩ = some (.int .u32 k.r) ∧ V.cell? ⟨B, 4, none⟩ = some (.int .u32 mh) ∧ V.cell? ⟨B, 5, none⟩ = some (.bool en) ∧ V.cell? ⟨B, 6, none⟩ = some (.string ws) ∧ V.cell? ⟨B, 7, none⟩ = some (.int .u64 en2) from by
    have h1 := below_block hV hx (Nat.le_refl _)
    obtain ⟨y0, y1, y2, y3, y4, y5, y6, y7, _⟩ := C.val_cells h1
    exact ⟨y0, y1, y2, y3, y4, y5, y6, y7⟩))
  have HW0 := hide (below_drew W)
  have HBB := hide (show w.heap.size ≤ B by omega)
  have HHI := fun (V : World) (hV : Below W.heap.size W V) => hindrance_any V sp tt g up L k mt mh (HSA.out V hV) hL
  have HRF := fun (V : World) (hV : Below W.heap.size W V) => refusal_any V sp tt g.cs up L g.lan g.nb who k.p k.x mt k.r mh en ws en2 lease (HSA.out V hV).st h.ok.h h.ok.lan hwho
  obtain ⟨v4, hv4⟩ : ∃ v, hinV g L k mt mh = v := ⟨_, rfl⟩
  obtain ⟨v3, hv3⟩ : ∃ v, refE g who k mh lease = v := ⟨_, rfl⟩
  obtain ⟨b1, hb1⟩ : ∃ b, (mt == (0 : Int)) = b := ⟨_, rfl⟩
  obtain ⟨b2, hb2⟩ : ∃ b, (k.x == (0 : Int)) = b := ⟨_, rfl⟩
  obtain ⟨v1, hv1⟩ : ∃ v : Int, (if b1 = true then 732 else 0) = v := ⟨_, rfl⟩
  obtain ⟨v2, hv2⟩ : ∃ v : Int, (if b2 = true then 716 else 0) = v := ⟨_, rfl⟩
  have HV1 := hide (fun V => by have h1 := when_any b1 732 V; rw [hv1] at h1; exact h1)
  have HV2 := hide (fun V => by have h1 := when_any b2 716 V; rw [hv2] at h1; exact h1)
  obtain ⟨cd, hcd⟩ : ∃ c, nzF [v1, v2, v3, v4] = c := ⟨_, rfl⟩
  have HRES := hide (show addV g L who k mt mh lease = cd by unfold addV; rw [hb1, hb2, hv1, hv2, hv3, hv4, hcd])
  have HCD := hide hcd
  unfold refE at hv3
  rw [hv4] at HHI
  rw [hv3] at HRF
  replace HHI := hide HHI
  replace HRF := hide HRF
  have HPU := hide (fun (V : World) (hV : Below W.heap.size W V) => mput_any V sp tt g.cs up L k (mkE k mt mh en ws en2) lease now ⟨rfl, rfl, rfl⟩ (HSA.out V hV).st hL hl hn (fun Z => clone_any2 ws Z (by omega)))
  clear hW hB hb hx hS h hL hwho hl hn hws hv1 hv2 hv3 hv4 hcd
  go_enter Try.func20, Try.ntmps20
  go_upto_region 1 with (fail)
  rw [HE.out.1]
  try rw [HE.out.2]
  clear HE
  refine wp_region_held_drew (S := fun w' => w'.cell? ⟨B, 0, none⟩ = some (.int .u8 k.p) ∧ w'.cell? ⟨B, 1, none⟩ = some (.int .u16 k.x) ∧ w'.cell? ⟨B, 2, none⟩ = some (.int .u16 mt) ∧ w'.cell? ⟨B, 3, none⟩ = some (.int .u32 k.r) ∧ w'.cell? ⟨B, 4, none⟩ = some (.int .u32 mh) ∧ w'.cell? ⟨B, 5, none⟩ = some (.bool en) ∧ w'.cell? ⟨B, 6, none⟩ = some (.string ws) ∧ w'.cell? ⟨B, 7, none⟩ = some (.int .u64 en2)) (by kernel_rfl) (by exact HSS.out _ (Below.refl _ _).drew) (fun hHeld => ?_)
  generalize W.drew = z0 at *
  apply have_rest2 (A := fun z c => Hid (Below W.heap.size W z))
  case m =>
    intro HREST
    refine wpAnyH_take (i := 0) (oi := { dst := some 12, op := Op.fieldAddr 40 (Operand.tmp 7) 0, type := 0, pos := "maps.go:31", after := #[], guard := none }) (v := ?_) rfl (by kernel_rfl) (by kernel_rfl) (by kernel_rfl) (fun _ _ _ h => h) (Or.inl ⟨by rfl, ?_⟩) (by assumption) ?_
    rotate_left
    · intro wS hSw
      try dsimp only at hSw
      go_simp
      try with_reducible rfl
    try simp only [Act.put, List.setIfInBounds_toArray, List.set_cons_zero, List.set_cons_succ]
    refine wpAnyH_take (i := 1) (oi := { dst := some 13, op := Op.fieldAddr 38 (Operand.tmp 12) 2, type := 0, pos := "maps.go:31", after := #[{ on := 0, ground := Ground.data }], guard := none }) (v := ?_) rfl (by kernel_rfl) (by kernel_rfl) (by kernel_rfl) (fun _ _ _ h => h) (Or.inl ⟨by rfl, ?_⟩) (by assumption) ?_
    rotate_left
    · intro wS hSw
      try dsimp only at hSw
      go_simp
      try with_reducible rfl
    try simp only [Act.put, List.setIfInBounds_toArray, List.set_cons_zero, List.set_cons_succ]
    refine wpAnyH_take (i := 2) (oi := { dst := some 14, op := Op.load 36 (Operand.tmp 13), type := 36, pos := "maps.go:31", after := #[{ on := 1, ground := Ground.data }], guard := none }) (v := ?_) rfl (by kernel_rfl) (by kernel_rfl) (by kernel_rfl) (fun _ _ _ h => h) (Or.inl ⟨by rfl, ?_⟩) (by assumption) ?_
    rotate_left
    · intro wS hSw
      try dsimp only at hSw
      go_simp
      try with_reducible rfl
    try simp only [Act.put, List.setIfInBounds_toArray, List.set_cons_zero, List.set_cons_succ]
    refine wpAnyH_take (i := 3) (oi := { dst := some 15, op := Op.binOp BinOp.eql 36 (Operand.tmp 14) (Operand.const (Value.int IntKind.u16 0)) 36, type := 4, pos := "maps.go:31", after := #[{ on := 2, ground := Ground.data }], guard := none }) (v := ?_) rfl (by kernel_rfl) (by kernel_rfl) (by kernel_rfl) (fun _ _ _ h => h) (Or.inl ⟨by rfl, ?_⟩) (by assumption) ?_
    rotate_left
    · intro wS hSw
      try dsimp only at hSw
      go_simp
      try with_reducible rfl
    try simp only [Act.put, List.setIfInBounds_toArray, List.set_cons_zero, List.set_cons_succ]
    refine wpAnyH_take (i := 5) (oi := { dst := some 17, op := Op.fieldAddr 40 (Operand.tmp 7) 0, type := 0, pos := "maps.go:31", after := #[], guard := none }) (v := ?_) rfl (by kernel_rfl) (by kernel_rfl) (by kernel_rfl) (fun _ _ _ h => h) (Or.inl ⟨by rfl, ?_⟩) (by assumption) ?_
    rotate_left
    · intro wS hSw
      try dsimp only at hSw
      go_simp
      try with_reducible rfl
    try simp only [Act.put, List.setIfInBounds_toArray, List.set_cons_zero, List.set_cons_succ]
    refine wpAnyH_take (i := 6) (oi := { dst := some 18, op := Op.fieldAddr 38 (Operand.tmp 17) 1, type := 0, pos := "maps.go:31", after := #[{ on := 5, ground := Ground.data }], guard := none }) (v := ?_) rfl (by kernel_rfl) (by kernel_rfl) (by kernel_rfl) (fun _ _ _ h => h) (Or.inl ⟨by rfl, ?_⟩) (by assumption) ?_
    rotate_left
    · intro wS hSw
      try dsimp only at hSw
      go_simp
      try with_reducible rfl
    try simp only [Act.put, List.setIfInBounds_toArray, List.set_cons_zero, List.set_cons_succ]
    refine wpAnyH_take (i := 7) (oi := { dst := some 19, op := Op.load 36 (Operand.tmp 18), type := 36, pos := "maps.go:31", after := #[{ on := 6, ground := Ground.data }], guard := none }) (v := ?_) rfl (by kernel_rfl) (by kernel_rfl) (by kernel_rfl) (fun _ _ _ h => h) (Or.inl ⟨by rfl, ?_⟩) (by assumption) ?_
    rotate_left
    · intro wS hSw
      try dsimp only at hSw
      go_simp
      try with_reducible rfl
    try simp only [Act.put, List.setIfInBounds_toArray, List.set_cons_zero, List.set_cons_succ]
    refine wpAnyH_take (i := 8) (oi := { dst := some 20, op := Op.binOp BinOp.eql 36 (Operand.tmp 19) (Operand.const (Value.int IntKind.u16 0)) 36, type := 4, pos := "maps.go:31", after := #[{ on := 7, ground := Ground.data }], guard := none }) (v := ?_) rfl (by kernel_rfl) (by kernel_rfl) (by kernel_rfl) (fun _ _ _ h => h) (Or.inl ⟨by rfl, ?_⟩) (by assumption) ?_
    rotate_left
    · intro wS hSw
      try dsimp only at hSw
      go_simp
      try with_reducible rfl
    try simp only [Act.put, List.setIfInBounds_toArray, List.set_cons_zero, List.set_cons_succ]
    refine wpAnyH_take (i := 10) (oi := { dst := some 22, op := Op.move (Operand.tmp 0), type := 33, pos := "maps.go:31", after := #[], guard := none }) (v := ?_) rfl (by kernel_rfl) (by kernel_rfl) (by kernel_rfl) (fun _ _ _ h => h) (Or.inl ⟨by rfl, ?_⟩) (by assumption) ?_
    rotate_left
    · intro wS hSw
      try dsimp only at hSw
      go_simp
      try with_reducible rfl
    try simp only [Act.put, List.setIfInBounds_toArray, List.set_cons_zero, List.set_cons_succ]
    refine wpAnyH_take (i := 11) (oi := { dst := some 23, op := Op.move (Operand.tmp 1), type := 25, pos := "maps.go:31", after := #[], guard := none }) (v := ?_) rfl (by kernel_rfl) (by kernel_rfl) (by kernel_rfl) (fun _ _ _ h => h) (Or.inl ⟨by rfl, ?_⟩) (by assumption) ?_
    rotate_left
    · intro wS hSw
      try dsimp only at hSw
      go_simp
      try with_reducible rfl
    try simp only [Act.put, List.setIfInBounds_toArray, List.set_cons_zero, List.set_cons_succ]
    refine wpAnyH_take (i := 12) (oi := { dst := some 24, op := Op.load 40 (Operand.tmp 7), type := 40, pos := "maps.go:31", after := #[], guard := none }) (v := ?_) rfl (by kernel_rfl) (by kernel_rfl) (by kernel_rfl) (fun _ _ _ h => h) (Or.inl ⟨by rfl, ?_⟩) (by assumption) ?_
    rotate_left
    · intro wS hSw
      try dsimp only at hSw
      go_simp
      try with_reducible rfl
    try simp only [Act.put, List.setIfInBounds_toArray, List.set_cons_zero, List.set_cons_succ]
    refine wpAnyH_take (i := 13) (oi := { dst := some 25, op := Op.move (Operand.tmp 3), type := 35, pos := "maps.go:31", after := #[], guard := none }) (v := ?_) rfl (by kernel_rfl) (by kernel_rfl) (by kernel_rfl) (fun _ _ _ h => h) (Or.inl ⟨by rfl, ?_⟩) (by assumption) ?_
    rotate_left
    · intro wS hSw
      try dsimp only at hSw
      go_simp
      try with_reducible rfl
    try simp only [Act.put, List.setIfInBounds_toArray, List.set_cons_zero, List.set_cons_succ]
    refine wpAnyH_take (i := 15) (oi := { dst := some 27, op := Op.move (Operand.tmp 0), type := 33, pos := "maps.go:31", after := #[], guard := none }) (v := ?_) rfl (by kernel_rfl) (by kernel_rfl) (by kernel_rfl) (fun _ _ _ h => h) (Or.inl ⟨by rfl, ?_⟩) (by assumption) ?_
    rotate_left
    · intro wS hSw
      try dsimp only at hSw
      go_simp
      try with_reducible rfl
    try simp only [Act.put, List.setIfInBounds_toArray, List.set_cons_zero, List.set_cons_succ]
    refine wpAnyH_take (i := 16) (oi := { dst := some 28, op := Op.fieldAddr 40 (Operand.tmp 7) 0, type := 0, pos := "maps.go:31", after := #[], guard := none }) (v := ?_) rfl (by kernel_rfl) (by kernel_rfl) (by kernel_rfl) (fun _ _ _ h => h) (Or.inl ⟨by rfl, ?_⟩) (by assumption) ?_
    rotate_left
    · intro wS hSw
      try dsimp only at hSw
      go_simp
      try with_reducible rfl
    try simp only [Act.put, List.setIfInBounds_toArray, List.set_cons_zero, List.set_cons_succ]
    refine wpAnyH_take (i := 17) (oi := { dst := some 29, op := Op.load 38 (Operand.tmp 28), type := 38, pos := "maps.go:31", after := #[{ on := 16, ground := Ground.data }], guard := none }) (v := ?_) rfl (by kernel_rfl) (by kernel_rfl) (by kernel_rfl) (fun _ _ _ h => h) (Or.inl ⟨by rfl, ?_⟩) (by assumption) ?_
    rotate_left
    · intro wS hSw
      try dsimp only at hSw
      go_simp
      try with_reducible rfl
    try simp only [Act.put, List.setIfInBounds_toArray, List.set_cons_zero, List.set_cons_succ]
    refine wpAnyH_ready (rs := [4]) (by kernel_rfl) (by simp) ?_
    refine AllReadyH.cons (o := { dst := some 16, op := Op.call { callee := Callee.value (Operand.func 46), args := #[Operand.tmp 15, Operand.const (Value.int IntKind.i64 732)], argTypes := #[4, 3] }, type := 3, pos := "maps.go:32", after := #[{ on := 3, ground := Ground.data }], guard := none }) rfl (fun K hK => ?_) ?_
    ·
      go_simp
      go_at_call 46
      refine (HV1.out _).mono ?_
      rintro e w1 ⟨rfl, hq⟩
      obtain rfl := hq.symm
      refine hK.out _ _ (HSS.out _ HW0.out) (fun hHeld1 => ?_)
      clear hK K
      try simp only [Act.put, List.setIfInBounds_toArray, List.set_cons_zero, List.set_cons_succ]
      refine wpAnyH_ready (rs := [9]) (by kernel_rfl) (by simp) ?_
      refine AllReadyH.cons (o := { dst := some 21, op := Op.call { callee := Callee.value (Operand.func 46), args := #[Operand.tmp 20, Operand.const (Value.int IntKind.i64 716)], argTypes := #[4, 3] }, type := 3, pos := "maps.go:33", after := #[{ on := 8, ground := Ground.data }, { on := 4, ground := Ground.chain }], guard := none }) rfl (fun K hK => ?_) ?_
      ·
        go_simp
        go_at_call 46
        refine (HV2.out _).mono ?_
        rintro e w2 ⟨rfl, hq⟩
        obtain rfl := hq.symm
        refine hK.out _ _ (HSS.out _ HW0.out) (fun hHeld2 => ?_)
        clear hK K
        try simp only [Act.put, List.setIfInBounds_toArray, List.set_cons_zero, List.set_cons_succ]
        refine wpAnyH_ready (rs := [14]) (by kernel_rfl) (by simp) ?_
        refine AllReadyH.cons (o := { dst := some 26, op := Op.call { callee := Callee.value (Operand.func 47), args := #[Operand.tmp 22, Operand.tmp 23, Operand.tmp 24, Operand.tmp 25], argTypes := #[33, 25, 40, 35] }, type := 3, pos := "maps.go:34", after := #[{ on := 10, ground := Ground.data }, { on := 11, ground := Ground.data }, { on := 12, ground := Ground.data }, { on := 13, ground := Ground.data }, { on := 9, ground := Ground.chain }], guard := none }) rfl (fun K hK => ?_) ?_
        ·
          go_simp
          go_at_call 47
          refine (HRF.out _ HW0.out).mono ?_
          rintro e z3 ⟨rfl, b9⟩
          have HH3 := hide (HW0.out.trans (b9.mono HW0.out.size))
          clear b9
          refine hK.out _ _ (HSS.out _ HH3.out) (fun hHeld3 => ?_)
          clear hK K
          try simp only [Act.put, List.setIfInBounds_toArray, List.set_cons_zero, List.set_cons_succ]
          refine wpAnyH_ready (rs := [18]) (by kernel_rfl) (by simp) ?_
          refine AllReadyH.cons (o := { dst := some 30, op := Op.call { callee := Callee.value (Operand.func 48), args := #[Operand.tmp 27, Operand.tmp 29], argTypes := #[33, 38] }, type := 3, pos := "maps.go:35", after := #[{ on := 15, ground := Ground.data }, { on := 17, ground := Ground.data }, { on := 14, ground := Ground.chain }], guard := none }) rfl (fun K hK => ?_) ?_
          ·
            go_simp
            go_at_call 48
            refine (HHI.out _ HH3.out).mono ?_
            rintro e z4 ⟨rfl, b9⟩
            have HH4 := hide (HH3.out.trans (b9.mono HH3.out.size))
            clear b9
            refine hK.out _ _ (HSS.out _ HH4.out) (fun hHeld4 => ?_)
            clear hK K
            try simp only [Act.put, List.setIfInBounds_toArray, List.set_cons_zero, List.set_cons_succ]
            refine wpAnyH_ready (rs := [19]) (by kernel_rfl) (by simp) ?_
            refine AllReadyH.cons (o := { dst := some 31, op := Op.buildSlice 115 4 #[(0, Operand.tmp 16), (1, Operand.tmp 21), (2, Operand.tmp 26), (3, Operand.tmp 30)], type := 115, pos := "maps.go:31", after := #[{ on := 4, ground := Ground.data }, { on := 9, ground := Ground.data }, { on := 14, ground := Ground.data }, { on := 18, ground := Ground.data }], guard := none }) rfl (fun K hK => ?_) AllReadyH.nil
            go_simp
            refine hK.out _ _ (HSS.out _ (HH4.out.alloc HH4.out.size _)) (fun hHeld5 => ?_)
            clear hK K
            try simp only [Act.put, List.setIfInBounds_toArray, List.set_cons_zero, List.set_cons_succ]
            refine wpAnyH_ready (rs := [20]) (by kernel_rfl) (by simp) ?_
            refine AllReadyH.cons (o := { dst := some 32, op := Op.call { callee := Callee.value (Operand.func 45), args := #[Operand.tmp 31], argTypes := #[115] }, type := 3, pos := "maps.go:31", after := #[{ on := 19, ground := Ground.data }, { on := 18, ground := Ground.chain }], guard := none }) rfl (fun K hK => ?_) AllReadyH.nil
            go_simp
            go_at_call 45
            refine (or4 _ _ _ _ _).mono ?_
            rintro e w6 ⟨rfl, hw9⟩
            have HHF := hide (show Below W.heap.size W w6 by rw [hw9]; exact HH4.out.alloc HH4.out.size _)
            clear hw9
            refine hK.out _ _ (HSS.out _ HHF.out) (fun hHeld6 => ?_)
            clear hK K
            try simp only [Act.put, List.setIfInBounds_toArray, List.set_cons_zero, List.set_cons_succ]
            refine wpAnyH_take (i := 21) (oi := { dst := some 11, op := Op.assign (Operand.tmp 32), type := 3, pos := "maps.go:31", after := #[{ on := 20, ground := Ground.data }, { on := 20, ground := Ground.chain }, { on := 0, ground := Ground.phase }, { on := 1, ground := Ground.phase }, { on := 2, ground := Ground.phase }, { on := 3, ground := Ground.phase }, { on := 4, ground := Ground.phase }, { on := 5, ground := Ground.phase }, { on := 6, ground := Ground.phase }, { on := 7, ground := Ground.phase }, { on := 8, ground := Ground.phase }, { on := 9, ground := Ground.phase }, { on := 10, ground := Ground.phase }, { on := 11, ground := Ground.phase }, { on := 12, ground := Ground.phase }, { on := 13, ground := Ground.phase }, { on := 14, ground := Ground.phase }, { on := 15, ground := Ground.phase }, { on := 16, ground := Ground.phase }, { on := 17, ground := Ground.phase }, { on := 18, ground := Ground.phase }, { on := 19, ground := Ground.phase }, { on := 20, ground := Ground.phase }], guard := none }) (v := ?_) rfl (by kernel_rfl) (by kernel_rfl) (by kernel_rfl) (fun _ _ _ h => h) (Or.inl ⟨by rfl, ?_⟩) (by assumption) ?_
            rotate_left
            · intro wS hSw
              try dsimp only at hSw
              go_simp
              try with_reducible rfl
            try simp only [Act.put, List.setIfInBounds_toArray, List.set_cons_zero, List.set_cons_succ]
            refine wpAnyH_done (by kernel_rfl) ?_ _
            obtain ⟨sz, hsz⟩ : ∃ c, z4.heap.size = c := ⟨_, rfl⟩
            rw [hsz]
            exact HREST _ sz HHF
          exact AllReadyH.nil
        exact AllReadyH.nil
      exact AllReadyH.nil
    exact AllReadyH.nil
  case r =>
    intro z sz HZ
    rw [HCD.out]
    obtain ⟨x0, x1, x2, x3, x4, x5, x6, x7⟩ := HSS.out z HZ.out
    unfold mkE at HPU
    dsimp only at HPU
    by_cases hc : cd = 0
    · have hd : (cd == (0 : Int)) = true := by simpa using hc
      have HC := hide hc
      clear hc
      go_wp2_with fail
      with_reducible refine (HPU.out _ HZ.out).mono ?_
      rintro e z2 ⟨⟨v, rfl⟩, hs, ho⟩
      have HS2 := hide ((HSA.out z HZ.out).only hs ho)
      have HO2 := hide (ho)
      clear hs ho HPU x0 x1 x2 x3 x4 x5 x6 x7
      go_wp2_with fail
      go_ret
      unfold AddAns
      rw [HRES.out]
      refine ⟨by rw [HC.out]; rfl, fun _ => HS2.out, fun h => absurd HC.out h, ?_⟩
      exact (OnlyS.of (HB.out.trans (HZ.out.mono HB.out.size))).tr HO2.out
    · have hd : (cd == (0 : Int)) = false := by simpa using hc
      have HC := hide hc
      clear hc x0 x1 x2 x3 x4 x5 x6 x7 HPU
      go_wp2_with fail
      go_ret
      unfold AddAns
      rw [HRES.out]
      exact ⟨rfl, fun h => absurd h HC.out, fun _ => HSA.out z HZ.out, OnlyS.of (HB.out.trans (HZ.out.mono HB.out.size))⟩
end Go.Proofs.Ytijjgnkfddklgaa
