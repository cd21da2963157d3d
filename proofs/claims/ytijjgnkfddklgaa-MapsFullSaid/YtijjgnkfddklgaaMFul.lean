/- As many mappings as may be. -/
import Derived.Test.YtijjgnkfddklgaaMFulP
namespace Go.Proofs.Ytijjgnkfddklgaa
open Go.RowKit Go.Deep Go.Shelf
set_option linter.unusedVariables false
set_option linter.unusedSimpArgs false
set_option maxRecDepth 100000
theorem have_rest4 {P : Prop} {A G : World → Nat → Nat → Prop} (m : (∀ z c d, A z c d → G z c d) → P) (r : ∀ z c d, A z c d → G z c d) : P := m r
/-- Between two rounds, but for the set. -/
structure FulB (w z : World) (sp tt cb g N : Nat) (m : Int) (s : Nat → Bool) : Prop where
  seen : SeenAt z g N s
  cfg : ∃ cs, z.heap[cb]? = some (.cells cs 28 (0, 0)) ∧ cs[22]? = some (.int .i64 m)
  below : Below w.heap.size w z
  far : w.heap.size ≤ sp ∧ w.heap.size ≤ tt ∧ w.heap.size ≤ g
theorem FulB.b {w z z' : World} {sp tt cb g N : Nat} {m : Int} {s : Nat → Bool} (h : FulB w z sp tt cb g N m s) (hb : Below z.heap.size z z') : FulB w z' sp tt cb g N m s := by
  obtain ⟨cs, h1, h2⟩ := h.cfg
  exact ⟨h.seen.heap (fun o ho => below_block hb ho (Nat.le_refl _)), ⟨cs, below_block hb h1 (Nat.le_refl _), h2⟩, h.below.trans (hb.mono h.below.size), h.far⟩
theorem FulB.o {w z z' : World} {sp tt cb g N : Nat} {m : Int} {s : Nat → Bool} (h : FulB w z sp tt cb g N m s) {cs0 : Array Value} {up : Int} {L : ML} (hs : SAt z sp tt cs0 up L) (ho : OnlyS (fun q => q = sp ∨ q = tt) z z') : FulB w z' sp tt cb g N m s := by
  obtain ⟨cs, h1, h2⟩ := h.cfg
  obtain ⟨ds, h3⟩ := tab_hd hs.tab
  obtain ⟨es, h4, h5⟩ := h.seen
  have n1 : ¬ (g = sp ∨ g = tt) := by
    rintro (e | e)
    · rw [e, hs.blk] at h4; injection h4 with h4; injection h4 with _ h6 _; exact absurd h6 (by decide)
    · rw [e, h3] at h4; injection h4 with h4; injection h4 with _ h6 _; exact absurd h6 (by decide)
  have n2 : ¬ (cb = sp ∨ cb = tt) := by
    rintro (e | e)
    · rw [e, hs.blk] at h1; injection h1 with h1; injection h1 with _ h6 _; exact absurd h6 (by decide)
    · rw [e, h3] at h1; injection h1 with h1; injection h1 with _ h6 _; exact absurd h6 (by decide)
  exact ⟨⟨es, ho.heap h4 n1, h5⟩, ⟨cs, ho.heap h1 n2, h2⟩, ((OnlyS.of h.below).trans (X := fun q => w.heap.size ≤ q) ho (fun i hi hy => by rcases hy with rfl | rfl; exact h.far.1; exact h.far.2.1)).below (fun k hk => hk) (Nat.le_refl _), h.far⟩
theorem FulB.p {w z : World} {sp tt cb g N : Nat} {m : Int} {s : Nat → Bool} (h : FulB w z sp tt cb g N m s) (p : Nat) : FulB w (z.setCell ⟨g, p, none⟩ (.bool true)) sp tt cb g N m (putN s p true) := by
  obtain ⟨cs, h1, h2⟩ := h.cfg
  obtain ⟨es, h4, h5⟩ := h.seen
  have n2 : cb ≠ g := by
    intro e; rw [e, h4] at h1; injection h1 with h1; injection h1 with _ h6 _; exact absurd h6 (by decide)
  exact ⟨h.seen.put p true, ⟨cs, (heap_setCell_other _ _ _ _ n2).trans h1, h2⟩, h.below.setCell (p := ⟨g, p, none⟩) h.far.2.2 _, h.far⟩
theorem SA.pl {z : World} {sp tt g N p : Nat} {m up : Int} {a2 : Option Addr} {c2 : Nat} {L : ML} {s : Nat → Bool} (h : SA z sp tt (plMG m a2 c2) up L) (hs : SeenAt z g N s) : SA (z.setCell ⟨g, p, none⟩ (.bool true)) sp tt (plMG m a2 c2) up L := by
  obtain ⟨es, h4, h5⟩ := hs
  exact ⟨h.st.box h4 (by decide) (by decide) (by decide), fun h => absurd rfl h, fun ad h => absurd rfl h, h.ok⟩
structure FulSt (w z : World) (sp tt cb g N : Nat) (m : Int) (a2 : Option Addr) (c2 : Nat) (s : Nat → Bool) (k : Nat) : Prop where
  sa : ∃ up L, SA z sp tt (plMG m a2 c2) up L ∧ FulL L s k
  b : FulB w z sp tt cb g N m s
set_option maxHeartbeats 4000000 in
theorem mapsFull_any (w : World) (most : Int) (a : Option Addr) (len cap : Nat) (zs : List Int) (hm0 : -9223372036854775808 ≤ most) (hm1 : most ≤ 9223372036854775807) (hr : IsRow .u16 w a len cap zs) :
    Calls Try.prog 6 #[.int .i64 most, .slice a len cap] w fun e w' => e = .returned (.bool true) ∧ Below w.heap.size w w' := by
  obtain ⟨xs, hxl, hrow, hwf⟩ := hr.row
  have hln := hr.row2.2
  have HROW := hide hrow
  have HWF := hide (wf_u16 hwf)
  have HXL := hide hxl
  have HSK := hide (speaks_any w)
  obtain ⟨mk, hmk, hme⟩ := and_63 most
  obtain ⟨m, hm⟩ : ∃ m : Int, 1 + (mk : Int) = m := ⟨_, rfl⟩
  have HM := hide (show 1 ≤ m ∧ m ≤ 64 by omega)
  have hme2 : IntKind.i64.wrap (1 + bits .and .i64 most 63) = m := by rw [hme, hm, IntKind.wrap_i64]; omega
  have hme6 : wrap64 (1 + bits .and .i64 most 63) = m := by rw [hme, hm]; unfold wrap64; omega
  have HME := hide (And.intro hme2 hme6)
  obtain ⟨N, hN⟩ : ∃ N : Nat, N = 65536 := ⟨_, rfl⟩
  have HN := hide hN
  obtain ⟨Z, hmkZ, hseen⟩ := make_seen N hN
  have HSEEN := hide hseen
  have HMK := hide hmkZ
  clear hr hrow hwf hxl hme hm hme2 hme6 hN hseen hmkZ
  by_cases hlen : 300 < len
  · have hd : decide ((300 : Int) < (len : Int)) = true := by simp; omega
    clear hlen
    go_enter Try.func6, Try.ntmps6
    go_wp2_with fail
    refine HSK.out.mono ?_
    rintro e w1 ⟨rfl, b1⟩
    have HB1 := hide b1
    clear b1 HSK
    go_wp2_with fail
    go_ret
    exact ⟨rfl, HB1.out⟩
  · have hd : decide ((300 : Int) < (len : Int)) = false := by simp; omega
    have HLE := hide (show len ≤ 300 by omega)
    clear hlen
    go_enter Try.func6, Try.ntmps6
    go_wp2_with fail
    refine HSK.out.mono ?_
    rintro e w1 ⟨rfl, b1⟩
    have HB1 := hide b1
    have HPL := hide (plain_any w1)
    clear b1 HSK
    go_wp2_with fail
    refine HPL.out.mono ?_
    rintro e w2 ⟨rfl, b2⟩
    have HB2 := hide (HB1.out.trans (b2.mono HB1.out.size))
    have HZ := hide (heap_alloc_new w2 (.cells zeroCfg 28))
    have HBZ := hide (HB2.out.trans (((Below.refl w2.heap.size w2).alloc (Nat.le_refl _) (.cells zeroCfg 28)).mono HB2.out.size))
    have HCW := hide HB2.out.size
    clear b2 HPL HB1
    obtain ⟨pc, hpc⟩ : ∃ c, pl.cells none 0 0 = c := ⟨_, rfl⟩
    have hpz : pc.size = 28 := by rw [← hpc]; rfl
    have hp1 : pc.all (·.oneCell') = true := by rw [← hpc]; exact pl_one
    rw [hpc]
    have HPC := hide hpc
    clear hpc
    go_upto_region 6 with ((refine st_cfg (o := ⟨none, _, _, _, _, _⟩) (.tmp 5) (.tmp 17) rfl (by rfl) w2.heap.size rfl zeroCfg pc (by rfl) HZ.out rfl hpz hp1 HBZ.out HCW.out ?_; rintro w3 hr3 hb3 ho3 hs3; have HR3 := hide hr3; have HB3 := hide hb3; clear hr3 hb3 ho3 hs3; try simp only [Act.put, List.setIfInBounds_toArray, List.set_cons_zero, List.set_cons_succ]))
    obtain ⟨cb, hcb⟩ : ∃ b, w2.heap.size = b := ⟨_, rfl⟩
    rw [hcb] at HR3 HCW ⊢
    have hf := frozen_of_row w3 cb 22 _ _ HR3.out
    have hc22 : w3.cell? ⟨cb, 22, none⟩ = some (.int .i64 4) := by rw [cell_of_row w3 cb 22 _ _ (0, 0) HR3.out, ← HPC.out]; rfl
    obtain ⟨W4, hW4, hr4, hb4⟩ : ∃ q, w3.setCell ⟨cb, 22, none⟩ (.int .i64 m) = q ∧ q.heap[cb]? = some (.cells ((plM m).cells none 0 0) 28 (0, 0)) ∧ Below w.heap.size w q := ⟨_, rfl, by
      rw [heap_setCell_same w3 cb 22 _ _ (.int .i64 m) HR3.out, ← HPC.out]; rfl, HB3.out.setCell (p := ⟨cb, 22, none⟩) HCW.out _⟩
    have hme3 : IntKind.i64.wrap (1 + bits .and .i64 most 63) = m := HME.out.1
    have hme4 : wrap64 (1 + bits .and .i64 most 63) = m := HME.out.2
    have HW4 := hide hW4
    clear hW4 hcb HZ HBZ HB2
    go_wp2_with fail
    go_upto_region 7 with (fail)
    rw [HW4.out]
    obtain ⟨cs, hcs0⟩ : ∃ cs, (plM m).cells none 0 0 = cs := ⟨_, rfl⟩
    have hcs : cs.size = 28 := by rw [← hcs0]; rfl
    have HCS := hide hcs0
    rw [hcs0] at hr4
    have HR4 := hide hr4
    have HB4 := hide hb4
    have HNW := hide (fun (V : World) (hV : Below W4.heap.size W4 V) => by
      have h1 := snew_any (plM m) V none [] 0 0 (fun h => absurd rfl h) rfl (by omega) (by show pl.lan ≤ _; decide)
      rw [hcs0] at h1
      exact h1)
    have HSS := hide (fun (V : World) (hV : Below W4.heap.size W4 V) => (show V.rangeAt cb 0 cs.toList from fun j v hv => by
      rw [Nat.zero_add, cell_of_row V cb j cs _ (0, 0) (below_block hV HR4.out (Nat.le_refl _))]
      simpa using hv))
    have HW0 := hide (below_drew W4)
    have HFS := hide (fun (z : World) (sp tt g : Nat) (a2 : Option Addr) (c2 : Nat) (h1 : SA z sp tt (plMG m a2 c2) 0 []) (h2 : W4.heap.size ≤ sp) (h3 : W4.heap.size ≤ tt) (h4 : SeenAt z g N none_) (h5 : W4.heap.size ≤ g) (h6 : Below W4.heap.size W4 z) =>
      (show FulSt w z sp tt cb g N m a2 c2 none_ 0 from ⟨⟨0, [], h1, FulL.nil⟩, h4, ⟨cs, below_block h6 HR4.out (Nat.le_refl _), by rw [← HCS.out]; rfl⟩, HB4.out.trans (h6.mono HB4.out.size), Nat.le_trans HB4.out.size h2, Nat.le_trans HB4.out.size h3, Nat.le_trans HB4.out.size h5⟩))
    have hmkz := HMK.out
    clear hcs0 hr4 hb4 hf hc22 hme3 hme4 HW4 HR3 HB3
    refine wp_region_held_drew (S := fun w' => w'.rangeAt cb 0 cs.toList) (by kernel_rfl) (by exact HSS.out _ (Below.refl _ _).drew) (fun hHeld => ?_)
    generalize W4.drew = z0 at *
    apply have_rest4 (A := fun z sp g => Hid (∃ tt a2 c2, FulSt w z sp tt cb g N m a2 c2 none_ 0))
    case m =>
      intro HRS
      refine wpAnyH_take (i := 0) (oi := { dst := some 22, op := Op.load 28 (Operand.tmp 5), type := 28, pos := "law.go:237", after := #[], guard := none }) (v := .agg cs) rfl (by kernel_rfl) (by kernel_rfl) (by kernel_rfl) (fun _ _ _ h => h) (yl_cfg (by rfl) _ rfl cb rfl cs (fun w h => h) hcs) (by assumption) ?_
      try simp only [Act.put, List.setIfInBounds_toArray, List.set_cons_zero, List.set_cons_succ]
      refine wpAnyH_ready (rs := [1, 2]) (by kernel_rfl) (by simp) ?_
      refine AllReadyH.cons (o := { dst := some 23, op := Op.call { callee := Callee.value (Operand.func 10), args := #[Operand.tmp 22], argTypes := #[28] }, type := 33, pos := "law.go:237", after := #[{ on := 0, ground := Ground.data }], guard := none }) rfl (fun K hK => ?_) ?_
      ·
        go_simp
        go_at_call 10
        refine (HNW.out _ HW0.out).mono ?_
        rintro e z1 ⟨sp, tt, a2, c2, rfl, hs9, hb9, hsp9, htt9⟩
        have hsp8 := Nat.le_trans HW0.out.size hsp9
        have htt8 := Nat.le_trans HW0.out.size htt9
        have HH1 := hide (HW0.out.trans (hb9.mono HW0.out.size))
        have HSN := hide (And.intro hs9 (And.intro hsp8 htt8))
        clear hs9 hb9 hsp9 htt9 hsp8 htt8
        refine hK.out _ _ (HSS.out _ HH1.out) (fun hHeld1 => ?_)
        clear hK K
        try simp only [Act.put, List.setIfInBounds_toArray, List.set_cons_zero, List.set_cons_succ]
        refine wpAnyH_take (i := 3) (oi := { dst := some 6, op := Op.assign (Operand.tmp 23), type := 33, pos := "law.go:237", after := #[{ on := 1, ground := Ground.data }, { on := 1, ground := Ground.chain }, { on := 0, ground := Ground.phase }, { on := 1, ground := Ground.phase }, { on := 2, ground := Ground.textOnly Departure.lateStoresUnsure }], guard := none }) (v := ?_) rfl (by kernel_rfl) (by kernel_rfl) (by kernel_rfl) (fun _ _ _ h => h) (Or.inl ⟨by rfl, ?_⟩) (by assumption) ?_
        rotate_left
        · intro wS hSw
          try dsimp only at hSw
          go_simp
          try with_reducible rfl
        try simp only [Act.put, List.setIfInBounds_toArray, List.set_cons_zero, List.set_cons_succ]
        refine wpAnyH_take (i := 4) (oi := { dst := some 7, op := Op.assign (Operand.const (Value.int IntKind.i64 0)), type := 3, pos := "law.go:237", after := #[{ on := 3, ground := Ground.chain }, { on := 0, ground := Ground.phase }, { on := 1, ground := Ground.phase }, { on := 2, ground := Ground.textOnly Departure.lateStoresUnsure }, { on := 3, ground := Ground.phase }], guard := none }) (v := ?_) rfl (by kernel_rfl) (by kernel_rfl) (by kernel_rfl) (fun _ _ _ h => h) (Or.inl ⟨by rfl, ?_⟩) (by assumption) ?_
        rotate_left
        · intro wS hSw
          try dsimp only at hSw
          go_simp
          try with_reducible rfl
        try simp only [Act.put, List.setIfInBounds_toArray, List.set_cons_zero, List.set_cons_succ]
        refine wpAnyH_ready (rs := [2]) (by kernel_rfl) (by simp) ?_
        refine AllReadyH.cons (o := { dst := some 24, op := Op.makeSlice 64 (Operand.const (Value.int IntKind.i64 65536)) (Operand.const (Value.int IntKind.i64 65536)), type := 64, pos := "law.go:237", after := #[], guard := none }) rfl (fun K hK => ?_) ?_
        ·
          go_simp
          obtain ⟨z2, hz9, hb9⟩ : ∃ q, World.alloc z1 (.cells Z 4) = q ∧ Below z1.heap.size z1 q := ⟨_, rfl, (Below.refl _ _).alloc (Nat.le_refl _) _⟩
          have hg9 := HSEEN.out z1
          rw [hz9] at hg9 ⊢
          obtain ⟨g, hge⟩ : ∃ q, z1.heap.size = q := ⟨_, rfl⟩
          have hgg : W4.heap.size ≤ g := by rw [← hge]; exact HH1.out.size
          rw [hge] at hg9 ⊢
          have HG2 := hide hg9
          have HH2 := hide (HH1.out.trans (hb9.mono HH1.out.size))
          replace HSN := hide (And.intro (HSN.out.1.below hb9) HSN.out.2)
          clear hz9 hb9 hg9 hge
          refine hK.out _ _ (HSS.out _ HH2.out) (fun hHeld2 => ?_)
          clear hK K
          try simp only [Act.put, List.setIfInBounds_toArray, List.set_cons_zero, List.set_cons_succ]
          refine wpAnyH_take (i := 5) (oi := { dst := some 8, op := Op.assign (Operand.tmp 24), type := 64, pos := "law.go:237", after := #[{ on := 2, ground := Ground.data }, { on := 4, ground := Ground.chain }, { on := 0, ground := Ground.phase }, { on := 1, ground := Ground.phase }, { on := 2, ground := Ground.phase }, { on := 3, ground := Ground.phase }, { on := 4, ground := Ground.phase }], guard := none }) (v := ?_) rfl (by kernel_rfl) (by kernel_rfl) (by kernel_rfl) (fun _ _ _ h => h) (Or.inl ⟨by rfl, ?_⟩) (by assumption) ?_
          rotate_left
          · intro wS hSw
            try dsimp only at hSw
            go_simp
            try with_reducible rfl
          try simp only [Act.put, List.setIfInBounds_toArray, List.set_cons_zero, List.set_cons_succ]
          refine wpAnyH_done (by kernel_rfl) ?_ _
          exact HRS z2 sp g (hide ⟨tt, a2, c2, HFS.out z2 sp tt g a2 c2 HSN.out.1 HSN.out.2.1 HSN.out.2.2 HG2.out hgg HH2.out⟩)
        exact AllReadyH.nil
      refine AllReadyH.cons (o := { dst := some 24, op := Op.makeSlice 64 (Operand.const (Value.int IntKind.i64 65536)) (Operand.const (Value.int IntKind.i64 65536)), type := 64, pos := "law.go:237", after := #[], guard := none }) rfl (fun K hK => ?_) ?_
      ·
        go_simp
        obtain ⟨z3, hz9, hb9⟩ : ∃ q, World.alloc z0 (.cells Z 4) = q ∧ Below z0.heap.size z0 q := ⟨_, rfl, (Below.refl _ _).alloc (Nat.le_refl _) _⟩
        have hg9 := HSEEN.out z0
        rw [hz9] at hg9 ⊢
        obtain ⟨g, hge⟩ : ∃ q, z0.heap.size = q := ⟨_, rfl⟩
        have hgg : W4.heap.size ≤ g := by rw [← hge]; exact HW0.out.size
        rw [hge] at hg9 ⊢
        have HG3 := hide hg9
        have HH3 := hide (HW0.out.trans (hb9.mono HW0.out.size))
        clear hz9 hb9 hg9 hge
        refine hK.out _ _ (HSS.out _ HH3.out) (fun hHeld3 => ?_)
        clear hK K
        try simp only [Act.put, List.setIfInBounds_toArray, List.set_cons_zero, List.set_cons_succ]
        refine wpAnyH_ready (rs := [1]) (by kernel_rfl) (by simp) ?_
        refine AllReadyH.cons (o := { dst := some 23, op := Op.call { callee := Callee.value (Operand.func 10), args := #[Operand.tmp 22], argTypes := #[28] }, type := 33, pos := "law.go:237", after := #[{ on := 0, ground := Ground.data }], guard := none }) rfl (fun K hK => ?_) ?_
        ·
          go_simp
          go_at_call 10
          refine (HNW.out _ HH3.out).mono ?_
          rintro e z4 ⟨sp, tt, a2, c2, rfl, hs9, hb9, hsp9, htt9⟩
          have hsp8 := Nat.le_trans HH3.out.size hsp9
          have htt8 := Nat.le_trans HH3.out.size htt9
          have HH4 := hide (HH3.out.trans (hb9.mono HH3.out.size))
          have HSN := hide (And.intro hs9 (And.intro hsp8 htt8))
          have HG4 := hide (HG3.out.heap (fun o ho => below_block hb9 ho (Nat.le_refl _)))
          clear hs9 hb9 hsp9 htt9 hsp8 htt8
          refine hK.out _ _ (HSS.out _ HH4.out) (fun hHeld4 => ?_)
          clear hK K
          try simp only [Act.put, List.setIfInBounds_toArray, List.set_cons_zero, List.set_cons_succ]
          refine wpAnyH_take (i := 3) (oi := { dst := some 6, op := Op.assign (Operand.tmp 23), type := 33, pos := "law.go:237", after := #[{ on := 1, ground := Ground.data }, { on := 1, ground := Ground.chain }, { on := 0, ground := Ground.phase }, { on := 1, ground := Ground.phase }, { on := 2, ground := Ground.textOnly Departure.lateStoresUnsure }], guard := none }) (v := ?_) rfl (by kernel_rfl) (by kernel_rfl) (by kernel_rfl) (fun _ _ _ h => h) (Or.inl ⟨by rfl, ?_⟩) (by assumption) ?_
          rotate_left
          · intro wS hSw
            try dsimp only at hSw
            go_simp
            try with_reducible rfl
          try simp only [Act.put, List.setIfInBounds_toArray, List.set_cons_zero, List.set_cons_succ]
          refine wpAnyH_take (i := 4) (oi := { dst := some 7, op := Op.assign (Operand.const (Value.int IntKind.i64 0)), type := 3, pos := "law.go:237", after := #[{ on := 3, ground := Ground.chain }, { on := 0, ground := Ground.phase }, { on := 1, ground := Ground.phase }, { on := 2, ground := Ground.textOnly Departure.lateStoresUnsure }, { on := 3, ground := Ground.phase }], guard := none }) (v := ?_) rfl (by kernel_rfl) (by kernel_rfl) (by kernel_rfl) (fun _ _ _ h => h) (Or.inl ⟨by rfl, ?_⟩) (by assumption) ?_
          rotate_left
          · intro wS hSw
            try dsimp only at hSw
            go_simp
            try with_reducible rfl
          try simp only [Act.put, List.setIfInBounds_toArray, List.set_cons_zero, List.set_cons_succ]
          refine wpAnyH_take (i := 5) (oi := { dst := some 8, op := Op.assign (Operand.tmp 24), type := 64, pos := "law.go:237", after := #[{ on := 2, ground := Ground.data }, { on := 4, ground := Ground.chain }, { on := 0, ground := Ground.phase }, { on := 1, ground := Ground.phase }, { on := 2, ground := Ground.phase }, { on := 3, ground := Ground.phase }, { on := 4, ground := Ground.phase }], guard := none }) (v := ?_) rfl (by kernel_rfl) (by kernel_rfl) (by kernel_rfl) (fun _ _ _ h => h) (Or.inl ⟨by rfl, ?_⟩) (by assumption) ?_
          rotate_left
          · intro wS hSw
            try dsimp only at hSw
            go_simp
            try with_reducible rfl
          try simp only [Act.put, List.setIfInBounds_toArray, List.set_cons_zero, List.set_cons_succ]
          refine wpAnyH_done (by kernel_rfl) ?_ _
          exact HRS z4 sp g (hide ⟨tt, a2, c2, HFS.out z4 sp tt g a2 c2 HSN.out.1 HSN.out.2.1 HSN.out.2.2 HG4.out hgg HH4.out⟩)
        exact AllReadyH.nil
      exact AllReadyH.nil
    case r =>
      intro z sp g HZ
      obtain ⟨tt, a2, c2, hfs⟩ := HZ.out
      have HF0 := hide hfs
      clear hfs HZ HSEEN HMK hmkz HNW HSS HFS HR4 HB4 HCS HW0 HCW HPC hd
      go_wp2_with fail
      go_loopw [29, 7] (fun u29 u7 wr => ∃ (i k : Nat) (s : Nat → Bool), i ≤ len ∧ u29 = .int .i64 (i : Int) ∧ u7 = .int .i64 (k : Int) ∧ k ≤ i ∧ Hid (FulSt w wr sp tt cb g N m a2 c2 s k)) (fun u29 _ _ => len - (intOf u29).toNat)
      case atStart => exact ⟨0, 0, none_, Nat.zero_le _, rfl, rfl, Nat.le_refl _, HF0⟩
      case round =>
        clear HF0
        obtain ⟨i, k, s, hi, rfl, rfl, hk, HF⟩ := hrel
        obtain ⟨⟨up, L, hsa, hful⟩, hfb⟩ := HF.out
        by_cases hlt : i < len
        · obtain ⟨b, off, rfl, hbl, hc⟩ := (HROW.out.below hfb.below (Nat.le_refl _)).at (i := i) (by rw [HXL.out]; exact hlt)
          have cx := hc i (by rw [HXL.out]; exact hlt)
          obtain ⟨p, hp, hp2⟩ : ∃ p : Nat, xs[i]?.getD 0 = (p : Int) ∧ p ≤ 65535 := by
            have h1 : i < xs.length := by rw [HXL.out]; exact hlt
            rw [List.getElem?_eq_getElem h1, Option.getD_some]
            have h2 := HWF.out xs[i] (List.getElem_mem h1)
            exact ⟨xs[i].toNat, by omega, by omega⟩
          rw [hp] at cx
          have HP2 := hide hp2
          have HSA := hide hsa
          have HFL := hide hful
          have HFB := hide hfb
          have HLE2 := HLE.out
          have HEN := hide (entry_any wr 3232235783 (p : Int))
          clear hc hp hsa hful hfb HF hbl hp2
          go_wp2_with fail
          refine HEN.out.mono ?_
          rintro e w5 ⟨rfl, b5⟩
          have HSA5 := hide (HSA.out.below b5)
          have HFB5 := hide (HFB.out.b b5)
          have had : Calls Try.prog 20 #[.pointer (some ⟨sp, 0, none⟩), .int .u32 3232235783, .agg #[.int .u8 6, .int .u16 (p : Int), .int .u16 80, .int .u32 0, .int .u32 3232235783, .bool true, .string ⟨#[]⟩, .int .u64 0], .int .u64 0, .int .u64 0] w5 (AddAns sp tt (plMG m a2 c2) up L hA (kE p HP2.out) 80 (hA : Int) true ⟨#[]⟩ 0 0 w5) := madd_any w5 sp tt (plMG m a2 c2) up L hA (kE p HP2.out) 80 (hA : Int) true ⟨#[]⟩ 0 0 0 HSA5.out (by rw [HFL.out.len]; omega) (by decide) (by omega) (by omega) (by decide)
          have HAD := hide had
          clear had b5 HEN HSA HFB cx HLE2
          go_wp2_with fail
          refine HAD.out.mono ?_
          rintro e w6 ⟨rfl, hs0, hs1, ho⟩
          have HFB6 := hide (HFB5.out.o HSA5.out.st ho)
          have HS0 := hide hs0
          have HS1 := hide hs1
          have HN2 := HN.out
          have hpN : p < N := by rw [HN2]; have := HP2.out; omega
          clear hs0 hs1 ho HAD HSA5 HFB5 HN2
          by_cases h0 : p = 0
          · subst h0
            have hv := ful_add0 L m a2 c2
            have HS6 := hide (HS1.out (by rw [show kE 0 HP2.out = kE 0 (by omega) from rfl, hv]; decide))
            rw [show kE 0 HP2.out = kE 0 (by omega) from rfl, hv]
            clear hv HS0 HS1
            go_wp2_with fail
            go_roundw
            case rel => exact ⟨i + 1, k, s, hlt, by go_num, rfl, by omega, hide ⟨⟨_, _, HS6.out, HFL.out⟩, HFB6.out⟩⟩
            case measure => simp [intOf]; omega
          · have hd0 : ((p : Int) == 0) = false := by simp; omega
            have hv := ful_add HFL.out m a2 c2 p HP2.out h0
            have H0 := hide h0
            obtain ⟨q, hq⟩ : ∃ q, s p = q := ⟨_, rfl⟩
            obtain ⟨hcs1, hcf1⟩ := HFB6.out.seen.at p hpN
            obtain ⟨cs5, hcb5, hc5⟩ := HFB6.out.cfg
            have hc22 : w6.cell? ⟨cb, 22, none⟩ = some (.int .i64 m) := (cell_of_row w6 cb 22 cs5 _ (0, 0) hcb5).trans hc5
            rw [hq] at hv hcs1
            have HQ := hide hq
            obtain ⟨fb, hfb⟩ : ∃ q, decide (m ≤ (k : Int)) = q := ⟨_, rfl⟩
            rw [hfb] at hv
            have HFBQ := hide hfb
            clear h0 hq hcb5 hc5
            cases q with
            | true =>
              replace hv : addV (plMG m a2 c2) L hA (kE p HP2.out) 80 (hA : Int) 0 = 0 := hv
              have HS6 := hide (HS0.out hv)
              rw [hv]
              have HSP6 := hide (HS6.out.pl (p := p) HFB6.out.seen)
              have HFP6 := hide (HFB6.out.p p)
              have HFI := hide (HFL.out.ins p HP2.out H0.out (endsE 0 0))
              rw [HQ.out] at HFI
              clear hv HS0 HS1 hc22
              go_wp2_with fail
              go_roundw
              case rel => exact ⟨i + 1, k, putN s p true, hlt, by go_num, rfl, by omega, hide ⟨⟨_, _, HSP6.out, HFI.out⟩, HFP6.out⟩⟩
              case measure => simp [intOf]; omega
            | false =>
              cases fb with
              | true =>
                replace hv : addV (plMG m a2 c2) L hA (kE p HP2.out) 80 (hA : Int) 0 = 728 := hv
                have HS6 := hide (HS1.out (by rw [hv]; decide))
                rw [hv]
                have HEN := hide (entry_any w6 3232235783 (p : Int))
                have hdl : delV L hA (kE p HP2.out) = 714 := by
                  unfold delV
                  rw [HFL.out.has p HP2.out H0.out, HQ.out]
                  rfl
                have HDL := hide hdl
                clear hv HS0 HS1 hdl
                go_wp2_with fail
                refine HEN.out.mono ?_
                rintro e w7 ⟨rfl, b7⟩
                have HSA7 := hide (HS6.out.below b7)
                have HFB7 := hide (HFB6.out.b b7)
                have hdel : Calls Try.prog 23 #[.pointer (some ⟨sp, 0, none⟩), .int .u32 3232235783, .agg #[.int .u8 6, .int .u16 (p : Int), .int .u16 80, .int .u32 0, .int .u32 3232235783]] w7 (DelAns sp tt (plMG m a2 c2) up L hA (kE p HP2.out) w7) := mdel_any w7 sp tt (plMG m a2 c2) up L hA (kE p HP2.out) 80 (hA : Int) HSA7.out (by rw [HFL.out.len]; have := HLE.out; omega)
                have HDE := hide hdel
                have hqf := fun (V : World) => fld_map V (.int .u8 6) (.int .u16 (p : Int)) (.int .u16 80) (.int .u32 0) (.int .u32 3232235783) (.bool true) (.string ⟨#[]⟩) (.int .u64 0)
                clear hdel b7 HEN hcs1 hcf1 hc22
                go_wp2_with fail
                refine HDE.out.mono ?_
                rintro e w8 ⟨rfl, _, hs8, ho8⟩
                have HS8 := hide (hs8 (by rw [HDL.out]; decide))
                have HFB8 := hide (HFB7.out.o HSA7.out.st ho8)
                rw [HDL.out]
                clear hs8 ho8 HDE
                go_wp2_with fail
                go_roundw
                case rel => exact ⟨i + 1, k, s, hlt, by go_num, rfl, by omega, hide ⟨⟨_, _, HS8.out, HFL.out⟩, HFB8.out⟩⟩
                case measure => simp [intOf]; omega
              | false =>
                replace hv : addV (plMG m a2 c2) L hA (kE p HP2.out) 80 (hA : Int) 0 = 0 := hv
                have HS6 := hide (HS0.out hv)
                rw [hv]
                have HSP6 := hide (HS6.out.pl (p := p) HFB6.out.seen)
                have HFP6 := hide (HFB6.out.p p)
                have HFI := hide (HFL.out.ins p HP2.out H0.out (endsE 0 0))
                rw [HQ.out] at HFI
                have HLE2 := HLE.out
                clear hv HS0 HS1
                go_wp2_with fail
                go_roundw
                case rel => exact ⟨i + 1, k + 1, putN s p true, hlt, by go_num, by go_num, by omega, hide ⟨⟨_, _, HSP6.out, HFI.out⟩, HFP6.out⟩⟩
                case measure => simp [intOf]; omega
        · obtain rfl : i = len := by omega
          have HLE3 := hide (slen_any wr sp tt _ up L hsa.st)
          rw [hful.len] at HLE3
          have HBL := hide hfb.below
          clear hsa hful hfb HF hlt
          go_wp2_with fail
          refine HLE3.out.mono ?_
          rintro e w9 ⟨rfl, hq⟩
          obtain rfl := hq.symm
          clear HLE3
          go_wp2_with fail
          go_ret
          exact ⟨rfl, HBL.out⟩
end Go.Proofs.Ytijjgnkfddklgaa
