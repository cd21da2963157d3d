/- An entry is put. -/
import Derived.Test.YtijjgnkfddklgaaMRef
namespace Go.Proofs.Ytijjgnkfddklgaa
open Go.RowKit Go.Deep
set_option linter.unusedVariables false
set_option linter.unusedSimpArgs false
set_option maxRecDepth 100000
/-- strings.Clone, of a text without bytes. -/
theorem clone0_any (w : World) : Calls Try.prog 77 #[.string ⟨#[]⟩] w fun e w' => e = .returned (.string ⟨#[]⟩) ∧ Below w.heap.size w w' := by
  have HC : Hid (Calls Try.prog 94 #[.string ⟨#[]⟩] w fun e w' => e = .returned (.string ⟨#[]⟩) ∧ w' = w) := hide (by
    go_enter Try.func94, Try.ntmps94
    go_wp2_with fail
    go_ret
    exact ⟨rfl, rfl⟩)
  go_enter Try.func77, Try.ntmps77
  go_wp2_with fail
  refine HC.out.mono ?_
  rintro e w1 ⟨rfl, rfl⟩
  go_wp2_with fail
  go_ret
  exact ⟨rfl, Below.refl _ _⟩
theorem nkC {V V' : World} {r : Nat} {cs : Array Value} {T : TypeId} {fr : Nat × Nat} (hT : V.heap[r]? = some (.cells cs T fr)) (hne : T ≠ 122) (hg : V.grownBy V' (some r)) : C.NK V V' := fun b ds hb => by
  refine (hg.block b (lt_of_block hb) ?_).trans hb
  intro e; cases e
  rw [hT] at hb; injection hb with hb; injection hb with _ h2 _; exact hne h2
theorem tab_hd {w : World} {t : Nat} {m : Int} {fv : Value} {τ : MK → Int} {L : List C.KV} (h : C.Tab w t m fv τ L) : ∃ cs, w.heap[t]? = some (.cells cs 107 (0, 0)) := by obtain ⟨_, h, _⟩ := h; exact ⟨_, h⟩
theorem SAt.ne {w : World} {sp tt : Nat} {cs : Array Value} {up : Int} {L : ML} (h : SAt w sp tt cs up L) : sp ≠ tt := by
  obtain ⟨ds, h1⟩ := tab_hd h.tab
  intro e
  rw [← e, h.blk] at h1
  injection h1 with h1; injection h1 with _ h2 _; exact absurd h2 (by decide)
theorem set29 (cs : Array Value) (a b c : Value) (h : cs.size = 28) : (cs ++ #[a, b]).setIfInBounds 29 c = cs ++ #[a, c] := by
  refine Array.ext (by simp) (fun i h1 h2 => ?_)
  have h0 : i < (cs ++ #[a, b]).size := by simpa using h1
  rw [Array.getElem_setIfInBounds h0]
  by_cases hi : i < cs.size
  · rw [if_neg (by omega), Array.getElem_append_left hi, Array.getElem_append_left hi]
  · have h3 : i < 30 := by simp [h] at h2; omega
    have h4 : i = 28 ∨ i = 29 := by omega
    rcases h4 with rfl | rfl <;> simp [Array.getElem_append, h]
theorem SAt.upd {w : World} {sp tt : Nat} {cs : Array Value} {up : Int} {L : ML} (h : SAt w sp tt cs up L) (x : Int) : SAt (w.setCell ⟨sp, 29, none⟩ (.int .u32 x)) sp tt cs x L := by
  refine ⟨?_, h.csz, ?_⟩
  · rw [heap_setCell_same _ _ 29 _ _ _ h.blk, set29 _ _ _ _ h.csz]
  · refine h.tab.keep (nkC h.blk (by decide) (gb_set _ _ _ _)) (fun o ho => ?_)
    rw [heap_setCell_other _ _ _ _ h.ne.symm]; exact ho
theorem SAt.box {w : World} {sp tt : Nat} {cs : Array Value} {up : Int} {L : ML} (h : SAt w sp tt cs up L) {g i : Nat} {v : Value} {ds : Array Value} {T : TypeId} {f : Nat × Nat} (hg : w.heap[g]? = some (.cells ds T f)) (n1 : T ≠ 79) (n2 : T ≠ 107) (n3 : T ≠ 122) : SAt (w.setCell ⟨g, i, none⟩ v) sp tt cs up L := by
  refine ⟨?_, h.csz, ?_⟩
  · rw [heap_setCell_other _ _ _ _ (by rintro rfl; rw [h.blk] at hg; injection hg with hg; injection hg with _ h2 _; exact n1 h2.symm)]; exact h.blk
  · obtain ⟨es, h1⟩ := tab_hd h.tab
    refine h.tab.keep (nkC hg n3 (gb_set _ _ _ _)) (fun o ho => ?_)
    rw [heap_setCell_other _ _ _ _ (by rintro rfl; rw [h1] at hg; injection hg with hg; injection hg with _ h2 _; exact n2 h2.symm)]; exact ho
theorem SAt.tabs {w w' : World} {sp tt : Nat} {cs : Array Value} {up : Int} {L L' : ML} (h : SAt w sp tt cs up L) (hT : C.Tab w' tt MX C.oF tM L') (hg : w.grownBy w' (some tt)) : SAt w' sp tt cs up L' :=
  ⟨(hg.block sp (lt_of_block h.blk) (fun e => h.ne (Option.some.inj e))).trans h.blk, h.csz, hT⟩
/-- How long a lease lasts; when it ends. -/
def leaseE (lease : Int) : Int := if lease = 0 then 604800 else lease
def endsE (lease now : Int) : Int := now + min (leaseE lease) (18446744073709551615 - now)
set_option maxHeartbeats 1000000 in
theorem mput_any (w : World) (sp tt : Nat) (cs : Array Value) (up : Int) (L : ML) (k : MK) (v : ME) (lease now : Int) (hkv : v.p = k.p ∧ v.x = k.x ∧ v.r = k.r) (h : SAt w sp tt cs up L) (hn : L.length ≤ 500000) (hl : 0 ≤ lease ∧ lease ≤ 18446744073709551615) (hw : 0 ≤ now ∧ now ≤ 18446744073709551615)
    (hcl : ∀ V : World, Calls Try.prog 77 #[.string v.ws] V fun e w' => e = .returned (.string v.ws) ∧ Below V.heap.size V w') :
    Calls Try.prog 49 #[.pointer (some ⟨sp, 0, none⟩), .agg #[.int .u8 v.p, .int .u16 v.x, .int .u16 v.t, .int .u32 v.r, .int .u32 v.h, .bool v.en, .string v.ws, .int .u64 v.e], .int .u64 lease, .int .u64 now] w fun e w' => (∃ r, e = .returned r) ∧ SAt w' sp tt cs (IntKind.u32.wrap (up + 1)) (insL tM k { v with e := endsE lease now } L) ∧ OnlyS (fun q => q = sp ∨ q = tt) w w' := by
  obtain ⟨W, hW, hb, hx⟩ : ∃ W, w.alloc (.cells #[.int .u8 v.p, .int .u16 v.x, .int .u16 v.t, .int .u32 v.r, .int .u32 v.h, .bool v.en, .string v.ws, .int .u64 v.e] 40) = W ∧ Below w.heap.size w W ∧ W.heap[w.heap.size]? = some (.cells #[.int .u8 v.p, .int .u16 v.x, .int .u16 v.t, .int .u32 v.r, .int .u32 v.h, .bool v.en, .string v.ws, .int .u64 v.e] 40 (0, 0)) := ⟨_, rfl, (Below.refl _ _).alloc (Nat.le_refl _) _, heap_alloc_new _ _⟩
  obtain ⟨B, hB⟩ : ∃ B, w.heap.size = B := ⟨_, rfl⟩
  rw [hB] at hx
  have HE := hide (And.intro hW hB)
  have HB := hide hb
  have HS := hide (h.below hb)
  have HCL := hide hcl
  have HX := hide hx
  have HKV := hide hkv
  have HBB := hide (show w.heap.size ≤ B by omega)
  obtain ⟨x0, x1, x2, x3, x4, x5, x6, x7, xf⟩ := C.val_cells hx
  obtain ⟨le, hle⟩ : ∃ l, leaseE lease = l := ⟨_, rfl⟩
  have hle2 : 0 ≤ le ∧ le ≤ 18446744073709551615 := by rw [← hle]; unfold leaseE; split <;> omega
  obtain ⟨mx, hmx⟩ : ∃ m, 18446744073709551615 - now = m := ⟨_, rfl⟩
  have hmx2 : 0 ≤ mx ∧ mx ≤ 18446744073709551615 := by omega
  have hw1 : IntKind.u64.wrap (18446744073709551615 - now) = mx := by rw [IntKind.wrap_u64]; omega
  obtain ⟨en, hen⟩ : ∃ e, now + min le mx = e := ⟨_, rfl⟩
  have hen2 : IntKind.u64.wrap (now + min le mx) = en := by rw [IntKind.wrap_u64]; omega
  have HEN := hide (show endsE lease now = en by unfold endsE; rw [hle, hmx, hen])
  have HLE := hide hle
  clear hW hB hb hx h hcl hkv hle hmx hen
  by_cases h0 : lease = 0
  · have hd : (lease == (0 : Int)) = true := by simpa using h0
    have hle' : le = 604800 := by rw [← HLE.out]; unfold leaseE; rw [if_pos h0]
    subst hle'
    clear h0
    by_cases hm : mx < 604800
    · have hm1 : decide (mx < 604800) = true := decide_eq_true hm
      have hmn : min 604800 mx = mx := by omega
      rw [hmn] at hen2
      go_enter Try.func49, Try.ntmps49
      go_upto_region 1 with (fail)
      rw [HE.out.1]
      try rw [HE.out.2]
      clear HE
      go_wp2_with fail
      obtain ⟨W1, hW1, HX1, HB1, HS1⟩ : ∃ q, W.setCell ⟨B, 7, none⟩ (.int .u64 en) = q ∧ Hid (q.heap[B]? = some (.cells #[.int .u8 v.p, .int .u16 v.x, .int .u16 v.t, .int .u32 v.r, .int .u32 v.h, .bool v.en, .string v.ws, .int .u64 en] 40 (0, 0))) ∧ Hid (OnlyS (fun q => q = sp ∨ q = tt) w q) ∧ Hid (SAt q sp tt cs up L) := ⟨_, rfl, hide (heap_setCell_same _ _ 7 _ _ _ HX.out), hide ((OnlyS.of HB.out).setCell B 7 _ (.inr HBB.out)), hide (HS.out.box HX.out (by decide) (by decide) (by decide))⟩
      rw [hW1]
      clear hW1 x0 x1 x2 x3 x4 x5 x6 x7 xf
      refine (HCL.out _).mono ?_
      rintro e W2 ⟨rfl, b2⟩
      have HX2 := hide (below_block b2 HX1.out (Nat.le_refl _))
      have HB2 := hide (HB1.out.then b2)
      have HS2 := hide (HS1.out.below b2)
      obtain ⟨x0, x1, x2, x3, x4, x5, x6, x7, xf⟩ := C.val_cells HX2.out
      clear b2
      go_upto_region 5 with (fail)
      obtain ⟨W3, hW3, hx3, HB3, hs3⟩ : ∃ q, W2.setCell ⟨B, 6, none⟩ (.string v.ws) = q ∧ q.heap[B]? = some (.cells #[.int .u8 v.p, .int .u16 v.x, .int .u16 v.t, .int .u32 v.r, .int .u32 v.h, .bool v.en, .string v.ws, .int .u64 en] 40 (0, 0)) ∧ Hid (OnlyS (fun q => q = sp ∨ q = tt) w q) ∧ SAt q sp tt cs up L := ⟨_, rfl, heap_setCell_same _ _ 6 _ _ _ HX2.out, hide (HB2.out.setCell B 6 _ (.inr HBB.out)), HS2.out.box HX2.out (by decide) (by decide) (by decide)⟩
      rw [hW3]
      clear hW3 x0 x1 x2 x3 x4 x5 x6 x7 xf
      have HSP := hide (fun (V : World) (hV : Below W3.heap.size W3 V) => hs3.below hV)
      have hcell : ∀ V : World, V.cell? ⟨sp, 28, none⟩ = some (.pointer (some ⟨tt, 0, none⟩)) → V.heap[B]? = some (.cells #[.int .u8 v.p, .int .u16 v.x, .int .u16 v.t, .int .u32 v.r, .int .u32 v.h, .bool v.en, .string v.ws, .int .u64 en] 40 (0, 0)) → (V.cell? ⟨sp, 28, none⟩ = some (.pointer (some ⟨tt, 0, none⟩)) ∧ V.cell? ⟨B, 0, none⟩ = some (.int .u8 v.p) ∧ V.cell? ⟨B, 1, none⟩ = some (.int .u16 v.x) ∧ V.cell? ⟨B, 2, none⟩ = some (.int .u16 v.t) ∧ V.cell? ⟨B, 3, none⟩ = some (.int .u32 v.r) ∧ V.cell? ⟨B, 4, none⟩ = some (.int .u32 v.h) ∧ V.cell? ⟨B, 5, none⟩ = some (.bool v.en) ∧ V.cell? ⟨B, 6, none⟩ = some (.string v.ws) ∧ V.cell? ⟨B, 7, none⟩ = some (.int .u64 en)) := fun V h1 h2 => by
        obtain ⟨y0, y1, y2, y3, y4, y5, y6, y7, _⟩ := C.val_cells h2
        exact ⟨h1, y0, y1, y2, y3, y4, y5, y6, y7⟩
      have HSS := hide (fun (V : World) (hV : Below W3.heap.size W3 V) => hcell V (hs3.below hV).c28 (below_block hV hx3 (Nat.le_refl _)))
      have HPU := fun (V : World) (hV : Below W3.heap.size W3 V) => C.PutL (hs3.below hV).tab C.oF_ord k { v with e := en } (by omega) (.inr (by unfold MX; omega))
      dsimp only at HPU
      rw [← HKV.out.1, ← HKV.out.2.1, ← HKV.out.2.2] at HPU
      replace HPU := hide HPU
      have HSG := hide (fun (V V' : World) (hV : Below W3.heap.size W3 V) (hg : V.grownBy V' (some tt)) => hcell V' (by
          have h1 := hs3.below hV
          rw [World.cell?_of_block (hg.block sp (lt_of_block h1.blk) (fun e => h1.ne (Option.some.inj e)))]; exact h1.c28) (by
          have h1 := below_block hV hx3 (Nat.le_refl _)
          refine (hg.block B (lt_of_block h1) (fun e => ?_)).trans h1
          obtain ⟨ds, h2⟩ := tab_hd (hs3.below hV).tab
          rw [← Option.some.inj e, h1] at h2
          injection h2 with h2; injection h2 with _ h3 _; exact absurd h3 (by decide)))
      have HW0 := hide (below_drew W3)
      clear hcell hx3 hs3 HX HX1 HX2 HS HS1 HS2 HB1 HB2
      refine wp_region_held_drew (S := fun w' => w'.cell? ⟨sp, 28, none⟩ = some (.pointer (some ⟨tt, 0, none⟩)) ∧ w'.cell? ⟨B, 0, none⟩ = some (.int .u8 v.p) ∧ w'.cell? ⟨B, 1, none⟩ = some (.int .u16 v.x) ∧ w'.cell? ⟨B, 2, none⟩ = some (.int .u16 v.t) ∧ w'.cell? ⟨B, 3, none⟩ = some (.int .u32 v.r) ∧ w'.cell? ⟨B, 4, none⟩ = some (.int .u32 v.h) ∧ w'.cell? ⟨B, 5, none⟩ = some (.bool v.en) ∧ w'.cell? ⟨B, 6, none⟩ = some (.string v.ws) ∧ w'.cell? ⟨B, 7, none⟩ = some (.int .u64 en)) (by kernel_rfl) (by exact HSS.out _ (Below.refl _ _).drew) (fun hHeld => ?_)
      generalize W3.drew = z0 at *
      refine wpAnyH_take (i := 0) (oi := { dst := some 21, op := Op.move (Operand.tmp 0), type := 33, pos := "entries.go:107", after := #[], guard := none }) (v := ?_) rfl (by kernel_rfl) (by kernel_rfl) (by kernel_rfl) (fun _ _ _ h => h) (Or.inl ⟨by rfl, ?_⟩) (by assumption) ?_
      rotate_left
      · intro wS hSw
        try dsimp only at hSw
        go_simp
        try with_reducible rfl
      try simp only [Act.put, List.setIfInBounds_toArray, List.set_cons_zero, List.set_cons_succ]
      refine wpAnyH_take (i := 1) (oi := { dst := some 22, op := Op.nilCheck (Operand.tmp 21), type := 0, pos := "entries.go:107", after := #[{ on := 0, ground := Ground.data }], guard := none }) (v := ?_) rfl (by kernel_rfl) (by kernel_rfl) (by kernel_rfl) (fun _ _ _ h => h) (Or.inl ⟨by rfl, ?_⟩) (by assumption) ?_
      rotate_left
      · intro wS hSw
        try dsimp only at hSw
        go_simp
        try with_reducible rfl
      try simp only [Act.put, List.setIfInBounds_toArray, List.set_cons_zero, List.set_cons_succ]
      refine wpAnyH_take (i := 2) (oi := { dst := some 23, op := Op.fieldAddr 79 (Operand.tmp 22) 1, type := 0, pos := "entries.go:107", after := #[{ on := 1, ground := Ground.data }], guard := none }) (v := ?_) rfl (by kernel_rfl) (by kernel_rfl) (by kernel_rfl) (fun _ _ _ h => h) (Or.inl ⟨by rfl, ?_⟩) (by assumption) ?_
      rotate_left
      · intro wS hSw
        try dsimp only at hSw
        go_simp
        try with_reducible rfl
      try simp only [Act.put, List.setIfInBounds_toArray, List.set_cons_zero, List.set_cons_succ]
      refine wpAnyH_take (i := 3) (oi := { dst := some 24, op := Op.load 73 (Operand.tmp 23), type := 73, pos := "entries.go:107", after := #[{ on := 2, ground := Ground.data }], guard := none }) (v := ?_) rfl (by kernel_rfl) (by kernel_rfl) (by kernel_rfl) (fun _ _ _ h => h) (Or.inl ⟨by rfl, ?_⟩) (by assumption) ?_
      rotate_left
      · intro wS hSw
        try dsimp only at hSw
        go_simp
        try with_reducible rfl
      try simp only [Act.put, List.setIfInBounds_toArray, List.set_cons_zero, List.set_cons_succ]
      refine wpAnyH_take (i := 4) (oi := { dst := some 25, op := Op.fieldAddr 40 (Operand.tmp 5) 0, type := 0, pos := "entries.go:107", after := #[], guard := none }) (v := ?_) rfl (by kernel_rfl) (by kernel_rfl) (by kernel_rfl) (fun _ _ _ h => h) (Or.inl ⟨by rfl, ?_⟩) (by assumption) ?_
      rotate_left
      · intro wS hSw
        try dsimp only at hSw
        go_simp
        try with_reducible rfl
      try simp only [Act.put, List.setIfInBounds_toArray, List.set_cons_zero, List.set_cons_succ]
      refine wpAnyH_take (i := 5) (oi := { dst := some 26, op := Op.load 38 (Operand.tmp 25), type := 38, pos := "entries.go:107", after := #[{ on := 4, ground := Ground.data }], guard := none }) (v := ?_) rfl (by kernel_rfl) (by kernel_rfl) (by kernel_rfl) (fun _ _ _ h => h) (Or.inl ⟨by rfl, ?_⟩) (by assumption) ?_
      rotate_left
      · intro wS hSw
        try dsimp only at hSw
        go_simp
        try with_reducible rfl
      try simp only [Act.put, List.setIfInBounds_toArray, List.set_cons_zero, List.set_cons_succ]
      refine wpAnyH_take (i := 7) (oi := { dst := some 28, op := Op.load 40 (Operand.tmp 5), type := 40, pos := "entries.go:107", after := #[], guard := none }) (v := ?_) rfl (by kernel_rfl) (by kernel_rfl) (by kernel_rfl) (fun _ _ _ h => h) (Or.inl ⟨by rfl, ?_⟩) (by assumption) ?_
      rotate_left
      · intro wS hSw
        try dsimp only at hSw
        go_simp
        try with_reducible rfl
      try simp only [Act.put, List.setIfInBounds_toArray, List.set_cons_zero, List.set_cons_succ]
      refine wpAnyH_ready (rs := [6]) (by kernel_rfl) (by simp) ?_
      refine AllReadyH.cons (o := { dst := some 27, op := Op.call { callee := Callee.value (Operand.func 53), args := #[Operand.tmp 26], argTypes := #[38] }, type := 76, pos := "entries.go:107", after := #[{ on := 5, ground := Ground.data }], guard := none }) rfl (fun K hK => ?_) ?_
      ·
        go_simp
        go_at_call 53
        refine (keyOf_any _ _ _ _ _ _).mono ?_
        rintro e z1 ⟨rfl, b9⟩
        have HH1 := hide (HW0.out.trans (b9.mono HW0.out.size))
        clear b9
        refine hK.out _ _ (HSS.out _ HH1.out) (fun hHeld1 => ?_)
        clear hK K
        try simp only [Act.put, List.setIfInBounds_toArray, List.set_cons_zero, List.set_cons_succ]
        refine wpAnyH_ready (rs := [8]) (by kernel_rfl) (by simp) ?_
        refine AllReadyH.cons (o := { dst := some 29, op := Op.call { callee := Callee.value (Operand.func 78), args := #[Operand.tmp 24, Operand.tmp 27, Operand.tmp 28], argTypes := #[73, 76, 40] }, type := 117, pos := "entries.go:107", after := #[{ on := 3, ground := Ground.data }, { on := 6, ground := Ground.data }, { on := 7, ground := Ground.data }, { on := 6, ground := Ground.chain }], guard := none }) rfl (fun K hK => ?_) ?_
        ·
          go_simp
          go_at_call 78
          with_reducible refine (HPU.out _ HH1.out).mono ?_
          rintro e z2 ⟨rfl, ht9, hg9⟩
          have HT9 := hide ht9
          have HG9 := hide hg9
          have HS9 := hide (HSG.out _ _ HH1.out hg9)
          clear ht9 hg9
          refine hK.out _ _ (HS9.out) (fun hHeld2 => ?_)
          clear hK K
          try simp only [Act.put, List.setIfInBounds_toArray, List.set_cons_zero, List.set_cons_succ]
          refine wpAnyH_done (by kernel_rfl) ?_ _
          have HX9 := hide (HSP.out _ HH1.out |>.tabs HT9.out HG9.out)
          have c29 := HX9.out.c29
          have HO9 := hide ((HB3.out.then HH1.out).grown HG9.out (fun k e => by cases e; exact .inl (.inr rfl)))
          clear HSS HSG HSP HPU HT9 HG9 HS9
          have hf9 := frozen_of_row _ sp 29 _ _ HX9.out.blk
          go_wp2_with fail
          first | go_end0 | go_ret
          exact ⟨⟨_, rfl⟩, by rw [HEN.out]; exact HX9.out.upd _, HO9.out.setCell sp 29 _ (.inl (.inl rfl))⟩
        exact AllReadyH.nil
      exact AllReadyH.nil
    · have hm1 : decide (mx < 604800) = false := decide_eq_false hm
      have hmn : min 604800 mx = 604800 := by omega
      rw [hmn] at hen2
      go_enter Try.func49, Try.ntmps49
      go_upto_region 1 with (fail)
      rw [HE.out.1]
      try rw [HE.out.2]
      clear HE
      go_wp2_with fail
      obtain ⟨W1, hW1, HX1, HB1, HS1⟩ : ∃ q, W.setCell ⟨B, 7, none⟩ (.int .u64 en) = q ∧ Hid (q.heap[B]? = some (.cells #[.int .u8 v.p, .int .u16 v.x, .int .u16 v.t, .int .u32 v.r, .int .u32 v.h, .bool v.en, .string v.ws, .int .u64 en] 40 (0, 0))) ∧ Hid (OnlyS (fun q => q = sp ∨ q = tt) w q) ∧ Hid (SAt q sp tt cs up L) := ⟨_, rfl, hide (heap_setCell_same _ _ 7 _ _ _ HX.out), hide ((OnlyS.of HB.out).setCell B 7 _ (.inr HBB.out)), hide (HS.out.box HX.out (by decide) (by decide) (by decide))⟩
      rw [hW1]
      clear hW1 x0 x1 x2 x3 x4 x5 x6 x7 xf
      refine (HCL.out _).mono ?_
      rintro e W2 ⟨rfl, b2⟩
      have HX2 := hide (below_block b2 HX1.out (Nat.le_refl _))
      have HB2 := hide (HB1.out.then b2)
      have HS2 := hide (HS1.out.below b2)
      obtain ⟨x0, x1, x2, x3, x4, x5, x6, x7, xf⟩ := C.val_cells HX2.out
      clear b2
      go_upto_region 5 with (fail)
      obtain ⟨W3, hW3, hx3, HB3, hs3⟩ : ∃ q, W2.setCell ⟨B, 6, none⟩ (.string v.ws) = q ∧ q.heap[B]? = some (.cells #[.int .u8 v.p, .int .u16 v.x, .int .u16 v.t, .int .u32 v.r, .int .u32 v.h, .bool v.en, .string v.ws, .int .u64 en] 40 (0, 0)) ∧ Hid (OnlyS (fun q => q = sp ∨ q = tt) w q) ∧ SAt q sp tt cs up L := ⟨_, rfl, heap_setCell_same _ _ 6 _ _ _ HX2.out, hide (HB2.out.setCell B 6 _ (.inr HBB.out)), HS2.out.box HX2.out (by decide) (by decide) (by decide)⟩
      rw [hW3]
      clear hW3 x0 x1 x2 x3 x4 x5 x6 x7 xf
      have HSP := hide (fun (V : World) (hV : Below W3.heap.size W3 V) => hs3.below hV)
      have hcell : ∀ V : World, V.cell? ⟨sp, 28, none⟩ = some (.pointer (some ⟨tt, 0, none⟩)) → V.heap[B]? = some (.cells #[.int .u8 v.p, .int .u16 v.x, .int .u16 v.t, .int .u32 v.r, .int .u32 v.h, .bool v.en, .string v.ws, .int .u64 en] 40 (0, 0)) → (V.cell? ⟨sp, 28, none⟩ = some (.pointer (some ⟨tt, 0, none⟩)) ∧ V.cell? ⟨B, 0, none⟩ = some (.int .u8 v.p) ∧ V.cell? ⟨B, 1, none⟩ = some (.int .u16 v.x) ∧ V.cell? ⟨B, 2, none⟩ = some (.int .u16 v.t) ∧ V.cell? ⟨B, 3, none⟩ = some (.int .u32 v.r) ∧ V.cell? ⟨B, 4, none⟩ = some (.int .u32 v.h) ∧ V.cell? ⟨B, 5, none⟩ = some (.bool v.en) ∧ V.cell? ⟨B, 6, none⟩ = some (.string v.ws) ∧ V.cell? ⟨B, 7, none⟩ = some (.int .u64 en)) := fun V h1 h2 => by
        obtain ⟨y0, y1, y2, y3, y4, y5, y6, y7, _⟩ := C.val_cells h2
        exact ⟨h1, y0, y1, y2, y3, y4, y5, y6, y7⟩
      have HSS := hide (fun (V : World) (hV : Below W3.heap.size W3 V) => hcell V (hs3.below hV).c28 (below_block hV hx3 (Nat.le_refl _)))
      have HPU := fun (V : World) (hV : Below W3.heap.size W3 V) => C.PutL (hs3.below hV).tab C.oF_ord k { v with e := en } (by omega) (.inr (by unfold MX; omega))
      dsimp only at HPU
      rw [← HKV.out.1, ← HKV.out.2.1, ← HKV.out.2.2] at HPU
      replace HPU := hide HPU
      have HSG := hide (fun (V V' : World) (hV : Below W3.heap.size W3 V) (hg : V.grownBy V' (some tt)) => hcell V' (by
          have h1 := hs3.below hV
          rw [World.cell?_of_block (hg.block sp (lt_of_block h1.blk) (fun e => h1.ne (Option.some.inj e)))]; exact h1.c28) (by
          have h1 := below_block hV hx3 (Nat.le_refl _)
          refine (hg.block B (lt_of_block h1) (fun e => ?_)).trans h1
          obtain ⟨ds, h2⟩ := tab_hd (hs3.below hV).tab
          rw [← Option.some.inj e, h1] at h2
          injection h2 with h2; injection h2 with _ h3 _; exact absurd h3 (by decide)))
      have HW0 := hide (below_drew W3)
      clear hcell hx3 hs3 HX HX1 HX2 HS HS1 HS2 HB1 HB2
      refine wp_region_held_drew (S := fun w' => w'.cell? ⟨sp, 28, none⟩ = some (.pointer (some ⟨tt, 0, none⟩)) ∧ w'.cell? ⟨B, 0, none⟩ = some (.int .u8 v.p) ∧ w'.cell? ⟨B, 1, none⟩ = some (.int .u16 v.x) ∧ w'.cell? ⟨B, 2, none⟩ = some (.int .u16 v.t) ∧ w'.cell? ⟨B, 3, none⟩ = some (.int .u32 v.r) ∧ w'.cell? ⟨B, 4, none⟩ = some (.int .u32 v.h) ∧ w'.cell? ⟨B, 5, none⟩ = some (.bool v.en) ∧ w'.cell? ⟨B, 6, none⟩ = some (.string v.ws) ∧ w'.cell? ⟨B, 7, none⟩ = some (.int .u64 en)) (by kernel_rfl) (by exact HSS.out _ (Below.refl _ _).drew) (fun hHeld => ?_)
      generalize W3.drew = z0 at *
      refine wpAnyH_take (i := 0) (oi := { dst := some 21, op := Op.move (Operand.tmp 0), type := 33, pos := "entries.go:107", after := #[], guard := none }) (v := ?_) rfl (by kernel_rfl) (by kernel_rfl) (by kernel_rfl) (fun _ _ _ h => h) (Or.inl ⟨by rfl, ?_⟩) (by assumption) ?_
      rotate_left
      · intro wS hSw
        try dsimp only at hSw
        go_simp
        try with_reducible rfl
      try simp only [Act.put, List.setIfInBounds_toArray, List.set_cons_zero, List.set_cons_succ]
      refine wpAnyH_take (i := 1) (oi := { dst := some 22, op := Op.nilCheck (Operand.tmp 21), type := 0, pos := "entries.go:107", after := #[{ on := 0, ground := Ground.data }], guard := none }) (v := ?_) rfl (by kernel_rfl) (by kernel_rfl) (by kernel_rfl) (fun _ _ _ h => h) (Or.inl ⟨by rfl, ?_⟩) (by assumption) ?_
      rotate_left
      · intro wS hSw
        try dsimp only at hSw
        go_simp
        try with_reducible rfl
      try simp only [Act.put, List.setIfInBounds_toArray, List.set_cons_zero, List.set_cons_succ]
      refine wpAnyH_take (i := 2) (oi := { dst := some 23, op := Op.fieldAddr 79 (Operand.tmp 22) 1, type := 0, pos := "entries.go:107", after := #[{ on := 1, ground := Ground.data }], guard := none }) (v := ?_) rfl (by kernel_rfl) (by kernel_rfl) (by kernel_rfl) (fun _ _ _ h => h) (Or.inl ⟨by rfl, ?_⟩) (by assumption) ?_
      rotate_left
      · intro wS hSw
        try dsimp only at hSw
        go_simp
        try with_reducible rfl
      try simp only [Act.put, List.setIfInBounds_toArray, List.set_cons_zero, List.set_cons_succ]
      refine wpAnyH_take (i := 3) (oi := { dst := some 24, op := Op.load 73 (Operand.tmp 23), type := 73, pos := "entries.go:107", after := #[{ on := 2, ground := Ground.data }], guard := none }) (v := ?_) rfl (by kernel_rfl) (by kernel_rfl) (by kernel_rfl) (fun _ _ _ h => h) (Or.inl ⟨by rfl, ?_⟩) (by assumption) ?_
      rotate_left
      · intro wS hSw
        try dsimp only at hSw
        go_simp
        try with_reducible rfl
      try simp only [Act.put, List.setIfInBounds_toArray, List.set_cons_zero, List.set_cons_succ]
      refine wpAnyH_take (i := 4) (oi := { dst := some 25, op := Op.fieldAddr 40 (Operand.tmp 5) 0, type := 0, pos := "entries.go:107", after := #[], guard := none }) (v := ?_) rfl (by kernel_rfl) (by kernel_rfl) (by kernel_rfl) (fun _ _ _ h => h) (Or.inl ⟨by rfl, ?_⟩) (by assumption) ?_
      rotate_left
      · intro wS hSw
        try dsimp only at hSw
        go_simp
        try with_reducible rfl
      try simp only [Act.put, List.setIfInBounds_toArray, List.set_cons_zero, List.set_cons_succ]
      refine wpAnyH_take (i := 5) (oi := { dst := some 26, op := Op.load 38 (Operand.tmp 25), type := 38, pos := "entries.go:107", after := #[{ on := 4, ground := Ground.data }], guard := none }) (v := ?_) rfl (by kernel_rfl) (by kernel_rfl) (by kernel_rfl) (fun _ _ _ h => h) (Or.inl ⟨by rfl, ?_⟩) (by assumption) ?_
      rotate_left
      · intro wS hSw
        try dsimp only at hSw
        go_simp
        try with_reducible rfl
      try simp only [Act.put, List.setIfInBounds_toArray, List.set_cons_zero, List.set_cons_succ]
      refine wpAnyH_take (i := 7) (oi := { dst := some 28, op := Op.load 40 (Operand.tmp 5), type := 40, pos := "entries.go:107", after := #[], guard := none }) (v := ?_) rfl (by kernel_rfl) (by kernel_rfl) (by kernel_rfl) (fun _ _ _ h => h) (Or.inl ⟨by rfl, ?_⟩) (by assumption) ?_
      rotate_left
      · intro wS hSw
        try dsimp only at hSw
        go_simp
        try with_reducible rfl
      try simp only [Act.put, List.setIfInBounds_toArray, List.set_cons_zero, List.set_cons_succ]
      refine wpAnyH_ready (rs := [6]) (by kernel_rfl) (by simp) ?_
      refine AllReadyH.cons (o := { dst := some 27, op := Op.call { callee := Callee.value (Operand.func 53), args := #[Operand.tmp 26], argTypes := #[38] }, type := 76, pos := "entries.go:107", after := #[{ on := 5, ground := Ground.data }], guard := none }) rfl (fun K hK => ?_) ?_
      ·
        go_simp
        go_at_call 53
        refine (keyOf_any _ _ _ _ _ _).mono ?_
        rintro e z1 ⟨rfl, b9⟩
        have HH1 := hide (HW0.out.trans (b9.mono HW0.out.size))
        clear b9
        refine hK.out _ _ (HSS.out _ HH1.out) (fun hHeld1 => ?_)
        clear hK K
        try simp only [Act.put, List.setIfInBounds_toArray, List.set_cons_zero, List.set_cons_succ]
        refine wpAnyH_ready (rs := [8]) (by kernel_rfl) (by simp) ?_
        refine AllReadyH.cons (o := { dst := some 29, op := Op.call { callee := Callee.value (Operand.func 78), args := #[Operand.tmp 24, Operand.tmp 27, Operand.tmp 28], argTypes := #[73, 76, 40] }, type := 117, pos := "entries.go:107", after := #[{ on := 3, ground := Ground.data }, { on := 6, ground := Ground.data }, { on := 7, ground := Ground.data }, { on := 6, ground := Ground.chain }], guard := none }) rfl (fun K hK => ?_) ?_
        ·
          go_simp
          go_at_call 78
          with_reducible refine (HPU.out _ HH1.out).mono ?_
          rintro e z2 ⟨rfl, ht9, hg9⟩
          have HT9 := hide ht9
          have HG9 := hide hg9
          have HS9 := hide (HSG.out _ _ HH1.out hg9)
          clear ht9 hg9
          refine hK.out _ _ (HS9.out) (fun hHeld2 => ?_)
          clear hK K
          try simp only [Act.put, List.setIfInBounds_toArray, List.set_cons_zero, List.set_cons_succ]
          refine wpAnyH_done (by kernel_rfl) ?_ _
          have HX9 := hide (HSP.out _ HH1.out |>.tabs HT9.out HG9.out)
          have c29 := HX9.out.c29
          have HO9 := hide ((HB3.out.then HH1.out).grown HG9.out (fun k e => by cases e; exact .inl (.inr rfl)))
          clear HSS HSG HSP HPU HT9 HG9 HS9
          have hf9 := frozen_of_row _ sp 29 _ _ HX9.out.blk
          go_wp2_with fail
          first | go_end0 | go_ret
          exact ⟨⟨_, rfl⟩, by rw [HEN.out]; exact HX9.out.upd _, HO9.out.setCell sp 29 _ (.inl (.inl rfl))⟩
        exact AllReadyH.nil
      exact AllReadyH.nil
  · have hd : (lease == (0 : Int)) = false := by simpa using h0
    have hle' : le = lease := by rw [← HLE.out]; unfold leaseE; rw [if_neg h0]
    subst hle'
    clear h0
    by_cases hm : mx < le
    · have hm1 : decide (mx < le) = true := decide_eq_true hm
      have hmn : min le mx = mx := by omega
      rw [hmn] at hen2
      go_enter Try.func49, Try.ntmps49
      go_upto_region 1 with (fail)
      rw [HE.out.1]
      try rw [HE.out.2]
      clear HE
      go_wp2_with fail
      obtain ⟨W1, hW1, HX1, HB1, HS1⟩ : ∃ q, W.setCell ⟨B, 7, none⟩ (.int .u64 en) = q ∧ Hid (q.heap[B]? = some (.cells #[.int .u8 v.p, .int .u16 v.x, .int .u16 v.t, .int .u32 v.r, .int .u32 v.h, .bool v.en, .string v.ws, .int .u64 en] 40 (0, 0))) ∧ Hid (OnlyS (fun q => q = sp ∨ q = tt) w q) ∧ Hid (SAt q sp tt cs up L) := ⟨_, rfl, hide (heap_setCell_same _ _ 7 _ _ _ HX.out), hide ((OnlyS.of HB.out).setCell B 7 _ (.inr HBB.out)), hide (HS.out.box HX.out (by decide) (by decide) (by decide))⟩
      rw [hW1]
      clear hW1 x0 x1 x2 x3 x4 x5 x6 x7 xf
      refine (HCL.out _).mono ?_
      rintro e W2 ⟨rfl, b2⟩
      have HX2 := hide (below_block b2 HX1.out (Nat.le_refl _))
      have HB2 := hide (HB1.out.then b2)
      have HS2 := hide (HS1.out.below b2)
      obtain ⟨x0, x1, x2, x3, x4, x5, x6, x7, xf⟩ := C.val_cells HX2.out
      clear b2
      go_upto_region 5 with (fail)
      obtain ⟨W3, hW3, hx3, HB3, hs3⟩ : ∃ q, W2.setCell ⟨B, 6, none⟩ (.string v.ws) = q ∧ q.heap[B]? = some (.cells #[.int .u8 v.p, .int .u16 v.x, .int .u16 v.t, .int .u32 v.r, .int .u32 v.h, .bool v.en, .string v.ws, .int .u64 en] 40 (0, 0)) ∧ Hid (OnlyS (fun q => q = sp ∨ q = tt) w q) ∧ SAt q sp tt cs up L := ⟨_, rfl, heap_setCell_same _ _ 6 _ _ _ HX2.out, hide (HB2.out.setCell B 6 _ (.inr HBB.out)), HS2.out.box HX2.out (by decide) (by decide) (by decide)⟩
      rw [hW3]
      clear hW3 x0 x1 x2 x3 x4 x5 x6 x7 xf
      have HSP := hide (fun (V : World) (hV : Below W3.heap.size W3 V) => hs3.below hV)
      have hcell : ∀ V : World, V.cell? ⟨sp, 28, none⟩ = some (.pointer (some ⟨tt, 0, none⟩)) → V.heap[B]? = some (.cells #[.int .u8 v.p, .int .u16 v.x, .int .u16 v.t, .int .u32 v.r, .int .u32 v.h, .bool v.en, .string v.ws, .int .u64 en] 40 (0, 0)) → (V.cell? ⟨sp, 28, none⟩ = some (.pointer (some ⟨tt, 0, none⟩)) ∧ V.cell? ⟨B, 0, none⟩ = some (.int .u8 v.p) ∧ V.cell? ⟨B, 1, none⟩ = some (.int .u16 v.x) ∧ V.cell? ⟨B, 2, none⟩ = some (.int .u16 v.t) ∧ V.cell? ⟨B, 3, none⟩ = some (.int .u32 v.r) ∧ V.cell? ⟨B, 4, none⟩ = some (.int .u32 v.h) ∧ V.cell? ⟨B, 5, none⟩ = some (.bool v.en) ∧ V.cell? ⟨B, 6, none⟩ = some (.string v.ws) ∧ V.cell? ⟨B, 7, none⟩ = some (.int .u64 en)) := fun V h1 h2 => by
        obtain ⟨y0, y1, y2, y3, y4, y5, y6, y7, _⟩ := C.val_cells h2
        exact ⟨h1, y0, y1, y2, y3, y4, y5, y6, y7⟩
      have HSS := hide (fun (V : World) (hV : Below W3.heap.size W3 V) => hcell V (hs3.below hV).c28 (below_block hV hx3 (Nat.le_refl _)))
      have HPU := fun (V : World) (hV : Below W3.heap.size W3 V) => C.PutL (hs3.below hV).tab C.oF_ord k { v with e := en } (by omega) (.inr (by unfold MX; omega))
      dsimp only at HPU
      rw [← HKV.out.1, ← HKV.out.2.1, ← HKV.out.2.2] at HPU
      replace HPU := hide HPU
      have HSG := hide (fun (V V' : World) (hV : Below W3.heap.size W3 V) (hg : V.grownBy V' (some tt)) => hcell V' (by
          have h1 := hs3.below hV
          rw [World.cell?_of_block (hg.block sp (lt_of_block h1.blk) (fun e => h1.ne (Option.some.inj e)))]; exact h1.c28) (by
          have h1 := below_block hV hx3 (Nat.le_refl _)
          refine (hg.block B (lt_of_block h1) (fun e => ?_)).trans h1
          obtain ⟨ds, h2⟩ := tab_hd (hs3.below hV).tab
          rw [← Option.some.inj e, h1] at h2
          injection h2 with h2; injection h2 with _ h3 _; exact absurd h3 (by decide)))
      have HW0 := hide (below_drew W3)
      clear hcell hx3 hs3 HX HX1 HX2 HS HS1 HS2 HB1 HB2
      refine wp_region_held_drew (S := fun w' => w'.cell? ⟨sp, 28, none⟩ = some (.pointer (some ⟨tt, 0, none⟩)) ∧ w'.cell? ⟨B, 0, none⟩ = some (.int .u8 v.p) ∧ w'.cell? ⟨B, 1, none⟩ = some (.int .u16 v.x) ∧ w'.cell? ⟨B, 2, none⟩ = some (.int .u16 v.t) ∧ w'.cell? ⟨B, 3, none⟩ = some (.int .u32 v.r) ∧ w'.cell? ⟨B, 4, none⟩ = some (.int .u32 v.h) ∧ w'.cell? ⟨B, 5, none⟩ = some (.bool v.en) ∧ w'.cell? ⟨B, 6, none⟩ = some (.string v.ws) ∧ w'.cell? ⟨B, 7, none⟩ = some (.int .u64 en)) (by kernel_rfl) (by exact HSS.out _ (Below.refl _ _).drew) (fun hHeld => ?_)
      generalize W3.drew = z0 at *
      refine wpAnyH_take (i := 0) (oi := { dst := some 21, op := Op.move (Operand.tmp 0), type := 33, pos := "entries.go:107", after := #[], guard := none }) (v := ?_) rfl (by kernel_rfl) (by kernel_rfl) (by kernel_rfl) (fun _ _ _ h => h) (Or.inl ⟨by rfl, ?_⟩) (by assumption) ?_
      rotate_left
      · intro wS hSw
        try dsimp only at hSw
        go_simp
        try with_reducible rfl
      try simp only [Act.put, List.setIfInBounds_toArray, List.set_cons_zero, List.set_cons_succ]
      refine wpAnyH_take (i := 1) (oi := { dst := some 22, op := Op.nilCheck (Operand.tmp 21), type := 0, pos := "entries.go:107", after := #[{ on := 0, ground := Ground.data }], guard := none }) (v := ?_) rfl (by kernel_rfl) (by kernel_rfl) (by kernel_rfl) (fun _ _ _ h => h) (Or.inl ⟨by rfl, ?_⟩) (by assumption) ?_
      rotate_left
      · intro wS hSw
        try dsimp only at hSw
        go_simp
        try with_reducible rfl
      try simp only [Act.put, List.setIfInBounds_toArray, List.set_cons_zero, List.set_cons_succ]
      refine wpAnyH_take (i := 2) (oi := { dst := some 23, op := Op.fieldAddr 79 (Operand.tmp 22) 1, type := 0, pos := "entries.go:107", after := #[{ on := 1, ground := Ground.data }], guard := none }) (v := ?_) rfl (by kernel_rfl) (by kernel_rfl) (by kernel_rfl) (fun _ _ _ h => h) (Or.inl ⟨by rfl, ?_⟩) (by assumption) ?_
      rotate_left
      · intro wS hSw
        try dsimp only at hSw
        go_simp
        try with_reducible rfl
      try simp only [Act.put, List.setIfInBounds_toArray, List.set_cons_zero, List.set_cons_succ]
      refine wpAnyH_take (i := 3) (oi := { dst := some 24, op := Op.load 73 (Operand.tmp 23), type := 73, pos := "entries.go:107", after := #[{ on := 2, ground := Ground.data }], guard := none }) (v := ?_) rfl (by kernel_rfl) (by kernel_rfl) (by kernel_rfl) (fun _ _ _ h => h) (Or.inl ⟨by rfl, ?_⟩) (by assumption) ?_
      rotate_left
      · intro wS hSw
        try dsimp only at hSw
        go_simp
        try with_reducible rfl
      try simp only [Act.put, List.setIfInBounds_toArray, List.set_cons_zero, List.set_cons_succ]
      refine wpAnyH_take (i := 4) (oi := { dst := some 25, op := Op.fieldAddr 40 (Operand.tmp 5) 0, type := 0, pos := "entries.go:107", after := #[], guard := none }) (v := ?_) rfl (by kernel_rfl) (by kernel_rfl) (by kernel_rfl) (fun _ _ _ h => h) (Or.inl ⟨by rfl, ?_⟩) (by assumption) ?_
      rotate_left
      · intro wS hSw
        try dsimp only at hSw
        go_simp
        try with_reducible rfl
      try simp only [Act.put, List.setIfInBounds_toArray, List.set_cons_zero, List.set_cons_succ]
      refine wpAnyH_take (i := 5) (oi := { dst := some 26, op := Op.load 38 (Operand.tmp 25), type := 38, pos := "entries.go:107", after := #[{ on := 4, ground := Ground.data }], guard := none }) (v := ?_) rfl (by kernel_rfl) (by kernel_rfl) (by kernel_rfl) (fun _ _ _ h => h) (Or.inl ⟨by rfl, ?_⟩) (by assumption) ?_
      rotate_left
      · intro wS hSw
        try dsimp only at hSw
        go_simp
        try with_reducible rfl
      try simp only [Act.put, List.setIfInBounds_toArray, List.set_cons_zero, List.set_cons_succ]
      refine wpAnyH_take (i := 7) (oi := { dst := some 28, op := Op.load 40 (Operand.tmp 5), type := 40, pos := "entries.go:107", after := #[], guard := none }) (v := ?_) rfl (by kernel_rfl) (by kernel_rfl) (by kernel_rfl) (fun _ _ _ h => h) (Or.inl ⟨by rfl, ?_⟩) (by assumption) ?_
      rotate_left
      · intro wS hSw
        try dsimp only at hSw
        go_simp
        try with_reducible rfl
      try simp only [Act.put, List.setIfInBounds_toArray, List.set_cons_zero, List.set_cons_succ]
      refine wpAnyH_ready (rs := [6]) (by kernel_rfl) (by simp) ?_
      refine AllReadyH.cons (o := { dst := some 27, op := Op.call { callee := Callee.value (Operand.func 53), args := #[Operand.tmp 26], argTypes := #[38] }, type := 76, pos := "entries.go:107", after := #[{ on := 5, ground := Ground.data }], guard := none }) rfl (fun K hK => ?_) ?_
      ·
        go_simp
        go_at_call 53
        refine (keyOf_any _ _ _ _ _ _).mono ?_
        rintro e z1 ⟨rfl, b9⟩
        have HH1 := hide (HW0.out.trans (b9.mono HW0.out.size))
        clear b9
        refine hK.out _ _ (HSS.out _ HH1.out) (fun hHeld1 => ?_)
        clear hK K
        try simp only [Act.put, List.setIfInBounds_toArray, List.set_cons_zero, List.set_cons_succ]
        refine wpAnyH_ready (rs := [8]) (by kernel_rfl) (by simp) ?_
        refine AllReadyH.cons (o := { dst := some 29, op := Op.call { callee := Callee.value (Operand.func 78), args := #[Operand.tmp 24, Operand.tmp 27, Operand.tmp 28], argTypes := #[73, 76, 40] }, type := 117, pos := "entries.go:107", after := #[{ on := 3, ground := Ground.data }, { on := 6, ground := Ground.data }, { on := 7, ground := Ground.data }, { on := 6, ground := Ground.chain }], guard := none }) rfl (fun K hK => ?_) ?_
        ·
          go_simp
          go_at_call 78
          with_reducible refine (HPU.out _ HH1.out).mono ?_
          rintro e z2 ⟨rfl, ht9, hg9⟩
          have HT9 := hide ht9
          have HG9 := hide hg9
          have HS9 := hide (HSG.out _ _ HH1.out hg9)
          clear ht9 hg9
          refine hK.out _ _ (HS9.out) (fun hHeld2 => ?_)
          clear hK K
          try simp only [Act.put, List.setIfInBounds_toArray, List.set_cons_zero, List.set_cons_succ]
          refine wpAnyH_done (by kernel_rfl) ?_ _
          have HX9 := hide (HSP.out _ HH1.out |>.tabs HT9.out HG9.out)
          have c29 := HX9.out.c29
          have HO9 := hide ((HB3.out.then HH1.out).grown HG9.out (fun k e => by cases e; exact .inl (.inr rfl)))
          clear HSS HSG HSP HPU HT9 HG9 HS9
          have hf9 := frozen_of_row _ sp 29 _ _ HX9.out.blk
          go_wp2_with fail
          first | go_end0 | go_ret
          exact ⟨⟨_, rfl⟩, by rw [HEN.out]; exact HX9.out.upd _, HO9.out.setCell sp 29 _ (.inl (.inl rfl))⟩
        exact AllReadyH.nil
      exact AllReadyH.nil
    · have hm1 : decide (mx < le) = false := decide_eq_false hm
      have hmn : min le mx = le := by omega
      rw [hmn] at hen2
      go_enter Try.func49, Try.ntmps49
      go_upto_region 1 with (fail)
      rw [HE.out.1]
      try rw [HE.out.2]
      clear HE
      go_wp2_with fail
      obtain ⟨W1, hW1, HX1, HB1, HS1⟩ : ∃ q, W.setCell ⟨B, 7, none⟩ (.int .u64 en) = q ∧ Hid (q.heap[B]? = some (.cells #[.int .u8 v.p, .int .u16 v.x, .int .u16 v.t, .int .u32 v.r, .int .u32 v.h, .bool v.en, .string v.ws, .int .u64 en] 40 (0, 0))) ∧ Hid (OnlyS (fun q => q = sp ∨ q = tt) w q) ∧ Hid (SAt q sp tt cs up L) := ⟨_, rfl, hide (heap_setCell_same _ _ 7 _ _ _ HX.out), hide ((OnlyS.of HB.out).setCell B 7 _ (.inr HBB.out)), hide (HS.out.box HX.out (by decide) (by decide) (by decide))⟩
      rw [hW1]
      clear hW1 x0 x1 x2 x3 x4 x5 x6 x7 xf
      refine (HCL.out _).mono ?_
      rintro e W2 ⟨rfl, b2⟩
      have HX2 := hide (below_block b2 HX1.out (Nat.le_refl _))
      have HB2 := hide (HB1.out.then b2)
      have HS2 := hide (HS1.out.below b2)
      obtain ⟨x0, x1, x2, x3, x4, x5, x6, x7, xf⟩ := C.val_cells HX2.out
      clear b2
      go_upto_region 5 with (fail)
      obtain ⟨W3, hW3, hx3, HB3, hs3⟩ : ∃ q, W2.setCell ⟨B, 6, none⟩ (.string v.ws) = q ∧ q.heap[B]? = some (.cells #[.int .u8 v.p, .int .u16 v.x, .int .u16 v.t, .int .u32 v.r, .int .u32 v.h, .bool v.en, .string v.ws, .int .u64 en] 40 (0, 0)) ∧ Hid (OnlyS (fun q => q = sp ∨ q = tt) w q) ∧ SAt q sp tt cs up L := ⟨_, rfl, heap_setCell_same _ _ 6 _ _ _ HX2.out, hide (HB2.out.setCell B 6 _ (.inr HBB.out)), HS2.out.box HX2.out (by decide) (by decide) (by decide)⟩
      rw [hW3]
      clear hW3 x0 x1 x2 x3 x4 x5 x6 x7 xf
      have HSP := hide (fun (V : World) (hV : Below W3.heap.size W3 V) => hs3.below hV)
      have hcell : ∀ V : World, V.cell? ⟨sp, 28, none⟩ = some (.pointer (some ⟨tt, 0, none⟩)) → V.heap[B]? = some (.cells #[.int .u8 v.p, .int .u16 v.x, .int .u16 v.t, .int .u32 v.r, .int .u32 v.h, .bool v.en, .string v.ws, .int .u64 en] 40 (0, 0)) → (V.cell? ⟨sp, 28, none⟩ = some (.pointer (some ⟨tt, 0, none⟩)) ∧ V.cell? ⟨B, 0, none⟩ = some (.int .u8 v.p) ∧ V.cell? ⟨B, 1, none⟩ = some (.int .u16 v.x) ∧ V.cell? ⟨B, 2, none⟩ = some (.int .u16 v.t) ∧ V.cell? ⟨B, 3, none⟩ = some (.int .u32 v.r) ∧ V.cell? ⟨B, 4, none⟩ = some (.int .u32 v.h) ∧ V.cell? ⟨B, 5, none⟩ = some (.bool v.en) ∧ V.cell? ⟨B, 6, none⟩ = some (.string v.ws) ∧ V.cell? ⟨B, 7, none⟩ = some (.int .u64 en)) := fun V h1 h2 => by
        obtain ⟨y0, y1, y2, y3, y4, y5, y6, y7, _⟩ := C.val_cells h2
        exact ⟨h1, y0, y1, y2, y3, y4, y5, y6, y7⟩
      have HSS := hide (fun (V : World) (hV : Below W3.heap.size W3 V) => hcell V (hs3.below hV).c28 (below_block hV hx3 (Nat.le_refl _)))
      have HPU := fun (V : World) (hV : Below W3.heap.size W3 V) => C.PutL (hs3.below hV).tab C.oF_ord k { v with e := en } (by omega) (.inr (by unfold MX; omega))
      dsimp only at HPU
      rw [← HKV.out.1, ← HKV.out.2.1, ← HKV.out.2.2] at HPU
      replace HPU := hide HPU
      have HSG := hide (fun (V V' : World) (hV : Below W3.heap.size W3 V) (hg : V.grownBy V' (some tt)) => hcell V' (by
          have h1 := hs3.below hV
          rw [World.cell?_of_block (hg.block sp (lt_of_block h1.blk) (fun e => h1.ne (Option.some.inj e)))]; exact h1.c28) (by
          have h1 := below_block hV hx3 (Nat.le_refl _)
          refine (hg.block B (lt_of_block h1) (fun e => ?_)).trans h1
          obtain ⟨ds, h2⟩ := tab_hd (hs3.below hV).tab
          rw [← Option.some.inj e, h1] at h2
          injection h2 with h2; injection h2 with _ h3 _; exact absurd h3 (by decide)))
      have HW0 := hide (below_drew W3)
      clear hcell hx3 hs3 HX HX1 HX2 HS HS1 HS2 HB1 HB2
      refine wp_region_held_drew (S := fun w' => w'.cell? ⟨sp, 28, none⟩ = some (.pointer (some ⟨tt, 0, none⟩)) ∧ w'.cell? ⟨B, 0, none⟩ = some (.int .u8 v.p) ∧ w'.cell? ⟨B, 1, none⟩ = some (.int .u16 v.x) ∧ w'.cell? ⟨B, 2, none⟩ = some (.int .u16 v.t) ∧ w'.cell? ⟨B, 3, none⟩ = some (.int .u32 v.r) ∧ w'.cell? ⟨B, 4, none⟩ = some (.int .u32 v.h) ∧ w'.cell? ⟨B, 5, none⟩ = some (.bool v.en) ∧ w'.cell? ⟨B, 6, none⟩ = some (.string v.ws) ∧ w'.cell? ⟨B, 7, none⟩ = some (.int .u64 en)) (by kernel_rfl) (by exact HSS.out _ (Below.refl _ _).drew) (fun hHeld => ?_)
      generalize W3.drew = z0 at *
      refine wpAnyH_take (i := 0) (oi := { dst := some 21, op := Op.move (Operand.tmp 0), type := 33, pos := "entries.go:107", after := #[], guard := none }) (v := ?_) rfl (by kernel_rfl) (by kernel_rfl) (by kernel_rfl) (fun _ _ _ h => h) (Or.inl ⟨by rfl, ?_⟩) (by assumption) ?_
      rotate_left
      · intro wS hSw
        try dsimp only at hSw
        go_simp
        try with_reducible rfl
      try simp only [Act.put, List.setIfInBounds_toArray, List.set_cons_zero, List.set_cons_succ]
      refine wpAnyH_take (i := 1) (oi := { dst := some 22, op := Op.nilCheck (Operand.tmp 21), type := 0, pos := "entries.go:107", after := #[{ on := 0, ground := Ground.data }], guard := none }) (v := ?_) rfl (by kernel_rfl) (by kernel_rfl) (by kernel_rfl) (fun _ _ _ h => h) (Or.inl ⟨by rfl, ?_⟩) (by assumption) ?_
      rotate_left
      · intro wS hSw
        try dsimp only at hSw
        go_simp
        try with_reducible rfl
      try simp only [Act.put, List.setIfInBounds_toArray, List.set_cons_zero, List.set_cons_succ]
      refine wpAnyH_take (i := 2) (oi := { dst := some 23, op := Op.fieldAddr 79 (Operand.tmp 22) 1, type := 0, pos := "entries.go:107", after := #[{ on := 1, ground := Ground.data }], guard := none }) (v := ?_) rfl (by kernel_rfl) (by kernel_rfl) (by kernel_rfl) (fun _ _ _ h => h) (Or.inl ⟨by rfl, ?_⟩) (by assumption) ?_
      rotate_left
      · intro wS hSw
        try dsimp only at hSw
        go_simp
        try with_reducible rfl
      try simp only [Act.put, List.setIfInBounds_toArray, List.set_cons_zero, List.set_cons_succ]
      refine wpAnyH_take (i := 3) (oi := { dst := some 24, op := Op.load 73 (Operand.tmp 23), type := 73, pos := "entries.go:107", after := #[{ on := 2, ground := Ground.data }], guard := none }) (v := ?_) rfl (by kernel_rfl) (by kernel_rfl) (by kernel_rfl) (fun _ _ _ h => h) (Or.inl ⟨by rfl, ?_⟩) (by assumption) ?_
      rotate_left
      · intro wS hSw
        try dsimp only at hSw
        go_simp
        try with_reducible rfl
      try simp only [Act.put, List.setIfInBounds_toArray, List.set_cons_zero, List.set_cons_succ]
      refine wpAnyH_take (i := 4) (oi := { dst := some 25, op := Op.fieldAddr 40 (Operand.tmp 5) 0, type := 0, pos := "entries.go:107", after := #[], guard := none }) (v := ?_) rfl (by kernel_rfl) (by kernel_rfl) (by kernel_rfl) (fun _ _ _ h => h) (Or.inl ⟨by rfl, ?_⟩) (by assumption) ?_
      rotate_left
      · intro wS hSw
        try dsimp only at hSw
        go_simp
        try with_reducible rfl
      try simp only [Act.put, List.setIfInBounds_toArray, List.set_cons_zero, List.set_cons_succ]
      refine wpAnyH_take (i := 5) (oi := { dst := some 26, op := Op.load 38 (Operand.tmp 25), type := 38, pos := "entries.go:107", after := #[{ on := 4, ground := Ground.data }], guard := none }) (v := ?_) rfl (by kernel_rfl) (by kernel_rfl) (by kernel_rfl) (fun _ _ _ h => h) (Or.inl ⟨by rfl, ?_⟩) (by assumption) ?_
      rotate_left
      · intro wS hSw
        try dsimp only at hSw
        go_simp
        try with_reducible rfl
      try simp only [Act.put, List.setIfInBounds_toArray, List.set_cons_zero, List.set_cons_succ]
      refine wpAnyH_take (i := 7) (oi := { dst := some 28, op := Op.load 40 (Operand.tmp 5), type := 40, pos := "entries.go:107", after := #[], guard := none }) (v := ?_) rfl (by kernel_rfl) (by kernel_rfl) (by kernel_rfl) (fun _ _ _ h => h) (Or.inl ⟨by rfl, ?_⟩) (by assumption) ?_
      rotate_left
      · intro wS hSw
        try dsimp only at hSw
        go_simp
        try with_reducible rfl
      try simp only [Act.put, List.setIfInBounds_toArray, List.set_cons_zero, List.set_cons_succ]
      refine wpAnyH_ready (rs := [6]) (by kernel_rfl) (by simp) ?_
      refine AllReadyH.cons (o := { dst := some 27, op := Op.call { callee := Callee.value (Operand.func 53), args := #[Operand.tmp 26], argTypes := #[38] }, type := 76, pos := "entries.go:107", after := #[{ on := 5, ground := Ground.data }], guard := none }) rfl (fun K hK => ?_) ?_
      ·
        go_simp
        go_at_call 53
        refine (keyOf_any _ _ _ _ _ _).mono ?_
        rintro e z1 ⟨rfl, b9⟩
        have HH1 := hide (HW0.out.trans (b9.mono HW0.out.size))
        clear b9
        refine hK.out _ _ (HSS.out _ HH1.out) (fun hHeld1 => ?_)
        clear hK K
        try simp only [Act.put, List.setIfInBounds_toArray, List.set_cons_zero, List.set_cons_succ]
        refine wpAnyH_ready (rs := [8]) (by kernel_rfl) (by simp) ?_
        refine AllReadyH.cons (o := { dst := some 29, op := Op.call { callee := Callee.value (Operand.func 78), args := #[Operand.tmp 24, Operand.tmp 27, Operand.tmp 28], argTypes := #[73, 76, 40] }, type := 117, pos := "entries.go:107", after := #[{ on := 3, ground := Ground.data }, { on := 6, ground := Ground.data }, { on := 7, ground := Ground.data }, { on := 6, ground := Ground.chain }], guard := none }) rfl (fun K hK => ?_) ?_
        ·
          go_simp
          go_at_call 78
          with_reducible refine (HPU.out _ HH1.out).mono ?_
          rintro e z2 ⟨rfl, ht9, hg9⟩
          have HT9 := hide ht9
          have HG9 := hide hg9
          have HS9 := hide (HSG.out _ _ HH1.out hg9)
          clear ht9 hg9
          refine hK.out _ _ (HS9.out) (fun hHeld2 => ?_)
          clear hK K
          try simp only [Act.put, List.setIfInBounds_toArray, List.set_cons_zero, List.set_cons_succ]
          refine wpAnyH_done (by kernel_rfl) ?_ _
          have HX9 := hide (HSP.out _ HH1.out |>.tabs HT9.out HG9.out)
          have c29 := HX9.out.c29
          have HO9 := hide ((HB3.out.then HH1.out).grown HG9.out (fun k e => by cases e; exact .inl (.inr rfl)))
          clear HSS HSG HSP HPU HT9 HG9 HS9
          have hf9 := frozen_of_row _ sp 29 _ _ HX9.out.blk
          go_wp2_with fail
          first | go_end0 | go_ret
          exact ⟨⟨_, rfl⟩, by rw [HEN.out]; exact HX9.out.upd _, HO9.out.setCell sp 29 _ (.inl (.inl rfl))⟩
        exact AllReadyH.nil
      exact AllReadyH.nil
end Go.Proofs.Ytijjgnkfddklgaa
