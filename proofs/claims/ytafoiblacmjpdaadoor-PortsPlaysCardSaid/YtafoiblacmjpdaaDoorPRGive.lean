/- Ports: the document's Give. -/
import Derived.Test.YtafoiblacmjpdaaDoorPRTake
import Derived.Test.YtafoiblacmjpdaaDoorRegU
namespace Go.Proofs.YtafoiblacmjpdaaDoor
open Go.RowKit Go.Deep
set_option linter.unusedVariables false
set_option linter.unusedSimpArgs false
set_option maxRecDepth 100000
theorem app64 (V : World) (base : Nat) (v : Value) (n : Nat) (xs : List Int) (hV : V.ownsRow base 3 1 v n (xs.map (Value.int .i64))) (a : Option Addr) (ys : List Int) (m c : Nat) (hr : Row .i64 V a ys) (hl : ys.length = m) (hn : a = none → c = 0)
    (hs : n + m ≤ 1099511627776) (hb : base ≤ V.heap.size) :
    ∃ v' w', (Builtin.append_ #[27, 27] 27 #[v, .slice a m c]).run Tryd.prog V = .ok v' w' ∧ (w'.ownsRow base 3 1 v' (n + m) ((xs ++ ys).map (Value.int .i64)) ∧ Below base V w' ∧ ∀ (L : Nat) (o : Obj), V.heap[L]? = some o → v.ownBlock ≠ some L → w'.heap[L]? = some o) := by
  obtain ⟨i0, hi, hz0, hz1, hz2⟩ := info_parts Tryd.info3
  cases a with
  | none =>
    have hy : ys = [] := row_none hr
    have hm0 : m = 0 := by rw [← hl, hy]; rfl
    have hrun := run_append_owned_none (P := Tryd.prog) (w := V) base 27 27 3 i0 1 Tryd.underlying27 hi v n (xs.map (Value.int .i64)) hV
    rw [hn rfl, hm0, hy, List.append_nil]
    exact ⟨_, _, hrun, hV, Below.refl _ _, fun _ _ h _ => h⟩
  | some ad =>
    obtain ⟨v', w', h1, h2, h3, _⟩ := run_append_own (P := Tryd.prog) V base 27 27 3 i0 (.int .i64 0) 1 8 Tryd.underlying27 hi hz0 hz1 hz2 rfl (by decide) v n (xs.map (Value.int .i64)) hV ad m c (ys.map (Value.int .i64)) (by simp [hl]) (row_cells hr) (ints_one _ _) (by unfold maxLen; omega) (by omega) hb
    rw [← List.map_append] at h2
    exact ⟨_, _, h1, h2, (Below.refl base V).grown h3 hb (fun k e => (hV.lt k e).1), fun L o h hne => (h3.block L (lt_of_block h) hne.symm).trans h⟩
def RGiveTo (R : Nat) (p : Int) (xs : List Int) (w : World) (e : Ending) (w' : World) : Prop :=
  (p ∉ xs ∧ e = .returned (.bool false) ∧ w' = w) ∨ (∃ i, xs[i]? = some p ∧ e = .returned (.bool true) ∧ RAt w' R (xs.take i ++ xs.drop (i + 1)) ∧ OnlyB R w w')
set_option maxHeartbeats 2000000 in
theorem rgive_any (R : Nat) (xs : List Int) (p : Int) (w : World) (h : RAt w R xs) :
    Calls Tryd.prog 13 #[.pointer (some ⟨R, 0, none⟩), .int .i64 p] w (RGiveTo R p xs w) := by
  obtain ⟨n, hn⟩ : ∃ n, xs.length = n := ⟨_, rfl⟩
  have HN := hide hn
  have HLB := hide (show n ≤ 100000 by rw [← hn]; exact h.len)
  have HX := hide h
  clear hn h
  go_enter Tryd.func13, Tryd.ntmps13
  go_wp2_with fail
  go_loopw [5] (fun i wz => ∃ j : Nat, j ≤ n ∧ i = .int .i64 j ∧ Hid (∀ q, q < j → xs[q]?.getD 0 ≠ p) ∧ wz = w) (fun i _ => n - (intOf i).toNat)
  case atStart => exact ⟨0, Nat.zero_le _, rfl, hide (fun q h => by omega), rfl⟩
  case round =>
    obtain ⟨j, hj, rfl, HNO, rfl⟩ := hrel
    obtain ⟨a, c, h1, h2, h3⟩ := HX.out.cell
    rw [HN.out] at h1
    obtain ⟨u0, uf⟩ := one_cell h1
    have hcap := HX.out.cap _ _ _ h1
    have hj4 : (0 : Int) ≤ (j : Int) := by omega
    have hj5 : (j : Int) ≤ 100000 := by have := HLB.out; omega
    by_cases hlt : j < n
    · have d1 : decide (j < n) = true := by simp; omega
      obtain ⟨b, off, he, hbl, hc⟩ := h2.at (i := j) (by have := HN.out; omega)
      have hcj := hc j (by have := HN.out; omega)
      obtain ⟨x, hx⟩ : ∃ x, xs[j]?.getD 0 = x := ⟨_, rfl⟩
      rw [hx] at hcj
      have HXE := hide hx
      clear h1 h2 h3 hbl hc hx
      subst he
      by_cases hxp : x = p
      · have d2 : (x == p) = true := by simp [hxp]
        have HM := hide (show xs[j]? = some p by
          have hj2 : j < xs.length := by have := HN.out; omega
          have := HXE.out
          rw [List.getElem?_eq_getElem hj2] at this ⊢
          simp only [Option.getD_some] at this
          rw [this, hxp])
        have hjc : (j : Int) ≤ (c : Int) := by have := hcap; omega
        have hnc : (n : Int) ≤ (c : Int) := by omega
        obtain ⟨j1, hj1e⟩ : ∃ j1, j1 = j + 1 := ⟨_, rfl⟩
        have hjw : IntKind.i64.wrap ((j : Int) + 1) = (j1 : Int) := by rw [IntKind.wrap_i64]; omega
        have hj1n : (j1 : Int) ≤ (n : Int) := by omega
        have hj10 : (0 : Int) ≤ (j1 : Int) := by omega
        obtain ⟨A2, hA2⟩ : ∃ A, (if c = j1 then some (⟨b, off, none⟩ : Addr) else some ⟨b, off + j1, none⟩) = A := ⟨_, rfl⟩
        obtain ⟨m2, hm2⟩ : ∃ m, n - j1 = m := ⟨_, rfl⟩
        obtain ⟨c2, hc2⟩ : ∃ m, c - j1 = m := ⟨_, rfl⟩
        obtain ⟨W1, hW1⟩ : ∃ W, (wr.alloc (.cells #[] 3)).drew = W := ⟨_, rfl⟩
        have hlit : W1.ownsRow wr.heap.size 3 1 (.slice (some ⟨wr.heap.size, 0, none⟩) 0 0) 0 [] := by
          rw [← hW1]
          exact World.ownsRow_lit (base := wr.heap.size) (e := 3) (size := 1) wr #[] 0 (by omega) (by unfold maxLen; omega) rfl
        have hb1 : Below wr.heap.size wr W1 := by rw [← hW1]; exact ((Below.refl _ _).alloc (Nat.le_refl _) _).drew
        have hrow := HX.out.cell
        obtain ⟨a', c', g1, g2, g3⟩ := hrow
        have ea : a' = some ⟨b, off, none⟩ ∧ c' = c := by
          have := (one_cell g1).1
          rw [u0] at this
          simp at this
          exact ⟨this.1.symm, this.2.2.symm⟩
        have hbR : b ≠ R := by have := g3 _ ea.1; simp at this; omega
        have hR : R < wr.heap.size := lt_of_block g1
        rw [ea.1] at g2
        have hcs : ∀ i, i < n → wr.cell? ⟨b, off + i, none⟩ = some (.int .i64 (xs[i]?.getD 0)) := fun i hi => by
          obtain ⟨b9, o9, e9, _, hc9⟩ := g2.at (i := i) (by have := HN.out; omega)
          cases e9
          exact hc9 i (by have := HN.out; omega)
        have hbl : b < wr.heap.size := World.block_lt_of_cell? _ _ (hcs j (by omega))
        have rt : Row .i64 W1 (some ⟨b, off, none⟩) (xs.take j) := fun hne => by
          refine ⟨b, off, rfl, Nat.lt_of_lt_of_le hbl hb1.size, fun i hi => ?_⟩
          rw [List.length_take] at hi
          rw [hb1.cell (p := ⟨b, off + i, none⟩) hbl, hcs i (by have := HN.out; omega), List.getElem?_take_of_lt (by omega)]
        obtain ⟨v1, W2, hrun1, o1, b1', _⟩ := app64 W1 wr.heap.size (.slice (some ⟨wr.heap.size, 0, none⟩) 0 0) 0 [] hlit (some ⟨b, off, none⟩) (xs.take j) j c rt (by rw [List.length_take]; have := HN.out; omega) (by intro h; cases h) (by omega) hb1.size
        have hb2 := hb1.trans b1'
        have rd : Row .i64 W2 A2 (xs.drop j1) := fun hne => by
          have hlt2 : j1 < n := by
            rcases Nat.lt_or_ge j1 n with h | h
            · exact h
            · exact absurd (List.drop_eq_nil_of_le (by have := HN.out; omega)) hne
          refine ⟨b, off + j1, by rw [← hA2, if_neg (by have := hcap; omega)], Nat.lt_of_lt_of_le hbl hb2.size, fun i hi => ?_⟩
          rw [List.length_drop] at hi
          rw [hb2.cell (p := ⟨b, off + j1 + i, none⟩) hbl, show off + j1 + i = off + (j1 + i) by omega, hcs (j1 + i) (by have := HN.out; omega), List.getElem?_drop]
        obtain ⟨v2, W3, hrun2, o2, b2', _⟩ := app64 W2 wr.heap.size v1 (0 + j) ([] ++ xs.take j) o1 A2 (xs.drop j1) m2 c2 rd (by rw [List.length_drop]; have := HN.out; omega) (by intro h; rw [← hA2] at h; split at h <;> cases h) (by have := HLB.out; omega) hb2.size
        have hb3 := hb2.trans b2'
        obtain ⟨a3, c3, rfl⟩ := slice_form o2
        obtain ⟨N3, hN3⟩ : ∃ N3, 0 + j + m2 = N3 := ⟨_, rfl⟩
        rw [hN3] at o2 hrun2
        obtain ⟨w7, hw7⟩ : ∃ z, W3.setCell ⟨R, 0, none⟩ (.slice a3 N3 c3) = z := ⟨_, rfl⟩
        have HF := hide (show RAt w7 R (xs.take j ++ xs.drop (j + 1)) ∧ OnlyB R wr w7 from by
          have ho : W3.ownsRow wr.heap.size 3 1 (.slice a3 N3 c3) N3 ((xs.take j ++ xs.drop (j + 1)).map (Value.int .i64)) := by
            rw [← hj1e]; simpa using o2
          have hh := (hb3.block R hR).trans g1
          have hset := heap_setCell_same W3 R 0 _ _ (.slice a3 N3 c3) hh
          have hoth := fun b (hb : b ≠ R) => heap_setCell_other W3 ⟨R, 0, none⟩ b (.slice a3 N3 c3) hb
          have hon : (xs.take j ++ xs.drop (j + 1)).length = N3 := by have := ho.1; simpa using this
          rw [← hw7]
          refine ⟨⟨⟨a3, c3, by rw [hon]; exact hset, ?_, fun b e => by have h1 := (ho.lt b.block (by rw [e]; rfl)).1; omega⟩, by have := HLB.out; omega, cap_of hset (owns_cap ho)⟩, (OnlyB.of hb3).setCell 0 _⟩
          refine Row.of_owns (base := wr.heap.size) (e := 3) (n := N3) (cap := c3) ⟨ho.1, ?_⟩
          rcases ho.2 with g | ⟨g, cap, cur, hv, hg, hh2, r⟩
          · exact .inl g
          · exact .inr ⟨g, cap, cur, hv, hg, (hoth g (by omega)).trans hh2, r⟩)
        have HS1 := hide ((hb1.cell (p := ⟨R, 0, none⟩) hR).trans u0)
        have HS2 := hide ((hb2.cell (p := ⟨R, 0, none⟩) hR).trans u0)
        have HS3 := hide ((hb3.cell (p := ⟨R, 0, none⟩) hR).trans u0)
        have u3 := (hb3.cell (p := ⟨R, 0, none⟩) hR).trans u0
        have f3 := (one_cell ((hb3.block R hR).trans g1)).2
        have HRUN1 := hide hrun1
        have HRUN2 := hide hrun2
        have HN3 := hide hN3
        have HWF := hide hw7
        have HW := hide (And.intro hW1 (And.intro hA2 (And.intro hm2 hc2)))
        have HJ := hide hj1e
        clear hxp g2 g3 hbR rt rd hcs hb1 hb2 hb3 b1' b2' o1 o2 hrun1 hrun2 hlit hW1 hA2 hm2 hc2 g1 hj1e ea hbl hN3 hw7
        go_wp2_with fail
        refine wp_region_U (S := fun w' => w'.cell? ⟨R, 0, none⟩ = some (.slice (some ⟨b, off, none⟩) n c)) (t := 19) (by kernel_rfl) (by exact u0) (fun hHeld => ?_)
        refine wpAnyU_take (i := 0) (oi := { dst := some 24, op := Op.move (Operand.tmp 0), type := 26, pos := "ref.go:41", after := #[], guard := none }) (v := ?_) rfl (by kernel_rfl) (by kernel_rfl) (by kernel_rfl) (by kernel_rfl) (fun _ _ _ h => h) (Or.inl ⟨by rfl, ?_⟩) (by assumption) ?_
        rotate_left
        · intro wS hSw
          try dsimp only at hSw
          go_simp
          try with_reducible rfl
        try simp only [Act.put, List.setIfInBounds_toArray, List.set_cons_zero, List.set_cons_succ]
        refine wpAnyU_take (i := 2) (oi := { dst := some 26, op := Op.move (Operand.tmp 0), type := 26, pos := "ref.go:41", after := #[], guard := none }) (v := ?_) rfl (by kernel_rfl) (by kernel_rfl) (by kernel_rfl) (by kernel_rfl) (fun _ _ _ h => h) (Or.inl ⟨by rfl, ?_⟩) (by assumption) ?_
        rotate_left
        · intro wS hSw
          try dsimp only at hSw
          go_simp
          try with_reducible rfl
        try simp only [Act.put, List.setIfInBounds_toArray, List.set_cons_zero, List.set_cons_succ]
        refine wpAnyU_take (i := 3) (oi := { dst := some 27, op := Op.nilCheck (Operand.tmp 26), type := 0, pos := "ref.go:41", after := #[{ on := 2, ground := Ground.data }], guard := none }) (v := ?_) rfl (by kernel_rfl) (by kernel_rfl) (by kernel_rfl) (by kernel_rfl) (fun _ _ _ h => h) (Or.inl ⟨by rfl, ?_⟩) (by assumption) ?_
        rotate_left
        · intro wS hSw
          try dsimp only at hSw
          go_simp
          try with_reducible rfl
        try simp only [Act.put, List.setIfInBounds_toArray, List.set_cons_zero, List.set_cons_succ]
        refine wpAnyU_take (i := 4) (oi := { dst := some 28, op := Op.fieldAddr 29 (Operand.tmp 27) 0, type := 0, pos := "ref.go:41", after := #[{ on := 3, ground := Ground.data }], guard := none }) (v := ?_) rfl (by kernel_rfl) (by kernel_rfl) (by kernel_rfl) (by kernel_rfl) (fun _ _ _ h => h) (Or.inl ⟨by rfl, ?_⟩) (by assumption) ?_
        rotate_left
        · intro wS hSw
          try dsimp only at hSw
          go_simp
          try with_reducible rfl
        try simp only [Act.put, List.setIfInBounds_toArray, List.set_cons_zero, List.set_cons_succ]
        refine wpAnyU_take (i := 5) (oi := { dst := some 29, op := Op.load 27 (Operand.tmp 28), type := 27, pos := "ref.go:41", after := #[{ on := 4, ground := Ground.data }], guard := none }) (v := ?_) rfl (by kernel_rfl) (by kernel_rfl) (by kernel_rfl) (by kernel_rfl) (fun _ _ _ h => h) (Or.inl ⟨by rfl, ?_⟩) (by assumption) ?_
        rotate_left
        · intro wS hSw
          try dsimp only at hSw
          go_simp
          try with_reducible rfl
        try simp only [Act.put, List.setIfInBounds_toArray, List.set_cons_zero, List.set_cons_succ]
        refine wpAnyU_take (i := 6) (oi := { dst := some 30, op := Op.move (Operand.tmp 5), type := 3, pos := "ref.go:41", after := #[], guard := none }) (v := ?_) rfl (by kernel_rfl) (by kernel_rfl) (by kernel_rfl) (by kernel_rfl) (fun _ _ _ h => h) (Or.inl ⟨by rfl, ?_⟩) (by assumption) ?_
        rotate_left
        · intro wS hSw
          try dsimp only at hSw
          go_simp
          try with_reducible rfl
        try simp only [Act.put, List.setIfInBounds_toArray, List.set_cons_zero, List.set_cons_succ]
        refine wpAnyU_take (i := 7) (oi := { dst := some 31, op := Op.slice 27 (Operand.tmp 29) none (some (Operand.tmp 30)) none, type := 27, pos := "ref.go:41", after := #[{ on := 5, ground := Ground.data }, { on := 6, ground := Ground.data }], guard := none }) (v := ?_) rfl (by kernel_rfl) (by kernel_rfl) (by kernel_rfl) (by kernel_rfl) (fun _ _ _ h => h) (Or.inl ⟨by rfl, ?_⟩) (by assumption) ?_
        rotate_left
        · intro wS hSw
          try dsimp only at hSw
          go_simp
          try with_reducible rfl
        try simp only [Act.put, List.setIfInBounds_toArray, List.set_cons_zero, List.set_cons_succ]
        refine wpAnyU_take (i := 9) (oi := { dst := some 33, op := Op.move (Operand.tmp 0), type := 26, pos := "ref.go:41", after := #[], guard := none }) (v := ?_) rfl (by kernel_rfl) (by kernel_rfl) (by kernel_rfl) (by kernel_rfl) (fun _ _ _ h => h) (Or.inl ⟨by rfl, ?_⟩) (by assumption) ?_
        rotate_left
        · intro wS hSw
          try dsimp only at hSw
          go_simp
          try with_reducible rfl
        try simp only [Act.put, List.setIfInBounds_toArray, List.set_cons_zero, List.set_cons_succ]
        refine wpAnyU_take (i := 10) (oi := { dst := some 34, op := Op.nilCheck (Operand.tmp 33), type := 0, pos := "ref.go:41", after := #[{ on := 9, ground := Ground.data }], guard := none }) (v := ?_) rfl (by kernel_rfl) (by kernel_rfl) (by kernel_rfl) (by kernel_rfl) (fun _ _ _ h => h) (Or.inl ⟨by rfl, ?_⟩) (by assumption) ?_
        rotate_left
        · intro wS hSw
          try dsimp only at hSw
          go_simp
          try with_reducible rfl
        try simp only [Act.put, List.setIfInBounds_toArray, List.set_cons_zero, List.set_cons_succ]
        refine wpAnyU_take (i := 11) (oi := { dst := some 35, op := Op.fieldAddr 29 (Operand.tmp 34) 0, type := 0, pos := "ref.go:41", after := #[{ on := 10, ground := Ground.data }], guard := none }) (v := ?_) rfl (by kernel_rfl) (by kernel_rfl) (by kernel_rfl) (by kernel_rfl) (fun _ _ _ h => h) (Or.inl ⟨by rfl, ?_⟩) (by assumption) ?_
        rotate_left
        · intro wS hSw
          try dsimp only at hSw
          go_simp
          try with_reducible rfl
        try simp only [Act.put, List.setIfInBounds_toArray, List.set_cons_zero, List.set_cons_succ]
        refine wpAnyU_take (i := 12) (oi := { dst := some 36, op := Op.load 27 (Operand.tmp 35), type := 27, pos := "ref.go:41", after := #[{ on := 11, ground := Ground.data }], guard := none }) (v := ?_) rfl (by kernel_rfl) (by kernel_rfl) (by kernel_rfl) (by kernel_rfl) (fun _ _ _ h => h) (Or.inl ⟨by rfl, ?_⟩) (by assumption) ?_
        rotate_left
        · intro wS hSw
          try dsimp only at hSw
          go_simp
          try with_reducible rfl
        try simp only [Act.put, List.setIfInBounds_toArray, List.set_cons_zero, List.set_cons_succ]
        refine wpAnyU_take (i := 13) (oi := { dst := some 37, op := Op.move (Operand.tmp 5), type := 3, pos := "ref.go:41", after := #[], guard := none }) (v := ?_) rfl (by kernel_rfl) (by kernel_rfl) (by kernel_rfl) (by kernel_rfl) (fun _ _ _ h => h) (Or.inl ⟨by rfl, ?_⟩) (by assumption) ?_
        rotate_left
        · intro wS hSw
          try dsimp only at hSw
          go_simp
          try with_reducible rfl
        try simp only [Act.put, List.setIfInBounds_toArray, List.set_cons_zero, List.set_cons_succ]
        refine wpAnyU_take (i := 14) (oi := { dst := some 38, op := Op.binOp BinOp.add 3 (Operand.tmp 37) (Operand.const (Value.int IntKind.i64 1)) 3, type := 3, pos := "ref.go:41", after := #[{ on := 13, ground := Ground.data }], guard := none }) (v := ?_) rfl (by kernel_rfl) (by kernel_rfl) (by kernel_rfl) (by kernel_rfl) (fun _ _ _ h => h) (Or.inl ⟨by rfl, ?_⟩) (by assumption) ?_
        rotate_left
        · intro wS hSw
          try dsimp only at hSw
          go_simp
          try with_reducible rfl
        try simp only [Act.put, List.setIfInBounds_toArray, List.set_cons_zero, List.set_cons_succ]
        refine wpAnyU_take (i := 15) (oi := { dst := some 39, op := Op.slice 27 (Operand.tmp 36) (some (Operand.tmp 38)) none none, type := 27, pos := "ref.go:41", after := #[{ on := 12, ground := Ground.data }, { on := 14, ground := Ground.data }], guard := none }) (v := ?_) rfl (by kernel_rfl) (by kernel_rfl) (by kernel_rfl) (by kernel_rfl) (fun _ _ _ h => h) (Or.inl ⟨by rfl, ?_⟩) (by assumption) ?_
        rotate_left
        · intro wS hSw
          try dsimp only at hSw
          go_simp
          try with_reducible rfl
        try simp only [Act.put, List.setIfInBounds_toArray, List.set_cons_zero, List.set_cons_succ]
        refine wpAnyU_one (i := 1) (o := { dst := some 25, op := Op.buildSlice 27 0 #[], type := 27, pos := "ref.go:41", after := #[], guard := none }) (by kernel_rfl) rfl (fun K hK => ?_)
        go_simp
        rw [HW.out.1, HW.out.2.1, HW.out.2.2.1, HW.out.2.2.2]
        refine hK.out _ _ ?_ (fun hHeld1 => ?_)
        · exact fun _ => HS1.out
        clear hK K
        try simp only [Act.put, List.setIfInBounds_toArray, List.set_cons_zero, List.set_cons_succ]
        refine wpAnyU_one (i := 8) (o := { dst := some 32, op := Op.call { callee := Callee.builtin Builtin.append, args := #[Operand.tmp 25, Operand.tmp 31], argTypes := #[27, 27] }, type := 27, pos := "ref.go:41", after := #[{ on := 1, ground := Ground.data }, { on := 7, ground := Ground.data }], guard := none }) (by kernel_rfl) rfl (fun K hK => ?_)
        rw [if_pos (by rfl)]
        refine Lib.wp_append_run _ _ _ _ _ rfl _ _ rfl rfl _ _ HRUN1.out ?_
        refine hK.out _ _ ?_ (fun hHeld8 => ?_)
        · exact fun _ => HS2.out
        clear hK K
        try simp only [Act.put, List.setIfInBounds_toArray, List.set_cons_zero, List.set_cons_succ]
        refine wpAnyU_one (i := 16) (o := { dst := some 40, op := Op.call { callee := Callee.builtin Builtin.append, args := #[Operand.tmp 32, Operand.tmp 39], argTypes := #[27, 27] }, type := 27, pos := "ref.go:41", after := #[{ on := 8, ground := Ground.data }, { on := 15, ground := Ground.data }, { on := 8, ground := Ground.chain }], guard := none }) (by kernel_rfl) rfl (fun K hK => ?_)
        rw [if_pos (by rfl)]
        refine Lib.wp_append_run _ _ _ _ _ rfl _ _ rfl rfl _ _ HRUN2.out ?_
        refine hK.out _ _ ?_ (fun hHeld16 => ?_)
        · exact fun _ => HS3.out
        clear hK K
        try simp only [Act.put, List.setIfInBounds_toArray, List.set_cons_zero, List.set_cons_succ]
        refine wpAnyU_take2 (i := 17) (oi := { dst := some 41, op := Op.nilCheck (Operand.tmp 24), type := 0, pos := "ref.go:41", after := #[{ on := 0, ground := Ground.data }, { on := 0, ground := Ground.phase }, { on := 1, ground := Ground.phase }, { on := 2, ground := Ground.phase }, { on := 3, ground := Ground.phase }, { on := 4, ground := Ground.phase }, { on := 5, ground := Ground.phase }, { on := 6, ground := Ground.phase }, { on := 7, ground := Ground.phase }, { on := 8, ground := Ground.phase }, { on := 9, ground := Ground.phase }, { on := 10, ground := Ground.phase }, { on := 11, ground := Ground.phase }, { on := 12, ground := Ground.phase }, { on := 13, ground := Ground.phase }, { on := 14, ground := Ground.phase }, { on := 15, ground := Ground.phase }, { on := 16, ground := Ground.phase }], guard := none }) (v := ?_) rfl (by kernel_rfl) (by kernel_rfl) (by kernel_rfl) ([17, 18]) (by kernel_rfl) (by kernel_rfl) (by kernel_rfl) (fun _ _ _ h => h) (Or.inl ⟨by rfl, ?_⟩) (by assumption) ?_
        rotate_left
        · intro wS hSw
          try dsimp only at hSw
          go_simp
          try with_reducible rfl
        try simp only [Act.put, List.setIfInBounds_toArray, List.set_cons_zero, List.set_cons_succ]
        refine wpAnyU_take (i := 18) (oi := { dst := some 42, op := Op.fieldAddr 29 (Operand.tmp 41) 0, type := 0, pos := "ref.go:41", after := #[{ on := 17, ground := Ground.data }, { on := 0, ground := Ground.phase }, { on := 1, ground := Ground.phase }, { on := 2, ground := Ground.phase }, { on := 3, ground := Ground.phase }, { on := 4, ground := Ground.phase }, { on := 5, ground := Ground.phase }, { on := 6, ground := Ground.phase }, { on := 7, ground := Ground.phase }, { on := 8, ground := Ground.phase }, { on := 9, ground := Ground.phase }, { on := 10, ground := Ground.phase }, { on := 11, ground := Ground.phase }, { on := 12, ground := Ground.phase }, { on := 13, ground := Ground.phase }, { on := 14, ground := Ground.phase }, { on := 15, ground := Ground.phase }, { on := 16, ground := Ground.phase }], guard := none }) (v := ?_) rfl (by kernel_rfl) (by kernel_rfl) (by kernel_rfl) (by kernel_rfl) (fun _ _ _ h => h) (Or.inl ⟨by rfl, ?_⟩) (by assumption) ?_
        rotate_left
        · intro wS hSw
          try dsimp only at hSw
          go_simp
          try with_reducible rfl
        try simp only [Act.put, List.setIfInBounds_toArray, List.set_cons_zero, List.set_cons_succ]
        refine wpAnyU_one (i := 19) (o := { dst := none, op := Op.store 27 (Operand.tmp 42) (Operand.tmp 40), type := 0, pos := "ref.go:41", after := #[{ on := 18, ground := Ground.data }, { on := 16, ground := Ground.data }, { on := 16, ground := Ground.chain }, { on := 0, ground := Ground.phase }, { on := 1, ground := Ground.phase }, { on := 2, ground := Ground.phase }, { on := 3, ground := Ground.phase }, { on := 4, ground := Ground.phase }, { on := 5, ground := Ground.phase }, { on := 6, ground := Ground.phase }, { on := 7, ground := Ground.phase }, { on := 8, ground := Ground.phase }, { on := 9, ground := Ground.phase }, { on := 10, ground := Ground.phase }, { on := 11, ground := Ground.phase }, { on := 12, ground := Ground.phase }, { on := 13, ground := Ground.phase }, { on := 14, ground := Ground.phase }, { on := 15, ground := Ground.phase }, { on := 16, ground := Ground.phase }], guard := none }) (by kernel_rfl) rfl (fun K hK => ?_)
        go_simp
        refine hK.out _ _ ?_ (fun hHeld19 => ?_)
        · exact fun h => absurd h (by decide)
        clear hK K
        try simp only [Act.put, List.setIfInBounds_toArray, List.set_cons_zero, List.set_cons_succ]
        refine wpAnyU_done (by kernel_rfl) ?_ _
        go_wp2_with fail
        go_ret
        exact .inr ⟨j, HM.out, rfl, HWF.out ▸ HF.out⟩
      · have d2 : (x == p) = false := by simp [hxp]
        have HNO2 := hide (show ∀ q, q < j + 1 → xs[q]?.getD 0 ≠ p from fun q hq => by
          rcases Nat.lt_or_ge q j with h | h
          · exact HNO.out q h
          · rw [show q = j by omega, HXE.out]; exact hxp)
        clear hxp
        go_wp2_with fail
        exact ⟨⟨j + 1, by omega, by go_num, HNO2, by first | rfl | trivial⟩, by simp [intOf]; omega⟩
    · have d1 : decide (j < n) = false := by simp; omega
      have HM := hide (show decide (p ∈ xs) = false by
        simp only [decide_eq_false_iff_not]
        intro hm
        obtain ⟨q, hq, e⟩ := List.getElem_of_mem hm
        refine HNO.out q (by have := HN.out; omega) ?_
        rw [List.getElem?_eq_getElem hq, e]; rfl)
      clear h1 h2 h3
      go_wp2_with fail
      go_ret
      exact .inl ⟨by have := HM.out; simpa using this, rfl, rfl⟩
end Go.Proofs.YtafoiblacmjpdaaDoor
