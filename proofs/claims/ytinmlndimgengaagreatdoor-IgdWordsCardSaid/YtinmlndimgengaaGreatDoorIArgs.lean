/- Arguments of their names and values. -/
import Derived.Test.YtinmlndimgengaaGreatDoorIFind
namespace Go.Proofs.YtinmlndimgengaaGreatDoor
open Go.RowKit Go.Deep
set_option linter.unusedVariables false
set_option linter.unusedSimpArgs false
set_option maxRecDepth 100000
theorem below_drew (w : World) : Below w.heap.size w w.drew := (Below.refl _ _).drew
theorem info_arg : (Tryz.prog.info? 75).map (fun i => (i.zero, i.size, i.bytes)) = some (some (.agg #[.string ⟨#[]⟩, .string ⟨#[]⟩]), 2, 32) := by kernel_rfl
theorem take_two (l : List Value) (k : Nat) (x y : Value) (h0 : l[2 * k]? = some x) (h1 : l[2 * k + 1]? = some y) : l.take (2 * (k + 1)) = l.take (2 * k) ++ [x, y] := by
  rw [show 2 * (k + 1) = 2 * k + 1 + 1 by omega, List.take_add_one, List.take_add_one, h0, h1]
  simp
set_option maxHeartbeats 4000000 in
theorem args_any (w : World) (a : Option Addr) (cap m n : Nat) (l : List ByteArray) (h : SRow w a l) (hl : l.length = n) (hn : n = 2 * m) (hm : m ≤ 1000) :
    Calls Tryz.prog 47 #[.slice a n cap] w fun e w' => ∃ v, e = .returned v ∧ w'.ownsRow w.heap.size 75 2 v m (l.map .string) ∧ Below w.heap.size w w' := by
  obtain ⟨i0, hi, hz0, hz1, hz2⟩ := info_parts info_arg
  have HH := hide h
  have HL := hide (And.intro hl (And.intro hn hm))
  clear h hl hn hm
  go_enter Tryz.func47, Tryz.ntmps47
  go_wp2_with fail
  go_loopw [3, 4] (fun s i wz => ∃ (k : Nat) (v : Value), k ≤ m ∧ i = .int .i64 ((2 * k + 1 : Nat) : Int) ∧ s = v ∧ Hid (wz.ownsRow w.heap.size 75 2 v k ((l.map Value.string).take (2 * k))) ∧ Hid (Below w.heap.size w wz)) (fun _ i _ => n - (intOf i).toNat)
  case atStart => exact ⟨0, _, Nat.zero_le _, rfl, rfl, hide (World.ownsRow_nil _ _ _ _), hide (Below.refl _ _)⟩
  case round =>
    obtain ⟨k, v, hk, rfl, hv, HO, HB⟩ := hrel
    obtain rfl := hv.symm
    obtain ⟨wa, rfl⟩ : ∃ wa, wa = wr := ⟨_, rfl⟩
    by_cases hlt : k < m
    · have hl0 : 2 * k < l.length := by have := HL.out; omega
      have hl1 : 2 * k + 1 < l.length := by have := HL.out; omega
      obtain ⟨b, off, rfl, hb, hc⟩ := HH.out.at hl0
      have d0 := hc (2 * k) hl0
      have d1 := hc (2 * k + 1) hl1
      obtain ⟨x, hx⟩ : ∃ x, l[2 * k]?.getD ⟨#[]⟩ = x := ⟨_, rfl⟩
      obtain ⟨y, hy⟩ : ∃ x, l[2 * k + 1]?.getD ⟨#[]⟩ = x := ⟨_, rfl⟩
      rw [hx] at d0
      rw [hy] at d1
      have HT := hide (take_two (l.map .string) k (.string x) (.string y) (by rw [← hx]; simp [List.getElem?_eq_getElem hl0]) (by rw [← hy]; simp [List.getElem?_eq_getElem hl1]))
      obtain ⟨p, hp⟩ : ∃ p, 2 * k = p := ⟨_, rfl⟩
      obtain ⟨q, hq⟩ : ∃ q, 2 * k + 1 = q := ⟨_, rfl⟩
      rw [hp] at d0
      rw [hq] at d1
      obtain ⟨r, hrw⟩ : ∃ r, (l.map Value.string).take (2 * k) = r := ⟨_, rfl⟩
      rw [hrw] at HO HT
      have hwp : IntKind.i64.wrap ((q : Int) - 1) = (p : Int) := by rw [IntKind.wrap_i64]; have := HL.out; omega
      have hpn : p < n := by have := HL.out; omega
      have hqn : q < n := by have := HL.out; omega
      have HPQ := hide (And.intro hp hq)
      have HSS := hide (fun (V : World) (hV : Below w.heap.size w V) => (show V.cell? ⟨b, off + p, none⟩ = some (.string x) ∧ V.cell? ⟨b, off + q, none⟩ = some (.string y) from ⟨(hV.cell (p := ⟨b, off + p, none⟩) hb).trans d0, (hV.cell (p := ⟨b, off + q, none⟩) hb).trans d1⟩))
      have HB0 := hide (show Below w.heap.size w wa.drew from HB.out.drew)
      have HO0 := hide (owns_below HO.out (below_drew wa) (Nat.le_refl _))
      clear hx hy hc hl0 hl1 hrw hp d0 d1
      rw [hq]
      clear hq
      go_upto_region 5 with (fail)
      refine wp_region_held_drew (S := fun w' => w'.cell? ⟨b, off + p, none⟩ = some (.string x) ∧ w'.cell? ⟨b, off + q, none⟩ = some (.string y)) (by kernel_rfl) (by exact HSS.out _ HB0.out) (fun hHeld => ?_)
      generalize wa.drew = z0 at *
      refine wpAnyH_take (i := 0) (oi := { dst := some 11, op := Op.move (Operand.tmp 3), type := 38, pos := "tell.go:20", after := #[], guard := none }) (v := ?_) rfl (by kernel_rfl) (by kernel_rfl) (by kernel_rfl) (fun _ _ _ h => h) (Or.inl ⟨by rfl, ?_⟩) (by assumption) ?_
      rotate_left
      · intro wS hSw
        try dsimp only at hSw
        go_simp
        try with_reducible rfl
      try simp only [Act.put, List.setIfInBounds_toArray, List.set_cons_zero, List.set_cons_succ]
      refine wpAnyH_take (i := 1) (oi := { dst := some 12, op := Op.move (Operand.tmp 0), type := 63, pos := "tell.go:20", after := #[], guard := none }) (v := ?_) rfl (by kernel_rfl) (by kernel_rfl) (by kernel_rfl) (fun _ _ _ h => h) (Or.inl ⟨by rfl, ?_⟩) (by assumption) ?_
      rotate_left
      · intro wS hSw
        try dsimp only at hSw
        go_simp
        try with_reducible rfl
      try simp only [Act.put, List.setIfInBounds_toArray, List.set_cons_zero, List.set_cons_succ]
      refine wpAnyH_take (i := 2) (oi := { dst := some 13, op := Op.move (Operand.tmp 4), type := 3, pos := "tell.go:20", after := #[], guard := none }) (v := ?_) rfl (by kernel_rfl) (by kernel_rfl) (by kernel_rfl) (fun _ _ _ h => h) (Or.inl ⟨by rfl, ?_⟩) (by assumption) ?_
      rotate_left
      · intro wS hSw
        try dsimp only at hSw
        go_simp
        try with_reducible rfl
      try simp only [Act.put, List.setIfInBounds_toArray, List.set_cons_zero, List.set_cons_succ]
      refine wpAnyH_take (i := 3) (oi := { dst := some 14, op := Op.binOp BinOp.sub 3 (Operand.tmp 13) (Operand.const (Value.int IntKind.i64 1)) 3, type := 3, pos := "tell.go:20", after := #[{ on := 2, ground := Ground.data }], guard := none }) (v := ?_) rfl (by kernel_rfl) (by kernel_rfl) (by kernel_rfl) (fun _ _ _ h => h) (Or.inl ⟨by rfl, ?_⟩) (by assumption) ?_
      rotate_left
      · intro wS hSw
        try dsimp only at hSw
        go_simp
        try with_reducible rfl
      try simp only [Act.put, List.setIfInBounds_toArray, List.set_cons_zero, List.set_cons_succ]
      refine wpAnyH_take (i := 4) (oi := { dst := some 15, op := Op.indexAddr 63 (Operand.tmp 12) (Operand.tmp 14), type := 0, pos := "tell.go:20", after := #[{ on := 1, ground := Ground.data }, { on := 3, ground := Ground.data }], guard := none }) (v := ?_) rfl (by kernel_rfl) (by kernel_rfl) (by kernel_rfl) (fun _ _ _ h => h) (Or.inl ⟨by rfl, ?_⟩) (by assumption) ?_
      rotate_left
      · intro wS hSw
        try dsimp only at hSw
        go_simp
        try with_reducible rfl
      try simp only [Act.put, List.setIfInBounds_toArray, List.set_cons_zero, List.set_cons_succ]
      refine wpAnyH_take (i := 5) (oi := { dst := some 16, op := Op.load 9 (Operand.tmp 15), type := 9, pos := "tell.go:20", after := #[{ on := 4, ground := Ground.data }], guard := none }) (v := ?_) rfl (by kernel_rfl) (by kernel_rfl) (by kernel_rfl) (fun _ _ _ h => h) (Or.inl ⟨by rfl, ?_⟩) (by assumption) ?_
      rotate_left
      · intro wS hSw
        try dsimp only at hSw
        go_simp
        try with_reducible rfl
      try simp only [Act.put, List.setIfInBounds_toArray, List.set_cons_zero, List.set_cons_succ]
      refine wpAnyH_take (i := 6) (oi := { dst := some 17, op := Op.move (Operand.tmp 0), type := 63, pos := "tell.go:20", after := #[], guard := none }) (v := ?_) rfl (by kernel_rfl) (by kernel_rfl) (by kernel_rfl) (fun _ _ _ h => h) (Or.inl ⟨by rfl, ?_⟩) (by assumption) ?_
      rotate_left
      · intro wS hSw
        try dsimp only at hSw
        go_simp
        try with_reducible rfl
      try simp only [Act.put, List.setIfInBounds_toArray, List.set_cons_zero, List.set_cons_succ]
      refine wpAnyH_take (i := 7) (oi := { dst := some 18, op := Op.move (Operand.tmp 4), type := 3, pos := "tell.go:20", after := #[], guard := none }) (v := ?_) rfl (by kernel_rfl) (by kernel_rfl) (by kernel_rfl) (fun _ _ _ h => h) (Or.inl ⟨by rfl, ?_⟩) (by assumption) ?_
      rotate_left
      · intro wS hSw
        try dsimp only at hSw
        go_simp
        try with_reducible rfl
      try simp only [Act.put, List.setIfInBounds_toArray, List.set_cons_zero, List.set_cons_succ]
      refine wpAnyH_take (i := 8) (oi := { dst := some 19, op := Op.indexAddr 63 (Operand.tmp 17) (Operand.tmp 18), type := 0, pos := "tell.go:20", after := #[{ on := 6, ground := Ground.data }, { on := 7, ground := Ground.data }], guard := none }) (v := ?_) rfl (by kernel_rfl) (by kernel_rfl) (by kernel_rfl) (fun _ _ _ h => h) (Or.inl ⟨by rfl, ?_⟩) (by assumption) ?_
      rotate_left
      · intro wS hSw
        try dsimp only at hSw
        go_simp
        try with_reducible rfl
      try simp only [Act.put, List.setIfInBounds_toArray, List.set_cons_zero, List.set_cons_succ]
      refine wpAnyH_take (i := 9) (oi := { dst := some 20, op := Op.load 9 (Operand.tmp 19), type := 9, pos := "tell.go:20", after := #[{ on := 8, ground := Ground.data }], guard := none }) (v := ?_) rfl (by kernel_rfl) (by kernel_rfl) (by kernel_rfl) (fun _ _ _ h => h) (Or.inl ⟨by rfl, ?_⟩) (by assumption) ?_
      rotate_left
      · intro wS hSw
        try dsimp only at hSw
        go_simp
        try with_reducible rfl
      try simp only [Act.put, List.setIfInBounds_toArray, List.set_cons_zero, List.set_cons_succ]
      refine wpAnyH_take (i := 10) (oi := { dst := some 21, op := Op.build 75 #[(0, Operand.tmp 16), (1, Operand.tmp 20)], type := 75, pos := "tell.go:20", after := #[{ on := 5, ground := Ground.data }, { on := 9, ground := Ground.data }], guard := none }) (v := ?_) rfl (by kernel_rfl) (by kernel_rfl) (by kernel_rfl) (fun _ _ _ h => h) (Or.inl ⟨by rfl, ?_⟩) (by assumption) ?_
      rotate_left
      · intro wS hSw
        try dsimp only at hSw
        go_simp
        try with_reducible rfl
      try simp only [Act.put, List.setIfInBounds_toArray, List.set_cons_zero, List.set_cons_succ]
      refine wpAnyH_ready (rs := [11]) (by kernel_rfl) (by simp) ?_
      refine AllReadyH.cons (o := { dst := some 22, op := Op.buildSlice 38 1 #[(0, Operand.tmp 21)], type := 38, pos := "tell.go:20", after := #[{ on := 10, ground := Ground.data }], guard := none }) rfl (fun K hK => ?_) ?_
      ·
        go_simp
        refine hK.out _ _ (HSS.out _ (HB0.out.alloc HB0.out.size _)) (fun hHeld1 => ?_)
        clear hK K
        try simp only [Act.put, List.setIfInBounds_toArray, List.set_cons_zero, List.set_cons_succ]
        refine wpAnyH_ready (rs := [12]) (by kernel_rfl) (by simp) ?_
        refine AllReadyH.cons (o := { dst := some 23, op := Op.call { callee := Callee.builtin Builtin.append, args := #[Operand.tmp 11, Operand.tmp 22], argTypes := #[38, 38] }, type := 38, pos := "tell.go:20", after := #[{ on := 0, ground := Ground.data }, { on := 11, ground := Ground.data }], guard := none }) rfl (fun K hK => ?_) ?_
        ·
          obtain ⟨v', w', hr, ho', hg', _, _⟩ := run_append_own_at (P := Tryz.prog) (z0.alloc (.cells #[.string x, .string y] 75)) w.heap.size 38 38 75 i0 (.agg #[.string ⟨#[]⟩, .string ⟨#[]⟩]) 2 32 Tryz.underlying38 hi hz0 hz1 hz2 rfl (by decide) v k r (owns_below HO0.out ((Below.refl z0.heap.size z0).alloc (Nat.le_refl _) _) (Nat.le_refl _)) ⟨z0.heap.size, 0, none⟩ 1 1 [.string x, .string y] rfl (by
            intro j u hj
            match j, hj with
            | 0, hj => simp at hj; subst hj; simp [Addr.add]
            | 1, hj => simp at hj; subst hj; simp [Addr.add]) (by intro u hu; simp at hu; rcases hu with rfl | rfl <;> rfl) (by unfold maxLen; have := HL.out; omega) (by have := HL.out; omega) (by have := HB0.out.size; simp; omega)
          have HB1 := hide ((HB0.out.alloc HB0.out.size (.cells #[.string x, .string y] 75)).grown hg' (by have := HB0.out.size; simp; omega) (fun j e => (owns_below HO0.out ((Below.refl z0.heap.size z0).alloc (Nat.le_refl _) (.cells #[.string x, .string y] 75)) (Nat.le_refl _)).lt j e |>.1))
          have HO1 := hide ho'
          have HR := hide hr
          clear ho' hg' hr
          rw [if_pos (by rfl)]
          refine Lib.wp_append_run (z0.alloc (.cells #[.string x, .string y] 75)) _ _ _ _ rfl _ _ rfl rfl v' w' HR.out ?_
          refine hK.out _ _ (HSS.out _ HB1.out) (fun hHeld2 => ?_)
          clear hK K
          try simp only [Act.put, List.setIfInBounds_toArray, List.set_cons_zero, List.set_cons_succ]
          refine wpAnyH_take (i := 13) (oi := { dst := some 3, op := Op.assign (Operand.tmp 23), type := 38, pos := "tell.go:20", after := #[{ on := 12, ground := Ground.data }, { on := 12, ground := Ground.chain }, { on := 0, ground := Ground.phase }, { on := 1, ground := Ground.phase }, { on := 2, ground := Ground.phase }, { on := 3, ground := Ground.phase }, { on := 4, ground := Ground.phase }, { on := 5, ground := Ground.phase }, { on := 6, ground := Ground.phase }, { on := 7, ground := Ground.phase }, { on := 8, ground := Ground.phase }, { on := 9, ground := Ground.phase }, { on := 10, ground := Ground.phase }, { on := 11, ground := Ground.phase }, { on := 12, ground := Ground.phase }], guard := none }) (v := ?_) rfl (by kernel_rfl) (by kernel_rfl) (by kernel_rfl) (fun _ _ _ h => h) (Or.inl ⟨by rfl, ?_⟩) (by assumption) ?_
          rotate_left
          · intro wS hSw
            try dsimp only at hSw
            go_simp
            try with_reducible rfl
          try simp only [Act.put, List.setIfInBounds_toArray, List.set_cons_zero, List.set_cons_succ]
          refine wpAnyH_done (by kernel_rfl) ?_ _
          have hwq : IntKind.i64.wrap ((q : Int) + 2) = ((2 * (k + 1) + 1 : Nat) : Int) := by rw [IntKind.wrap_i64]; have := HL.out; have := HPQ.out; omega
          go_wp2_with fail
          go_roundw
          case rel => exact ⟨k + 1, v', by omega, rfl, rfl, hide (by rw [HT.out]; exact HO1.out), HB1⟩
          case measure => simp [intOf]; have := HPQ.out; have := HL.out; omega
        exact AllReadyH.nil
      exact AllReadyH.nil
    · obtain rfl : k = m := by omega
      have hqn : ¬ (2 * k + 1 < n) := by have := HL.out; omega
      have HFU := hide (show (l.map Value.string).take (2 * k) = l.map Value.string from List.take_of_length_le (by simp; have := HL.out; omega))
      obtain ⟨q, hq⟩ : ∃ q, 2 * k + 1 = q := ⟨_, rfl⟩
      rw [hq] at hqn ⊢
      go_wp2_with fail
      go_ret
      exact ⟨v, rfl, by have h := HO.out; rw [HFU.out] at h; exact h, HB.out⟩
end Go.Proofs.YtinmlndimgengaaGreatDoor
