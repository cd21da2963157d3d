/- Tables: drop and Drop: [hearth/maps.key, hearth/api.Entry]. -/
import Derived.Test.YtijjgnkfddklgaaCJ
namespace Go.Proofs.Ytijjgnkfddklgaa.C
open Go.RowKit Go.Deep
open Go.Proofs.Ytijjgnkfddklgaa
set_option linter.unusedVariables false
set_option linter.unusedSimpArgs false
set_option maxRecDepth 100000
theorem atT_le : ∀ (T : BT KV) (i : Int), nsz (atT T i) ≤ nsz T
  | .nil, i => Nat.le_refl _
  | .node b o a l r, i => by
    have h1 := atT_le l i
    have h2 := atT_le r (i - (nsz l : Int) - 1)
    have h3 := nsz_node b o a l r
    unfold atT
    split
    · omega
    · split
      · omega
      · omega
theorem nsz_toL (T : BT KV) : (toL T).length = nsz T := rfl
theorem node_of {w : World} {T : BT KV} (h : TIn w T) (hne : T ≠ .nil) : ∃ b a l r, T = .node b 0 a l r := by
  cases T with
  | nil => exact absurd rfl hne
  | node b o a l r => obtain rfl := h.1; exact ⟨b, a, l, r, rfl⟩

set_option maxHeartbeats 1600000 in
theorem tail_any : ∀ (T : BT KV) (w : World), TIn w T → T ≠ .nil → nsz T ≤ 700000 →
    Calls Try.prog 104 #[.pointer (ad T)] w (TreeAns w (toL T).tail) := by
  intro T
  induction T with
  | nil => intro w h hne; exact absurd rfl hne
  | node b o a l r ihl ihr =>
    intro w h hne hn
    obtain rfl := h.1
    rw [nsz_node] at hn
    show Calls Try.prog 104 #[.pointer (some ⟨b, 0, none⟩)] w _
    obtain ⟨_, _, _, _, _, _, _, _, _, _, _, _, c3, c4, cf⟩ := five_cells h.2.1
    cases l with
    | nil =>
      rw [show ad (BT.nil : BT KV) = none from rfl] at c3
      have HT := hide h
      clear h
      go_enter Try.func104, Try.ntmps104
      go_wp2
      go_ret
      exact ⟨r, rfl, HT.out.2.2.2, rfl, Below.refl _ _⟩
    | node c p al ll lr =>
      obtain rfl := h.2.2.1.1
      rw [show ad (.node c 0 al ll lr) = some ⟨c, 0, none⟩ from rfl] at c3
      have HT := hide h
      have HIH := hide (ihl w h.2.2.1 (by intro e; cases e) (by omega))
      clear h
      go_enter Try.func104, Try.ntmps104
      go_wp2_with fail
      refine HIH.out.mono ?_
      rintro e w3 ⟨T1, rfl, k1, k2, k3⟩
      have hsz : nsz T1 ≤ nsz (.node c 0 al ll lr) := by
        have := congrArg List.length k2
        rw [nsz_toL, List.length_tail, nsz_toL] at this
        omega
      have HWI := hide (with0_any b a (.node c 0 al ll lr) r T1 w3 (TIn.keep (NK.of_below k3 (Nat.le_refl _)) HT.out) k1 (by omega) (by omega))
      have HL := hide k2
      have HB3 := hide k3
      clear k1 k2 k3 HIH c3 c4 cf
      go_wp2_with fail
      refine HWI.out.mono ?_
      rintro e w4 ⟨b1, rfl, k4, k5⟩
      have HEV := hide (even_any b1 a T1 r w4 k4 (by omega))
      have HB4 := hide (HB3.out.trans (k5.mono HB3.out.size))
      clear k4 k5 HWI
      go_wp2_with fail
      refine HEV.out.mono ?_
      rintro e w5 ⟨T2, rfl, k6, k7, k8⟩
      have H6 := hide k6
      have H7 := hide k7
      have HB5 := hide (HB4.out.trans (k8.mono HB4.out.size))
      clear k6 k7 k8 HEV
      go_wp2
      go_ret
      refine ⟨T2, rfl, H6.out, ?_, HB5.out⟩
      rw [H7.out, HL.out]
      show _ = ((toL ll ++ al :: toL lr) ++ a :: toL r).tail
      rw [List.tail_append_of_ne_nil (by simp)]
      rfl

set_option maxHeartbeats 1600000 in
theorem rest_any (b : Nat) (a : KV) (l r : BT KV) (w : World) (h : TIn w (.node b 0 a l r)) (hn : nsz l + nsz r ≤ 700000) :
    Calls Try.prog 97 #[.pointer (some ⟨b, 0, none⟩)] w (TreeAns w (toL l ++ toL r)) := by
  obtain ⟨_, _, _, _, _, _, _, _, _, _, _, _, c3, c4, cf⟩ := five_cells h.2.1
  cases r with
  | nil =>
    rw [show ad (BT.nil : BT KV) = none from rfl] at c4
    have HT := hide h
    clear h
    go_enter Try.func97, Try.ntmps97
    go_wp2
    go_ret
    exact ⟨l, rfl, HT.out.2.2.1, by simp [toL], Below.refl _ _⟩
  | node c p ar rl rr =>
    obtain rfl := h.2.2.2.1
    have c4' := c4
    rw [show ad (.node c 0 ar rl rr) = some ⟨c, 0, none⟩ from rfl] at c4'
    have HT := hide h
    have hnc := nsz_node c 0 ar rl rr
    have HAT := hide (at_any (.node c 0 ar rl rr) 0 w h.2.2.2 (by omega) (by omega) (by omega))
    obtain ⟨d, x, dl, dr, hd, hx⟩ : ∃ d x dl dr, atT (.node c 0 ar rl rr) 0 = .node d 0 x dl dr ∧ (TIn w (.node d 0 x dl dr) ∧ (toL (.node c 0 ar rl rr))[0]? = some x) := by
      rcases atT_spec 0 h.2.2.2 with ⟨e1, e2⟩ | ⟨d, x, dl, dr, e1, e2, e3, e4⟩
      · omega
      · exact ⟨d, x, dl, dr, e1, e2, e4⟩
    have HD := hide hd
    have HX := hide hx
    have HLL := hide (show toL (.node c 0 ar rl rr) = x :: (toL (.node c 0 ar rl rr)).tail by
      have := hx.2
      cases hq : toL (.node c 0 ar rl rr) with
      | nil => rw [hq] at this; simp at this
      | cons y ys => rw [hq] at this; simp at this; rw [this]; rfl)
    have hdn : nsz l + (nsz dl + nsz dr) ≤ 700000 := by have h7 := atT_le (.node c 0 ar rl rr) 0; rw [hd, nsz_node] at h7; omega
    have HNC := hide hnc
    clear h hd hx hnc c4
    go_enter Try.func97, Try.ntmps97
    go_wp2_with fail
    refine HAT.out.mono ?_
    rintro e w1 ⟨rfl, rfl⟩
    rw [HD.out, show ad (.node d 0 x dl dr) = some ⟨d, 0, none⟩ from rfl]
    clear HAT
    go_wp2_with fail
    have HW1 := hide (with0_any d x dl dr l w.drew (TIn.keep (NK.of_below (Below.refl w.heap.size w).drew (Nat.le_refl _)) HX.out.1) (TIn.keep (NK.of_below (Below.refl w.heap.size w).drew (Nat.le_refl _)) HT.out.2.2.1) (by omega) (by omega))
    go_region_held3 (fun w' => w'.cell? ⟨b, 12, none⟩ = some (.pointer (ad l)) ∧ w'.cell? ⟨b, 13, none⟩ = some (.pointer (some ⟨c, 0, none⟩))) (go_keep) (first
      | (go_at_call 98; (with_reducible refine HW1.out.mono ?_); rintro e w2 ⟨b2, rfl, k1, k2⟩;
          have HB2 := hide ((Below.refl w.heap.size w).drew.trans k2); have HK := hide k1; have HT2 := hide (TIn.keep (NK.of_below HB2.out (Nat.le_refl _)) HT.out);
          obtain ⟨_, _, _, _, _, _, _, _, _, _, _, _, e3, e4, ef⟩ := five_cells HT2.out.2.1; rw [show ad (.node c 0 ar rl rr) = some ⟨c, 0, none⟩ from rfl] at e4;
          have HTL := hide (show Calls Try.prog 104 #[.pointer (some ⟨c, 0, none⟩)] w2 (TreeAns w2 (toL (.node c 0 ar rl rr)).tail) from tail_any (.node c 0 ar rl rr) w2 HT2.out.2.2.2 (by intro e; cases e) (by have := HNC.out; omega)); clear k1 k2 ef)
      | (go_at_call 104; (with_reducible refine HTL.out.mono ?_); rintro e w3 ⟨T1, rfl, k3, k4, k5⟩;
          have HB3 := hide (HB2.out.trans (k5.mono HB2.out.size)); have HK3 := hide k3; have HL3 := hide k4; have HT3 := hide (TIn.keep (NK.of_below HB3.out (Nat.le_refl _)) HT.out);
          obtain ⟨_, _, _, _, _, _, _, _, _, _, _, _, f3, f4, ff⟩ := five_cells HT3.out.2.1; rw [show ad (.node c 0 ar rl rr) = some ⟨c, 0, none⟩ from rfl] at f4;
          have hs1 : nsz T1 ≤ nsz (.node c 0 ar rl rr) := (by have h9 := congrArg List.length k4; rw [nsz_toL, List.length_tail, nsz_toL] at h9; omega);
          have HW2 := hide (with1_any b2 x l dr T1 w3 (TIn.keep (NK.of_below k5 (Nat.le_refl _)) HK.out) k3 (by omega) (by omega)); clear k3 k4 k5 ff)
      | (go_at_call 98; (with_reducible refine HW2.out.mono ?_); rintro e w4 ⟨b4, rfl, k6, k7⟩;
          have HB4 := hide (HB3.out.trans (k7.mono HB3.out.size)); have HT4 := hide (TIn.keep (NK.of_below HB4.out (Nat.le_refl _)) HT.out);
          obtain ⟨_, _, _, _, _, _, _, _, _, _, _, _, g3, g4, gf⟩ := five_cells HT4.out.2.1; rw [show ad (.node c 0 ar rl rr) = some ⟨c, 0, none⟩ from rfl] at g4;
          have HEV := hide (even_any b4 x l T1 w4 k6 (by omega)); clear k6 k7 gf)
      | (go_at_call 99; (with_reducible refine HEV.out.mono ?_); rintro e w5 ⟨T2, rfl, k8, k9, k10⟩;
          have HB5 := hide (HB4.out.trans (k10.mono HB4.out.size)); have HK5 := hide k8; have HL5 := hide k9; have HT5 := hide (TIn.keep (NK.of_below HB5.out (Nat.le_refl _)) HT.out);
          obtain ⟨_, _, _, _, _, _, _, _, _, _, _, _, i3, i4, gf⟩ := five_cells HT5.out.2.1; rw [show ad (.node c 0 ar rl rr) = some ⟨c, 0, none⟩ from rfl] at i4; clear k8 k9 k10 gf)
      | fail)
    all_goals
      go_wp2
      go_ret
      refine ⟨T2, rfl, HK5.out, ?_, HB5.out⟩
      rw [HL5.out, HL3.out]
      exact congrArg _ HLL.out.symm

set_option maxHeartbeats 1600000 in
theorem drop_any (t : Nat) (most : Int) (fv : Value) (root : Option Addr) (τ : MK → Int) (k : MK) (hF : OrdF fv τ) : ∀ (T : BT KV) (w : World), TabAt w t most fv root → TIn w T → Asc τ (toL T) → nsz T ≤ 700000 →
    Calls Try.prog 80 #[.pointer (some ⟨t, 0, none⟩), .pointer (ad T), .agg #[.int .u8 k.p, .int .u16 k.x, .int .u32 k.r]] w (TreeAns w (delL τ k (toL T))) := by
  intro T
  induction T with
  | nil =>
    intro w hT h ha hn
    show Calls Try.prog 80 #[.pointer (some ⟨t, 0, none⟩), .pointer none, .agg #[.int .u8 k.p, .int .u16 k.x, .int .u32 k.r]] w _
    clear hT h ha hn
    obtain ⟨W, hW, hb, hx⟩ : ∃ W, w.alloc (.cells #[.int .u8 k.p, .int .u16 k.x, .int .u32 k.r] 76) = W ∧ Below w.heap.size w W ∧ W.heap[w.heap.size]? = some (.cells #[.int .u8 k.p, .int .u16 k.x, .int .u32 k.r] 76 (0, 0)) := ⟨_, rfl, (Below.refl _ _).alloc (Nat.le_refl _) _, heap_alloc_new _ _⟩
    obtain ⟨B, hB⟩ : ∃ B, w.heap.size = B := ⟨_, rfl⟩
    rw [hB] at hx
    have HE := hide (And.intro hW hB)
    have HB := hide hb
    have HX := hide hx
    clear hW hB hb hx
    go_enter Try.func80, Try.ntmps80
    go_upto_region 1 with (fail)
    rw [HE.out.1]
    try rw [HE.out.2]
    clear HE
    go_wp2_with fail
    go_ret
    exact ⟨.nil, rfl, trivial, rfl, HB.out⟩
  | node b o a l r ihl ihr =>
    intro w hT h ha hn
    obtain rfl := h.1
    rw [nsz_node] at hn
    show Calls Try.prog 80 #[.pointer (some ⟨t, 0, none⟩), .pointer (some ⟨b, 0, none⟩), .agg #[.int .u8 k.p, .int .u16 k.x, .int .u32 k.r]] w _
    have HAA := hide (asc_mid.1 ha)
    clear ha
    obtain ⟨W, hW, hb, hx⟩ : ∃ W, w.alloc (.cells #[.int .u8 k.p, .int .u16 k.x, .int .u32 k.r] 76) = W ∧ Below w.heap.size w W ∧ W.heap[w.heap.size]? = some (.cells #[.int .u8 k.p, .int .u16 k.x, .int .u32 k.r] 76 (0, 0)) := ⟨_, rfl, (Below.refl _ _).alloc (Nat.le_refl _) _, heap_alloc_new _ _⟩
    obtain ⟨B, hB⟩ : ∃ B, w.heap.size = B := ⟨_, rfl⟩
    rw [hB] at hx
    have HE := hide (And.intro hW hB)
    have HB := hide hb
    have HX := hide hx
    clear hW hB hb hx
    obtain ⟨x0, x1, x2, xf⟩ := key_cells HX.out
    have lx := lt_of_block HX.out
    have HT := hide (TIn.keep (NK.of_below HB.out (Nat.le_refl _)) h)
    have HTT := hide (hT.below HB.out)
    clear hT h
    rcases Int.lt_trichotomy (τ k) (τ a.1) with hk | hk | hk
    · have HW := hide (way_lt HTT.out hF HT.out hk)
      have HIN := hide (show delL τ k (toL (.node b 0 a l r)) = delL τ k (toL l) ++ a :: toL r from del_left hk HAA.out.2.2.2)
      clear hk
      go_enter Try.func80, Try.ntmps80
      go_upto_region 1 with (fail)
      rw [HE.out.1]
      try rw [HE.out.2]
      clear HE
      go_wp2_with fail
      refine HW.out.mono ?_
      rintro e w1 ⟨rfl, b2⟩
      have HB1 := hide (HB.out.trans (b2.mono HB.out.size))
      have HT1 := hide (TIn.keep (NK.of_below b2 (Nat.le_refl _)) HT.out)
      have HTT1 := hide (HTT.out.below b2)
      replace HX := hide (below_block b2 HX.out (Nat.le_refl _))
      clear x0 x1 x2 xf lx b2 HW
      obtain ⟨x0, x1, x2, xf⟩ := key_cells HX.out
      have lx := lt_of_block HX.out
      clear xf
      obtain ⟨_, _, _, _, _, _, _, _, _, _, _, _, c3, c4, cf⟩ := five_cells HT1.out.2.1
      have lb := lt_of_block HT1.out.2.1
      clear c4
      go_wp2_with fail
      have HTS := hide HT1.out.2.2.1
      have HAS := hide HAA.out.1
      have HZ0 := hide (show Below w1.heap.size w1 w1.drew from (Below.refl _ _).drew)
      refine wp_region_held_drew (S := fun w' => w'.cell? ⟨b, 12, none⟩ = some (.pointer (ad l)) ∧ w'.cell? ⟨B, 0, none⟩ = some (.int .u8 k.p) ∧ w'.cell? ⟨B, 1, none⟩ = some (.int .u16 k.x) ∧ w'.cell? ⟨B, 2, none⟩ = some (.int .u32 k.r)) (by kernel_rfl) (by exact ⟨(HZ0.out.cell (p := ⟨b, 12, none⟩) lb).trans c3, (HZ0.out.cell (p := ⟨B, 0, none⟩) lx).trans x0, (HZ0.out.cell (p := ⟨B, 1, none⟩) lx).trans x1, (HZ0.out.cell (p := ⟨B, 2, none⟩) lx).trans x2⟩) (fun hHeld => ?_)
      refine wpAnyH_take (i := 0) (oi := { dst := some 21, op := Op.move (Operand.tmp 1), type := 105, pos := "keyed.go:89", after := #[], guard := none }) (v := ?_) rfl (by kernel_rfl) (by kernel_rfl) (by kernel_rfl) (fun _ _ _ h => h) (Or.inl ⟨by rfl, ?_⟩) (by assumption) ?_
      rotate_left
      · intro wS hSw
        try dsimp only at hSw
        go_simp
        try with_reducible rfl
      try simp only [Act.put, List.setIfInBounds_toArray, List.set_cons_zero, List.set_cons_succ]
      refine wpAnyH_take (i := 1) (oi := { dst := some 22, op := Op.move (Operand.tmp 7), type := 3, pos := "keyed.go:89", after := #[], guard := none }) (v := ?_) rfl (by kernel_rfl) (by kernel_rfl) (by kernel_rfl) (fun _ _ _ h => h) (Or.inl ⟨by rfl, ?_⟩) (by assumption) ?_
      rotate_left
      · intro wS hSw
        try dsimp only at hSw
        go_simp
        try with_reducible rfl
      try simp only [Act.put, List.setIfInBounds_toArray, List.set_cons_zero, List.set_cons_succ]
      refine wpAnyH_take (i := 2) (oi := { dst := some 23, op := Op.move (Operand.tmp 0), type := 73, pos := "keyed.go:89", after := #[], guard := none }) (v := ?_) rfl (by kernel_rfl) (by kernel_rfl) (by kernel_rfl) (fun _ _ _ h => h) (Or.inl ⟨by rfl, ?_⟩) (by assumption) ?_
      rotate_left
      · intro wS hSw
        try dsimp only at hSw
        go_simp
        try with_reducible rfl
      try simp only [Act.put, List.setIfInBounds_toArray, List.set_cons_zero, List.set_cons_succ]
      refine wpAnyH_take (i := 3) (oi := { dst := some 24, op := Op.move (Operand.tmp 1), type := 105, pos := "keyed.go:89", after := #[], guard := none }) (v := ?_) rfl (by kernel_rfl) (by kernel_rfl) (by kernel_rfl) (fun _ _ _ h => h) (Or.inl ⟨by rfl, ?_⟩) (by assumption) ?_
      rotate_left
      · intro wS hSw
        try dsimp only at hSw
        go_simp
        try with_reducible rfl
      try simp only [Act.put, List.setIfInBounds_toArray, List.set_cons_zero, List.set_cons_succ]
      refine wpAnyH_take (i := 4) (oi := { dst := some 25, op := Op.move (Operand.tmp 7), type := 3, pos := "keyed.go:89", after := #[], guard := none }) (v := ?_) rfl (by kernel_rfl) (by kernel_rfl) (by kernel_rfl) (fun _ _ _ h => h) (Or.inl ⟨by rfl, ?_⟩) (by assumption) ?_
      rotate_left
      · intro wS hSw
        try dsimp only at hSw
        go_simp
        try with_reducible rfl
      try simp only [Act.put, List.setIfInBounds_toArray, List.set_cons_zero, List.set_cons_succ]
      refine wpAnyH_take (i := 5) (oi := { dst := some 26, op := Op.nilCheck (Operand.tmp 24), type := 0, pos := "keyed.go:89", after := #[{ on := 3, ground := Ground.data }], guard := none }) (v := ?_) rfl (by kernel_rfl) (by kernel_rfl) (by kernel_rfl) (fun _ _ _ h => h) (Or.inl ⟨by rfl, ?_⟩) (by assumption) ?_
      rotate_left
      · intro wS hSw
        try dsimp only at hSw
        go_simp
        try with_reducible rfl
      try simp only [Act.put, List.setIfInBounds_toArray, List.set_cons_zero, List.set_cons_succ]
      refine wpAnyH_take (i := 6) (oi := { dst := some 27, op := Op.fieldAddr 122 (Operand.tmp 26) 3, type := 0, pos := "keyed.go:89", after := #[{ on := 5, ground := Ground.data }], guard := none }) (v := ?_) rfl (by kernel_rfl) (by kernel_rfl) (by kernel_rfl) (fun _ _ _ h => h) (Or.inl ⟨by rfl, ?_⟩) (by assumption) ?_
      rotate_left
      · intro wS hSw
        try dsimp only at hSw
        go_simp
        try with_reducible rfl
      try simp only [Act.put, List.setIfInBounds_toArray, List.set_cons_zero, List.set_cons_succ]
      refine wpAnyH_take (i := 7) (oi := { dst := some 28, op := Op.indexAddr 120 (Operand.tmp 27) (Operand.tmp 25), type := 0, pos := "keyed.go:89", after := #[{ on := 6, ground := Ground.data }, { on := 4, ground := Ground.data }], guard := none }) (v := ?_) rfl (by kernel_rfl) (by kernel_rfl) (by kernel_rfl) (fun _ _ _ h => h) (Or.inl ⟨by rfl, ?_⟩) (by assumption) ?_
      rotate_left
      · intro wS hSw
        try dsimp only at hSw
        go_simp
        try with_reducible rfl
      try simp only [Act.put, List.setIfInBounds_toArray, List.set_cons_zero, List.set_cons_succ]
      refine wpAnyH_take (i := 8) (oi := { dst := some 29, op := Op.load 105 (Operand.tmp 28), type := 105, pos := "keyed.go:89", after := #[{ on := 7, ground := Ground.data }], guard := none }) (v := ?_) rfl (by kernel_rfl) (by kernel_rfl) (by kernel_rfl) (fun _ _ _ h => h) (Or.inl ⟨by rfl, ?_⟩) (by assumption) ?_
      rotate_left
      · intro wS hSw
        try dsimp only at hSw
        go_simp
        try with_reducible rfl
      try simp only [Act.put, List.setIfInBounds_toArray, List.set_cons_zero, List.set_cons_succ]
      refine wpAnyH_take (i := 9) (oi := { dst := some 30, op := Op.load 76 (Operand.tmp 5), type := 76, pos := "keyed.go:89", after := #[], guard := none }) (v := ?_) rfl (by kernel_rfl) (by kernel_rfl) (by kernel_rfl) (fun _ _ _ h => h) (Or.inl ⟨by rfl, ?_⟩) (by assumption) ?_
      rotate_left
      · intro wS hSw
        try dsimp only at hSw
        go_simp
        try with_reducible rfl
      try simp only [Act.put, List.setIfInBounds_toArray, List.set_cons_zero, List.set_cons_succ]
      refine wpAnyH_ready (rs := [10]) (by kernel_rfl) (by simp) ?_
      refine AllReadyH.cons (o := { dst := some 31, op := Op.call { callee := Callee.value (Operand.func 80), args := #[Operand.tmp 23, Operand.tmp 29, Operand.tmp 30], argTypes := #[73, 105, 76] }, type := 105, pos := "keyed.go:89", after := #[{ on := 2, ground := Ground.data }, { on := 8, ground := Ground.data }, { on := 9, ground := Ground.data }], guard := none }) rfl (fun K hK => ?_) AllReadyH.nil
      go_simp
      go_at_call 80
      (with_reducible refine (ihl _ (HTT1.out.below HZ0.out) (TIn.keep (NK.of_below HZ0.out (Nat.le_refl _)) HTS.out) HAS.out (by omega)).mono ?_)
      rintro e z1 ⟨T1, rfl, k1, k2, b9⟩
      have HZ1 := hide (show Below w1.heap.size w1 z1 from HZ0.out.trans (Below.mono b9 HZ0.out.size))
      have hsz : nsz T1 ≤ nsz l := by unfold nsz; rw [k2]; exact del_le _
      have HWI := hide (with0_any b a l r T1 z1 (TIn.keep (NK.of_below HZ1.out (Nat.le_refl _)) HT1.out) k1 (by omega) (by omega))
      have HL := hide k2
      clear k1 k2
      clear b9
      refine hK.out _ _ (⟨(HZ1.out.cell (p := ⟨b, 12, none⟩) lb).trans c3, (HZ1.out.cell (p := ⟨B, 0, none⟩) lx).trans x0, (HZ1.out.cell (p := ⟨B, 1, none⟩) lx).trans x1, (HZ1.out.cell (p := ⟨B, 2, none⟩) lx).trans x2⟩) (fun hHeld1 => ?_)
      clear hK K
      try simp only [Act.put, List.setIfInBounds_toArray, List.set_cons_zero, List.set_cons_succ]
      refine wpAnyH_ready (rs := [11]) (by kernel_rfl) (by simp) ?_
      refine AllReadyH.cons (o := { dst := some 32, op := Op.call { callee := Callee.value (Operand.func 98), args := #[Operand.tmp 21, Operand.tmp 22, Operand.tmp 31], argTypes := #[105, 3, 105] }, type := 105, pos := "keyed.go:89", after := #[{ on := 0, ground := Ground.data }, { on := 1, ground := Ground.data }, { on := 10, ground := Ground.data }, { on := 10, ground := Ground.chain }], guard := none }) rfl (fun K hK => ?_) AllReadyH.nil
      go_simp
      go_at_call 98
      (with_reducible refine (HWI.out).mono ?_)
      rintro e z2 ⟨b1, rfl, k4, b9⟩
      have HZ2 := hide (show Below w1.heap.size w1 z2 from HZ1.out.trans (Below.mono b9 HZ1.out.size))
      have HEV := hide (even_any b1 a T1 r z2 k4 (by omega))
      clear k4
      clear b9
      refine hK.out _ _ (⟨(HZ2.out.cell (p := ⟨b, 12, none⟩) lb).trans c3, (HZ2.out.cell (p := ⟨B, 0, none⟩) lx).trans x0, (HZ2.out.cell (p := ⟨B, 1, none⟩) lx).trans x1, (HZ2.out.cell (p := ⟨B, 2, none⟩) lx).trans x2⟩) (fun hHeld2 => ?_)
      clear hK K
      try simp only [Act.put, List.setIfInBounds_toArray, List.set_cons_zero, List.set_cons_succ]
      refine wpAnyH_ready (rs := [12]) (by kernel_rfl) (by simp) ?_
      refine AllReadyH.cons (o := { dst := some 33, op := Op.call { callee := Callee.value (Operand.func 99), args := #[Operand.tmp 32], argTypes := #[105] }, type := 105, pos := "keyed.go:89", after := #[{ on := 11, ground := Ground.data }, { on := 11, ground := Ground.chain }], guard := none }) rfl (fun K hK => ?_) AllReadyH.nil
      go_simp
      go_at_call 99
      (with_reducible refine (HEV.out).mono ?_)
      rintro e z3 ⟨T2, rfl, k6, k7, b9⟩
      have HZ3 := hide (show Below w1.heap.size w1 z3 from HZ2.out.trans (Below.mono b9 HZ2.out.size))
      have H6 := hide k6
      have H7 := hide k7
      clear k6 k7
      clear b9
      refine hK.out _ _ (⟨(HZ3.out.cell (p := ⟨b, 12, none⟩) lb).trans c3, (HZ3.out.cell (p := ⟨B, 0, none⟩) lx).trans x0, (HZ3.out.cell (p := ⟨B, 1, none⟩) lx).trans x1, (HZ3.out.cell (p := ⟨B, 2, none⟩) lx).trans x2⟩) (fun hHeld3 => ?_)
      clear hK K
      try simp only [Act.put, List.setIfInBounds_toArray, List.set_cons_zero, List.set_cons_succ]
      refine wpAnyH_take (i := 13) (oi := { dst := some 6, op := Op.assign (Operand.tmp 33), type := 105, pos := "keyed.go:89", after := #[{ on := 12, ground := Ground.data }, { on := 12, ground := Ground.chain }, { on := 0, ground := Ground.phase }, { on := 1, ground := Ground.phase }, { on := 2, ground := Ground.phase }, { on := 3, ground := Ground.phase }, { on := 4, ground := Ground.phase }, { on := 5, ground := Ground.phase }, { on := 6, ground := Ground.phase }, { on := 7, ground := Ground.phase }, { on := 8, ground := Ground.phase }, { on := 9, ground := Ground.phase }, { on := 10, ground := Ground.phase }, { on := 11, ground := Ground.phase }, { on := 12, ground := Ground.phase }], guard := none }) (v := ?_) rfl (by kernel_rfl) (by kernel_rfl) (by kernel_rfl) (fun _ _ _ h => h) (Or.inl ⟨by rfl, ?_⟩) (by assumption) ?_
      rotate_left
      · intro wS hSw
        try dsimp only at hSw
        go_simp
        try with_reducible rfl
      try simp only [Act.put, List.setIfInBounds_toArray, List.set_cons_zero, List.set_cons_succ]
      refine wpAnyH_done (by kernel_rfl) ?_ _
      go_wp2
      go_ret
      exact ⟨T2, rfl, H6.out, by rw [H7.out, HIN.out, HL.out], HB1.out.trans (HZ3.out.mono HB1.out.size)⟩
    · have HW := hide (way_eq HTT.out hF HT.out hk)
      have HIN := hide (show delL τ k (toL (.node b 0 a l r)) = toL l ++ toL r from del_here hk HAA.out.2.2.1 HAA.out.2.2.2)
      clear hk
      go_enter Try.func80, Try.ntmps80
      go_upto_region 1 with (fail)
      rw [HE.out.1]
      try rw [HE.out.2]
      clear HE
      go_wp2_with fail
      refine HW.out.mono ?_
      rintro e w1 ⟨rfl, b2⟩
      have HB1 := hide (HB.out.trans (b2.mono HB.out.size))
      have HT1 := hide (TIn.keep (NK.of_below b2 (Nat.le_refl _)) HT.out)
      have HTT1 := hide (HTT.out.below b2)
      replace HX := hide (below_block b2 HX.out (Nat.le_refl _))
      clear x0 x1 x2 xf lx b2 HW
      obtain ⟨x0, x1, x2, xf⟩ := key_cells HX.out
      have lx := lt_of_block HX.out
      clear xf
      have HR := hide (rest_any b a l r w1 HT1.out (by omega))
      go_wp2_with fail
      refine HR.out.mono ?_
      rintro e w3 ⟨T1, rfl, k1, k2, k3⟩
      have H1 := hide k1
      have H2 := hide k2
      have H3 := hide (HB1.out.trans (k3.mono HB1.out.size))
      clear k1 k2 k3 HR
      go_wp2
      go_ret
      exact ⟨T1, rfl, H1.out, by rw [H2.out, HIN.out], H3.out⟩
    · have HW := hide (way_gt HTT.out hF HT.out hk)
      have HIN := hide (show delL τ k (toL (.node b 0 a l r)) = toL l ++ a :: delL τ k (toL r) from del_right hk HAA.out.2.2.1)
      clear hk
      go_enter Try.func80, Try.ntmps80
      go_upto_region 1 with (fail)
      rw [HE.out.1]
      try rw [HE.out.2]
      clear HE
      go_wp2_with fail
      refine HW.out.mono ?_
      rintro e w1 ⟨rfl, b2⟩
      have HB1 := hide (HB.out.trans (b2.mono HB.out.size))
      have HT1 := hide (TIn.keep (NK.of_below b2 (Nat.le_refl _)) HT.out)
      have HTT1 := hide (HTT.out.below b2)
      replace HX := hide (below_block b2 HX.out (Nat.le_refl _))
      clear x0 x1 x2 xf lx b2 HW
      obtain ⟨x0, x1, x2, xf⟩ := key_cells HX.out
      have lx := lt_of_block HX.out
      clear xf
      obtain ⟨_, _, _, _, _, _, _, _, _, _, _, _, c3, c4, cf⟩ := five_cells HT1.out.2.1
      have lb := lt_of_block HT1.out.2.1
      clear c3
      go_wp2_with fail
      have HTS := hide HT1.out.2.2.2
      have HAS := hide HAA.out.2.1
      have HZ0 := hide (show Below w1.heap.size w1 w1.drew from (Below.refl _ _).drew)
      refine wp_region_held_drew (S := fun w' => w'.cell? ⟨b, 13, none⟩ = some (.pointer (ad r)) ∧ w'.cell? ⟨B, 0, none⟩ = some (.int .u8 k.p) ∧ w'.cell? ⟨B, 1, none⟩ = some (.int .u16 k.x) ∧ w'.cell? ⟨B, 2, none⟩ = some (.int .u32 k.r)) (by kernel_rfl) (by exact ⟨(HZ0.out.cell (p := ⟨b, 13, none⟩) lb).trans c4, (HZ0.out.cell (p := ⟨B, 0, none⟩) lx).trans x0, (HZ0.out.cell (p := ⟨B, 1, none⟩) lx).trans x1, (HZ0.out.cell (p := ⟨B, 2, none⟩) lx).trans x2⟩) (fun hHeld => ?_)
      refine wpAnyH_take (i := 0) (oi := { dst := some 21, op := Op.move (Operand.tmp 1), type := 105, pos := "keyed.go:89", after := #[], guard := none }) (v := ?_) rfl (by kernel_rfl) (by kernel_rfl) (by kernel_rfl) (fun _ _ _ h => h) (Or.inl ⟨by rfl, ?_⟩) (by assumption) ?_
      rotate_left
      · intro wS hSw
        try dsimp only at hSw
        go_simp
        try with_reducible rfl
      try simp only [Act.put, List.setIfInBounds_toArray, List.set_cons_zero, List.set_cons_succ]
      refine wpAnyH_take (i := 1) (oi := { dst := some 22, op := Op.move (Operand.tmp 7), type := 3, pos := "keyed.go:89", after := #[], guard := none }) (v := ?_) rfl (by kernel_rfl) (by kernel_rfl) (by kernel_rfl) (fun _ _ _ h => h) (Or.inl ⟨by rfl, ?_⟩) (by assumption) ?_
      rotate_left
      · intro wS hSw
        try dsimp only at hSw
        go_simp
        try with_reducible rfl
      try simp only [Act.put, List.setIfInBounds_toArray, List.set_cons_zero, List.set_cons_succ]
      refine wpAnyH_take (i := 2) (oi := { dst := some 23, op := Op.move (Operand.tmp 0), type := 73, pos := "keyed.go:89", after := #[], guard := none }) (v := ?_) rfl (by kernel_rfl) (by kernel_rfl) (by kernel_rfl) (fun _ _ _ h => h) (Or.inl ⟨by rfl, ?_⟩) (by assumption) ?_
      rotate_left
      · intro wS hSw
        try dsimp only at hSw
        go_simp
        try with_reducible rfl
      try simp only [Act.put, List.setIfInBounds_toArray, List.set_cons_zero, List.set_cons_succ]
      refine wpAnyH_take (i := 3) (oi := { dst := some 24, op := Op.move (Operand.tmp 1), type := 105, pos := "keyed.go:89", after := #[], guard := none }) (v := ?_) rfl (by kernel_rfl) (by kernel_rfl) (by kernel_rfl) (fun _ _ _ h => h) (Or.inl ⟨by rfl, ?_⟩) (by assumption) ?_
      rotate_left
      · intro wS hSw
        try dsimp only at hSw
        go_simp
        try with_reducible rfl
      try simp only [Act.put, List.setIfInBounds_toArray, List.set_cons_zero, List.set_cons_succ]
      refine wpAnyH_take (i := 4) (oi := { dst := some 25, op := Op.move (Operand.tmp 7), type := 3, pos := "keyed.go:89", after := #[], guard := none }) (v := ?_) rfl (by kernel_rfl) (by kernel_rfl) (by kernel_rfl) (fun _ _ _ h => h) (Or.inl ⟨by rfl, ?_⟩) (by assumption) ?_
      rotate_left
      · intro wS hSw
        try dsimp only at hSw
        go_simp
        try with_reducible rfl
      try simp only [Act.put, List.setIfInBounds_toArray, List.set_cons_zero, List.set_cons_succ]
      refine wpAnyH_take (i := 5) (oi := { dst := some 26, op := Op.nilCheck (Operand.tmp 24), type := 0, pos := "keyed.go:89", after := #[{ on := 3, ground := Ground.data }], guard := none }) (v := ?_) rfl (by kernel_rfl) (by kernel_rfl) (by kernel_rfl) (fun _ _ _ h => h) (Or.inl ⟨by rfl, ?_⟩) (by assumption) ?_
      rotate_left
      · intro wS hSw
        try dsimp only at hSw
        go_simp
        try with_reducible rfl
      try simp only [Act.put, List.setIfInBounds_toArray, List.set_cons_zero, List.set_cons_succ]
      refine wpAnyH_take (i := 6) (oi := { dst := some 27, op := Op.fieldAddr 122 (Operand.tmp 26) 3, type := 0, pos := "keyed.go:89", after := #[{ on := 5, ground := Ground.data }], guard := none }) (v := ?_) rfl (by kernel_rfl) (by kernel_rfl) (by kernel_rfl) (fun _ _ _ h => h) (Or.inl ⟨by rfl, ?_⟩) (by assumption) ?_
      rotate_left
      · intro wS hSw
        try dsimp only at hSw
        go_simp
        try with_reducible rfl
      try simp only [Act.put, List.setIfInBounds_toArray, List.set_cons_zero, List.set_cons_succ]
      refine wpAnyH_take (i := 7) (oi := { dst := some 28, op := Op.indexAddr 120 (Operand.tmp 27) (Operand.tmp 25), type := 0, pos := "keyed.go:89", after := #[{ on := 6, ground := Ground.data }, { on := 4, ground := Ground.data }], guard := none }) (v := ?_) rfl (by kernel_rfl) (by kernel_rfl) (by kernel_rfl) (fun _ _ _ h => h) (Or.inl ⟨by rfl, ?_⟩) (by assumption) ?_
      rotate_left
      · intro wS hSw
        try dsimp only at hSw
        go_simp
        try with_reducible rfl
      try simp only [Act.put, List.setIfInBounds_toArray, List.set_cons_zero, List.set_cons_succ]
      refine wpAnyH_take (i := 8) (oi := { dst := some 29, op := Op.load 105 (Operand.tmp 28), type := 105, pos := "keyed.go:89", after := #[{ on := 7, ground := Ground.data }], guard := none }) (v := ?_) rfl (by kernel_rfl) (by kernel_rfl) (by kernel_rfl) (fun _ _ _ h => h) (Or.inl ⟨by rfl, ?_⟩) (by assumption) ?_
      rotate_left
      · intro wS hSw
        try dsimp only at hSw
        go_simp
        try with_reducible rfl
      try simp only [Act.put, List.setIfInBounds_toArray, List.set_cons_zero, List.set_cons_succ]
      refine wpAnyH_take (i := 9) (oi := { dst := some 30, op := Op.load 76 (Operand.tmp 5), type := 76, pos := "keyed.go:89", after := #[], guard := none }) (v := ?_) rfl (by kernel_rfl) (by kernel_rfl) (by kernel_rfl) (fun _ _ _ h => h) (Or.inl ⟨by rfl, ?_⟩) (by assumption) ?_
      rotate_left
      · intro wS hSw
        try dsimp only at hSw
        go_simp
        try with_reducible rfl
      try simp only [Act.put, List.setIfInBounds_toArray, List.set_cons_zero, List.set_cons_succ]
      refine wpAnyH_ready (rs := [10]) (by kernel_rfl) (by simp) ?_
      refine AllReadyH.cons (o := { dst := some 31, op := Op.call { callee := Callee.value (Operand.func 80), args := #[Operand.tmp 23, Operand.tmp 29, Operand.tmp 30], argTypes := #[73, 105, 76] }, type := 105, pos := "keyed.go:89", after := #[{ on := 2, ground := Ground.data }, { on := 8, ground := Ground.data }, { on := 9, ground := Ground.data }], guard := none }) rfl (fun K hK => ?_) AllReadyH.nil
      go_simp
      go_at_call 80
      (with_reducible refine (ihr _ (HTT1.out.below HZ0.out) (TIn.keep (NK.of_below HZ0.out (Nat.le_refl _)) HTS.out) HAS.out (by omega)).mono ?_)
      rintro e z1 ⟨T1, rfl, k1, k2, b9⟩
      have HZ1 := hide (show Below w1.heap.size w1 z1 from HZ0.out.trans (Below.mono b9 HZ0.out.size))
      have hsz : nsz T1 ≤ nsz r := by unfold nsz; rw [k2]; exact del_le _
      have HWI := hide (with1_any b a l r T1 z1 (TIn.keep (NK.of_below HZ1.out (Nat.le_refl _)) HT1.out) k1 (by omega) (by omega))
      have HL := hide k2
      clear k1 k2
      clear b9
      refine hK.out _ _ (⟨(HZ1.out.cell (p := ⟨b, 13, none⟩) lb).trans c4, (HZ1.out.cell (p := ⟨B, 0, none⟩) lx).trans x0, (HZ1.out.cell (p := ⟨B, 1, none⟩) lx).trans x1, (HZ1.out.cell (p := ⟨B, 2, none⟩) lx).trans x2⟩) (fun hHeld1 => ?_)
      clear hK K
      try simp only [Act.put, List.setIfInBounds_toArray, List.set_cons_zero, List.set_cons_succ]
      refine wpAnyH_ready (rs := [11]) (by kernel_rfl) (by simp) ?_
      refine AllReadyH.cons (o := { dst := some 32, op := Op.call { callee := Callee.value (Operand.func 98), args := #[Operand.tmp 21, Operand.tmp 22, Operand.tmp 31], argTypes := #[105, 3, 105] }, type := 105, pos := "keyed.go:89", after := #[{ on := 0, ground := Ground.data }, { on := 1, ground := Ground.data }, { on := 10, ground := Ground.data }, { on := 10, ground := Ground.chain }], guard := none }) rfl (fun K hK => ?_) AllReadyH.nil
      go_simp
      go_at_call 98
      (with_reducible refine (HWI.out).mono ?_)
      rintro e z2 ⟨b1, rfl, k4, b9⟩
      have HZ2 := hide (show Below w1.heap.size w1 z2 from HZ1.out.trans (Below.mono b9 HZ1.out.size))
      have HEV := hide (even_any b1 a l T1 z2 k4 (by omega))
      clear k4
      clear b9
      refine hK.out _ _ (⟨(HZ2.out.cell (p := ⟨b, 13, none⟩) lb).trans c4, (HZ2.out.cell (p := ⟨B, 0, none⟩) lx).trans x0, (HZ2.out.cell (p := ⟨B, 1, none⟩) lx).trans x1, (HZ2.out.cell (p := ⟨B, 2, none⟩) lx).trans x2⟩) (fun hHeld2 => ?_)
      clear hK K
      try simp only [Act.put, List.setIfInBounds_toArray, List.set_cons_zero, List.set_cons_succ]
      refine wpAnyH_ready (rs := [12]) (by kernel_rfl) (by simp) ?_
      refine AllReadyH.cons (o := { dst := some 33, op := Op.call { callee := Callee.value (Operand.func 99), args := #[Operand.tmp 32], argTypes := #[105] }, type := 105, pos := "keyed.go:89", after := #[{ on := 11, ground := Ground.data }, { on := 11, ground := Ground.chain }], guard := none }) rfl (fun K hK => ?_) AllReadyH.nil
      go_simp
      go_at_call 99
      (with_reducible refine (HEV.out).mono ?_)
      rintro e z3 ⟨T2, rfl, k6, k7, b9⟩
      have HZ3 := hide (show Below w1.heap.size w1 z3 from HZ2.out.trans (Below.mono b9 HZ2.out.size))
      have H6 := hide k6
      have H7 := hide k7
      clear k6 k7
      clear b9
      refine hK.out _ _ (⟨(HZ3.out.cell (p := ⟨b, 13, none⟩) lb).trans c4, (HZ3.out.cell (p := ⟨B, 0, none⟩) lx).trans x0, (HZ3.out.cell (p := ⟨B, 1, none⟩) lx).trans x1, (HZ3.out.cell (p := ⟨B, 2, none⟩) lx).trans x2⟩) (fun hHeld3 => ?_)
      clear hK K
      try simp only [Act.put, List.setIfInBounds_toArray, List.set_cons_zero, List.set_cons_succ]
      refine wpAnyH_take (i := 13) (oi := { dst := some 6, op := Op.assign (Operand.tmp 33), type := 105, pos := "keyed.go:89", after := #[{ on := 12, ground := Ground.data }, { on := 12, ground := Ground.chain }, { on := 0, ground := Ground.phase }, { on := 1, ground := Ground.phase }, { on := 2, ground := Ground.phase }, { on := 3, ground := Ground.phase }, { on := 4, ground := Ground.phase }, { on := 5, ground := Ground.phase }, { on := 6, ground := Ground.phase }, { on := 7, ground := Ground.phase }, { on := 8, ground := Ground.phase }, { on := 9, ground := Ground.phase }, { on := 10, ground := Ground.phase }, { on := 11, ground := Ground.phase }, { on := 12, ground := Ground.phase }], guard := none }) (v := ?_) rfl (by kernel_rfl) (by kernel_rfl) (by kernel_rfl) (fun _ _ _ h => h) (Or.inl ⟨by rfl, ?_⟩) (by assumption) ?_
      rotate_left
      · intro wS hSw
        try dsimp only at hSw
        go_simp
        try with_reducible rfl
      try simp only [Act.put, List.setIfInBounds_toArray, List.set_cons_zero, List.set_cons_succ]
      refine wpAnyH_done (by kernel_rfl) ?_ _
      go_wp2
      go_ret
      exact ⟨T2, rfl, H6.out, by rw [H7.out, HIN.out, HL.out], HB1.out.trans (HZ3.out.mono HB1.out.size)⟩
set_option maxHeartbeats 1600000 in
theorem Drop_any (t : Nat) (most : Int) (fv : Value) (τ : MK → Int) (T : BT KV) (k : MK) (w : World) (hT : TabAt w t most fv (ad T)) (hF : OrdF fv τ) (h : TIn w T) (ha : Asc τ (toL T)) (hn : nsz T ≤ 700000) :
    Calls Try.prog 54 #[.pointer (some ⟨t, 0, none⟩), .agg #[.int .u8 k.p, .int .u16 k.x, .int .u32 k.r]] w (RetTab (.bool (hasL τ k (toL T))) t most fv (delL τ k (toL T)) w) := by
  obtain ⟨W, hW, hb, hx⟩ : ∃ W, w.alloc (.cells #[.int .u8 k.p, .int .u16 k.x, .int .u32 k.r] 76) = W ∧ Below w.heap.size w W ∧ W.heap[w.heap.size]? = some (.cells #[.int .u8 k.p, .int .u16 k.x, .int .u32 k.r] 76 (0, 0)) := ⟨_, rfl, (Below.refl _ _).alloc (Nat.le_refl _) _, heap_alloc_new _ _⟩
  obtain ⟨B, hB⟩ : ∃ B, w.heap.size = B := ⟨_, rfl⟩
  rw [hB] at hx
  have HE := hide (And.intro hW hB)
  have HB := hide hb
  have HX := hide hx
  clear hW hB hb hx
  obtain ⟨x0, x1, x2, xf⟩ := key_cells HX.out
  have lx := lt_of_block HX.out
  have HT := hide (TIn.keep (NK.of_below HB.out (Nat.le_refl _)) h)
  have HTT := hide (hT.below HB.out)
  have HA := hide ha
  rcases findT_spec (k := k) HT.out ha with ⟨h1, h2⟩ | ⟨b, a, l, r, h1, h2, h3, h4⟩
  · have HP := hide (find_p HTT.out hF HT.out HA.out none (by rw [h1]; rfl))
    have HD := hide (show delL τ k (toL T) = toL T by
      unfold delL
      rw [List.filter_eq_self]
      intro x hx
      have := List.any_eq_false.1 h2 x hx
      simpa using this)
    rw [h2]
    clear hT h ha h1 h2 
    go_enter Try.func54, Try.ntmps54
    go_upto_region 1 with (fail)
    rw [HE.out.1]
    try rw [HE.out.2]
    clear HE
    go_wp2_with fail
    refine HP.out.mono ?_
    rintro e w1 ⟨rfl, b2⟩
    have HZ := hide b2
    clear b2 HP
    clear x0 x1 x2 xf lx
    go_wp2
    go_ret
    exact ⟨rfl, T, HTT.out.below HZ.out, TIn.keep (NK.of_below HZ.out (Nat.le_refl _)) HT.out, HD.out.symm, gb_of_below (HB.out.trans (HZ.out.mono HB.out.size)) (Nat.le_refl _)⟩
  · have HP := hide (find_p HTT.out hF HT.out HA.out (some ⟨b, 0, none⟩) (by rw [h1]; rfl))
    rw [h3]
    clear hT h ha h1 h2 h3 h4
    go_enter Try.func54, Try.ntmps54
    go_upto_region 1 with (fail)
    rw [HE.out.1]
    try rw [HE.out.2]
    clear HE
    go_wp2_with fail
    refine HP.out.mono ?_
    rintro e w1 ⟨rfl, b2⟩
    have HZ := hide b2
    clear b2 HP
    replace HTT := hide (HTT.out.below HZ.out)
    replace HT := hide (TIn.keep (NK.of_below HZ.out (Nat.le_refl _)) HT.out)
    have HG := hide (gb_of_below (r := some t) (HB.out.trans (HZ.out.mono HB.out.size)) (Nat.le_refl _))
    replace HX := hide (below_block HZ.out HX.out (Nat.le_refl _))
    clear x0 x1 x2 xf lx  HZ
    obtain ⟨x0, x1, x2, xf⟩ := key_cells HX.out
    have lx := lt_of_block HX.out
    clear xf
    go_wp2_with fail
    obtain ⟨t0, t1, t2, tf⟩ := three_cells HTT.out
    have lt := lt_of_block HTT.out
    clear t0 t1 tf
    have HZs0 := hide (show Below w1.heap.size w1 w1.drew from (Below.refl _ _).drew)
    refine wp_region_U (S := fun w' => w'.cell? ⟨t, 2, none⟩ = some (.pointer (ad T)) ∧ w'.cell? ⟨B, 0, none⟩ = some (.int .u8 k.p) ∧ w'.cell? ⟨B, 1, none⟩ = some (.int .u16 k.x) ∧ w'.cell? ⟨B, 2, none⟩ = some (.int .u32 k.r)) (t := 10) (by kernel_rfl) (by exact ⟨(HZs0.out.cell (p := ⟨t, 2, none⟩) lt).trans t2, (HZs0.out.cell (p := ⟨B, 0, none⟩) lx).trans x0, (HZs0.out.cell (p := ⟨B, 1, none⟩) lx).trans x1, (HZs0.out.cell (p := ⟨B, 2, none⟩) lx).trans x2⟩) (fun hHeld => ?_)
    refine wpAnyU_take2 (i := 0) (oi := { dst := some 9, op := Op.move (Operand.tmp 0), type := 73, pos := "keyed.go:76", after := #[], guard := none }) (v := ?_) rfl (by kernel_rfl) (by kernel_rfl) (by kernel_rfl) ([0]) (by kernel_rfl) (by kernel_rfl) (by kernel_rfl) (fun _ _ _ h => h) (Or.inl ⟨by rfl, ?_⟩) (by assumption) ?_
    rotate_left
    · intro wS hSw
      try dsimp only at hSw
      go_simp
      try with_reducible rfl
    try simp only [Act.put, List.setIfInBounds_toArray, List.set_cons_zero, List.set_cons_succ]
    refine wpAnyU_take2 (i := 1) (oi := { dst := some 10, op := Op.move (Operand.tmp 0), type := 73, pos := "keyed.go:76", after := #[], guard := none }) (v := ?_) rfl (by kernel_rfl) (by kernel_rfl) (by kernel_rfl) ([1]) (by kernel_rfl) (by kernel_rfl) (by kernel_rfl) (fun _ _ _ h => h) (Or.inl ⟨by rfl, ?_⟩) (by assumption) ?_
    rotate_left
    · intro wS hSw
      try dsimp only at hSw
      go_simp
      try with_reducible rfl
    try simp only [Act.put, List.setIfInBounds_toArray, List.set_cons_zero, List.set_cons_succ]
    refine wpAnyU_take2 (i := 2) (oi := { dst := some 11, op := Op.move (Operand.tmp 0), type := 73, pos := "keyed.go:76", after := #[], guard := none }) (v := ?_) rfl (by kernel_rfl) (by kernel_rfl) (by kernel_rfl) ([2]) (by kernel_rfl) (by kernel_rfl) (by kernel_rfl) (fun _ _ _ h => h) (Or.inl ⟨by rfl, ?_⟩) (by assumption) ?_
    rotate_left
    · intro wS hSw
      try dsimp only at hSw
      go_simp
      try with_reducible rfl
    try simp only [Act.put, List.setIfInBounds_toArray, List.set_cons_zero, List.set_cons_succ]
    refine wpAnyU_take2 (i := 3) (oi := { dst := some 12, op := Op.nilCheck (Operand.tmp 11), type := 0, pos := "keyed.go:76", after := #[{ on := 2, ground := Ground.data }], guard := none }) (v := ?_) rfl (by kernel_rfl) (by kernel_rfl) (by kernel_rfl) ([3]) (by kernel_rfl) (by kernel_rfl) (by kernel_rfl) (fun _ _ _ h => h) (Or.inl ⟨by rfl, ?_⟩) (by assumption) ?_
    rotate_left
    · intro wS hSw
      try dsimp only at hSw
      go_simp
      try with_reducible rfl
    try simp only [Act.put, List.setIfInBounds_toArray, List.set_cons_zero, List.set_cons_succ]
    refine wpAnyU_take2 (i := 4) (oi := { dst := some 13, op := Op.fieldAddr 107 (Operand.tmp 12) 2, type := 0, pos := "keyed.go:76", after := #[{ on := 3, ground := Ground.data }], guard := none }) (v := ?_) rfl (by kernel_rfl) (by kernel_rfl) (by kernel_rfl) ([4]) (by kernel_rfl) (by kernel_rfl) (by kernel_rfl) (fun _ _ _ h => h) (Or.inl ⟨by rfl, ?_⟩) (by assumption) ?_
    rotate_left
    · intro wS hSw
      try dsimp only at hSw
      go_simp
      try with_reducible rfl
    try simp only [Act.put, List.setIfInBounds_toArray, List.set_cons_zero, List.set_cons_succ]
    refine wpAnyU_take2 (i := 5) (oi := { dst := some 14, op := Op.load 105 (Operand.tmp 13), type := 105, pos := "keyed.go:76", after := #[{ on := 4, ground := Ground.data }], guard := none }) (v := ?_) rfl (by kernel_rfl) (by kernel_rfl) (by kernel_rfl) ([5]) (by kernel_rfl) (by kernel_rfl) (by kernel_rfl) (fun _ _ _ h => h) (Or.inl ⟨by rfl, ?_⟩) (by assumption) ?_
    rotate_left
    · intro wS hSw
      try dsimp only at hSw
      go_simp
      try with_reducible rfl
    try simp only [Act.put, List.setIfInBounds_toArray, List.set_cons_zero, List.set_cons_succ]
    refine wpAnyU_take2 (i := 6) (oi := { dst := some 15, op := Op.load 76 (Operand.tmp 3), type := 76, pos := "keyed.go:76", after := #[], guard := none }) (v := ?_) rfl (by kernel_rfl) (by kernel_rfl) (by kernel_rfl) ([6]) (by kernel_rfl) (by kernel_rfl) (by kernel_rfl) (fun _ _ _ h => h) (Or.inl ⟨by rfl, ?_⟩) (by assumption) ?_
    rotate_left
    · intro wS hSw
      try dsimp only at hSw
      go_simp
      try with_reducible rfl
    try simp only [Act.put, List.setIfInBounds_toArray, List.set_cons_zero, List.set_cons_succ]
    refine wpAnyU_one (i := 7) (o := { dst := some 16, op := Op.call { callee := Callee.value (Operand.func 80), args := #[Operand.tmp 10, Operand.tmp 14, Operand.tmp 15], argTypes := #[73, 105, 76] }, type := 105, pos := "keyed.go:76", after := #[{ on := 1, ground := Ground.data }, { on := 5, ground := Ground.data }, { on := 6, ground := Ground.data }], guard := none }) (by kernel_rfl) rfl (fun K hK => ?_)
    go_simp
    go_at_call 80
    (with_reducible refine (drop_any t most fv (ad T) τ k hF T _ (HTT.out.below HZs0.out) (TIn.keep (NK.of_below HZs0.out (Nat.le_refl _)) HT.out) HA.out hn).mono ?_)
    rintro e zs1 ⟨T2, rfl, k1, k2, b9⟩
    have HZs1 := hide (show Below w1.heap.size w1 zs1 from HZs0.out.trans (Below.mono b9 HZs0.out.size))
    have HS := hide (tab_store HTT.out k1 HZs1.out)
    have HK := hide k2
    obtain ⟨_, _, q2, qf⟩ := three_cells (below_block HZs1.out HTT.out (Nat.le_refl _))
    clear k1 k2
    clear b9
    refine hK.out _ _ (fun _ => ⟨(HZs1.out.cell (p := ⟨t, 2, none⟩) lt).trans t2, (HZs1.out.cell (p := ⟨B, 0, none⟩) lx).trans x0, (HZs1.out.cell (p := ⟨B, 1, none⟩) lx).trans x1, (HZs1.out.cell (p := ⟨B, 2, none⟩) lx).trans x2⟩) (fun hHelds1 => ?_)
    clear hK K
    replace hHelds1 := hHelds1 (by decide)
    try simp only [Act.put, List.setIfInBounds_toArray, List.set_cons_zero, List.set_cons_succ]
    refine wpAnyU_take2 (i := 8) (oi := { dst := some 17, op := Op.nilCheck (Operand.tmp 9), type := 0, pos := "keyed.go:76", after := #[{ on := 0, ground := Ground.data }, { on := 0, ground := Ground.phase }, { on := 1, ground := Ground.phase }, { on := 2, ground := Ground.phase }, { on := 3, ground := Ground.phase }, { on := 4, ground := Ground.phase }, { on := 5, ground := Ground.phase }, { on := 6, ground := Ground.phase }, { on := 7, ground := Ground.phase }], guard := none }) (v := ?_) rfl (by kernel_rfl) (by kernel_rfl) (by kernel_rfl) ([8, 9]) (by kernel_rfl) (by kernel_rfl) (by kernel_rfl) (fun _ _ _ h => h) (Or.inl ⟨by rfl, ?_⟩) (by assumption) ?_
    rotate_left
    · intro wS hSw
      try dsimp only at hSw
      go_simp
      try with_reducible rfl
    try simp only [Act.put, List.setIfInBounds_toArray, List.set_cons_zero, List.set_cons_succ]
    refine wpAnyU_take2 (i := 9) (oi := { dst := some 18, op := Op.fieldAddr 107 (Operand.tmp 17) 2, type := 0, pos := "keyed.go:76", after := #[{ on := 8, ground := Ground.data }, { on := 0, ground := Ground.phase }, { on := 1, ground := Ground.phase }, { on := 2, ground := Ground.phase }, { on := 3, ground := Ground.phase }, { on := 4, ground := Ground.phase }, { on := 5, ground := Ground.phase }, { on := 6, ground := Ground.phase }, { on := 7, ground := Ground.phase }], guard := none }) (v := ?_) rfl (by kernel_rfl) (by kernel_rfl) (by kernel_rfl) ([9]) (by kernel_rfl) (by kernel_rfl) (by kernel_rfl) (fun _ _ _ h => h) (Or.inl ⟨by rfl, ?_⟩) (by assumption) ?_
    rotate_left
    · intro wS hSw
      try dsimp only at hSw
      go_simp
      try with_reducible rfl
    try simp only [Act.put, List.setIfInBounds_toArray, List.set_cons_zero, List.set_cons_succ]
    refine wpAnyU_one (i := 10) (o := { dst := none, op := Op.store 105 (Operand.tmp 18) (Operand.tmp 16), type := 0, pos := "keyed.go:76", after := #[{ on := 9, ground := Ground.data }, { on := 7, ground := Ground.data }, { on := 7, ground := Ground.chain }, { on := 0, ground := Ground.phase }, { on := 1, ground := Ground.phase }, { on := 2, ground := Ground.phase }, { on := 3, ground := Ground.phase }, { on := 4, ground := Ground.phase }, { on := 5, ground := Ground.phase }, { on := 6, ground := Ground.phase }, { on := 7, ground := Ground.phase }], guard := none }) (by kernel_rfl) rfl (fun K hK => ?_)
    go_simp
    refine hK.out _ _ (fun h => absurd h (by decide)) (fun hHelds2 => ?_)
    clear hK K
    try simp only [Act.put, List.setIfInBounds_toArray, List.set_cons_zero, List.set_cons_succ]
    refine wpAnyU_done (by kernel_rfl) ?_ _
    go_wp2
    go_ret
    exact ⟨rfl, T2, HS.out.1, HS.out.2.1, HK.out, gb_trans HG.out HS.out.2.2⟩
end Go.Proofs.Ytijjgnkfddklgaa.C
