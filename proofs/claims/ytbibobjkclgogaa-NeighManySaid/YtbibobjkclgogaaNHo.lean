/- neigh: Hold. -/
import Derived.Test.YtbibobjkclgogaaNPut
import Derived.Test.YtbibobjkclgogaaClone
import Derived.Test.YtbibobjkclgogaaRegU
import Derived.Lib.AppendZeros
namespace Go.Proofs.Ytbibobjkclgogaa
open Go.RowKit Go.Deep Go.Shelf
set_option linter.unusedVariables false
set_option linter.unusedSimpArgs false
set_option maxRecDepth 100000
theorem eg_hold : ∀ args w, (callFunc 32 args).run Try.prog w = .ok (.enter 32 args) w := enters_of Try.func32 (by kernel_rfl) rfl
def pHold (d e : Int) (x : HV) : Bool := x.d == d && x.e == e
set_option maxHeartbeats 800000 in
theorem hold1_any (P N : Nat) (d e : Int) (x : HV) (w : World) (hP : w.cell? ⟨P, 4, none⟩ = some (.int .u32 d)) (hN : w.cell? ⟨N, 0, none⟩ = some (.int .u64 e)) (lP : P < w.heap.size) (lN : N < w.heap.size) :
    Calls Try.prog 32 #[hv x, .pointer (some ⟨P, 0, none⟩), .pointer (some ⟨N, 0, none⟩)] w fun z w' => z = .returned (.bool (pHold d e x)) ∧ Below w.heap.size w w' := by
  unfold hv
  obtain ⟨r, hr⟩ : ∃ r, pHold d e x = r := ⟨_, rfl⟩
  rw [hr]
  unfold pHold at hr
  have HR := hide hr
  clear hr
  obtain ⟨b1, hb1⟩ : ∃ z, (x.d == d) = z := ⟨_, rfl⟩
  obtain ⟨b2, hb2⟩ : ∃ z, (x.e == e) = z := ⟨_, rfl⟩
  rw [hb1, hb2] at HR
  cases b1 <;> cases b2 <;>
  · go_enter Try.func32, Try.ntmps32
    go_wp2_with fail
    go_ret
    exact ⟨by rw [← HR.out]; rfl, (Below.refl _ _).alloc (Nat.le_refl _) _⟩
theorem hold_tst (P N : Nat) (d e : Int) (w : World) (hP : w.cell? ⟨P, 4, none⟩ = some (.int .u32 d)) (hN : w.cell? ⟨N, 0, none⟩ = some (.int .u64 e)) (lP : P < w.heap.size) (lN : N < w.heap.size) :
    Tst 32 #[.pointer (some ⟨P, 0, none⟩), .pointer (some ⟨N, 0, none⟩)] (pHold d e) w := fun W x hb =>
  hold1_any P N d e x W ((hb.cell (p := ⟨P, 4, none⟩) lP).trans hP) ((hb.cell (p := ⟨N, 0, none⟩) lN).trans hN) (Nat.lt_of_lt_of_le lP hb.size) (Nat.lt_of_lt_of_le lN hb.size)
theorem info_wait : (Try.prog.info? 84).map (fun i => (i.zero, i.size, i.bytes)) = some (some (.agg #[.int .u8 0, .int .u8 0, .int .u16 0, .int .u32 0, .int .u32 0, .slice none 0 0, .int .u64 0]), 7, 48) := by kernel_rfl
/-- One more waits: the row behind an append. -/
theorem app_h (V : World) (base : Nat) (a : Option Addr) (n c : Nat) (H : List HV) (x : HV) (h : HRow V base (.slice a n c) H) (hl : H.length ≤ 600000) (hb : base ≤ V.heap.size) :
    ∃ a' c' w', (Builtin.append_ #[70, 70] 70 #[.slice a n c, .slice (some ⟨V.heap.size, 0, none⟩) 1 1]).run Try.prog (V.alloc (.cells #[.int .u8 x.t, .int .u8 x.p, .int .u16 x.i, .int .u32 x.s, .int .u32 x.d, .slice x.a x.n x.c, .int .u64 x.e] 84)) = .ok (.slice a' (n + 1) c') w' ∧ HRow w' base (.slice a' (n + 1) c') (H ++ [x]) ∧ OnlyS (RB (.slice a n c)) V w' := by
  obtain ⟨i0, hi, hz0, hz1, hz2⟩ := info_parts info_wait
  have hn : n = H.length := by
    rcases h.form with ⟨h1, h2⟩ | ⟨b, cap', h1, _⟩
    · simp at h1; rw [h2]; exact h1.2.1
    · simp at h1; exact h1.2.1
  subst hn
  have hal : Below V.heap.size V (V.alloc (.cells #[.int .u8 x.t, .int .u8 x.p, .int .u16 x.i, .int .u32 x.s, .int .u32 x.d, .slice x.a x.n x.c, .int .u64 x.e] 84)) := (Below.refl _ _).alloc (Nat.le_refl _) _
  have hx := heap_alloc_new V (.cells #[.int .u8 x.t, .int .u8 x.p, .int .u16 x.i, .int .u32 x.s, .int .u32 x.d, .slice x.a x.n x.c, .int .u64 x.e] 84)
  have hown := h.below hal
  have hsz : V.heap.size ≤ (V.alloc (.cells #[.int .u8 x.t, .int .u8 x.p, .int .u16 x.i, .int .u32 x.s, .int .u32 x.d, .slice x.a x.n x.c, .int .u64 x.e] 84)).heap.size := hal.size
  generalize V.alloc (.cells #[.int .u8 x.t, .int .u8 x.p, .int .u16 x.i, .int .u32 x.s, .int .u32 x.d, .slice x.a x.n x.c, .int .u64 x.e] 84) = W at *
  obtain ⟨c0, c1, c2, c3, c4, c5, c6, _⟩ := cells7 hx
  have hcells : ∀ j u, (hvc x)[j]? = some u → W.cell? ((⟨V.heap.size, 0, none⟩ : Addr).add j) = some u := by
    intro j u hj
    rw [Addr.add_lit, Nat.zero_add]
    unfold hvc at hj
    match j, hj with
    | 0, hj => cases hj; exact c0
    | 1, hj => cases hj; exact c1
    | 2, hj => cases hj; exact c2
    | 3, hj => cases hj; exact c3
    | 4, hj => cases hj; exact c4
    | 5, hj => cases hj; exact c5
    | 6, hj => cases hj; exact c6
    | j + 7, hj => simp at hj
  obtain ⟨v', w', hrun, ho, hg, _⟩ := run_append_own_at (P := Try.prog) W base 70 70 84 i0 (.agg #[.int .u8 0, .int .u8 0, .int .u16 0, .int .u32 0, .int .u32 0, .slice none 0 0, .int .u64 0]) 7 48 Try.underlying70 hi hz0 hz1 hz2 rfl (by decide) (.slice a H.length c) H.length (hrow H) hown ⟨V.heap.size, 0, none⟩ 1 1 (hvc x) rfl hcells (by
    intro u hu
    simp [hvc] at hu
    rcases hu with rfl | rfl | rfl | rfl | rfl | rfl | rfl <;> rfl) (by unfold maxLen; omega) (by omega) (by omega)
  obtain ⟨a', c', rfl⟩ := slice_form ho
  refine ⟨a', c', w', hrun, ?_, (OnlyS.of hal).grown hg (fun k e => .inl e)⟩
  unfold HRow
  rw [List.length_append, hrow_snoc]
  exact ho
/-- What Hold leaves. -/
def HoldAns (K c : Nat) (L : List D.KV) (H : List HV) (x : HV) (now : Int) (w' : World) : Prop := ∃ H', CAt w' K c L H' ∧ (H.length < 16 → ∃ a' c', H' = H ++ [{ x with a := a', c := c', e := now }]) ∧ (16 ≤ H.length → H' = H)
set_option maxHeartbeats 1600000 in
theorem hold_any (K c : Nat) (L : List D.KV) (H : List HV) (x : HV) (now : Int) (w : World) (h : CAt w K c L H) (hK : K ≤ w.heap.size) (hb : Row .u8 w x.a x.b) (hbl : x.b.length = x.n) (hbs : x.n ≤ 1000000) (hl : H.length ≤ 16) :
    Calls Try.prog 13 #[.pointer (some ⟨c, 0, none⟩), .agg #[.int .u8 x.t, .int .u8 x.p, .int .u16 x.i, .int .u32 x.s, .int .u32 x.d, .slice x.a x.n x.c], .int .u64 now] w fun e w' => e = .returned (.bool (!(H.any (pHold x.d now)))) ∧ HoldAns K c L H x now w' ∧ Below K w w' ∧ KO w w' := by
  obtain ⟨tb, a, n, cap, hx⟩ := h
  have hn : n = H.length := by
    rcases hx.row.form with ⟨h1, h2⟩ | ⟨b, cap', h1, _⟩
    · simp at h1; rw [h2]; exact h1.2.1
    · simp at h1; exact h1.2.1
  obtain ⟨W1, hW1⟩ : ∃ W, w.alloc (.cells #[.int .u8 x.t, .int .u8 x.p, .int .u16 x.i, .int .u32 x.s, .int .u32 x.d, .slice x.a x.n x.c] 44) = W := ⟨_, rfl⟩
  have q1 : W1.heap[w.heap.size]? = some (.cells #[.int .u8 x.t, .int .u8 x.p, .int .u16 x.i, .int .u32 x.s, .int .u32 x.d, .slice x.a x.n x.c] 44 (0, 0)) := by rw [← hW1]; exact heap_alloc_new _ _
  have b1 : Below w.heap.size w W1 := by rw [← hW1]; exact (Below.refl _ _).alloc (Nat.le_refl _) _
  have z1 : W1.heap.size = w.heap.size + 1 := by rw [← hW1]; simp
  obtain ⟨W, hW⟩ : ∃ W, W1.alloc (.cells #[.int .u64 now] 38) = W := ⟨_, rfl⟩
  have b2 : Below W1.heap.size W1 W := by rw [← hW]; exact (Below.refl _ _).alloc (Nat.le_refl _) _
  have q2 : W.heap[W1.heap.size]? = some (.cells #[.int .u64 now] 38 (0, 0)) := by rw [← hW]; exact heap_alloc_new _ _
  have q3 := below_block b2 q1 (Nat.le_refl _)
  have bW := b1.trans (b2.mono (by rw [z1]; omega))
  rw [← hW1] at hW
  rw [z1] at q2
  obtain ⟨P, hP⟩ : ∃ P, w.heap.size = P := ⟨_, rfl⟩
  obtain ⟨N, hN⟩ : ∃ N, w.heap.size + 1 = N := ⟨_, rfl⟩
  rw [hN] at q2
  rw [hP] at q3
  have HE := hide (And.intro hW (And.intro hN hP))
  have HB := hide bW
  have HP := hide q3
  have HNN := hide q2
  have HX0 := hide hx
  have HX := hide (hx.below bW)
  have HRB := hide (hb.below bW (Nat.le_refl _))
  have HH := hide (And.intro hn (And.intro hl (And.intro hbl (And.intro hbs hK))))
  clear hx hb hn hl hbl hbs hK hW1 q1 b1 z1 hW b2 q2 q3 bW hP hN
  obtain ⟨v, hv⟩ : ∃ v, H.any (pHold x.d now) = v := ⟨_, rfl⟩
  have HC := hide (contains_row _ _ _ eg_hold K a n cap H W HX.out.row (hold_tst P N x.d now W (by obtain ⟨_, _, _, _, h4, _⟩ := cells6 HP.out; exact h4) (one_cell HNN.out).1 (lt_of_block HP.out) (lt_of_block HNN.out)) (by have := HH.out.2.1; omega))
  rw [hv] at HC ⊢
  clear hv
  obtain ⟨c0, c1, cf⟩ := two_cells HX.out.blk
  clear c0 cf
  go_enter Try.func13, Try.ntmps13
  go_upto_region 1 with (fail)
  rw [HE.out.1]
  try rw [HE.out.2.1]
  try rw [HE.out.2.2]
  go_wp2_with fail
  refine HC.out.mono ?_
  rintro e w1 ⟨rfl, b1⟩
  have HB1 := hide (HB.out.trans (b1.mono HB.out.size))
  have HX1 := hide (HX.out.below b1)
  have HP1 := hide (below_block b1 HP.out (Nat.le_refl _))
  have HN1 := hide (below_block b1 HNN.out (Nat.le_refl _))
  have HR1 := hide (HRB.out.below b1 (Nat.le_refl _))
  clear HC b1 c1 HX HP HNN HRB HB
  obtain ⟨c0, c1, cf⟩ := two_cells HX1.out.blk
  have lc := lt_of_block HX1.out.blk
  by_cases hlt : n < 16
  · have hltz : (n : Int) < 16 := by omega
    obtain ⟨p0, p1, p2, p3, p4, p5, pf⟩ := cells6 HP1.out
    have hcl := clone_any x.a x.b x.c w1 HR1.out (by have := HH.out.2.2; omega)
    rw [HH.out.2.2.1] at hcl
    have HCL := hide hcl
    clear hcl c0 cf p0 p1 p2 p3 p4 pf hlt
    go_wp2_with fail
    refine HCL.out.mono ?_
    rintro e w2 ⟨a', c', rfl, o2, b2⟩
    have HO2 := hide o2
    have HB2 := hide (HB1.out.trans (b2.mono HB1.out.size))
    have HX2 := hide (HX1.out.below b2)
    have HP2 := hide (below_block b2 HP1.out (Nat.le_refl _))
    have HN2 := hide (below_block b2 HN1.out (Nat.le_refl _))
    have HS2 := hide (HB1.out.size)
    obtain ⟨_, p1, p2, p3, p4, p5, pf⟩ := cells6 HP2.out
    have lp := lt_of_block HP2.out
    clear HCL b2 o2 c1 p1 p2 p3 p4 HX1 HP1 HN1 HR1 HB1 lc
    go_wp2_with fail
    generalize hV : World.setCell _ _ _ = w3
    have o3 : OnlyS (fun k => k = P) w2 w3 := by rw [← hV]; exact (OnlyS.refl _ _).setCell P 5 _ (.inl rfl)
    have HP3 := hide (show w3.heap[P]? = some (.cells #[.int .u8 x.t, .int .u8 x.p, .int .u16 x.i, .int .u32 x.s, .int .u32 x.d, .slice a' x.n c'] 44 (0, 0)) by rw [← hV]; exact heap_setCell_same w2 P 5 _ _ _ HP2.out)
    have HB3 := hide (show Below w.heap.size w w3 by rw [← hV]; exact HB2.out.setCell (p := ⟨P, 5, none⟩) (Nat.le_of_eq HE.out.2.2) _)
    have HN3 := hide (o3.heap HN2.out (by have := HE.out.2; omega))
    have tyP : TyB w2 P 44 := ⟨_, _, HP2.out⟩
    have HO3 := hide (show BodOk w3 K { x with a := a', c := c', e := now } from ⟨HH.out.2.2.1, owns_mono (o3.owns HO2.out (by
      intro k hk e
      rcases HO2.out.2 with ⟨h1, _⟩ | ⟨g, cap', cur, h1, h2, h3, _⟩
      · rw [h1] at hk; simp [Value.ownBlock] at hk
      · rw [h1] at hk
        simp [Value.ownBlock] at hk
        subst hk
        exact TyB.ne ⟨_, _, h3⟩ tyP (by decide) e)) (Nat.le_trans HH.out.2.2.2.2 HS2.out)⟩)
    have HX3 := hide (HX0.out.below HB3.out)
    clear hV o3 tyP HP2 HN2 HX2 HB2 HO2 HS2 p5 pf lp
    obtain ⟨p0, p1, p2, p3, p4, p5, pf⟩ := cells6 HP3.out
    obtain ⟨n0, _⟩ := one_cell HN3.out
    obtain ⟨c0, c1, cf⟩ := two_cells HX3.out.blk
    have lc := lt_of_block HX3.out.blk
    have lp := lt_of_block HP3.out
    have ln := lt_of_block HN3.out
    obtain ⟨a2, c2, w4, hrun, hr4, ho4⟩ := app_h w3.drew K a n cap H { x with a := a', c := c', e := now } (HX3.out.row.below (Below.refl _ _).drew) (by have := HH.out.2.1; omega) (Nat.le_trans HH.out.2.2.2.2 HB3.out.size)
    have HR4 := hide hr4
    have HO4 := hide ho4
    have nC : ¬ RB (.slice a n cap) c := fun e => (HX3.out.row.ty e).1.ne HX3.out.tyC (by decide) rfl
    have nP : ¬ RB (.slice a n cap) P := fun e => (HX3.out.row.ty e).1.ne ⟨_, _, HP3.out⟩ (by decide) rfl
    have nN : ¬ RB (.slice a n cap) N := fun e => (HX3.out.row.ty e).1.ne ⟨_, _, HN3.out⟩ (by decide) rfl
    clear c0 hr4 ho4 pf

    have HZ0 := hide (show Below w3.heap.size w3 w3.drew from (Below.refl _ _).drew)
    refine wp_region_U (S := fun w' => w'.cell? ⟨c, 1, none⟩ = some (.slice a n cap) ∧ w'.cell? ⟨P, 0, none⟩ = some (.int .u8 x.t) ∧ w'.cell? ⟨P, 1, none⟩ = some (.int .u8 x.p) ∧ w'.cell? ⟨P, 2, none⟩ = some (.int .u16 x.i) ∧ w'.cell? ⟨P, 3, none⟩ = some (.int .u32 x.s) ∧ w'.cell? ⟨P, 4, none⟩ = some (.int .u32 x.d) ∧ w'.cell? ⟨P, 5, none⟩ = some (.slice a' x.n c') ∧ w'.cell? ⟨N, 0, none⟩ = some (.int .u64 now)) (t := 12) (by kernel_rfl) (by exact ⟨(HZ0.out.cell (p := ⟨c, 1, none⟩) lc).trans c1, (HZ0.out.cell (p := ⟨P, 0, none⟩) lp).trans p0, (HZ0.out.cell (p := ⟨P, 1, none⟩) lp).trans p1, (HZ0.out.cell (p := ⟨P, 2, none⟩) lp).trans p2, (HZ0.out.cell (p := ⟨P, 3, none⟩) lp).trans p3, (HZ0.out.cell (p := ⟨P, 4, none⟩) lp).trans p4, (HZ0.out.cell (p := ⟨P, 5, none⟩) lp).trans p5, (HZ0.out.cell (p := ⟨N, 0, none⟩) ln).trans n0⟩) (fun hHeld => ?_)
    refine wpAnyU_take2 (i := 0) (oi := { dst := some 24, op := Op.move (Operand.tmp 0), type := 31, pos := "neigh.go:54", after := #[], guard := none }) (v := ?_) rfl (by kernel_rfl) (by kernel_rfl) (by kernel_rfl) ([0]) (by kernel_rfl) (by kernel_rfl) (by kernel_rfl) (fun _ _ _ h => h) (Or.inl ⟨by rfl, ?_⟩) (by assumption) ?_
    rotate_left
    · intro wS hSw
      try dsimp only at hSw
      go_simp
      try with_reducible rfl
    try simp only [Act.put, List.setIfInBounds_toArray, List.set_cons_zero, List.set_cons_succ]
    refine wpAnyU_take2 (i := 1) (oi := { dst := some 25, op := Op.move (Operand.tmp 0), type := 31, pos := "neigh.go:54", after := #[], guard := none }) (v := ?_) rfl (by kernel_rfl) (by kernel_rfl) (by kernel_rfl) ([1]) (by kernel_rfl) (by kernel_rfl) (by kernel_rfl) (fun _ _ _ h => h) (Or.inl ⟨by rfl, ?_⟩) (by assumption) ?_
    rotate_left
    · intro wS hSw
      try dsimp only at hSw
      go_simp
      try with_reducible rfl
    try simp only [Act.put, List.setIfInBounds_toArray, List.set_cons_zero, List.set_cons_succ]
    refine wpAnyU_take2 (i := 2) (oi := { dst := some 26, op := Op.nilCheck (Operand.tmp 25), type := 0, pos := "neigh.go:54", after := #[{ on := 1, ground := Ground.data }], guard := none }) (v := ?_) rfl (by kernel_rfl) (by kernel_rfl) (by kernel_rfl) ([2]) (by kernel_rfl) (by kernel_rfl) (by kernel_rfl) (fun _ _ _ h => h) (Or.inl ⟨by rfl, ?_⟩) (by assumption) ?_
    rotate_left
    · intro wS hSw
      try dsimp only at hSw
      go_simp
      try with_reducible rfl
    try simp only [Act.put, List.setIfInBounds_toArray, List.set_cons_zero, List.set_cons_succ]
    refine wpAnyU_take2 (i := 3) (oi := { dst := some 27, op := Op.fieldAddr 72 (Operand.tmp 26) 1, type := 0, pos := "neigh.go:54", after := #[{ on := 2, ground := Ground.data }], guard := none }) (v := ?_) rfl (by kernel_rfl) (by kernel_rfl) (by kernel_rfl) ([3]) (by kernel_rfl) (by kernel_rfl) (by kernel_rfl) (fun _ _ _ h => h) (Or.inl ⟨by rfl, ?_⟩) (by assumption) ?_
    rotate_left
    · intro wS hSw
      try dsimp only at hSw
      go_simp
      try with_reducible rfl
    try simp only [Act.put, List.setIfInBounds_toArray, List.set_cons_zero, List.set_cons_succ]
    refine wpAnyU_take2 (i := 4) (oi := { dst := some 28, op := Op.load 70 (Operand.tmp 27), type := 70, pos := "neigh.go:54", after := #[{ on := 3, ground := Ground.data }], guard := none }) (v := ?_) rfl (by kernel_rfl) (by kernel_rfl) (by kernel_rfl) ([4]) (by kernel_rfl) (by kernel_rfl) (by kernel_rfl) (fun _ _ _ h => h) (Or.inl ⟨by rfl, ?_⟩) (by assumption) ?_
    rotate_left
    · intro wS hSw
      try dsimp only at hSw
      go_simp
      try with_reducible rfl
    try simp only [Act.put, List.setIfInBounds_toArray, List.set_cons_zero, List.set_cons_succ]
    refine wpAnyU_take2 (i := 5) (oi := { dst := some 29, op := Op.load 44 (Operand.tmp 4), type := 44, pos := "neigh.go:54", after := #[], guard := none }) (v := ?_) rfl (by kernel_rfl) (by kernel_rfl) (by kernel_rfl) ([5]) (by kernel_rfl) (by kernel_rfl) (by kernel_rfl) (fun _ _ _ h => h) (Or.inl ⟨by rfl, ?_⟩) (by assumption) ?_
    rotate_left
    · intro wS hSw
      try dsimp only at hSw
      go_simp
      try with_reducible rfl
    try simp only [Act.put, List.setIfInBounds_toArray, List.set_cons_zero, List.set_cons_succ]
    refine wpAnyU_take2 (i := 6) (oi := { dst := some 30, op := Op.load 38 (Operand.tmp 5), type := 38, pos := "neigh.go:54", after := #[], guard := none }) (v := ?_) rfl (by kernel_rfl) (by kernel_rfl) (by kernel_rfl) ([6]) (by kernel_rfl) (by kernel_rfl) (by kernel_rfl) (fun _ _ _ h => h) (Or.inl ⟨by rfl, ?_⟩) (by assumption) ?_
    rotate_left
    · intro wS hSw
      try dsimp only at hSw
      go_simp
      try with_reducible rfl
    try simp only [Act.put, List.setIfInBounds_toArray, List.set_cons_zero, List.set_cons_succ]
    refine wpAnyU_take2 (i := 7) (oi := { dst := some 31, op := Op.build 84 #[(0, Operand.tmp 29), (1, Operand.tmp 30)], type := 84, pos := "neigh.go:54", after := #[{ on := 5, ground := Ground.data }, { on := 6, ground := Ground.data }], guard := none }) (v := ?_) rfl (by kernel_rfl) (by kernel_rfl) (by kernel_rfl) ([7]) (by kernel_rfl) (by kernel_rfl) (by kernel_rfl) (fun _ _ _ h => h) (Or.inl ⟨by rfl, ?_⟩) (by assumption) ?_
    rotate_left
    · intro wS hSw
      try dsimp only at hSw
      go_simp
      try with_reducible rfl
    try simp only [Act.put, List.setIfInBounds_toArray, List.set_cons_zero, List.set_cons_succ]
    refine wpAnyU_one (i := 8) (o := { dst := some 32, op := Op.buildSlice 70 1 #[(0, Operand.tmp 31)], type := 70, pos := "neigh.go:54", after := #[{ on := 7, ground := Ground.data }], guard := none }) (by kernel_rfl) rfl (fun K hK => ?_)
    go_simp
    have hal := (Below.refl w3.heap.size w3).drew.alloc (Nat.le_refl _) (.cells #[.int .u8 x.t, .int .u8 x.p, .int .u16 x.i, .int .u32 x.s, .int .u32 x.d, .slice a' x.n c', .int .u64 now] 84)
    refine hK.out _ _ (fun _ => ⟨(hal.cell (p := ⟨c, 1, none⟩) lc).trans c1, (hal.cell (p := ⟨P, 0, none⟩) lp).trans p0, (hal.cell (p := ⟨P, 1, none⟩) lp).trans p1, (hal.cell (p := ⟨P, 2, none⟩) lp).trans p2, (hal.cell (p := ⟨P, 3, none⟩) lp).trans p3, (hal.cell (p := ⟨P, 4, none⟩) lp).trans p4, (hal.cell (p := ⟨P, 5, none⟩) lp).trans p5, (hal.cell (p := ⟨N, 0, none⟩) ln).trans n0⟩) (fun hHeld1 => ?_)
    clear hK K
    replace hHeld1 := hHeld1 (by decide)
    try simp only [Act.put, List.setIfInBounds_toArray, List.set_cons_zero, List.set_cons_succ]
    refine wpAnyU_one (i := 9) (o := { dst := some 33, op := Op.call { callee := Callee.builtin Builtin.append, args := #[Operand.tmp 28, Operand.tmp 32], argTypes := #[70, 70] }, type := 70, pos := "neigh.go:54", after := #[{ on := 4, ground := Ground.data }, { on := 8, ground := Ground.data }], guard := none }) (by kernel_rfl) rfl (fun K hK => ?_)
    rw [if_pos (by rfl)]
    refine Lib.wp_append_run _ _ _ _ _ rfl _ _ rfl rfl _ _ hrun ?_
    obtain ⟨_, k1, kf⟩ := two_cells (HO4.out.heap (g := c) HX3.out.blk nC)
    refine hK.out _ _ (fun _ => ⟨(HO4.out.cell (p := ⟨c, 1, none⟩) lc nC).trans c1, (HO4.out.cell (p := ⟨P, 0, none⟩) lp nP).trans p0, (HO4.out.cell (p := ⟨P, 1, none⟩) lp nP).trans p1, (HO4.out.cell (p := ⟨P, 2, none⟩) lp nP).trans p2, (HO4.out.cell (p := ⟨P, 3, none⟩) lp nP).trans p3, (HO4.out.cell (p := ⟨P, 4, none⟩) lp nP).trans p4, (HO4.out.cell (p := ⟨P, 5, none⟩) lp nP).trans p5, (HO4.out.cell (p := ⟨N, 0, none⟩) ln nN).trans n0⟩) (fun hHeld2 => ?_)
    clear hK K
    replace hHeld2 := hHeld2 (by decide)
    try simp only [Act.put, List.setIfInBounds_toArray, List.set_cons_zero, List.set_cons_succ]
    refine wpAnyU_take2 (i := 10) (oi := { dst := some 34, op := Op.nilCheck (Operand.tmp 24), type := 0, pos := "neigh.go:54", after := #[{ on := 0, ground := Ground.data }, { on := 0, ground := Ground.phase }, { on := 1, ground := Ground.phase }, { on := 2, ground := Ground.phase }, { on := 3, ground := Ground.phase }, { on := 4, ground := Ground.phase }, { on := 5, ground := Ground.phase }, { on := 6, ground := Ground.phase }, { on := 7, ground := Ground.phase }, { on := 8, ground := Ground.phase }, { on := 9, ground := Ground.phase }], guard := none }) (v := ?_) rfl (by kernel_rfl) (by kernel_rfl) (by kernel_rfl) ([10, 11]) (by kernel_rfl) (by kernel_rfl) (by kernel_rfl) (fun _ _ _ h => h) (Or.inl ⟨by rfl, ?_⟩) (by assumption) ?_
    rotate_left
    · intro wS hSw
      try dsimp only at hSw
      go_simp
      try with_reducible rfl
    try simp only [Act.put, List.setIfInBounds_toArray, List.set_cons_zero, List.set_cons_succ]
    refine wpAnyU_take2 (i := 11) (oi := { dst := some 35, op := Op.fieldAddr 72 (Operand.tmp 34) 1, type := 0, pos := "neigh.go:54", after := #[{ on := 10, ground := Ground.data }, { on := 0, ground := Ground.phase }, { on := 1, ground := Ground.phase }, { on := 2, ground := Ground.phase }, { on := 3, ground := Ground.phase }, { on := 4, ground := Ground.phase }, { on := 5, ground := Ground.phase }, { on := 6, ground := Ground.phase }, { on := 7, ground := Ground.phase }, { on := 8, ground := Ground.phase }, { on := 9, ground := Ground.phase }], guard := none }) (v := ?_) rfl (by kernel_rfl) (by kernel_rfl) (by kernel_rfl) ([11]) (by kernel_rfl) (by kernel_rfl) (by kernel_rfl) (fun _ _ _ h => h) (Or.inl ⟨by rfl, ?_⟩) (by assumption) ?_
    rotate_left
    · intro wS hSw
      try dsimp only at hSw
      go_simp
      try with_reducible rfl
    try simp only [Act.put, List.setIfInBounds_toArray, List.set_cons_zero, List.set_cons_succ]
    refine wpAnyU_one (i := 12) (o := { dst := none, op := Op.store 70 (Operand.tmp 35) (Operand.tmp 33), type := 0, pos := "neigh.go:54", after := #[{ on := 11, ground := Ground.data }, { on := 9, ground := Ground.data }, { on := 9, ground := Ground.chain }, { on := 0, ground := Ground.phase }, { on := 1, ground := Ground.phase }, { on := 2, ground := Ground.phase }, { on := 3, ground := Ground.phase }, { on := 4, ground := Ground.phase }, { on := 5, ground := Ground.phase }, { on := 6, ground := Ground.phase }, { on := 7, ground := Ground.phase }, { on := 8, ground := Ground.phase }, { on := 9, ground := Ground.phase }], guard := none }) (by kernel_rfl) rfl (fun K hK => ?_)
    go_simp
    refine hK.out _ _ (fun h => absurd h (by decide)) (fun hHeld3 => ?_)
    clear hK K
    try simp only [Act.put, List.setIfInBounds_toArray, List.set_cons_zero, List.set_cons_succ]
    refine wpAnyU_done (by kernel_rfl) ?_ _

    go_wp2
    go_ret
    have hdr : Below w3.heap.size w3 w3.drew := (Below.refl _ _).drew
    have hX4 := HX3.out.below hdr
    obtain ⟨k5, k6⟩ := hX4.rowed HO4.out HR4.out (fun y hy => by
      rcases List.mem_append.1 hy with hy | hy
      · exact (hX4.bod y hy).only HO4.out (fun k hk e => (HX3.out.row.ty e).1.ne hk (by decide) rfl)
      · rw [List.mem_singleton.1 hy]
        exact (HO3.out.below hdr).only HO4.out (fun k hk e => (HX3.out.row.ty e).1.ne hk (by decide) rfl)) rfl
    have hKs : K ≤ w3.drew.heap.size := Nat.le_trans HH.out.2.2.2.2 HB3.out.size
    have b5 := k6.below (K := K) (fun k hk => by
      rcases hk with rfl | hk
      · exact HX3.out.hc
      · exact (HX3.out.row.ty hk).2) hKs
    exact ⟨rfl, ⟨_, ⟨_, _, _, _, k5⟩, fun _ => ⟨_, _, rfl⟩, fun h => absurd h (by have := HH.out.1; omega)⟩, ((HB3.out.mono HH.out.2.2.2.2).drew).trans b5, (KO.of HB3.out.drew).trans (KO.row hX4 k6)⟩
  · have hltz : ¬ (n : Int) < 16 := by omega
    clear c0 cf
    go_wp2_with fail
    go_ret
    exact ⟨rfl, ⟨H, ⟨tb, a, n, cap, HX1.out⟩, fun h => absurd h (by have := HH.out.1; omega), fun _ => rfl⟩, HB1.out.mono HH.out.2.2.2.2, KO.of HB1.out⟩
end Go.Proofs.Ytbibobjkclgogaa
