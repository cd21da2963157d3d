/- What is seen of a connection, and how long it lasts: the law walked. -/
import Derived.Test.YtggnbhihajealaaTrackOver
import Derived.Test.YtggnbhihajealaaRegU
namespace Go.Proofs.Ytggnbhihajealaa
open Go.RowKit Go.Deep
set_option linter.unusedVariables false
set_option linter.unusedSimpArgs false
set_option maxRecDepth 100000
theorem limP_num (a b c d e : Bool) (w : World) :
    Calls Try.prog 12 #[.int .u8 6, (St5.mk a b c d e).v] w fun x w' => x = .returned (.int .u64 (lim 6 ⟨a, b, c, d, e⟩ : Nat)) ∧ Below w.heap.size w w' := limP_any 6 a b c d e w (by omega)
theorem limR_num (a b c d e : Bool) (w : World) :
    Calls Try.prog 13 #[.int .u8 6, (St5.mk a b c d e).v] w fun x w' => x = .returned (.int .u64 (lim 6 ⟨a, b, c, d, e⟩ : Nat)) ∧ Below w.heap.size w w' := limR_any 6 a b c d e w (by omega)
theorem nx_form (s : St5) (f : Nat) (out : Bool) : ∃ a b c d e, nx s f out = ⟨a, b, c, d, e⟩ := by
  generalize nx s f out = q; exact ⟨q.a, q.b, q.c, q.d, q.e, rfl⟩
theorem two_boxes2 {w : World} {B1 B2 : Nat} {a b c d e : Bool} (h1 : Box5 w B1 ⟨a, b, c, d, e⟩) (h2 : Box5 w B2 ⟨a, b, c, d, e⟩) : w.cell? ⟨B1, 0, none⟩ = some (.bool a) ∧ w.cell? ⟨B1, 1, none⟩ = some (.bool b) ∧ w.cell? ⟨B1, 2, none⟩ = some (.bool c) ∧ w.cell? ⟨B1, 3, none⟩ = some (.bool d) ∧ w.cell? ⟨B1, 4, none⟩ = some (.bool e) ∧ w.cell? ⟨B2, 0, none⟩ = some (.bool a) ∧ w.cell? ⟨B2, 1, none⟩ = some (.bool b) ∧ w.cell? ⟨B2, 2, none⟩ = some (.bool c) ∧ w.cell? ⟨B2, 3, none⟩ = some (.bool d) ∧ w.cell? ⟨B2, 4, none⟩ = some (.bool e) := by
  obtain ⟨x0, x1, x2, x3, x4, _⟩ := five_cells h1
  obtain ⟨y0, y1, y2, y3, y4, _⟩ := five_cells h2
  exact ⟨x0, x1, x2, x3, x4, y0, y1, y2, y3, y4⟩
theorem two_boxes3 {w : World} {B1 B2 X f : Nat} {a b c d e out : Bool} (h1 : Box5 w B1 ⟨a, b, c, d, e⟩) (h2 : Box5 w B2 ⟨a, b, c, d, e⟩) (hx : w.heap[X]? = some (.cells #[.int .u8 (f : Int), .bool out] 27 (0, 0))) : w.cell? ⟨B1, 0, none⟩ = some (.bool a) ∧ w.cell? ⟨B1, 1, none⟩ = some (.bool b) ∧ w.cell? ⟨B1, 2, none⟩ = some (.bool c) ∧ w.cell? ⟨B1, 3, none⟩ = some (.bool d) ∧ w.cell? ⟨B1, 4, none⟩ = some (.bool e) ∧ w.cell? ⟨B2, 0, none⟩ = some (.bool a) ∧ w.cell? ⟨B2, 1, none⟩ = some (.bool b) ∧ w.cell? ⟨B2, 2, none⟩ = some (.bool c) ∧ w.cell? ⟨B2, 3, none⟩ = some (.bool d) ∧ w.cell? ⟨B2, 4, none⟩ = some (.bool e) ∧ w.cell? ⟨X, 0, none⟩ = some (.int .u8 (f : Int)) ∧ w.cell? ⟨X, 1, none⟩ = some (.bool out) := by
  obtain ⟨x0, x1, x2, x3, x4, _⟩ := five_cells h1
  obtain ⟨y0, y1, y2, y3, y4, _⟩ := five_cells h2
  obtain ⟨z0, z1⟩ := two_cells hx
  exact ⟨x0, x1, x2, x3, x4, y0, y1, y2, y3, y4, z0, z1⟩
/-- What stands between two calls: both boxes hold one state. -/
structure TB (w0 : World) (B1 B2 : Nat) (s : St5) (w : World) : Prop where
  one : Box5 w B1 s
  two : Box5 w B2 s
  below : Below w0.heap.size w0 w
  l1 : w0.heap.size ≤ B1
  l2 : w0.heap.size ≤ B2
  ne : B1 ≠ B2
theorem TB.below' {w0 w w' : World} {B1 B2 : Nat} {s : St5} (h : TB w0 B1 B2 s w) (hb : Below w.heap.size w w') : TB w0 B1 B2 s w' :=
  ⟨h.one.below hb (Nat.le_refl _), h.two.below hb (Nat.le_refl _), h.below.trans (hb.mono h.below.size), h.l1, h.l2, h.ne⟩
abbrev st5 (w : World) (R : Nat) (a b c d e : Bool) : World := ((((w.setCell ⟨R, 0, none⟩ (.bool a)).setCell ⟨R, 1, none⟩ (.bool b)).setCell ⟨R, 2, none⟩ (.bool c)).setCell ⟨R, 3, none⟩ (.bool d)).setCell ⟨R, 4, none⟩ (.bool e)
theorem Box5.other {w : World} {R R2 : Nat} {s : St5} (h : Box5 w R s) (hne : R ≠ R2) (a b c d e : Bool) : Box5 (st5 w R2 a b c d e) R s := by
  unfold Box5 st5
  rw [heap_setCell_other _ _ _ _ hne, heap_setCell_other _ _ _ _ hne, heap_setCell_other _ _ _ _ hne, heap_setCell_other _ _ _ _ hne, heap_setCell_other _ _ _ _ hne]
  exact h
theorem TB.store {w0 w : World} {B1 B2 : Nat} {s : St5} (h : TB w0 B1 B2 s w) (a b c d e : Bool) : TB w0 B1 B2 ⟨a, b, c, d, e⟩ (st5 (st5 w B1 a b c d e) B2 a b c d e) :=
  ⟨(h.one.store a b c d e).other h.ne a b c d e, (h.two.other h.ne.symm a b c d e).store a b c d e, below5 (below5 h.below h.l1 _ _ _ _ _) h.l2 _ _ _ _ _, h.l1, h.l2, h.ne⟩
set_option maxHeartbeats 800000 in
theorem tplays_long (w : World) (s : St5) (a : Option Addr) (l : List Seen2) (n cap p : Nat) (hn : n ≤ 9223372036854775807) (h : 500 < n) :
    Calls Try.prog 3 #[s.v, .slice a n cap, .int .u8 (p : Int)] w fun e w' => e = .returned (.bool true) ∧ Below w.heap.size w w' := by
  have HB := hide ((Below.refl w.heap.size w).alloc (Nat.le_refl _) (.cells #[.bool s.a, .bool s.b, .bool s.c, .bool s.d, .bool s.e] 23))
  unfold St5.v
  go_enter Try.func3, Try.ntmps3
  go_wp2_with fail
  refine (speaks11_any _).mono ?_
  rintro e w1 ⟨rfl, b1⟩
  have HE := hide (HB.out.trans (b1.mono HB.out.size))
  clear b1
  go_wp2
  go_ret
  exact ⟨rfl, HE.out⟩
set_option maxHeartbeats 4000000 in
theorem tplays_main (w : World) (s : St5) (a : Option Addr) (l : List Seen2) (n cap p : Nat) (hO : SeenAt w a l) (hl : l.length = n) (hn : n ≤ 9223372036854775807) (hp : p < 256) (h : n ≤ 500) :
    Calls Try.prog 3 #[s.v, .slice a n cap, .int .u8 (p : Int)] w fun e w' => e = .returned (.bool true) ∧ Below w.heap.size w w' := by
  have HO := hide hO
  have HL := hide hl
  clear hO hl hn
  obtain ⟨z0, z1, z2, z3, z4⟩ := s
  unfold St5.v
  dsimp only
  have hq0 := heap_alloc_new w (.cells #[.bool z0, .bool z1, .bool z2, .bool z3, .bool z4] 23)
  have hb0 := (Below.refl w.heap.size w).alloc (Nat.le_refl _) (.cells #[.bool z0, .bool z1, .bool z2, .bool z3, .bool z4] 23)
  obtain ⟨B1, w0, hB1, hw0, HX0, HB0, hB1w⟩ : ∃ B wt, w.heap.size = B ∧ w.alloc (.cells #[.bool z0, .bool z1, .bool z2, .bool z3, .bool z4] 23) = wt ∧ Hid (Box5 wt B ⟨z0, z1, z2, z3, z4⟩) ∧ Hid (Below w.heap.size w wt) ∧ w.heap.size ≤ B := ⟨_, _, rfl, rfl, hide hq0, hide hb0, Nat.le_refl _⟩
  clear hq0 hb0
  go_enter Try.func3, Try.ntmps3
  go_wp2_with fail
  try rw [hw0]
  try rw [hB1]
  clear hw0 hB1
  refine (speaks11_any _).mono ?_
  rintro _ w1 ⟨rfl, b1⟩
  have hx1 : Box5 w1 B1 ⟨z0, z1, z2, z3, z4⟩ := HX0.out.below b1 (Nat.le_refl _)
  obtain ⟨x0, x1, x2, x3, x4, xf⟩ := five_cells hx1
  dsimp only at x0 x1 x2 x3 x4
  have hal := (Below.refl w1.heap.size w1).alloc (Nat.le_refl _) (.cells #[.bool z0, .bool z1, .bool z2, .bool z3, .bool z4] 23)
  have hlt1 := lt_of_block hx1
  have HTB := hide (show TB w B1 w1.heap.size ⟨z0, z1, z2, z3, z4⟩ (w1.alloc (.cells #[.bool z0, .bool z1, .bool z2, .bool z3, .bool z4] 23)) from
    ⟨hx1.below hal (Nat.le_refl _), heap_alloc_new _ _, (HB0.out.trans (b1.mono HB0.out.size)).trans (hal.mono (Nat.le_trans HB0.out.size b1.size)), hB1w, Nat.le_trans HB0.out.size b1.size, by omega⟩)
  obtain ⟨B2, w2, hB2, hw2, HS⟩ : ∃ B wt, w1.heap.size = B ∧ w1.alloc (.cells #[.bool z0, .bool z1, .bool z2, .bool z3, .bool z4] 23) = wt ∧ Hid (TB w B1 B ⟨z0, z1, z2, z3, z4⟩ wt) := ⟨_, _, rfl, rfl, HTB⟩
  clear b1 hx1 hal HX0 HB0 HTB hlt1
  go_wp2_with fail
  try rw [hw2]
  try rw [hB2]
  clear hw2 hB2 x0 x1 x2 x3 x4 xf
  go_loopw [18] (fun i wz => ∃ (j : Nat) (s : St5), j ≤ n ∧ i = .int .i64 j ∧ Hid (TB w B1 B2 s wz)) (fun i _ => n - (intOf i).toNat)
  case atStart => exact ⟨0, _, Nat.zero_le _, rfl, HS⟩
  case round =>
    clear HS
    obtain ⟨j, s, hj, rfl, HS⟩ := hrel
    by_cases hlt : j < n
    · obtain ⟨o, ho⟩ : ∃ o, l[j]? = some o := ⟨l[j]'(by rw [HL.out]; exact hlt), List.getElem?_eq_getElem _⟩
      obtain ⟨b, off, rfl, hbl, hcell⟩ := HO.out (by intro e; subst e; simp at ho)
      obtain ⟨p0, p1, hf⟩ := hcell j o ho
      obtain ⟨f, out⟩ := o
      simp only at p0 p1 hf
      have c0 := (HS.out.below.cell (p := ⟨b, off + j * 2, none⟩) hbl).trans p0
      have c1 := (HS.out.below.cell (p := ⟨b, off + j * 2 + 1, none⟩) hbl).trans p1
      have hal := (Below.refl wr.heap.size wr).alloc (Nat.le_refl _) (.cells #[.int .u8 (f : Int), .bool out] 27)
      have hxb := heap_alloc_new wr (.cells #[.int .u8 (f : Int), .bool out] 27)
      have h1l := lt_of_block HS.out.one
      have h2l := lt_of_block HS.out.two
      obtain ⟨a', b', c', d', e', hnx⟩ := nx_form s f out
      have HNP := hide (fun V : World => next_any f s out V hf)
      rw [hnx] at HNP
      have HNR := hide (fun V : World => nextR_any f s out V hf)
      rw [hnx] at HNR
      have HM1 := hide (fun V : World => limP_any p a' b' c' d' e' V hp)
      have HM2 := hide (fun V : World => limR_any p a' b' c' d' e' V hp)
      have HM3 := hide (fun V : World => limP_num a' b' c' d' e' V)
      have HM4 := hide (fun V : World => limR_num a' b' c' d' e' V)
      generalize lim p ⟨a', b', c', d', e'⟩ = l1 at *
      generalize lim 6 ⟨a', b', c', d', e'⟩ = l2 at *
      have HG1 := hide (fun V : World => begins_any f V hf)
      have HG2 := hide (fun V : World => beginsR_any f V hf)
      obtain ⟨s0, s1, s2, s3, s4⟩ := s
      unfold St5.v at HNP HNR HM1 HM2 HM3 HM4
      dsimp only at HNP HNR HM1 HM2 HM3 HM4
      generalize begB f = bg at *
      obtain ⟨X, w3, hX, hw3, HS3, HXB, hX1, hX2⟩ : ∃ X wt, wr.heap.size = X ∧ wr.alloc (.cells #[.int .u8 (f : Int), .bool out] 27) = wt ∧ Hid (TB w B1 B2 ⟨s0, s1, s2, s3, s4⟩ wt) ∧ Hid (wt.heap[X]? = some (.cells #[.int .u8 (f : Int), .bool out] 27 (0, 0))) ∧ B1 ≠ X ∧ B2 ≠ X :=
        ⟨_, _, rfl, rfl, hide (HS.out.below' hal), hide hxb, by omega, by omega⟩
      clear hcell p0 p1 ho hal hxb hnx hf HS h1l h2l
      go_upto_region 9 with (fail)
      try rw [hw3]
      try rw [hX]
      clear hw3 hX c0 c1
      obtain ⟨y0, y1⟩ := two_cells HXB.out
      go_quiet ((first | (go_at_call 8; exact Calls.quiet_of_same (HG1.out _)) | (go_at_call 9; exact Calls.quiet_of_same (HG2.out _))))
      obtain ⟨w4, hw4, HT_w4, HX_w4⟩ : ∃ wt, w3.drewN nq = wt ∧ Hid (TB w B1 B2 ⟨s0, s1, s2, s3, s4⟩ wt.drew) ∧ Hid (wt.drew.heap[X]? = some (.cells #[.int .u8 (f : Int), .bool out] 27 (0, 0))) :=
        ⟨_, rfl, hide (HS3.out.below' (bdrewN (Below.refl w3.heap.size w3) nq).drew), hide HXB.out⟩
      rw [hw4]
      clear hw4 y0 y1 HS3 HXB
      go_upto_region 11 with (fail)
      refine wp_region_U (S := fun w' => w'.cell? ⟨B1, 0, none⟩ = some (.bool s0) ∧ w'.cell? ⟨B1, 1, none⟩ = some (.bool s1) ∧ w'.cell? ⟨B1, 2, none⟩ = some (.bool s2) ∧ w'.cell? ⟨B1, 3, none⟩ = some (.bool s3) ∧ w'.cell? ⟨B1, 4, none⟩ = some (.bool s4) ∧ w'.cell? ⟨B2, 0, none⟩ = some (.bool s0) ∧ w'.cell? ⟨B2, 1, none⟩ = some (.bool s1) ∧ w'.cell? ⟨B2, 2, none⟩ = some (.bool s2) ∧ w'.cell? ⟨B2, 3, none⟩ = some (.bool s3) ∧ w'.cell? ⟨B2, 4, none⟩ = some (.bool s4) ∧ w'.cell? ⟨X, 0, none⟩ = some (.int .u8 (f : Int)) ∧ w'.cell? ⟨X, 1, none⟩ = some (.bool out)) (t := 12) (by kernel_rfl) (by exact two_boxes3 HT_w4.out.one HT_w4.out.two HX_w4.out) (fun hHeld => ?_)
      refine wpAnyU_take (i := 0) (oi := { dst := some 29, op := Op.load 23 (Operand.tmp 3), type := 23, pos := "law.go:36", after := #[], guard := none }) (v := ?_) rfl (by kernel_rfl) (by kernel_rfl) (by kernel_rfl) (by kernel_rfl) (fun _ _ _ h => h) (Or.inl ⟨by rfl, ?_⟩) (by assumption) ?_
      rotate_left
      · intro wS hSw
        try dsimp only at hSw
        go_simp
        try with_reducible rfl
      try simp only [Act.put, List.setIfInBounds_toArray, List.set_cons_zero, List.set_cons_succ]
      refine wpAnyU_take (i := 1) (oi := { dst := some 30, op := Op.fieldAddr 27 (Operand.tmp 9) 0, type := 0, pos := "law.go:36", after := #[], guard := none }) (v := ?_) rfl (by kernel_rfl) (by kernel_rfl) (by kernel_rfl) (by kernel_rfl) (fun _ _ _ h => h) (Or.inl ⟨by rfl, ?_⟩) (by assumption) ?_
      rotate_left
      · intro wS hSw
        try dsimp only at hSw
        go_simp
        try with_reducible rfl
      try simp only [Act.put, List.setIfInBounds_toArray, List.set_cons_zero, List.set_cons_succ]
      refine wpAnyU_take (i := 2) (oi := { dst := some 31, op := Op.load 5 (Operand.tmp 30), type := 5, pos := "law.go:36", after := #[{ on := 1, ground := Ground.data }], guard := none }) (v := ?_) rfl (by kernel_rfl) (by kernel_rfl) (by kernel_rfl) (by kernel_rfl) (fun _ _ _ h => h) (Or.inl ⟨by rfl, ?_⟩) (by assumption) ?_
      rotate_left
      · intro wS hSw
        try dsimp only at hSw
        go_simp
        try with_reducible rfl
      try simp only [Act.put, List.setIfInBounds_toArray, List.set_cons_zero, List.set_cons_succ]
      refine wpAnyU_take (i := 3) (oi := { dst := some 32, op := Op.fieldAddr 27 (Operand.tmp 9) 1, type := 0, pos := "law.go:36", after := #[], guard := none }) (v := ?_) rfl (by kernel_rfl) (by kernel_rfl) (by kernel_rfl) (by kernel_rfl) (fun _ _ _ h => h) (Or.inl ⟨by rfl, ?_⟩) (by assumption) ?_
      rotate_left
      · intro wS hSw
        try dsimp only at hSw
        go_simp
        try with_reducible rfl
      try simp only [Act.put, List.setIfInBounds_toArray, List.set_cons_zero, List.set_cons_succ]
      refine wpAnyU_take (i := 4) (oi := { dst := some 33, op := Op.load 4 (Operand.tmp 32), type := 4, pos := "law.go:36", after := #[{ on := 3, ground := Ground.data }], guard := none }) (v := ?_) rfl (by kernel_rfl) (by kernel_rfl) (by kernel_rfl) (by kernel_rfl) (fun _ _ _ h => h) (Or.inl ⟨by rfl, ?_⟩) (by assumption) ?_
      rotate_left
      · intro wS hSw
        try dsimp only at hSw
        go_simp
        try with_reducible rfl
      try simp only [Act.put, List.setIfInBounds_toArray, List.set_cons_zero, List.set_cons_succ]
      refine wpAnyU_take2 (i := 6) (oi := { dst := some 35, op := Op.load 23 (Operand.tmp 7), type := 23, pos := "law.go:36", after := #[], guard := none }) (v := ?_) rfl (by kernel_rfl) (by kernel_rfl) (by kernel_rfl) ([6, 11]) (by kernel_rfl) (by kernel_rfl) (by kernel_rfl) (fun _ _ _ h => h) (Or.inl ⟨by rfl, ?_⟩) (by assumption) ?_
      rotate_left
      · intro wS hSw
        try dsimp only at hSw
        go_simp
        try with_reducible rfl
      try simp only [Act.put, List.setIfInBounds_toArray, List.set_cons_zero, List.set_cons_succ]
      refine wpAnyU_take2 (i := 7) (oi := { dst := some 36, op := Op.fieldAddr 27 (Operand.tmp 9) 0, type := 0, pos := "law.go:36", after := #[], guard := none }) (v := ?_) rfl (by kernel_rfl) (by kernel_rfl) (by kernel_rfl) ([7, 8, 11]) (by kernel_rfl) (by kernel_rfl) (by kernel_rfl) (fun _ _ _ h => h) (Or.inl ⟨by rfl, ?_⟩) (by assumption) ?_
      rotate_left
      · intro wS hSw
        try dsimp only at hSw
        go_simp
        try with_reducible rfl
      try simp only [Act.put, List.setIfInBounds_toArray, List.set_cons_zero, List.set_cons_succ]
      refine wpAnyU_take2 (i := 8) (oi := { dst := some 37, op := Op.load 5 (Operand.tmp 36), type := 5, pos := "law.go:36", after := #[{ on := 7, ground := Ground.data }], guard := none }) (v := ?_) rfl (by kernel_rfl) (by kernel_rfl) (by kernel_rfl) ([8, 11]) (by kernel_rfl) (by kernel_rfl) (by kernel_rfl) (fun _ _ _ h => h) (Or.inl ⟨by rfl, ?_⟩) (by assumption) ?_
      rotate_left
      · intro wS hSw
        try dsimp only at hSw
        go_simp
        try with_reducible rfl
      try simp only [Act.put, List.setIfInBounds_toArray, List.set_cons_zero, List.set_cons_succ]
      refine wpAnyU_take2 (i := 9) (oi := { dst := some 38, op := Op.fieldAddr 27 (Operand.tmp 9) 1, type := 0, pos := "law.go:36", after := #[], guard := none }) (v := ?_) rfl (by kernel_rfl) (by kernel_rfl) (by kernel_rfl) ([9, 10, 11]) (by kernel_rfl) (by kernel_rfl) (by kernel_rfl) (fun _ _ _ h => h) (Or.inl ⟨by rfl, ?_⟩) (by assumption) ?_
      rotate_left
      · intro wS hSw
        try dsimp only at hSw
        go_simp
        try with_reducible rfl
      try simp only [Act.put, List.setIfInBounds_toArray, List.set_cons_zero, List.set_cons_succ]
      refine wpAnyU_take2 (i := 10) (oi := { dst := some 39, op := Op.load 4 (Operand.tmp 38), type := 4, pos := "law.go:36", after := #[{ on := 9, ground := Ground.data }], guard := none }) (v := ?_) rfl (by kernel_rfl) (by kernel_rfl) (by kernel_rfl) ([10, 11]) (by kernel_rfl) (by kernel_rfl) (by kernel_rfl) (fun _ _ _ h => h) (Or.inl ⟨by rfl, ?_⟩) (by assumption) ?_
      rotate_left
      · intro wS hSw
        try dsimp only at hSw
        go_simp
        try with_reducible rfl
      try simp only [Act.put, List.setIfInBounds_toArray, List.set_cons_zero, List.set_cons_succ]
      refine wpAnyU_one (i := 5) (o := { dst := some 34, op := Op.call { callee := Callee.value (Operand.func 10), args := #[Operand.tmp 29, Operand.tmp 31, Operand.tmp 33], argTypes := #[23, 5, 4] }, type := 23, pos := "law.go:36", after := #[{ on := 0, ground := Ground.data }, { on := 2, ground := Ground.data }, { on := 4, ground := Ground.data }], guard := none }) (by kernel_rfl) rfl (fun K hK => ?_)
      go_simp
      refine (HNP.out _).mono ?_
      rintro _ w5 ⟨rfl, w5b⟩
      have HT_w5 := hide (HT_w4.out.below' w5b)
      have HX_w5 := hide (below_block w5b HX_w4.out (Nat.le_refl _))
      clear w5b
      refine hK.out _ _ ?_ (fun hHeld5 => ?_)
      · exact fun _ => two_boxes3 HT_w5.out.one HT_w5.out.two HX_w5.out
      clear hK K
      try simp only [Act.put, List.setIfInBounds_toArray, List.set_cons_zero, List.set_cons_succ]
      refine wpAnyU_one (i := 11) (o := { dst := some 40, op := Op.call { callee := Callee.value (Operand.func 11), args := #[Operand.tmp 35, Operand.tmp 37, Operand.tmp 39], argTypes := #[23, 5, 4] }, type := 23, pos := "law.go:36", after := #[{ on := 6, ground := Ground.data }, { on := 8, ground := Ground.data }, { on := 10, ground := Ground.data }, { on := 5, ground := Ground.chain }], guard := none }) (by kernel_rfl) rfl (fun K hK => ?_)
      go_simp
      refine (HNR.out _).mono ?_
      rintro _ w6 ⟨rfl, w6b⟩
      have HT_w6 := hide (HT_w5.out.below' w6b)
      have HX_w6 := hide (below_block w6b HX_w5.out (Nat.le_refl _))
      clear w6b
      refine hK.out _ _ ?_ (fun hHeld11 => ?_)
      · exact fun _ => two_boxes3 HT_w6.out.one HT_w6.out.two HX_w6.out
      clear hK K
      try simp only [Act.put, List.setIfInBounds_toArray, List.set_cons_zero, List.set_cons_succ]
      refine wpAnyU_one (i := 12) (o := { dst := none, op := Op.store 23 (Operand.tmp 3) (Operand.tmp 34), type := 0, pos := "law.go:36", after := #[{ on := 5, ground := Ground.data }, { on := 11, ground := Ground.chain }, { on := 0, ground := Ground.phase }, { on := 1, ground := Ground.phase }, { on := 2, ground := Ground.phase }, { on := 3, ground := Ground.phase }, { on := 4, ground := Ground.phase }, { on := 5, ground := Ground.phase }, { on := 6, ground := Ground.textOnly Departure.lateStores }, { on := 7, ground := Ground.textOnly Departure.lateStores }, { on := 8, ground := Ground.textOnly Departure.lateStores }, { on := 9, ground := Ground.textOnly Departure.lateStores }, { on := 10, ground := Ground.textOnly Departure.lateStores }, { on := 11, ground := Ground.textOnly Departure.lateStoresUnsure }], guard := none }) (by kernel_rfl) rfl (fun K hK => ?_)
      obtain ⟨q0, q1, q2, q3, q4, qf⟩ := five_cells HT_w6.out.one
      obtain ⟨r0, r1, r2, r3, r4, rf⟩ := five_cells HT_w6.out.two
      dsimp only at q0 q1 q2 q3 q4 r0 r1 r2 r3 r4
      have hbl6 := lt_of_block HT_w6.out.two
      have hne := HT_w6.out.ne
      have hne2 := hne.symm
      go_simp
      refine hK.out _ _ ?_ (fun hHeld12 => ?_)
      · exact fun h => absurd h (by omega)
      clear hK K
      try simp only [Act.put, List.setIfInBounds_toArray, List.set_cons_zero, List.set_cons_succ]
      refine wpAnyU_one (i := 13) (o := { dst := none, op := Op.store 23 (Operand.tmp 7) (Operand.tmp 40), type := 0, pos := "law.go:36", after := #[{ on := 11, ground := Ground.data }, { on := 12, ground := Ground.chain }, { on := 0, ground := Ground.phase }, { on := 1, ground := Ground.phase }, { on := 2, ground := Ground.phase }, { on := 3, ground := Ground.phase }, { on := 4, ground := Ground.phase }, { on := 5, ground := Ground.phase }, { on := 6, ground := Ground.phase }, { on := 7, ground := Ground.phase }, { on := 8, ground := Ground.phase }, { on := 9, ground := Ground.phase }, { on := 10, ground := Ground.phase }, { on := 11, ground := Ground.phase }, { on := 12, ground := Ground.phase }], guard := none }) (by kernel_rfl) rfl (fun K hK => ?_)
      go_simp
      refine hK.out _ _ ?_ (fun hHeld13 => ?_)
      · exact fun h => absurd h (by omega)
      clear hK K
      try simp only [Act.put, List.setIfInBounds_toArray, List.set_cons_zero, List.set_cons_succ]
      refine wpAnyU_done (by kernel_rfl) ?_ _
      obtain ⟨w7, hw7, HT7⟩ : ∃ wt, st5 (st5 w6 B1 a' b' c' d' e') B2 a' b' c' d' e' = wt ∧ Hid (TB w B1 B2 ⟨a', b', c', d', e'⟩ wt.drew) :=
        ⟨_, rfl, hide ((HT_w6.out.store a' b' c' d' e').below' (Below.refl _ _).drew)⟩
      unfold st5 at hw7
      rw [hw7]
      clear hw7 HT_w6 HT_w5 HT_w4 HX_w4 HX_w5 HX_w6 hHeld hHeld5 hHeld11 hHeld12 hHeld13 q0 q1 q2 q3 q4 qf r0 r1 r2 r3 r4 rf
      go_upto_region 12 with (fail)
      go_region_held3 (fun w' => w'.cell? ⟨B1, 0, none⟩ = some (.bool a') ∧ w'.cell? ⟨B1, 1, none⟩ = some (.bool b') ∧ w'.cell? ⟨B1, 2, none⟩ = some (.bool c') ∧ w'.cell? ⟨B1, 3, none⟩ = some (.bool d') ∧ w'.cell? ⟨B1, 4, none⟩ = some (.bool e') ∧ w'.cell? ⟨B2, 0, none⟩ = some (.bool a') ∧ w'.cell? ⟨B2, 1, none⟩ = some (.bool b') ∧ w'.cell? ⟨B2, 2, none⟩ = some (.bool c') ∧ w'.cell? ⟨B2, 3, none⟩ = some (.bool d') ∧ w'.cell? ⟨B2, 4, none⟩ = some (.bool e')) (first | exact two_boxes2 HT11.out.one HT11.out.two | exact two_boxes2 HT10.out.one HT10.out.two | exact two_boxes2 HT9.out.one HT9.out.two | exact two_boxes2 HT8.out.one HT8.out.two | exact two_boxes2 HT7.out.one HT7.out.two) (first
        | (go_at_call 12; (with_reducible refine (HM1.out _).mono ?_); rintro _ w8 ⟨rfl, b8⟩; have HT8 := hide (HT7.out.below' b8); clear b8 HM1)
        | (go_at_call 13; (with_reducible refine (HM2.out _).mono ?_); rintro _ w9 ⟨rfl, b9⟩; have HT9 := hide (HT8.out.below' b9); clear b9 HM2)
        | (go_at_call 12; (with_reducible refine (HM3.out _).mono ?_); rintro _ w10 ⟨rfl, b10⟩; have HT10 := hide (HT9.out.below' b10); clear b10 HM3)
        | (go_at_call 13; (with_reducible refine (HM4.out _).mono ?_); rintro _ w11 ⟨rfl, b11⟩; have HT11 := hide (HT10.out.below' b11); clear b11 HM4)
        | fail)
      go_wp2_with fail
      go_roundw
      case rel => exact ⟨j + 1, _, by omega, by go_num, HT11⟩
      case measure => simp [intOf]; omega
    · obtain ⟨s0, s1, s2, s3, s4⟩ := s
      have HM1 := hide (fun V : World => limP_any p s0 s1 s2 s3 s4 V hp)
      have HM2 := hide (fun V : World => limR_any p s0 s1 s2 s3 s4 V hp)
      generalize lim p ⟨s0, s1, s2, s3, s4⟩ = l1 at *
      unfold St5.v at HM1 HM2
      dsimp only at HM1 HM2
      have HT7 := hide (HS.out.below' (Below.refl _ _).drew)
      go_upto_region 15 with (fail)
      go_region_held3 (fun w' => w'.cell? ⟨B1, 0, none⟩ = some (.bool s0) ∧ w'.cell? ⟨B1, 1, none⟩ = some (.bool s1) ∧ w'.cell? ⟨B1, 2, none⟩ = some (.bool s2) ∧ w'.cell? ⟨B1, 3, none⟩ = some (.bool s3) ∧ w'.cell? ⟨B1, 4, none⟩ = some (.bool s4) ∧ w'.cell? ⟨B2, 0, none⟩ = some (.bool s0) ∧ w'.cell? ⟨B2, 1, none⟩ = some (.bool s1) ∧ w'.cell? ⟨B2, 2, none⟩ = some (.bool s2) ∧ w'.cell? ⟨B2, 3, none⟩ = some (.bool s3) ∧ w'.cell? ⟨B2, 4, none⟩ = some (.bool s4)) (first | exact two_boxes2 HT9.out.one HT9.out.two | exact two_boxes2 HT8.out.one HT8.out.two | exact two_boxes2 HT7.out.one HT7.out.two) (first
        | (go_at_call 12; (with_reducible refine (HM1.out _).mono ?_); rintro _ w8 ⟨rfl, b8⟩; have HT8 := hide (HT7.out.below' b8); clear b8 HM1)
        | (go_at_call 13; (with_reducible refine (HM2.out _).mono ?_); rintro _ w9 ⟨rfl, b9⟩; have HT9 := hide (HT8.out.below' b9); clear b9 HM2)
        | fail)
      go_wp2_with fail
      go_ret
      exact ⟨rfl, HT9.out.below⟩
theorem trackPlays_any (w : World) (s : St5) (a : Option Addr) (l : List Seen2) (n cap p : Nat) (hO : SeenAt w a l) (hl : l.length = n) (hn : n ≤ 9223372036854775807) (hp : p < 256) :
    Calls Try.prog 3 #[s.v, .slice a n cap, .int .u8 (p : Int)] w fun e w' => e = .returned (.bool true) ∧ Below w.heap.size w w' := by
  by_cases h : 500 < n
  · exact tplays_long w s a l n cap p hn h
  · exact tplays_main w s a l n cap p hO hl hn hp (by omega)
end Go.Proofs.Ytggnbhihajealaa
