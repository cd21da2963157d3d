/- neigh: Learn, where there is room. -/
import Derived.Test.YtbibobjkclgogaaNGi
import Derived.Test.YtbibobjkclgogaaNSm
import Derived.Test.YtbibobjkclgogaaRegU
import Derived.Deep.RegionWith
namespace Go.Proofs.Ytbibobjkclgogaa
open Go.RowKit Go.Deep Go.Shelf
set_option linter.unusedVariables false
set_option linter.unusedSimpArgs false
set_option maxRecDepth 100000
set_option maxHeartbeats 2000000 in
theorem learn_room (K c : Nat) (L : List D.KV) (H : List HV) (k : Int) (v : NH) (now : Int) (w : World) (h : CAt w K c L H) (hK : K ≤ w.heap.size) (hl : H.length ≤ 1000) (hL : L.length ≤ 256) (h0 : 0 ≤ now) (h1 : now ≤ 18446744073709551615) (hr : hasL id k L = true ∨ (L.length : Int) < 256) :
    Calls Try.prog 14 #[.pointer (some ⟨c, 0, none⟩), .int .u32 k, .agg #[.int .u8 v.m0, .int .u8 v.m1, .int .u8 v.m2, .int .u8 v.m3, .int .u8 v.m4, .int .u8 v.m5], .int .u64 now] w (GiveAns K c (insL id k { v with e := laterI now } L) H k w) := by
  obtain ⟨tb, a, n, cap, hx⟩ := h
  obtain ⟨W, hW⟩ : ∃ W, w.alloc (.cells #[.int .u8 v.m0, .int .u8 v.m1, .int .u8 v.m2, .int .u8 v.m3, .int .u8 v.m4, .int .u8 v.m5] 23) = W := ⟨_, rfl⟩
  have q1 : W.heap[w.heap.size]? = some (.cells #[.int .u8 v.m0, .int .u8 v.m1, .int .u8 v.m2, .int .u8 v.m3, .int .u8 v.m4, .int .u8 v.m5] 23 (0, 0)) := by rw [← hW]; exact heap_alloc_new _ _
  have b1 : Below w.heap.size w W := by rw [← hW]; exact (Below.refl _ _).alloc (Nat.le_refl _) _
  obtain ⟨M, hM⟩ : ∃ M, w.heap.size = M := ⟨_, rfl⟩
  rw [hM] at q1
  have HE := hide (And.intro hW hM)
  have HB := hide b1
  have HX := hide (hx.below b1)
  have HH := hide (And.intro hK (And.intro hl (And.intro hL hr)))
  obtain ⟨m0, m1, m2, m3, m4, m5, mf⟩ := cells6 q1
  have lM := lt_of_block q1
  have HLT := hide (fun (V : World) => later_any now V h0 h1)
  obtain ⟨ee, hee⟩ : ∃ ee, laterI now = ee := ⟨_, rfl⟩
  rw [hee] at HLT
  have HEE := hide hee
  clear hW hM b1 q1 hx hK hl hL hr h0 h1 hee
  go_enter Try.func14, Try.ntmps14
  go_upto_region 1 with (fail)
  rw [HE.out.1]
  try rw [HE.out.2]
  rename_i K' hK'
  have hal : Below W.heap.size W (W.alloc (.cells #[.int .u8 v.m0, .int .u8 v.m1, .int .u8 v.m2, .int .u8 v.m3, .int .u8 v.m4, .int .u8 v.m5, .int .u64 ee] 68)) := (Below.refl _ _).alloc (Nat.le_refl _) _
  have HE9 := hide (show (W.alloc (.cells #[.int .u8 v.m0, .int .u8 v.m1, .int .u8 v.m2, .int .u8 v.m3, .int .u8 v.m4, .int .u8 v.m5, .int .u64 ee] 68)).drew.heap[W.heap.size]? = some (.cells #[.int .u8 v.m0, .int .u8 v.m1, .int .u8 v.m2, .int .u8 v.m3, .int .u8 v.m4, .int .u8 v.m5, .int .u64 ee] 68 (0, 0)) from heap_alloc_new W _)
  have HB9 := hide (HB.out.trans ((hal.drew).mono HB.out.size))
  have HX9 := hide (HX.out.below hal.drew)
  obtain ⟨W2, hW2⟩ : ∃ W2, (W.alloc (.cells #[.int .u8 v.m0, .int .u8 v.m1, .int .u8 v.m2, .int .u8 v.m3, .int .u8 v.m4, .int .u8 v.m5, .int .u64 ee] 68)).drew = W2 := ⟨_, rfl⟩
  rw [hW2] at HE9 HB9 HX9
  have HW2 := hide hW2
  obtain ⟨E, hE⟩ : ∃ E, W.heap.size = E := ⟨_, rfl⟩
  rw [hE] at HE9
  have HEQ := hide hE
  have REST : K' { tmps := #[.pointer (some ⟨c, 0, none⟩), .int .u32 k, .agg #[.int .u8 v.m0, .int .u8 v.m1, .int .u8 v.m2, .int .u8 v.m3, .int .u8 v.m4, .int .u8 v.m5], .int .u64 now, undef, undef, .pointer (some ⟨M, 0, none⟩), undef, .slice none 0 0, .pointer (some ⟨E, 0, none⟩), .agg #[.int .u8 v.m0, .int .u8 v.m1, .int .u8 v.m2, .int .u8 v.m3, .int .u8 v.m4, .int .u8 v.m5], .int .u64 now, .int .u64 ee, .agg #[.int .u8 v.m0, .int .u8 v.m1, .int .u8 v.m2, .int .u8 v.m3, .int .u8 v.m4, .int .u8 v.m5, .int .u64 ee], undef, undef, undef, undef, undef, undef, undef, undef, undef, undef, undef, undef, undef, undef, undef, undef, undef, undef, undef, undef, undef, undef, undef, undef, undef], defers := [] } W2 := by
    clear hW2 hE hal m0 m1 m2 m3 m4 m5 mf lM
    refine hK' _ _ ?_
    clear hK'
    obtain ⟨c0, _, cf⟩ := two_cells HX9.out.blk
    have lc := lt_of_block HX9.out.blk
    obtain ⟨x0, x1, x2, x3, x4, x5, x6, xf⟩ := cells7 HE9.out
    have le := lt_of_block HE9.out
    have nC : ¬ c = tb := HX9.out.tyC.ne HX9.out.tyT (by decide)
    have nE : ¬ E = tb := TyB.ne ⟨_, _, HE9.out⟩ HX9.out.tyT (by decide)
    have HPUT := hide (D.PutL (HX9.out.tab.below (Below.refl W2.heap.size W2).drew (Nat.le_refl _)) D.oF_ord k { v with e := ee } (by have := HH.out.2.2.1; omega) HH.out.2.2.2)
    clear cf xf
    go_wp2_with fail
    have HZ0 := hide (show Below W2.heap.size W2 W2.drew from (Below.refl _ _).drew)
    refine wp_region_held_drew (S := fun w' => w'.cell? ⟨c, 0, none⟩ = some (.pointer (some ⟨tb, 0, none⟩)) ∧ w'.cell? ⟨E, 0, none⟩ = some (.int .u8 v.m0) ∧ w'.cell? ⟨E, 1, none⟩ = some (.int .u8 v.m1) ∧ w'.cell? ⟨E, 2, none⟩ = some (.int .u8 v.m2) ∧ w'.cell? ⟨E, 3, none⟩ = some (.int .u8 v.m3) ∧ w'.cell? ⟨E, 4, none⟩ = some (.int .u8 v.m4) ∧ w'.cell? ⟨E, 5, none⟩ = some (.int .u8 v.m5) ∧ w'.cell? ⟨E, 6, none⟩ = some (.int .u64 ee)) (by kernel_rfl) (by exact ⟨(HZ0.out.cell (p := ⟨c, 0, none⟩) lc).trans c0, (HZ0.out.cell (p := ⟨E, 0, none⟩) le).trans x0, (HZ0.out.cell (p := ⟨E, 1, none⟩) le).trans x1, (HZ0.out.cell (p := ⟨E, 2, none⟩) le).trans x2, (HZ0.out.cell (p := ⟨E, 3, none⟩) le).trans x3, (HZ0.out.cell (p := ⟨E, 4, none⟩) le).trans x4, (HZ0.out.cell (p := ⟨E, 5, none⟩) le).trans x5, (HZ0.out.cell (p := ⟨E, 6, none⟩) le).trans x6⟩) (fun hHeld => ?_)
    refine wpAnyH_take (i := 0) (oi := { dst := some 14, op := Op.move (Operand.tmp 0), type := 31, pos := "neigh.go:33", after := #[], guard := none }) (v := ?_) rfl (by kernel_rfl) (by kernel_rfl) (by kernel_rfl) (fun _ _ _ h => h) (Or.inl ⟨by rfl, ?_⟩) (by assumption) ?_
    rotate_left
    · intro wS hSw
      try dsimp only at hSw
      go_simp
      try with_reducible rfl
    try simp only [Act.put, List.setIfInBounds_toArray, List.set_cons_zero, List.set_cons_succ]
    refine wpAnyH_take (i := 1) (oi := { dst := some 15, op := Op.nilCheck (Operand.tmp 14), type := 0, pos := "neigh.go:33", after := #[{ on := 0, ground := Ground.data }], guard := none }) (v := ?_) rfl (by kernel_rfl) (by kernel_rfl) (by kernel_rfl) (fun _ _ _ h => h) (Or.inl ⟨by rfl, ?_⟩) (by assumption) ?_
    rotate_left
    · intro wS hSw
      try dsimp only at hSw
      go_simp
      try with_reducible rfl
    try simp only [Act.put, List.setIfInBounds_toArray, List.set_cons_zero, List.set_cons_succ]
    refine wpAnyH_take (i := 2) (oi := { dst := some 16, op := Op.fieldAddr 72 (Operand.tmp 15) 0, type := 0, pos := "neigh.go:33", after := #[{ on := 1, ground := Ground.data }], guard := none }) (v := ?_) rfl (by kernel_rfl) (by kernel_rfl) (by kernel_rfl) (fun _ _ _ h => h) (Or.inl ⟨by rfl, ?_⟩) (by assumption) ?_
    rotate_left
    · intro wS hSw
      try dsimp only at hSw
      go_simp
      try with_reducible rfl
    try simp only [Act.put, List.setIfInBounds_toArray, List.set_cons_zero, List.set_cons_succ]
    refine wpAnyH_take (i := 3) (oi := { dst := some 17, op := Op.load 65 (Operand.tmp 16), type := 65, pos := "neigh.go:33", after := #[{ on := 2, ground := Ground.data }], guard := none }) (v := ?_) rfl (by kernel_rfl) (by kernel_rfl) (by kernel_rfl) (fun _ _ _ h => h) (Or.inl ⟨by rfl, ?_⟩) (by assumption) ?_
    rotate_left
    · intro wS hSw
      try dsimp only at hSw
      go_simp
      try with_reducible rfl
    try simp only [Act.put, List.setIfInBounds_toArray, List.set_cons_zero, List.set_cons_succ]
    refine wpAnyH_take (i := 4) (oi := { dst := some 18, op := Op.move (Operand.tmp 1), type := 25, pos := "neigh.go:33", after := #[], guard := none }) (v := ?_) rfl (by kernel_rfl) (by kernel_rfl) (by kernel_rfl) (fun _ _ _ h => h) (Or.inl ⟨by rfl, ?_⟩) (by assumption) ?_
    rotate_left
    · intro wS hSw
      try dsimp only at hSw
      go_simp
      try with_reducible rfl
    try simp only [Act.put, List.setIfInBounds_toArray, List.set_cons_zero, List.set_cons_succ]
    refine wpAnyH_take (i := 5) (oi := { dst := some 19, op := Op.load 68 (Operand.tmp 9), type := 68, pos := "neigh.go:33", after := #[], guard := none }) (v := ?_) rfl (by kernel_rfl) (by kernel_rfl) (by kernel_rfl) (fun _ _ _ h => h) (Or.inl ⟨by rfl, ?_⟩) (by assumption) ?_
    rotate_left
    · intro wS hSw
      try dsimp only at hSw
      go_simp
      try with_reducible rfl
    try simp only [Act.put, List.setIfInBounds_toArray, List.set_cons_zero, List.set_cons_succ]
    refine wpAnyH_ready (rs := [6]) (by kernel_rfl) (by simp) ?_
    refine AllReadyH.cons (o := { dst := some 20, op := Op.call { callee := Callee.value (Operand.func 35), args := #[Operand.tmp 17, Operand.tmp 18, Operand.tmp 19], argTypes := #[65, 25, 68] }, type := 88, pos := "neigh.go:33", after := #[{ on := 3, ground := Ground.data }, { on := 4, ground := Ground.data }, { on := 5, ground := Ground.data }], guard := none }) rfl (fun K hK => ?_) AllReadyH.nil
    go_simp
    go_at_call 35
    (with_reducible refine HPUT.out.mono ?_)
    rintro e z1 ⟨rfl, t1, g1⟩
    have HT1 := hide t1
    have HG1 := hide g1
    have HO2 := hide (OnlyS.gb g1)
    clear t1 g1
    refine hK.out _ _ (⟨(HO2.out.cell (p := ⟨c, 0, none⟩) lc nC).trans c0, (HO2.out.cell (p := ⟨E, 0, none⟩) le nE).trans x0, (HO2.out.cell (p := ⟨E, 1, none⟩) le nE).trans x1, (HO2.out.cell (p := ⟨E, 2, none⟩) le nE).trans x2, (HO2.out.cell (p := ⟨E, 3, none⟩) le nE).trans x3, (HO2.out.cell (p := ⟨E, 4, none⟩) le nE).trans x4, (HO2.out.cell (p := ⟨E, 5, none⟩) le nE).trans x5, (HO2.out.cell (p := ⟨E, 6, none⟩) le nE).trans x6⟩) (fun hHeld1 => ?_)
    clear hK K
    try simp only [Act.put, List.setIfInBounds_toArray, List.set_cons_zero, List.set_cons_succ]
    refine wpAnyH_take (i := 7) (oi := { dst := some 21, op := Op.binOp BinOp.eql 88 (Operand.tmp 20) (Operand.const (Value.int IntKind.i64 20)) 88, type := 4, pos := "neigh.go:33", after := #[{ on := 6, ground := Ground.data }], guard := none }) (v := ?_) rfl (by kernel_rfl) (by kernel_rfl) (by kernel_rfl) (fun _ _ _ h => h) (Or.inl ⟨by rfl, ?_⟩) (by assumption) ?_
    rotate_left
    · intro wS hSw
      try dsimp only at hSw
      go_simp
      try with_reducible rfl
    try simp only [Act.put, List.setIfInBounds_toArray, List.set_cons_zero, List.set_cons_succ]
    refine wpAnyH_done (by kernel_rfl) ?_ _

    obtain ⟨hX2, hO2⟩ := (HX9.out.below (Below.refl W2.heap.size W2).drew).tabbed HT1.out HG1.out
    have hK2 : K ≤ W2.heap.size := Nat.le_trans HH.out.1 HB9.out.size
    have HGV := hide (give_any K c _ H k z1 ⟨_, _, _, _, hX2⟩ (Nat.le_trans hK2 hO2.size) HH.out.2.1)
    have HB3 := hide ((HB9.out.drew.mono HH.out.1).trans (hO2.below (K := K) (fun i e => by rw [e]; exact HX9.out.ht) hK2))
    have HSZ := hide (Nat.le_trans HB9.out.size hO2.size)
    have HKO := hide ((KO.of HB9.out.drew).trans (KO.tab (HX9.out.below (Below.refl W2.heap.size W2).drew) hO2))
    clear hX2 hO2 hK2 HPUT x0 x1 x2 x3 x4 x5 x6 c0 lc le nC nE hHeld hHeld1
    rw [← HEE.out] at HGV
    go_wp2_with fail
    refine HGV.out.mono ?_
    rintro e z2 ⟨a3, n3, c3, rfl, g1, g2, g3, g4, g5, g6⟩
    have HR := hide (show GiveAns K c (insL id k { v with e := laterI now } L) H k w (.returned (.slice a3 n3 c3)) z2 from ⟨a3, n3, c3, rfl, g1, owns_mono g2 HSZ.out, g3, g4, HB3.out.trans g5, HKO.out.trans g6⟩)
    clear g1 g2 g3 g4 g5 g6 HGV
    go_wp2_with fail
    go_ret
    exact HR.out
  have HREST := hide REST
  clear REST
  rw [← HEQ.out] at HREST
  rw [← HW2.out] at HREST
  clear hW2 hE HE9 HB9 HX9 hal
  go_region_with ((go_at_call 34; (with_reducible refine (HLT.out _).mono ?_); rintro _ z ⟨rfl, rfl⟩))
  all_goals exact HREST.out
end Go.Proofs.Ytbibobjkclgogaa
