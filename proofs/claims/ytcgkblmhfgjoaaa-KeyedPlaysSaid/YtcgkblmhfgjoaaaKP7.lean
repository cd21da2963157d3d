/- The document's Drop of a key with a value. -/
import Derived.Test.YtcgkblmhfgjoaaaKP6
namespace Go.Proofs.Ytcgkblmhfgjoaaa
open Go.RowKit Go.Deep
set_option linter.unusedVariables false
set_option linter.unusedSimpArgs false
set_option maxRecDepth 100000
theorem owns_nilI (V : World) : (V.alloc (.cells #[] 3)).ownsRow V.heap.size 3 1 (.slice (some ⟨V.heap.size, 0, none⟩) 0 0) 0 (([] : List Int).map (Value.int .i64)) := World.ownsRow_lit _ #[] 0 (Nat.le_refl _) (by unfold maxLen; omega) rfl
theorem FR.of_below {base p : Nat} {w w' : World} (h : Below w.heap.size w w') : FR base p w w' :=
  ⟨h.os, h.tape, h.output, h.size, fun L o ho _ _ => (h.block L (lt_of_block ho)).trans ho⟩
/-- What lies in a new row's parts: the runs of the two appends. -/
theorem cut_runs (V : World) (base g n c : Nat) (ks : List Int) (hk : V.ownsRow base 3 1 (.slice (some ⟨g, 0, none⟩) n c) n (ks.map (Value.int .i64))) (hn : n ≤ 1000000) (i : Nat) (hi : i < n) (sk : Addr) (hsk : (if c = i + 1 then some (⟨g, 0, none⟩ : Addr) else some ⟨g, i + 1, none⟩) = some sk) (hb : base ≤ V.heap.size) :
    ∃ a1 c1 V2 a2 c2 V3, (Builtin.append_ #[37, 37] 37 #[.slice (some ⟨V.heap.size, 0, none⟩) 0 0, .slice (some ⟨g, 0, none⟩) i c]).run Try.prog (V.alloc (.cells #[] 3)).drew = .ok (.slice a1 i c1) V2 ∧
      (Builtin.append_ #[37, 37] 37 #[.slice a1 i c1, .slice (some sk) (n - (i + 1)) (c - (i + 1))]).run Try.prog V2 = .ok (.slice a2 (n - 1) c2) V3 ∧
      Below V.heap.size V V2 ∧ Below V.heap.size V V3 ∧ V3.ownsRow base 3 1 (.slice a2 (n - 1) c2) (n - 1) ((ks.eraseIdx i).map (Value.int .i64)) ∧ (∀ b, a2 = some b → V.heap.size ≤ b.block) := by
  have hl : ks.length = n := by have := hk.1; simpa using this
  obtain ⟨W, hW⟩ : ∃ W, (V.alloc (.cells #[] 3)).drew = W := ⟨_, rfl⟩
  have hz : W.heap.size = V.heap.size + 1 := by rw [← hW]; simp
  have hWB : Below V.heap.size V W := by rw [← hW]; exact ((Below.refl V.heap.size V).alloc (Nat.le_refl _) _).drew
  have hown : W.ownsRow V.heap.size 3 1 (.slice (some ⟨V.heap.size, 0, none⟩) 0 0) 0 (([] : List Int).map (Value.int .i64)) := by rw [← hW]; exact owns_nilI V
  have hgl : g < V.heap.size := (hk.lt g rfl).2
  have hcell : ∀ (X : World), Below V.heap.size V X → ∀ j u, ks[j]? = some u → X.cell? ⟨g, j, none⟩ = some (.int .i64 u) := fun X hX j u hj => by
    have hjl : j < ks.length := (List.getElem?_eq_some_iff.1 hj).1
    rw [hX.cell (p := ⟨g, j, none⟩) hgl, hk.cellAt j (by omega), List.getElem?_map, hj]
    rfl
  obtain ⟨a1, c1, V2, q1, o1, g1, m1⟩ := app_ints W V.heap.size _ 0 0 [] hown ⟨g, 0, none⟩ i c (ks.take i) (by rw [List.length_take]; omega) (fun j u hj => by
    rw [List.getElem?_take] at hj
    split at hj
    · have := hcell W hWB j u hj; simpa [Addr.add_lit] using this
    · cases hj) (by omega) (by omega)
  rw [Nat.zero_add, List.nil_append] at *
  have hV2 : Below V.heap.size V V2 := hWB.grown g1 (by omega) (fun k e => by cases e; exact Nat.le_refl _)
  obtain ⟨a2, c2, V3, q2, o2, g2, m2⟩ := app_ints V2 V.heap.size a1 i c1 (ks.take i) o1 sk (n - (i + 1)) (c - (i + 1)) (ks.drop (i + 1)) (by rw [List.length_drop]; omega) (fun j u hj => by
    rw [List.getElem?_drop] at hj
    have hjl : i + 1 + j < ks.length := (List.getElem?_eq_some_iff.1 hj).1
    have hcc : c ≠ i + 1 := by
      have : n ≤ c := by
        rcases hk.2 with ⟨h1, h2⟩ | ⟨g', cap, cur, hv', _, _, hc, _⟩
        · cases h1
        · cases hv'; exact hc
      omega
    rw [if_neg hcc] at hsk
    cases hsk
    have := hcell V2 hV2 (i + 1 + j) u hj
    simpa [Addr.add_lit] using this) (by omega) (Nat.le_trans (by omega) hV2.size)
  rw [take_drop_erase, show i + (n - (i + 1)) = n - 1 by omega] at *
  have hr1 : ∀ k, (Value.slice a1 i c1).ownBlock = some k → V.heap.size ≤ k := fun k e => (o1.lt k e).1
  refine ⟨a1, c1, V2, a2, c2, V3, by rw [hW]; exact q1, q2, hV2, hV2.grown g2 hV2.size hr1, owns_mono o2 hb, fun b e => ?_⟩
  subst e
  exact (o2.lt b.block rfl).1
set_option maxHeartbeats 3000000 in
theorem dropR_cut (w : World) (base p : Nat) (most : Int) (ks vs : List Int) (ka : Option Addr) (kc : Nat) (va : Option Addr) (vc : Nat) (k : Int) (i : Nat) (h : RT w base p most ks vs ka kc va vc) (hap : Apart ka va) (hn : ks.length ≤ 1000000) (hk : idxL k ks = (i : Int)) (hi : i < ks.length) (hb0 : base ≤ w.heap.size) :
    Calls Try.prog 13 #[.pointer (some ⟨p, 0, none⟩), .int .i64 k] w fun e w' => e = .returned (.bool true) ∧ FR base p w w' ∧ ∃ ka' kc' va' vc', RT w' base p most (ks.eraseIdx i) (vs.eraseIdx i) ka' kc' va' vc' ∧ Apart ka' va' := by
  have hA := atR_any w p most ks vs ka kc va vc k h.r hn
  rw [hk] at hA
  have HA := hide hA
  have hkr := h.krow
  have hvr := h.vrow
  obtain ⟨n, hnn⟩ : ∃ n, ks.length = n := ⟨_, rfl⟩
  rw [hnn] at hkr hvr hi hn
  have ht := h.tab
  rw [hnn] at ht
  obtain ⟨t0, t1, t2, tf⟩ := three_cells ht
  have H := hide h
  have HN := hide hnn
  have hkcap : n ≤ kc := by
    rcases hkr.2 with ⟨h1, h2⟩ | ⟨g, cap, cur, hv', _, _, hc, _⟩
    · cases h1; omega
    · cases hv'; exact hc
  have hvcap : n ≤ vc := by
    rcases hvr.2 with ⟨h1, h2⟩ | ⟨g, cap, cur, hv', _, _, hc, _⟩
    · cases h1; omega
    · cases hv'; exact hc
  obtain ⟨kg, rfl⟩ := slice_some hkr (by omega)
  obtain ⟨vg, rfl⟩ := slice_some hvr (by omega)
  have hpb : p < base := h.lt
  have hpVA : p < w.heap.size := by omega
  obtain ⟨skA, hskA⟩ : ∃ s, (if kc = i + 1 then some (⟨kg, 0, none⟩ : Addr) else some ⟨kg, i + 1, none⟩) = some s := by split <;> exact ⟨_, rfl⟩
  obtain ⟨a1A, c1A, V2A, a2A, c2A, V3A, q1A, q2A, b2A, b3A, o3A, n3A⟩ := cut_runs w base kg n kc ks hkr hn i hi skA hskA (by omega)
  have R1A := hide q1A
  have R2A := hide q2A
  have S1A := hide (show (w.alloc (.cells #[] 3)).drew.cell? ⟨p, 0, none⟩ = some (.slice (some ⟨kg, 0, none⟩) n kc) from (((Below.refl w.heap.size w).alloc (Nat.le_refl _) (.cells #[] 3)).cell (p := ⟨p, 0, none⟩) hpVA).trans t0)
  have S2A := hide ((b2A.cell (p := ⟨p, 0, none⟩) hpVA).trans t0)
  have S3A := hide ((b3A.cell (p := ⟨p, 0, none⟩) hpVA).trans t0)
  have htA : V3A.heap[p]? = some (.cells #[.slice (some ⟨kg, 0, none⟩) n kc, .slice (some ⟨vg, 0, none⟩) n vc, .int .i64 most] 39 (0, 0)) := (b3A.block p hpVA).trans ht
  obtain ⟨x0, x1, x2, xf⟩ := three_cells htA
  obtain ⟨W5, hW5⟩ : ∃ wt, V3A.setCell ⟨p, 0, none⟩ (.slice a2A (n - 1) c2A) = wt := ⟨_, rfl⟩
  have ht5 : W5.heap[p]? = some (.cells #[.slice a2A (n - 1) c2A, .slice (some ⟨vg, 0, none⟩) n vc, .int .i64 most] 39 (0, 0)) := by rw [← hW5]; exact heap_setCell_same _ _ 0 _ _ _ htA
  have hk5 : W5.ownsRow base 3 1 (.slice a2A (n - 1) c2A) (n - 1) ((ks.eraseIdx i).map (Value.int .i64)) := by rw [← hW5]; exact ownsRow_setCell_below o3A hpb _
  have hv5 : W5.ownsRow base 3 1 (.slice (some ⟨vg, 0, none⟩) n vc) n (vs.map (Value.int .i64)) := by rw [← hW5]; exact ownsRow_setCell_below (owns_below hvr b3A (Nat.le_refl _)) hpb _
  have hz5 : w.heap.size ≤ W5.heap.size := by rw [← hW5]; exact Nat.le_trans b3A.size (by simp)
  have hz35 : V3A.heap.size ≤ W5.heap.size := by rw [← hW5]; simp
  have hf5 : FR base p w W5 := (FR.of_below b3A).trans (by rw [← hW5]; exact FR.set base p V3A 0 _)
  obtain ⟨u0, u1, u2, uf⟩ := three_cells ht5
  have hpVB : p < W5.heap.size := by omega
  obtain ⟨skB, hskB⟩ : ∃ s, (if vc = i + 1 then some (⟨vg, 0, none⟩ : Addr) else some ⟨vg, i + 1, none⟩) = some s := by split <;> exact ⟨_, rfl⟩
  obtain ⟨a1B, c1B, V2B, a2B, c2B, V3B, q1B, q2B, b2B, b3B, o3B, n3B⟩ := cut_runs W5 base vg n vc vs hv5 hn i hi skB hskB (by omega)
  have R1B := hide q1B
  have R2B := hide q2B
  have S1B := hide (show (W5.alloc (.cells #[] 3)).drew.cell? ⟨p, 1, none⟩ = some (.slice (some ⟨vg, 0, none⟩) n vc) from (((Below.refl W5.heap.size W5).alloc (Nat.le_refl _) (.cells #[] 3)).cell (p := ⟨p, 1, none⟩) hpVB).trans u1)
  have S2B := hide ((b2B.cell (p := ⟨p, 1, none⟩) hpVB).trans u1)
  have S3B := hide ((b3B.cell (p := ⟨p, 1, none⟩) hpVB).trans u1)
  have htB : V3B.heap[p]? = some (.cells #[.slice a2A (n - 1) c2A, .slice (some ⟨vg, 0, none⟩) n vc, .int .i64 most] 39 (0, 0)) := (b3B.block p hpVB).trans ht5
  obtain ⟨y0, y1, y2, yf⟩ := three_cells htB
  obtain ⟨W7, hW7⟩ : ∃ wt, V3B.setCell ⟨p, 1, none⟩ (.slice a2B (n - 1) c2B) = wt := ⟨_, rfl⟩
  have ht7 : W7.heap[p]? = some (.cells #[.slice a2A (n - 1) c2A, .slice a2B (n - 1) c2B, .int .i64 most] 39 (0, 0)) := by rw [← hW7]; exact heap_setCell_same _ _ 1 _ _ _ htB
  have hln : (ks.eraseIdx i).length = n - 1 := by rw [List.length_eraseIdx_of_lt (by omega)]; omega
  have hlv : (vs.eraseIdx i).length = n - 1 := by have := h.len; rw [List.length_eraseIdx_of_lt (by omega)]; omega
  have HEND := hide (show FR base p w W7 ∧ RT W7 base p most (ks.eraseIdx i) (vs.eraseIdx i) a2A c2A a2B c2B ∧ Apart a2A a2B by
    refine ⟨hf5.trans ((FR.of_below b3B).trans (by rw [← hW7]; exact FR.set base p V3B 1 _)), ⟨?_, ?_, ?_, ?_, hpb⟩, ?_⟩
    · rw [hln]; exact ht7
    · rw [hln, ← hW7]; exact ownsRow_setCell_below (owns_below hk5 b3B (Nat.le_refl _)) hpb _
    · rw [hln, ← hW7]; exact ownsRow_setCell_below o3B hpb _
    · rw [hln, hlv]
    · intro a b ea eb
      have h1 := (o3A.lt a.block (by rw [ea]; rfl)).2
      have h2 := n3B b eb
      omega)
  have HW5 := hide hW5
  have HW7 := hide hW7
  have hwr : IntKind.i64.wrap ((i : Int) + 1) = ((i + 1 : Nat) : Int) := by rw [IntKind.wrap_i64]; omega
  clear h hA hk hnn hap hkr hvr ht htA hW5 ht5 hk5 hv5 hf5 hW7 htB ht7 hln hlv q1A q2A b2A b3A o3A n3A q1B q2B b2B b3B o3B n3B H
  go_enter Try.func13, Try.ntmps13
  go_wp2_with fail
  refine HA.out.mono ?_
  rintro e w1 ⟨rfl, rfl⟩
  go_wp2_with fail
  refine wp_region_T (S := fun w' => w'.cell? ⟨p, 0, none⟩ = some (.slice (some ⟨kg, 0, none⟩) n kc)) (t := 19) (by kernel_rfl) (by exact t0) (fun hHeld => ?_)
  refine wpAnyT_take (i := 0) (oi := { dst := some 11, op := Op.move (Operand.tmp 0), type := 27, pos := "ref.go:52", after := #[], guard := none }) (v := ?_) rfl (by kernel_rfl) (by kernel_rfl) (by kernel_rfl) (by kernel_rfl) (fun _ _ _ h => h) (Or.inl ⟨by rfl, ?_⟩) (by assumption) ?_
  rotate_left
  · intro wS hSw
    try dsimp only at hSw
    go_simp
    try with_reducible rfl
  try simp only [Act.put, List.setIfInBounds_toArray, List.set_cons_zero, List.set_cons_succ]
  refine wpAnyT_take (i := 2) (oi := { dst := some 13, op := Op.move (Operand.tmp 0), type := 27, pos := "ref.go:52", after := #[], guard := none }) (v := ?_) rfl (by kernel_rfl) (by kernel_rfl) (by kernel_rfl) (by kernel_rfl) (fun _ _ _ h => h) (Or.inl ⟨by rfl, ?_⟩) (by assumption) ?_
  rotate_left
  · intro wS hSw
    try dsimp only at hSw
    go_simp
    try with_reducible rfl
  try simp only [Act.put, List.setIfInBounds_toArray, List.set_cons_zero, List.set_cons_succ]
  refine wpAnyT_take (i := 3) (oi := { dst := some 14, op := Op.nilCheck (Operand.tmp 13), type := 0, pos := "ref.go:52", after := #[{ on := 2, ground := Ground.data }], guard := none }) (v := ?_) rfl (by kernel_rfl) (by kernel_rfl) (by kernel_rfl) (by kernel_rfl) (fun _ _ _ h => h) (Or.inl ⟨by rfl, ?_⟩) (by assumption) ?_
  rotate_left
  · intro wS hSw
    try dsimp only at hSw
    go_simp
    try with_reducible rfl
  try simp only [Act.put, List.setIfInBounds_toArray, List.set_cons_zero, List.set_cons_succ]
  refine wpAnyT_take (i := 4) (oi := { dst := some 15, op := Op.fieldAddr 39 (Operand.tmp 14) 0, type := 0, pos := "ref.go:52", after := #[{ on := 3, ground := Ground.data }], guard := none }) (v := ?_) rfl (by kernel_rfl) (by kernel_rfl) (by kernel_rfl) (by kernel_rfl) (fun _ _ _ h => h) (Or.inl ⟨by rfl, ?_⟩) (by assumption) ?_
  rotate_left
  · intro wS hSw
    try dsimp only at hSw
    go_simp
    try with_reducible rfl
  try simp only [Act.put, List.setIfInBounds_toArray, List.set_cons_zero, List.set_cons_succ]
  refine wpAnyT_take (i := 5) (oi := { dst := some 16, op := Op.load 37 (Operand.tmp 15), type := 37, pos := "ref.go:52", after := #[{ on := 4, ground := Ground.data }], guard := none }) (v := ?_) rfl (by kernel_rfl) (by kernel_rfl) (by kernel_rfl) (by kernel_rfl) (fun _ _ _ h => h) (Or.inl ⟨by rfl, ?_⟩) (by assumption) ?_
  rotate_left
  · intro wS hSw
    try dsimp only at hSw
    go_simp
    try with_reducible rfl
  try simp only [Act.put, List.setIfInBounds_toArray, List.set_cons_zero, List.set_cons_succ]
  refine wpAnyT_take (i := 6) (oi := { dst := some 17, op := Op.move (Operand.tmp 5), type := 3, pos := "ref.go:52", after := #[], guard := none }) (v := ?_) rfl (by kernel_rfl) (by kernel_rfl) (by kernel_rfl) (by kernel_rfl) (fun _ _ _ h => h) (Or.inl ⟨by rfl, ?_⟩) (by assumption) ?_
  rotate_left
  · intro wS hSw
    try dsimp only at hSw
    go_simp
    try with_reducible rfl
  try simp only [Act.put, List.setIfInBounds_toArray, List.set_cons_zero, List.set_cons_succ]
  refine wpAnyT_take (i := 7) (oi := { dst := some 18, op := Op.slice 37 (Operand.tmp 16) none (some (Operand.tmp 17)) none, type := 37, pos := "ref.go:52", after := #[{ on := 5, ground := Ground.data }, { on := 6, ground := Ground.data }], guard := none }) (v := .slice (some ⟨kg, 0, none⟩) i kc) rfl (by kernel_rfl) (by kernel_rfl) (by kernel_rfl) (by kernel_rfl) (fun _ _ _ h => h) (Or.inl ⟨by rfl, ?_⟩) (by assumption) ?_
  · intro wS hSw
    try dsimp only at hSw
    go_simp
    intro hc; omega
  try simp only [Act.put, List.setIfInBounds_toArray, List.set_cons_zero, List.set_cons_succ]
  refine wpAnyT_take (i := 9) (oi := { dst := some 20, op := Op.move (Operand.tmp 0), type := 27, pos := "ref.go:52", after := #[], guard := none }) (v := ?_) rfl (by kernel_rfl) (by kernel_rfl) (by kernel_rfl) (by kernel_rfl) (fun _ _ _ h => h) (Or.inl ⟨by rfl, ?_⟩) (by assumption) ?_
  rotate_left
  · intro wS hSw
    try dsimp only at hSw
    go_simp
    try with_reducible rfl
  try simp only [Act.put, List.setIfInBounds_toArray, List.set_cons_zero, List.set_cons_succ]
  refine wpAnyT_take (i := 10) (oi := { dst := some 21, op := Op.nilCheck (Operand.tmp 20), type := 0, pos := "ref.go:52", after := #[{ on := 9, ground := Ground.data }], guard := none }) (v := ?_) rfl (by kernel_rfl) (by kernel_rfl) (by kernel_rfl) (by kernel_rfl) (fun _ _ _ h => h) (Or.inl ⟨by rfl, ?_⟩) (by assumption) ?_
  rotate_left
  · intro wS hSw
    try dsimp only at hSw
    go_simp
    try with_reducible rfl
  try simp only [Act.put, List.setIfInBounds_toArray, List.set_cons_zero, List.set_cons_succ]
  refine wpAnyT_take (i := 11) (oi := { dst := some 22, op := Op.fieldAddr 39 (Operand.tmp 21) 0, type := 0, pos := "ref.go:52", after := #[{ on := 10, ground := Ground.data }], guard := none }) (v := ?_) rfl (by kernel_rfl) (by kernel_rfl) (by kernel_rfl) (by kernel_rfl) (fun _ _ _ h => h) (Or.inl ⟨by rfl, ?_⟩) (by assumption) ?_
  rotate_left
  · intro wS hSw
    try dsimp only at hSw
    go_simp
    try with_reducible rfl
  try simp only [Act.put, List.setIfInBounds_toArray, List.set_cons_zero, List.set_cons_succ]
  refine wpAnyT_take (i := 12) (oi := { dst := some 23, op := Op.load 37 (Operand.tmp 22), type := 37, pos := "ref.go:52", after := #[{ on := 11, ground := Ground.data }], guard := none }) (v := ?_) rfl (by kernel_rfl) (by kernel_rfl) (by kernel_rfl) (by kernel_rfl) (fun _ _ _ h => h) (Or.inl ⟨by rfl, ?_⟩) (by assumption) ?_
  rotate_left
  · intro wS hSw
    try dsimp only at hSw
    go_simp
    try with_reducible rfl
  try simp only [Act.put, List.setIfInBounds_toArray, List.set_cons_zero, List.set_cons_succ]
  refine wpAnyT_take (i := 13) (oi := { dst := some 24, op := Op.move (Operand.tmp 5), type := 3, pos := "ref.go:52", after := #[], guard := none }) (v := ?_) rfl (by kernel_rfl) (by kernel_rfl) (by kernel_rfl) (by kernel_rfl) (fun _ _ _ h => h) (Or.inl ⟨by rfl, ?_⟩) (by assumption) ?_
  rotate_left
  · intro wS hSw
    try dsimp only at hSw
    go_simp
    try with_reducible rfl
  try simp only [Act.put, List.setIfInBounds_toArray, List.set_cons_zero, List.set_cons_succ]
  refine wpAnyT_take (i := 14) (oi := { dst := some 25, op := Op.binOp BinOp.add 3 (Operand.tmp 24) (Operand.const (Value.int IntKind.i64 1)) 3, type := 3, pos := "ref.go:52", after := #[{ on := 13, ground := Ground.data }], guard := none }) (v := ?_) rfl (by kernel_rfl) (by kernel_rfl) (by kernel_rfl) (by kernel_rfl) (fun _ _ _ h => h) (Or.inl ⟨by rfl, ?_⟩) (by assumption) ?_
  rotate_left
  · intro wS hSw
    try dsimp only at hSw
    go_simp
    try with_reducible rfl
  try simp only [Act.put, List.setIfInBounds_toArray, List.set_cons_zero, List.set_cons_succ]
  refine wpAnyT_take (i := 15) (oi := { dst := some 26, op := Op.slice 37 (Operand.tmp 23) (some (Operand.tmp 25)) none none, type := 37, pos := "ref.go:52", after := #[{ on := 12, ground := Ground.data }, { on := 14, ground := Ground.data }], guard := none }) (v := .slice (some skA) (n - (i + 1)) (kc - (i + 1))) rfl (by kernel_rfl) (by kernel_rfl) (by kernel_rfl) (by kernel_rfl) (fun _ _ _ h => h) (Or.inl ⟨by rfl, ?_⟩) (by assumption) ?_
  · intro wS hSw
    try dsimp only at hSw
    go_simp
    intro hc; exact absurd (hc (by omega)) (by omega)
  try simp only [Act.put, List.setIfInBounds_toArray, List.set_cons_zero, List.set_cons_succ]
  refine wpAnyT_one (i := 1) (o := { dst := some 12, op := Op.buildSlice 37 0 #[], type := 37, pos := "ref.go:52", after := #[], guard := none }) (by kernel_rfl) rfl (fun K hK => ?_)
  go_simp
  refine hK.out _ _ ?_ (fun hHeld1 => ?_)
  · exact fun _ => S1A.out
  clear hK K
  try simp only [Act.put, List.setIfInBounds_toArray, List.set_cons_zero, List.set_cons_succ]
  refine wpAnyT_one (i := 8) (o := { dst := some 19, op := Op.call { callee := Callee.builtin Builtin.append, args := #[Operand.tmp 12, Operand.tmp 18], argTypes := #[37, 37] }, type := 37, pos := "ref.go:52", after := #[{ on := 1, ground := Ground.data }, { on := 7, ground := Ground.data }], guard := none }) (by kernel_rfl) rfl (fun K hK => ?_)
  rw [if_pos (by rfl)]
  refine Lib.wp_append_run _ _ _ _ _ rfl _ _ rfl rfl _ _ R1A.out ?_
  refine hK.out _ _ ?_ (fun hHeld8 => ?_)
  · exact fun _ => S2A.out
  clear hK K
  try simp only [Act.put, List.setIfInBounds_toArray, List.set_cons_zero, List.set_cons_succ]
  refine wpAnyT_one (i := 16) (o := { dst := some 27, op := Op.call { callee := Callee.builtin Builtin.append, args := #[Operand.tmp 19, Operand.tmp 26], argTypes := #[37, 37] }, type := 37, pos := "ref.go:52", after := #[{ on := 8, ground := Ground.data }, { on := 15, ground := Ground.data }, { on := 8, ground := Ground.chain }], guard := none }) (by kernel_rfl) rfl (fun K hK => ?_)
  rw [if_pos (by rfl)]
  refine Lib.wp_append_run _ _ _ _ _ rfl _ _ rfl rfl _ _ R2A.out ?_
  refine hK.out _ _ ?_ (fun hHeld16 => ?_)
  · exact fun _ => S3A.out
  clear hK K
  try simp only [Act.put, List.setIfInBounds_toArray, List.set_cons_zero, List.set_cons_succ]
  refine wpAnyT_one (i := 17) (o := { dst := some 28, op := Op.nilCheck (Operand.tmp 11), type := 0, pos := "ref.go:52", after := #[{ on := 0, ground := Ground.data }, { on := 0, ground := Ground.phase }, { on := 1, ground := Ground.phase }, { on := 2, ground := Ground.phase }, { on := 3, ground := Ground.phase }, { on := 4, ground := Ground.phase }, { on := 5, ground := Ground.phase }, { on := 6, ground := Ground.phase }, { on := 7, ground := Ground.phase }, { on := 8, ground := Ground.phase }, { on := 9, ground := Ground.phase }, { on := 10, ground := Ground.phase }, { on := 11, ground := Ground.phase }, { on := 12, ground := Ground.phase }, { on := 13, ground := Ground.phase }, { on := 14, ground := Ground.phase }, { on := 15, ground := Ground.phase }, { on := 16, ground := Ground.phase }], guard := none }) (by kernel_rfl) rfl (fun K hK => ?_)
  go_simp
  refine hK.out _ _ ?_ (fun hHeld17 => ?_)
  · exact fun _ => S3A.out
  clear hK K
  try simp only [Act.put, List.setIfInBounds_toArray, List.set_cons_zero, List.set_cons_succ]
  refine wpAnyT_one (i := 18) (o := { dst := some 29, op := Op.fieldAddr 39 (Operand.tmp 28) 0, type := 0, pos := "ref.go:52", after := #[{ on := 17, ground := Ground.data }, { on := 0, ground := Ground.phase }, { on := 1, ground := Ground.phase }, { on := 2, ground := Ground.phase }, { on := 3, ground := Ground.phase }, { on := 4, ground := Ground.phase }, { on := 5, ground := Ground.phase }, { on := 6, ground := Ground.phase }, { on := 7, ground := Ground.phase }, { on := 8, ground := Ground.phase }, { on := 9, ground := Ground.phase }, { on := 10, ground := Ground.phase }, { on := 11, ground := Ground.phase }, { on := 12, ground := Ground.phase }, { on := 13, ground := Ground.phase }, { on := 14, ground := Ground.phase }, { on := 15, ground := Ground.phase }, { on := 16, ground := Ground.phase }], guard := none }) (by kernel_rfl) rfl (fun K hK => ?_)
  go_simp
  refine hK.out _ _ ?_ (fun hHeld18 => ?_)
  · exact fun _ => S3A.out
  clear hK K
  try simp only [Act.put, List.setIfInBounds_toArray, List.set_cons_zero, List.set_cons_succ]
  refine wpAnyT_one (i := 19) (o := { dst := none, op := Op.store 37 (Operand.tmp 29) (Operand.tmp 27), type := 0, pos := "ref.go:52", after := #[{ on := 18, ground := Ground.data }, { on := 16, ground := Ground.data }, { on := 16, ground := Ground.chain }, { on := 0, ground := Ground.phase }, { on := 1, ground := Ground.phase }, { on := 2, ground := Ground.phase }, { on := 3, ground := Ground.phase }, { on := 4, ground := Ground.phase }, { on := 5, ground := Ground.phase }, { on := 6, ground := Ground.phase }, { on := 7, ground := Ground.phase }, { on := 8, ground := Ground.phase }, { on := 9, ground := Ground.phase }, { on := 10, ground := Ground.phase }, { on := 11, ground := Ground.phase }, { on := 12, ground := Ground.phase }, { on := 13, ground := Ground.phase }, { on := 14, ground := Ground.phase }, { on := 15, ground := Ground.phase }, { on := 16, ground := Ground.phase }], guard := none }) (by kernel_rfl) rfl (fun K hK => ?_)
  go_simp
  refine hK.out _ _ ?_ (fun hHeld19 => ?_)
  · exact fun h => absurd rfl h
  clear hK K
  try simp only [Act.put, List.setIfInBounds_toArray, List.set_cons_zero, List.set_cons_succ]
  refine wpAnyT_done (by kernel_rfl) ?_ _
  rw [HW5.out]
  go_wp2_with fail
  refine wp_region_T (S := fun w' => w'.cell? ⟨p, 1, none⟩ = some (.slice (some ⟨vg, 0, none⟩) n vc)) (t := 19) (by kernel_rfl) (by exact u1) (fun hHeld => ?_)
  refine wpAnyT_take (i := 0) (oi := { dst := some 30, op := Op.move (Operand.tmp 0), type := 27, pos := "ref.go:53", after := #[], guard := none }) (v := ?_) rfl (by kernel_rfl) (by kernel_rfl) (by kernel_rfl) (by kernel_rfl) (fun _ _ _ h => h) (Or.inl ⟨by rfl, ?_⟩) (by assumption) ?_
  rotate_left
  · intro wS hSw
    try dsimp only at hSw
    go_simp
    try with_reducible rfl
  try simp only [Act.put, List.setIfInBounds_toArray, List.set_cons_zero, List.set_cons_succ]
  refine wpAnyT_take (i := 2) (oi := { dst := some 32, op := Op.move (Operand.tmp 0), type := 27, pos := "ref.go:53", after := #[], guard := none }) (v := ?_) rfl (by kernel_rfl) (by kernel_rfl) (by kernel_rfl) (by kernel_rfl) (fun _ _ _ h => h) (Or.inl ⟨by rfl, ?_⟩) (by assumption) ?_
  rotate_left
  · intro wS hSw
    try dsimp only at hSw
    go_simp
    try with_reducible rfl
  try simp only [Act.put, List.setIfInBounds_toArray, List.set_cons_zero, List.set_cons_succ]
  refine wpAnyT_take (i := 3) (oi := { dst := some 33, op := Op.nilCheck (Operand.tmp 32), type := 0, pos := "ref.go:53", after := #[{ on := 2, ground := Ground.data }], guard := none }) (v := ?_) rfl (by kernel_rfl) (by kernel_rfl) (by kernel_rfl) (by kernel_rfl) (fun _ _ _ h => h) (Or.inl ⟨by rfl, ?_⟩) (by assumption) ?_
  rotate_left
  · intro wS hSw
    try dsimp only at hSw
    go_simp
    try with_reducible rfl
  try simp only [Act.put, List.setIfInBounds_toArray, List.set_cons_zero, List.set_cons_succ]
  refine wpAnyT_take (i := 4) (oi := { dst := some 34, op := Op.fieldAddr 39 (Operand.tmp 33) 1, type := 0, pos := "ref.go:53", after := #[{ on := 3, ground := Ground.data }], guard := none }) (v := ?_) rfl (by kernel_rfl) (by kernel_rfl) (by kernel_rfl) (by kernel_rfl) (fun _ _ _ h => h) (Or.inl ⟨by rfl, ?_⟩) (by assumption) ?_
  rotate_left
  · intro wS hSw
    try dsimp only at hSw
    go_simp
    try with_reducible rfl
  try simp only [Act.put, List.setIfInBounds_toArray, List.set_cons_zero, List.set_cons_succ]
  refine wpAnyT_take (i := 5) (oi := { dst := some 35, op := Op.load 37 (Operand.tmp 34), type := 37, pos := "ref.go:53", after := #[{ on := 4, ground := Ground.data }], guard := none }) (v := ?_) rfl (by kernel_rfl) (by kernel_rfl) (by kernel_rfl) (by kernel_rfl) (fun _ _ _ h => h) (Or.inl ⟨by rfl, ?_⟩) (by assumption) ?_
  rotate_left
  · intro wS hSw
    try dsimp only at hSw
    go_simp
    try with_reducible rfl
  try simp only [Act.put, List.setIfInBounds_toArray, List.set_cons_zero, List.set_cons_succ]
  refine wpAnyT_take (i := 6) (oi := { dst := some 36, op := Op.move (Operand.tmp 5), type := 3, pos := "ref.go:53", after := #[], guard := none }) (v := ?_) rfl (by kernel_rfl) (by kernel_rfl) (by kernel_rfl) (by kernel_rfl) (fun _ _ _ h => h) (Or.inl ⟨by rfl, ?_⟩) (by assumption) ?_
  rotate_left
  · intro wS hSw
    try dsimp only at hSw
    go_simp
    try with_reducible rfl
  try simp only [Act.put, List.setIfInBounds_toArray, List.set_cons_zero, List.set_cons_succ]
  refine wpAnyT_take (i := 7) (oi := { dst := some 37, op := Op.slice 37 (Operand.tmp 35) none (some (Operand.tmp 36)) none, type := 37, pos := "ref.go:53", after := #[{ on := 5, ground := Ground.data }, { on := 6, ground := Ground.data }], guard := none }) (v := .slice (some ⟨vg, 0, none⟩) i vc) rfl (by kernel_rfl) (by kernel_rfl) (by kernel_rfl) (by kernel_rfl) (fun _ _ _ h => h) (Or.inl ⟨by rfl, ?_⟩) (by assumption) ?_
  · intro wS hSw
    try dsimp only at hSw
    go_simp
    intro hc; omega
  try simp only [Act.put, List.setIfInBounds_toArray, List.set_cons_zero, List.set_cons_succ]
  refine wpAnyT_take (i := 9) (oi := { dst := some 39, op := Op.move (Operand.tmp 0), type := 27, pos := "ref.go:53", after := #[], guard := none }) (v := ?_) rfl (by kernel_rfl) (by kernel_rfl) (by kernel_rfl) (by kernel_rfl) (fun _ _ _ h => h) (Or.inl ⟨by rfl, ?_⟩) (by assumption) ?_
  rotate_left
  · intro wS hSw
    try dsimp only at hSw
    go_simp
    try with_reducible rfl
  try simp only [Act.put, List.setIfInBounds_toArray, List.set_cons_zero, List.set_cons_succ]
  refine wpAnyT_take (i := 10) (oi := { dst := some 40, op := Op.nilCheck (Operand.tmp 39), type := 0, pos := "ref.go:53", after := #[{ on := 9, ground := Ground.data }], guard := none }) (v := ?_) rfl (by kernel_rfl) (by kernel_rfl) (by kernel_rfl) (by kernel_rfl) (fun _ _ _ h => h) (Or.inl ⟨by rfl, ?_⟩) (by assumption) ?_
  rotate_left
  · intro wS hSw
    try dsimp only at hSw
    go_simp
    try with_reducible rfl
  try simp only [Act.put, List.setIfInBounds_toArray, List.set_cons_zero, List.set_cons_succ]
  refine wpAnyT_take (i := 11) (oi := { dst := some 41, op := Op.fieldAddr 39 (Operand.tmp 40) 1, type := 0, pos := "ref.go:53", after := #[{ on := 10, ground := Ground.data }], guard := none }) (v := ?_) rfl (by kernel_rfl) (by kernel_rfl) (by kernel_rfl) (by kernel_rfl) (fun _ _ _ h => h) (Or.inl ⟨by rfl, ?_⟩) (by assumption) ?_
  rotate_left
  · intro wS hSw
    try dsimp only at hSw
    go_simp
    try with_reducible rfl
  try simp only [Act.put, List.setIfInBounds_toArray, List.set_cons_zero, List.set_cons_succ]
  refine wpAnyT_take (i := 12) (oi := { dst := some 42, op := Op.load 37 (Operand.tmp 41), type := 37, pos := "ref.go:53", after := #[{ on := 11, ground := Ground.data }], guard := none }) (v := ?_) rfl (by kernel_rfl) (by kernel_rfl) (by kernel_rfl) (by kernel_rfl) (fun _ _ _ h => h) (Or.inl ⟨by rfl, ?_⟩) (by assumption) ?_
  rotate_left
  · intro wS hSw
    try dsimp only at hSw
    go_simp
    try with_reducible rfl
  try simp only [Act.put, List.setIfInBounds_toArray, List.set_cons_zero, List.set_cons_succ]
  refine wpAnyT_take (i := 13) (oi := { dst := some 43, op := Op.move (Operand.tmp 5), type := 3, pos := "ref.go:53", after := #[], guard := none }) (v := ?_) rfl (by kernel_rfl) (by kernel_rfl) (by kernel_rfl) (by kernel_rfl) (fun _ _ _ h => h) (Or.inl ⟨by rfl, ?_⟩) (by assumption) ?_
  rotate_left
  · intro wS hSw
    try dsimp only at hSw
    go_simp
    try with_reducible rfl
  try simp only [Act.put, List.setIfInBounds_toArray, List.set_cons_zero, List.set_cons_succ]
  refine wpAnyT_take (i := 14) (oi := { dst := some 44, op := Op.binOp BinOp.add 3 (Operand.tmp 43) (Operand.const (Value.int IntKind.i64 1)) 3, type := 3, pos := "ref.go:53", after := #[{ on := 13, ground := Ground.data }], guard := none }) (v := ?_) rfl (by kernel_rfl) (by kernel_rfl) (by kernel_rfl) (by kernel_rfl) (fun _ _ _ h => h) (Or.inl ⟨by rfl, ?_⟩) (by assumption) ?_
  rotate_left
  · intro wS hSw
    try dsimp only at hSw
    go_simp
    try with_reducible rfl
  try simp only [Act.put, List.setIfInBounds_toArray, List.set_cons_zero, List.set_cons_succ]
  refine wpAnyT_take (i := 15) (oi := { dst := some 45, op := Op.slice 37 (Operand.tmp 42) (some (Operand.tmp 44)) none none, type := 37, pos := "ref.go:53", after := #[{ on := 12, ground := Ground.data }, { on := 14, ground := Ground.data }], guard := none }) (v := .slice (some skB) (n - (i + 1)) (vc - (i + 1))) rfl (by kernel_rfl) (by kernel_rfl) (by kernel_rfl) (by kernel_rfl) (fun _ _ _ h => h) (Or.inl ⟨by rfl, ?_⟩) (by assumption) ?_
  · intro wS hSw
    try dsimp only at hSw
    go_simp
    intro hc; exact absurd (hc (by omega)) (by omega)
  try simp only [Act.put, List.setIfInBounds_toArray, List.set_cons_zero, List.set_cons_succ]
  refine wpAnyT_one (i := 1) (o := { dst := some 31, op := Op.buildSlice 37 0 #[], type := 37, pos := "ref.go:53", after := #[], guard := none }) (by kernel_rfl) rfl (fun K hK => ?_)
  go_simp
  refine hK.out _ _ ?_ (fun hHeld1 => ?_)
  · exact fun _ => S1B.out
  clear hK K
  try simp only [Act.put, List.setIfInBounds_toArray, List.set_cons_zero, List.set_cons_succ]
  refine wpAnyT_one (i := 8) (o := { dst := some 38, op := Op.call { callee := Callee.builtin Builtin.append, args := #[Operand.tmp 31, Operand.tmp 37], argTypes := #[37, 37] }, type := 37, pos := "ref.go:53", after := #[{ on := 1, ground := Ground.data }, { on := 7, ground := Ground.data }], guard := none }) (by kernel_rfl) rfl (fun K hK => ?_)
  rw [if_pos (by rfl)]
  refine Lib.wp_append_run _ _ _ _ _ rfl _ _ rfl rfl _ _ R1B.out ?_
  refine hK.out _ _ ?_ (fun hHeld8 => ?_)
  · exact fun _ => S2B.out
  clear hK K
  try simp only [Act.put, List.setIfInBounds_toArray, List.set_cons_zero, List.set_cons_succ]
  refine wpAnyT_one (i := 16) (o := { dst := some 46, op := Op.call { callee := Callee.builtin Builtin.append, args := #[Operand.tmp 38, Operand.tmp 45], argTypes := #[37, 37] }, type := 37, pos := "ref.go:53", after := #[{ on := 8, ground := Ground.data }, { on := 15, ground := Ground.data }, { on := 8, ground := Ground.chain }], guard := none }) (by kernel_rfl) rfl (fun K hK => ?_)
  rw [if_pos (by rfl)]
  refine Lib.wp_append_run _ _ _ _ _ rfl _ _ rfl rfl _ _ R2B.out ?_
  refine hK.out _ _ ?_ (fun hHeld16 => ?_)
  · exact fun _ => S3B.out
  clear hK K
  try simp only [Act.put, List.setIfInBounds_toArray, List.set_cons_zero, List.set_cons_succ]
  refine wpAnyT_one (i := 17) (o := { dst := some 47, op := Op.nilCheck (Operand.tmp 30), type := 0, pos := "ref.go:53", after := #[{ on := 0, ground := Ground.data }, { on := 0, ground := Ground.phase }, { on := 1, ground := Ground.phase }, { on := 2, ground := Ground.phase }, { on := 3, ground := Ground.phase }, { on := 4, ground := Ground.phase }, { on := 5, ground := Ground.phase }, { on := 6, ground := Ground.phase }, { on := 7, ground := Ground.phase }, { on := 8, ground := Ground.phase }, { on := 9, ground := Ground.phase }, { on := 10, ground := Ground.phase }, { on := 11, ground := Ground.phase }, { on := 12, ground := Ground.phase }, { on := 13, ground := Ground.phase }, { on := 14, ground := Ground.phase }, { on := 15, ground := Ground.phase }, { on := 16, ground := Ground.phase }], guard := none }) (by kernel_rfl) rfl (fun K hK => ?_)
  go_simp
  refine hK.out _ _ ?_ (fun hHeld17 => ?_)
  · exact fun _ => S3B.out
  clear hK K
  try simp only [Act.put, List.setIfInBounds_toArray, List.set_cons_zero, List.set_cons_succ]
  refine wpAnyT_one (i := 18) (o := { dst := some 48, op := Op.fieldAddr 39 (Operand.tmp 47) 1, type := 0, pos := "ref.go:53", after := #[{ on := 17, ground := Ground.data }, { on := 0, ground := Ground.phase }, { on := 1, ground := Ground.phase }, { on := 2, ground := Ground.phase }, { on := 3, ground := Ground.phase }, { on := 4, ground := Ground.phase }, { on := 5, ground := Ground.phase }, { on := 6, ground := Ground.phase }, { on := 7, ground := Ground.phase }, { on := 8, ground := Ground.phase }, { on := 9, ground := Ground.phase }, { on := 10, ground := Ground.phase }, { on := 11, ground := Ground.phase }, { on := 12, ground := Ground.phase }, { on := 13, ground := Ground.phase }, { on := 14, ground := Ground.phase }, { on := 15, ground := Ground.phase }, { on := 16, ground := Ground.phase }], guard := none }) (by kernel_rfl) rfl (fun K hK => ?_)
  go_simp
  refine hK.out _ _ ?_ (fun hHeld18 => ?_)
  · exact fun _ => S3B.out
  clear hK K
  try simp only [Act.put, List.setIfInBounds_toArray, List.set_cons_zero, List.set_cons_succ]
  refine wpAnyT_one (i := 19) (o := { dst := none, op := Op.store 37 (Operand.tmp 48) (Operand.tmp 46), type := 0, pos := "ref.go:53", after := #[{ on := 18, ground := Ground.data }, { on := 16, ground := Ground.data }, { on := 16, ground := Ground.chain }, { on := 0, ground := Ground.phase }, { on := 1, ground := Ground.phase }, { on := 2, ground := Ground.phase }, { on := 3, ground := Ground.phase }, { on := 4, ground := Ground.phase }, { on := 5, ground := Ground.phase }, { on := 6, ground := Ground.phase }, { on := 7, ground := Ground.phase }, { on := 8, ground := Ground.phase }, { on := 9, ground := Ground.phase }, { on := 10, ground := Ground.phase }, { on := 11, ground := Ground.phase }, { on := 12, ground := Ground.phase }, { on := 13, ground := Ground.phase }, { on := 14, ground := Ground.phase }, { on := 15, ground := Ground.phase }, { on := 16, ground := Ground.phase }], guard := none }) (by kernel_rfl) rfl (fun K hK => ?_)
  go_simp
  refine hK.out _ _ ?_ (fun hHeld19 => ?_)
  · exact fun h => absurd rfl h
  clear hK K
  try simp only [Act.put, List.setIfInBounds_toArray, List.set_cons_zero, List.set_cons_succ]
  refine wpAnyT_done (by kernel_rfl) ?_ _
  rw [HW7.out]
  go_wp2_with fail
  go_ret
  exact ⟨rfl, HEND.out.1, _, _, _, _, HEND.out.2⟩
end Go.Proofs.Ytcgkblmhfgjoaaa
