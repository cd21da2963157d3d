/- The document's wheel: Cancel. -/
import Derived.Test.YtdjkoomgapflcaaRWf
namespace Go.Proofs.Ytdjkoomgapflcaa
open Go.RowKit Go.Deep
set_option linter.unusedVariables false
set_option linter.unusedSimpArgs false
set_option maxRecDepth 100000
def cR (k : Int) (R : RL) : RL := R.filter fun x => decide (k ≠ x.1)
theorem cR_not {k : Int} {R : RL} (h : k ∉ R.map (·.1)) : cR k R = R := by
  refine List.filter_eq_self.2 fun x hx => ?_
  have : k ≠ x.1 := fun e => h (by rw [e]; exact List.mem_map_of_mem hx)
  simpa using this
theorem cR_erase (k : Int) : ∀ (R : RL) (i : Nat), (R.map (·.1)).Nodup → (R.map (·.1))[i]? = some k → R.eraseIdx i = cR k R
  | [], i, _, h => by simp at h
  | x :: R, 0, hd, h => by
    have hk : x.1 = k := by simpa using h
    have hnot : k ∉ R.map (·.1) := by
      rw [List.map_cons, List.nodup_cons] at hd
      rw [← hk]; exact hd.1
    rw [List.eraseIdx_cons_zero]
    have e : cR k (x :: R) = cR k R := by
      unfold cR
      rw [List.filter_cons_of_neg (by simp [hk])]
    rw [e, cR_not hnot]
  | x :: R, i + 1, hd, h => by
    rw [List.map_cons, List.nodup_cons] at hd
    have h' : (R.map (·.1))[i]? = some k := by simpa using h
    have hne : k ≠ x.1 := fun e => hd.1 (by rw [← e]; exact List.mem_of_getElem? h')
    rw [List.eraseIdx_cons_succ, cR_erase k R i hd.2 h']
    unfold cR
    rw [List.filter_cons_of_pos (by simpa using hne)]
theorem map_erase {α β : Type} (f : α → β) : ∀ (l : List α) (i : Nat), (l.eraseIdx i).map f = (l.map f).eraseIdx i
  | [], _ => rfl
  | _ :: _, 0 => rfl
  | x :: l, i + 1 => by simp [map_erase f l i]
set_option maxHeartbeats 3000000 in
theorem cancelR_cut (w : World) (base rp : Nat) (R : RL) (ka : Option Addr) (kc : Nat) (va : Option Addr) (vc : Nat) (k : Int) (i : Nat) (h : RW w base rp R ka kc va vc) (hn : R.length ≤ 1000000) (hk : idxL k (R.map (·.1)) = (i : Int)) (hi : i < R.length) (hb0 : base ≤ w.heap.size) :
    Calls Try.prog 10 #[.pointer (some ⟨rp, 0, none⟩), .int .i64 k] w fun e w' => e = .returned (.bool true) ∧ OnlyS (· = rp) w w' ∧ ∃ ka' kc' va' vc', RW w' base rp (R.eraseIdx i) ka' kc' va' vc' := by
  have hA := findR_any w base rp R ka kc va vc k h hn
  rw [hk] at hA
  have HA := hide hA
  obtain ⟨kg, vg, rfl, rfl, _⟩ := h.at (by omega)
  obtain ⟨ks, hks⟩ : ∃ ks, R.map (·.1) = ks := ⟨_, rfl⟩
  obtain ⟨vs, hvs⟩ : ∃ vs, R.map (·.2) = vs := ⟨_, rfl⟩
  have hkr := h.krow
  have hvr := h.vrow
  rw [hks] at hkr
  rw [hvs] at hvr
  obtain ⟨n, hnn⟩ : ∃ n, R.length = n := ⟨_, rfl⟩
  have hlenA : ks.length = n := by rw [← hks, List.length_map]; exact hnn
  have hlenB : vs.length = n := by rw [← hvs, List.length_map]; exact hnn
  have ht := h.tab
  rw [hnn] at hkr hvr hi hn ht
  obtain ⟨t0, t1, tf⟩ := two_cells ht
  have HN := hide hnn
  have hkcap : n ≤ kc := by have h1 := hkr; rw [← hlenA] at h1 ⊢; exact h1.cap (by omega)
  have hvcap : n ≤ vc := by have h1 := hvr; rw [← hlenB] at h1 ⊢; exact h1.cap (by omega)
  have hpVA : rp < w.heap.size := lt_of_block ht
  have nk : ∀ q, (Value.slice (some ⟨kg, 0, none⟩) n kc).ownBlock = some q → q ≠ rp := by
    intro q hq e
    obtain ⟨cs, f, h1⟩ := hkr.ty hq
    rw [e, ht] at h1
    cases h1
  have nv : ∀ q, (Value.slice (some ⟨vg, 0, none⟩) n vc).ownBlock = some q → q ≠ rp := by
    intro q hq e
    obtain ⟨cs, f, h1⟩ := hvr.ty hq
    rw [e, ht] at h1
    cases h1
  obtain ⟨skA, hskA⟩ : ∃ s, (if kc = i + 1 then some (⟨kg, 0, none⟩ : Addr) else some ⟨kg, i + 1, none⟩) = some s := by split <;> exact ⟨_, rfl⟩
  obtain ⟨a1A, c1A, V2A, a2A, c2A, V3A, q1A, q2A, b2A, b3A, o3A⟩ := cutI w base kg n kc ks hkr hlenA hn i hi skA hskA (by omega)
  have R1A := hide q1A
  have R2A := hide q2A
  have S1A := hide (show (w.alloc (.cells #[] 3)).drew.cell? ⟨rp, 0, none⟩ = some (.slice (some ⟨kg, 0, none⟩) n kc) from (((Below.refl w.heap.size w).alloc (Nat.le_refl _) (.cells #[] 3)).cell (p := ⟨rp, 0, none⟩) hpVA).trans t0)
  have S2A := hide ((b2A.cell (p := ⟨rp, 0, none⟩) hpVA).trans t0)
  have S3A := hide ((b3A.cell (p := ⟨rp, 0, none⟩) hpVA).trans t0)
  have htA : V3A.heap[rp]? = some (.cells #[.slice (some ⟨kg, 0, none⟩) n kc, .slice (some ⟨vg, 0, none⟩) n vc] 30 (0, 0)) := (b3A.block rp hpVA).trans ht
  obtain ⟨x0, x1, xf⟩ := two_cells htA
  obtain ⟨W5, hW5⟩ : ∃ wt, V3A.setCell ⟨rp, 0, none⟩ (.slice a2A (n - 1) c2A) = wt := ⟨_, rfl⟩
  have ht5 : W5.heap[rp]? = some (.cells #[.slice a2A (n - 1) c2A, .slice (some ⟨vg, 0, none⟩) n vc] 30 (0, 0)) := by rw [← hW5]; exact heap_setCell_same _ _ 0 _ _ _ htA
  have ho35 : OnlyS (· = rp) V3A W5 := by rw [← hW5]; exact (OnlyS.refl _ _).setCell rp 0 _ (.inl rfl)
  have ho5 : OnlyS (· = rp) w W5 := (OnlyS.of b3A).tr ho35
  have hv5 : URow base W5 (.slice (some ⟨vg, 0, none⟩) n vc) vs := hvr.only ho5 nv
  have hk5 : IRow base W5 (.slice a2A (n - 1) c2A) (ks.eraseIdx i) := o3A.only ho35 (fun q hq e => by
    obtain ⟨cs, f, h1⟩ := o3A.ty hq
    rw [e, htA] at h1
    cases h1)
  have hz5 : w.heap.size ≤ W5.heap.size := ho5.size
  obtain ⟨u0, u1, uf⟩ := two_cells ht5
  have hpVB : rp < W5.heap.size := by omega
  obtain ⟨skB, hskB⟩ : ∃ s, (if vc = i + 1 then some (⟨vg, 0, none⟩ : Addr) else some ⟨vg, i + 1, none⟩) = some s := by split <;> exact ⟨_, rfl⟩
  obtain ⟨a1B, c1B, V2B, a2B, c2B, V3B, q1B, q2B, b2B, b3B, o3B⟩ := cutU W5 base vg n vc vs hv5 hlenB hn i hi skB hskB (by omega)
  have R1B := hide q1B
  have R2B := hide q2B
  have S1B := hide (show (W5.alloc (.cells #[] 31)).drew.cell? ⟨rp, 1, none⟩ = some (.slice (some ⟨vg, 0, none⟩) n vc) from (((Below.refl W5.heap.size W5).alloc (Nat.le_refl _) (.cells #[] 31)).cell (p := ⟨rp, 1, none⟩) hpVB).trans u1)
  have S2B := hide ((b2B.cell (p := ⟨rp, 1, none⟩) hpVB).trans u1)
  have S3B := hide ((b3B.cell (p := ⟨rp, 1, none⟩) hpVB).trans u1)
  have htB : V3B.heap[rp]? = some (.cells #[.slice a2A (n - 1) c2A, .slice (some ⟨vg, 0, none⟩) n vc] 30 (0, 0)) := (b3B.block rp hpVB).trans ht5
  obtain ⟨y0, y1, yf⟩ := two_cells htB
  obtain ⟨W7, hW7⟩ : ∃ wt, V3B.setCell ⟨rp, 1, none⟩ (.slice a2B (n - 1) c2B) = wt := ⟨_, rfl⟩
  have ht7 : W7.heap[rp]? = some (.cells #[.slice a2A (n - 1) c2A, .slice a2B (n - 1) c2B] 30 (0, 0)) := by rw [← hW7]; exact heap_setCell_same _ _ 1 _ _ _ htB
  have ho37 : OnlyS (· = rp) V3B W7 := by rw [← hW7]; exact (OnlyS.refl _ _).setCell rp 1 _ (.inl rfl)
  have ho57 : OnlyS (· = rp) W5 W7 := (OnlyS.of b3B).tr ho37
  have hln : (R.eraseIdx i).length = n - 1 := by rw [List.length_eraseIdx_of_lt (by omega)]; omega
  have HEND := hide (show OnlyS (· = rp) w W7 ∧ RW W7 base rp (R.eraseIdx i) a2A c2A a2B c2B by
    refine ⟨ho5.tr ho57, ?_, ?_, ?_⟩
    · rw [hln]; exact ht7
    · rw [hln, map_erase, hks]
      exact hk5.only ho57 (fun q hq e => by
        obtain ⟨cs, f, h1⟩ := hk5.ty hq
        rw [e, ht5] at h1
        cases h1)
    · rw [hln, map_erase, hvs]
      exact o3B.only ho37 (fun q hq e => by
        obtain ⟨cs, f, h1⟩ := o3B.ty hq
        rw [e, htB] at h1
        cases h1))
  have HW5 := hide hW5
  have HW7 := hide hW7
  have hwr : IntKind.i64.wrap ((i : Int) + 1) = ((i + 1 : Nat) : Int) := by rw [IntKind.wrap_i64]; omega
  clear h hA hk hnn hkr hvr ht htA hW5 ht5 hk5 hv5 ho5 ho35 ho37 ho57 hW7 htB ht7 hln hlenA hlenB hks hvs nk nv q1A q2A b2A b3A o3A q1B q2B b2B b3B o3B
  go_enter Try.func10, Try.ntmps10
  go_wp2_with fail
  refine HA.out.mono ?_
  rintro e w1 ⟨rfl, rfl⟩
  go_wp2_with fail
  refine wp_region_U (S := fun w' => w'.cell? ⟨rp, 0, none⟩ = some (.slice (some ⟨kg, 0, none⟩) n kc)) (t := 19) (by kernel_rfl) (by exact t0) (fun hHeld => ?_)
  refine wpAnyU_take (i := 0) (oi := { dst := some 11, op := Op.move (Operand.tmp 0), type := 26, pos := "ref.go:26", after := #[], guard := none }) (v := ?_) rfl (by kernel_rfl) (by kernel_rfl) (by kernel_rfl) (by kernel_rfl) (fun _ _ _ h => h) (Or.inl ⟨by rfl, ?_⟩) (by assumption) ?_
  rotate_left
  · intro wS hSw
    try dsimp only at hSw
    go_simp
    try with_reducible rfl
  try simp only [Act.put, List.setIfInBounds_toArray, List.set_cons_zero, List.set_cons_succ]
  refine wpAnyU_take (i := 2) (oi := { dst := some 13, op := Op.move (Operand.tmp 0), type := 26, pos := "ref.go:26", after := #[], guard := none }) (v := ?_) rfl (by kernel_rfl) (by kernel_rfl) (by kernel_rfl) (by kernel_rfl) (fun _ _ _ h => h) (Or.inl ⟨by rfl, ?_⟩) (by assumption) ?_
  rotate_left
  · intro wS hSw
    try dsimp only at hSw
    go_simp
    try with_reducible rfl
  try simp only [Act.put, List.setIfInBounds_toArray, List.set_cons_zero, List.set_cons_succ]
  refine wpAnyU_take (i := 3) (oi := { dst := some 14, op := Op.nilCheck (Operand.tmp 13), type := 0, pos := "ref.go:26", after := #[{ on := 2, ground := Ground.data }], guard := none }) (v := ?_) rfl (by kernel_rfl) (by kernel_rfl) (by kernel_rfl) (by kernel_rfl) (fun _ _ _ h => h) (Or.inl ⟨by rfl, ?_⟩) (by assumption) ?_
  rotate_left
  · intro wS hSw
    try dsimp only at hSw
    go_simp
    try with_reducible rfl
  try simp only [Act.put, List.setIfInBounds_toArray, List.set_cons_zero, List.set_cons_succ]
  refine wpAnyU_take (i := 4) (oi := { dst := some 15, op := Op.fieldAddr 30 (Operand.tmp 14) 0, type := 0, pos := "ref.go:26", after := #[{ on := 3, ground := Ground.data }], guard := none }) (v := ?_) rfl (by kernel_rfl) (by kernel_rfl) (by kernel_rfl) (by kernel_rfl) (fun _ _ _ h => h) (Or.inl ⟨by rfl, ?_⟩) (by assumption) ?_
  rotate_left
  · intro wS hSw
    try dsimp only at hSw
    go_simp
    try with_reducible rfl
  try simp only [Act.put, List.setIfInBounds_toArray, List.set_cons_zero, List.set_cons_succ]
  refine wpAnyU_take (i := 5) (oi := { dst := some 16, op := Op.load 27 (Operand.tmp 15), type := 27, pos := "ref.go:26", after := #[{ on := 4, ground := Ground.data }], guard := none }) (v := ?_) rfl (by kernel_rfl) (by kernel_rfl) (by kernel_rfl) (by kernel_rfl) (fun _ _ _ h => h) (Or.inl ⟨by rfl, ?_⟩) (by assumption) ?_
  rotate_left
  · intro wS hSw
    try dsimp only at hSw
    go_simp
    try with_reducible rfl
  try simp only [Act.put, List.setIfInBounds_toArray, List.set_cons_zero, List.set_cons_succ]
  refine wpAnyU_take (i := 6) (oi := { dst := some 17, op := Op.move (Operand.tmp 5), type := 3, pos := "ref.go:26", after := #[], guard := none }) (v := ?_) rfl (by kernel_rfl) (by kernel_rfl) (by kernel_rfl) (by kernel_rfl) (fun _ _ _ h => h) (Or.inl ⟨by rfl, ?_⟩) (by assumption) ?_
  rotate_left
  · intro wS hSw
    try dsimp only at hSw
    go_simp
    try with_reducible rfl
  try simp only [Act.put, List.setIfInBounds_toArray, List.set_cons_zero, List.set_cons_succ]
  refine wpAnyU_take (i := 7) (oi := { dst := some 18, op := Op.slice 27 (Operand.tmp 16) none (some (Operand.tmp 17)) none, type := 27, pos := "ref.go:26", after := #[{ on := 5, ground := Ground.data }, { on := 6, ground := Ground.data }], guard := none }) (v := .slice (some ⟨kg, 0, none⟩) i kc) rfl (by kernel_rfl) (by kernel_rfl) (by kernel_rfl) (by kernel_rfl) (fun _ _ _ h => h) (Or.inl ⟨by rfl, ?_⟩) (by assumption) ?_
  · intro wS hSw
    try dsimp only at hSw
    go_simp
    intro hc; omega
  try simp only [Act.put, List.setIfInBounds_toArray, List.set_cons_zero, List.set_cons_succ]
  refine wpAnyU_take (i := 9) (oi := { dst := some 20, op := Op.move (Operand.tmp 0), type := 26, pos := "ref.go:26", after := #[], guard := none }) (v := ?_) rfl (by kernel_rfl) (by kernel_rfl) (by kernel_rfl) (by kernel_rfl) (fun _ _ _ h => h) (Or.inl ⟨by rfl, ?_⟩) (by assumption) ?_
  rotate_left
  · intro wS hSw
    try dsimp only at hSw
    go_simp
    try with_reducible rfl
  try simp only [Act.put, List.setIfInBounds_toArray, List.set_cons_zero, List.set_cons_succ]
  refine wpAnyU_take (i := 10) (oi := { dst := some 21, op := Op.nilCheck (Operand.tmp 20), type := 0, pos := "ref.go:26", after := #[{ on := 9, ground := Ground.data }], guard := none }) (v := ?_) rfl (by kernel_rfl) (by kernel_rfl) (by kernel_rfl) (by kernel_rfl) (fun _ _ _ h => h) (Or.inl ⟨by rfl, ?_⟩) (by assumption) ?_
  rotate_left
  · intro wS hSw
    try dsimp only at hSw
    go_simp
    try with_reducible rfl
  try simp only [Act.put, List.setIfInBounds_toArray, List.set_cons_zero, List.set_cons_succ]
  refine wpAnyU_take (i := 11) (oi := { dst := some 22, op := Op.fieldAddr 30 (Operand.tmp 21) 0, type := 0, pos := "ref.go:26", after := #[{ on := 10, ground := Ground.data }], guard := none }) (v := ?_) rfl (by kernel_rfl) (by kernel_rfl) (by kernel_rfl) (by kernel_rfl) (fun _ _ _ h => h) (Or.inl ⟨by rfl, ?_⟩) (by assumption) ?_
  rotate_left
  · intro wS hSw
    try dsimp only at hSw
    go_simp
    try with_reducible rfl
  try simp only [Act.put, List.setIfInBounds_toArray, List.set_cons_zero, List.set_cons_succ]
  refine wpAnyU_take (i := 12) (oi := { dst := some 23, op := Op.load 27 (Operand.tmp 22), type := 27, pos := "ref.go:26", after := #[{ on := 11, ground := Ground.data }], guard := none }) (v := ?_) rfl (by kernel_rfl) (by kernel_rfl) (by kernel_rfl) (by kernel_rfl) (fun _ _ _ h => h) (Or.inl ⟨by rfl, ?_⟩) (by assumption) ?_
  rotate_left
  · intro wS hSw
    try dsimp only at hSw
    go_simp
    try with_reducible rfl
  try simp only [Act.put, List.setIfInBounds_toArray, List.set_cons_zero, List.set_cons_succ]
  refine wpAnyU_take (i := 13) (oi := { dst := some 24, op := Op.move (Operand.tmp 5), type := 3, pos := "ref.go:26", after := #[], guard := none }) (v := ?_) rfl (by kernel_rfl) (by kernel_rfl) (by kernel_rfl) (by kernel_rfl) (fun _ _ _ h => h) (Or.inl ⟨by rfl, ?_⟩) (by assumption) ?_
  rotate_left
  · intro wS hSw
    try dsimp only at hSw
    go_simp
    try with_reducible rfl
  try simp only [Act.put, List.setIfInBounds_toArray, List.set_cons_zero, List.set_cons_succ]
  refine wpAnyU_take (i := 14) (oi := { dst := some 25, op := Op.binOp BinOp.add 3 (Operand.tmp 24) (Operand.const (Value.int IntKind.i64 1)) 3, type := 3, pos := "ref.go:26", after := #[{ on := 13, ground := Ground.data }], guard := none }) (v := ?_) rfl (by kernel_rfl) (by kernel_rfl) (by kernel_rfl) (by kernel_rfl) (fun _ _ _ h => h) (Or.inl ⟨by rfl, ?_⟩) (by assumption) ?_
  rotate_left
  · intro wS hSw
    try dsimp only at hSw
    go_simp
    try with_reducible rfl
  try simp only [Act.put, List.setIfInBounds_toArray, List.set_cons_zero, List.set_cons_succ]
  refine wpAnyU_take (i := 15) (oi := { dst := some 26, op := Op.slice 27 (Operand.tmp 23) (some (Operand.tmp 25)) none none, type := 27, pos := "ref.go:26", after := #[{ on := 12, ground := Ground.data }, { on := 14, ground := Ground.data }], guard := none }) (v := .slice (some skA) (n - (i + 1)) (kc - (i + 1))) rfl (by kernel_rfl) (by kernel_rfl) (by kernel_rfl) (by kernel_rfl) (fun _ _ _ h => h) (Or.inl ⟨by rfl, ?_⟩) (by assumption) ?_
  · intro wS hSw
    try dsimp only at hSw
    go_simp
    intro hc; exact absurd (hc (by omega)) (by omega)
  try simp only [Act.put, List.setIfInBounds_toArray, List.set_cons_zero, List.set_cons_succ]
  refine wpAnyU_one (i := 1) (o := { dst := some 12, op := Op.buildSlice 27 0 #[], type := 27, pos := "ref.go:26", after := #[], guard := none }) (by kernel_rfl) rfl (fun K hK => ?_)
  go_simp
  refine hK.out _ _ ?_ (fun hHeld1 => ?_)
  · exact fun _ => S1A.out
  clear hK K
  try simp only [Act.put, List.setIfInBounds_toArray, List.set_cons_zero, List.set_cons_succ]
  refine wpAnyU_one (i := 8) (o := { dst := some 19, op := Op.call { callee := Callee.builtin Builtin.append, args := #[Operand.tmp 12, Operand.tmp 18], argTypes := #[27, 27] }, type := 27, pos := "ref.go:26", after := #[{ on := 1, ground := Ground.data }, { on := 7, ground := Ground.data }], guard := none }) (by kernel_rfl) rfl (fun K hK => ?_)
  rw [if_pos (by rfl)]
  refine Lib.wp_append_run _ _ _ _ _ rfl _ _ rfl rfl _ _ R1A.out ?_
  refine hK.out _ _ ?_ (fun hHeld8 => ?_)
  · exact fun _ => S2A.out
  clear hK K
  try simp only [Act.put, List.setIfInBounds_toArray, List.set_cons_zero, List.set_cons_succ]
  refine wpAnyU_one (i := 16) (o := { dst := some 27, op := Op.call { callee := Callee.builtin Builtin.append, args := #[Operand.tmp 19, Operand.tmp 26], argTypes := #[27, 27] }, type := 27, pos := "ref.go:26", after := #[{ on := 8, ground := Ground.data }, { on := 15, ground := Ground.data }, { on := 8, ground := Ground.chain }], guard := none }) (by kernel_rfl) rfl (fun K hK => ?_)
  rw [if_pos (by rfl)]
  refine Lib.wp_append_run _ _ _ _ _ rfl _ _ rfl rfl _ _ R2A.out ?_
  refine hK.out _ _ ?_ (fun hHeld16 => ?_)
  · exact fun _ => S3A.out
  clear hK K
  try simp only [Act.put, List.setIfInBounds_toArray, List.set_cons_zero, List.set_cons_succ]
  refine wpAnyU_one (i := 17) (o := { dst := some 28, op := Op.nilCheck (Operand.tmp 11), type := 0, pos := "ref.go:26", after := #[{ on := 0, ground := Ground.data }, { on := 0, ground := Ground.phase }, { on := 1, ground := Ground.phase }, { on := 2, ground := Ground.phase }, { on := 3, ground := Ground.phase }, { on := 4, ground := Ground.phase }, { on := 5, ground := Ground.phase }, { on := 6, ground := Ground.phase }, { on := 7, ground := Ground.phase }, { on := 8, ground := Ground.phase }, { on := 9, ground := Ground.phase }, { on := 10, ground := Ground.phase }, { on := 11, ground := Ground.phase }, { on := 12, ground := Ground.phase }, { on := 13, ground := Ground.phase }, { on := 14, ground := Ground.phase }, { on := 15, ground := Ground.phase }, { on := 16, ground := Ground.phase }], guard := none }) (by kernel_rfl) rfl (fun K hK => ?_)
  go_simp
  refine hK.out _ _ ?_ (fun hHeld17 => ?_)
  · exact fun _ => S3A.out
  clear hK K
  try simp only [Act.put, List.setIfInBounds_toArray, List.set_cons_zero, List.set_cons_succ]
  refine wpAnyU_one (i := 18) (o := { dst := some 29, op := Op.fieldAddr 30 (Operand.tmp 28) 0, type := 0, pos := "ref.go:26", after := #[{ on := 17, ground := Ground.data }, { on := 0, ground := Ground.phase }, { on := 1, ground := Ground.phase }, { on := 2, ground := Ground.phase }, { on := 3, ground := Ground.phase }, { on := 4, ground := Ground.phase }, { on := 5, ground := Ground.phase }, { on := 6, ground := Ground.phase }, { on := 7, ground := Ground.phase }, { on := 8, ground := Ground.phase }, { on := 9, ground := Ground.phase }, { on := 10, ground := Ground.phase }, { on := 11, ground := Ground.phase }, { on := 12, ground := Ground.phase }, { on := 13, ground := Ground.phase }, { on := 14, ground := Ground.phase }, { on := 15, ground := Ground.phase }, { on := 16, ground := Ground.phase }], guard := none }) (by kernel_rfl) rfl (fun K hK => ?_)
  go_simp
  refine hK.out _ _ ?_ (fun hHeld18 => ?_)
  · exact fun _ => S3A.out
  clear hK K
  try simp only [Act.put, List.setIfInBounds_toArray, List.set_cons_zero, List.set_cons_succ]
  refine wpAnyU_one (i := 19) (o := { dst := none, op := Op.store 27 (Operand.tmp 29) (Operand.tmp 27), type := 0, pos := "ref.go:26", after := #[{ on := 18, ground := Ground.data }, { on := 16, ground := Ground.data }, { on := 16, ground := Ground.chain }, { on := 0, ground := Ground.phase }, { on := 1, ground := Ground.phase }, { on := 2, ground := Ground.phase }, { on := 3, ground := Ground.phase }, { on := 4, ground := Ground.phase }, { on := 5, ground := Ground.phase }, { on := 6, ground := Ground.phase }, { on := 7, ground := Ground.phase }, { on := 8, ground := Ground.phase }, { on := 9, ground := Ground.phase }, { on := 10, ground := Ground.phase }, { on := 11, ground := Ground.phase }, { on := 12, ground := Ground.phase }, { on := 13, ground := Ground.phase }, { on := 14, ground := Ground.phase }, { on := 15, ground := Ground.phase }, { on := 16, ground := Ground.phase }], guard := none }) (by kernel_rfl) rfl (fun K hK => ?_)
  go_simp
  refine hK.out _ _ ?_ (fun hHeld19 => ?_)
  · exact fun h => absurd h (by decide)
  clear hK K
  try simp only [Act.put, List.setIfInBounds_toArray, List.set_cons_zero, List.set_cons_succ]
  refine wpAnyU_done (by kernel_rfl) ?_ _
  rw [HW5.out]
  go_wp2_with fail
  refine wp_region_U (S := fun w' => w'.cell? ⟨rp, 1, none⟩ = some (.slice (some ⟨vg, 0, none⟩) n vc)) (t := 19) (by kernel_rfl) (by exact u1) (fun hHeld => ?_)
  refine wpAnyU_take (i := 0) (oi := { dst := some 30, op := Op.move (Operand.tmp 0), type := 26, pos := "ref.go:27", after := #[], guard := none }) (v := ?_) rfl (by kernel_rfl) (by kernel_rfl) (by kernel_rfl) (by kernel_rfl) (fun _ _ _ h => h) (Or.inl ⟨by rfl, ?_⟩) (by assumption) ?_
  rotate_left
  · intro wS hSw
    try dsimp only at hSw
    go_simp
    try with_reducible rfl
  try simp only [Act.put, List.setIfInBounds_toArray, List.set_cons_zero, List.set_cons_succ]
  refine wpAnyU_take (i := 2) (oi := { dst := some 32, op := Op.move (Operand.tmp 0), type := 26, pos := "ref.go:27", after := #[], guard := none }) (v := ?_) rfl (by kernel_rfl) (by kernel_rfl) (by kernel_rfl) (by kernel_rfl) (fun _ _ _ h => h) (Or.inl ⟨by rfl, ?_⟩) (by assumption) ?_
  rotate_left
  · intro wS hSw
    try dsimp only at hSw
    go_simp
    try with_reducible rfl
  try simp only [Act.put, List.setIfInBounds_toArray, List.set_cons_zero, List.set_cons_succ]
  refine wpAnyU_take (i := 3) (oi := { dst := some 33, op := Op.nilCheck (Operand.tmp 32), type := 0, pos := "ref.go:27", after := #[{ on := 2, ground := Ground.data }], guard := none }) (v := ?_) rfl (by kernel_rfl) (by kernel_rfl) (by kernel_rfl) (by kernel_rfl) (fun _ _ _ h => h) (Or.inl ⟨by rfl, ?_⟩) (by assumption) ?_
  rotate_left
  · intro wS hSw
    try dsimp only at hSw
    go_simp
    try with_reducible rfl
  try simp only [Act.put, List.setIfInBounds_toArray, List.set_cons_zero, List.set_cons_succ]
  refine wpAnyU_take (i := 4) (oi := { dst := some 34, op := Op.fieldAddr 30 (Operand.tmp 33) 1, type := 0, pos := "ref.go:27", after := #[{ on := 3, ground := Ground.data }], guard := none }) (v := ?_) rfl (by kernel_rfl) (by kernel_rfl) (by kernel_rfl) (by kernel_rfl) (fun _ _ _ h => h) (Or.inl ⟨by rfl, ?_⟩) (by assumption) ?_
  rotate_left
  · intro wS hSw
    try dsimp only at hSw
    go_simp
    try with_reducible rfl
  try simp only [Act.put, List.setIfInBounds_toArray, List.set_cons_zero, List.set_cons_succ]
  refine wpAnyU_take (i := 5) (oi := { dst := some 35, op := Op.load 28 (Operand.tmp 34), type := 28, pos := "ref.go:27", after := #[{ on := 4, ground := Ground.data }], guard := none }) (v := ?_) rfl (by kernel_rfl) (by kernel_rfl) (by kernel_rfl) (by kernel_rfl) (fun _ _ _ h => h) (Or.inl ⟨by rfl, ?_⟩) (by assumption) ?_
  rotate_left
  · intro wS hSw
    try dsimp only at hSw
    go_simp
    try with_reducible rfl
  try simp only [Act.put, List.setIfInBounds_toArray, List.set_cons_zero, List.set_cons_succ]
  refine wpAnyU_take (i := 6) (oi := { dst := some 36, op := Op.move (Operand.tmp 5), type := 3, pos := "ref.go:27", after := #[], guard := none }) (v := ?_) rfl (by kernel_rfl) (by kernel_rfl) (by kernel_rfl) (by kernel_rfl) (fun _ _ _ h => h) (Or.inl ⟨by rfl, ?_⟩) (by assumption) ?_
  rotate_left
  · intro wS hSw
    try dsimp only at hSw
    go_simp
    try with_reducible rfl
  try simp only [Act.put, List.setIfInBounds_toArray, List.set_cons_zero, List.set_cons_succ]
  refine wpAnyU_take (i := 7) (oi := { dst := some 37, op := Op.slice 28 (Operand.tmp 35) none (some (Operand.tmp 36)) none, type := 28, pos := "ref.go:27", after := #[{ on := 5, ground := Ground.data }, { on := 6, ground := Ground.data }], guard := none }) (v := .slice (some ⟨vg, 0, none⟩) i vc) rfl (by kernel_rfl) (by kernel_rfl) (by kernel_rfl) (by kernel_rfl) (fun _ _ _ h => h) (Or.inl ⟨by rfl, ?_⟩) (by assumption) ?_
  · intro wS hSw
    try dsimp only at hSw
    go_simp
    intro hc; omega
  try simp only [Act.put, List.setIfInBounds_toArray, List.set_cons_zero, List.set_cons_succ]
  refine wpAnyU_take (i := 9) (oi := { dst := some 39, op := Op.move (Operand.tmp 0), type := 26, pos := "ref.go:27", after := #[], guard := none }) (v := ?_) rfl (by kernel_rfl) (by kernel_rfl) (by kernel_rfl) (by kernel_rfl) (fun _ _ _ h => h) (Or.inl ⟨by rfl, ?_⟩) (by assumption) ?_
  rotate_left
  · intro wS hSw
    try dsimp only at hSw
    go_simp
    try with_reducible rfl
  try simp only [Act.put, List.setIfInBounds_toArray, List.set_cons_zero, List.set_cons_succ]
  refine wpAnyU_take (i := 10) (oi := { dst := some 40, op := Op.nilCheck (Operand.tmp 39), type := 0, pos := "ref.go:27", after := #[{ on := 9, ground := Ground.data }], guard := none }) (v := ?_) rfl (by kernel_rfl) (by kernel_rfl) (by kernel_rfl) (by kernel_rfl) (fun _ _ _ h => h) (Or.inl ⟨by rfl, ?_⟩) (by assumption) ?_
  rotate_left
  · intro wS hSw
    try dsimp only at hSw
    go_simp
    try with_reducible rfl
  try simp only [Act.put, List.setIfInBounds_toArray, List.set_cons_zero, List.set_cons_succ]
  refine wpAnyU_take (i := 11) (oi := { dst := some 41, op := Op.fieldAddr 30 (Operand.tmp 40) 1, type := 0, pos := "ref.go:27", after := #[{ on := 10, ground := Ground.data }], guard := none }) (v := ?_) rfl (by kernel_rfl) (by kernel_rfl) (by kernel_rfl) (by kernel_rfl) (fun _ _ _ h => h) (Or.inl ⟨by rfl, ?_⟩) (by assumption) ?_
  rotate_left
  · intro wS hSw
    try dsimp only at hSw
    go_simp
    try with_reducible rfl
  try simp only [Act.put, List.setIfInBounds_toArray, List.set_cons_zero, List.set_cons_succ]
  refine wpAnyU_take (i := 12) (oi := { dst := some 42, op := Op.load 28 (Operand.tmp 41), type := 28, pos := "ref.go:27", after := #[{ on := 11, ground := Ground.data }], guard := none }) (v := ?_) rfl (by kernel_rfl) (by kernel_rfl) (by kernel_rfl) (by kernel_rfl) (fun _ _ _ h => h) (Or.inl ⟨by rfl, ?_⟩) (by assumption) ?_
  rotate_left
  · intro wS hSw
    try dsimp only at hSw
    go_simp
    try with_reducible rfl
  try simp only [Act.put, List.setIfInBounds_toArray, List.set_cons_zero, List.set_cons_succ]
  refine wpAnyU_take (i := 13) (oi := { dst := some 43, op := Op.move (Operand.tmp 5), type := 3, pos := "ref.go:27", after := #[], guard := none }) (v := ?_) rfl (by kernel_rfl) (by kernel_rfl) (by kernel_rfl) (by kernel_rfl) (fun _ _ _ h => h) (Or.inl ⟨by rfl, ?_⟩) (by assumption) ?_
  rotate_left
  · intro wS hSw
    try dsimp only at hSw
    go_simp
    try with_reducible rfl
  try simp only [Act.put, List.setIfInBounds_toArray, List.set_cons_zero, List.set_cons_succ]
  refine wpAnyU_take (i := 14) (oi := { dst := some 44, op := Op.binOp BinOp.add 3 (Operand.tmp 43) (Operand.const (Value.int IntKind.i64 1)) 3, type := 3, pos := "ref.go:27", after := #[{ on := 13, ground := Ground.data }], guard := none }) (v := ?_) rfl (by kernel_rfl) (by kernel_rfl) (by kernel_rfl) (by kernel_rfl) (fun _ _ _ h => h) (Or.inl ⟨by rfl, ?_⟩) (by assumption) ?_
  rotate_left
  · intro wS hSw
    try dsimp only at hSw
    go_simp
    try with_reducible rfl
  try simp only [Act.put, List.setIfInBounds_toArray, List.set_cons_zero, List.set_cons_succ]
  refine wpAnyU_take (i := 15) (oi := { dst := some 45, op := Op.slice 28 (Operand.tmp 42) (some (Operand.tmp 44)) none none, type := 28, pos := "ref.go:27", after := #[{ on := 12, ground := Ground.data }, { on := 14, ground := Ground.data }], guard := none }) (v := .slice (some skB) (n - (i + 1)) (vc - (i + 1))) rfl (by kernel_rfl) (by kernel_rfl) (by kernel_rfl) (by kernel_rfl) (fun _ _ _ h => h) (Or.inl ⟨by rfl, ?_⟩) (by assumption) ?_
  · intro wS hSw
    try dsimp only at hSw
    go_simp
    intro hc; exact absurd (hc (by omega)) (by omega)
  try simp only [Act.put, List.setIfInBounds_toArray, List.set_cons_zero, List.set_cons_succ]
  refine wpAnyU_one (i := 1) (o := { dst := some 31, op := Op.buildSlice 28 0 #[], type := 28, pos := "ref.go:27", after := #[], guard := none }) (by kernel_rfl) rfl (fun K hK => ?_)
  go_simp
  refine hK.out _ _ ?_ (fun hHeld1 => ?_)
  · exact fun _ => S1B.out
  clear hK K
  try simp only [Act.put, List.setIfInBounds_toArray, List.set_cons_zero, List.set_cons_succ]
  refine wpAnyU_one (i := 8) (o := { dst := some 38, op := Op.call { callee := Callee.builtin Builtin.append, args := #[Operand.tmp 31, Operand.tmp 37], argTypes := #[28, 28] }, type := 28, pos := "ref.go:27", after := #[{ on := 1, ground := Ground.data }, { on := 7, ground := Ground.data }], guard := none }) (by kernel_rfl) rfl (fun K hK => ?_)
  rw [if_pos (by rfl)]
  refine Lib.wp_append_run _ _ _ _ _ rfl _ _ rfl rfl _ _ R1B.out ?_
  refine hK.out _ _ ?_ (fun hHeld8 => ?_)
  · exact fun _ => S2B.out
  clear hK K
  try simp only [Act.put, List.setIfInBounds_toArray, List.set_cons_zero, List.set_cons_succ]
  refine wpAnyU_one (i := 16) (o := { dst := some 46, op := Op.call { callee := Callee.builtin Builtin.append, args := #[Operand.tmp 38, Operand.tmp 45], argTypes := #[28, 28] }, type := 28, pos := "ref.go:27", after := #[{ on := 8, ground := Ground.data }, { on := 15, ground := Ground.data }, { on := 8, ground := Ground.chain }], guard := none }) (by kernel_rfl) rfl (fun K hK => ?_)
  rw [if_pos (by rfl)]
  refine Lib.wp_append_run _ _ _ _ _ rfl _ _ rfl rfl _ _ R2B.out ?_
  refine hK.out _ _ ?_ (fun hHeld16 => ?_)
  · exact fun _ => S3B.out
  clear hK K
  try simp only [Act.put, List.setIfInBounds_toArray, List.set_cons_zero, List.set_cons_succ]
  refine wpAnyU_one (i := 17) (o := { dst := some 47, op := Op.nilCheck (Operand.tmp 30), type := 0, pos := "ref.go:27", after := #[{ on := 0, ground := Ground.data }, { on := 0, ground := Ground.phase }, { on := 1, ground := Ground.phase }, { on := 2, ground := Ground.phase }, { on := 3, ground := Ground.phase }, { on := 4, ground := Ground.phase }, { on := 5, ground := Ground.phase }, { on := 6, ground := Ground.phase }, { on := 7, ground := Ground.phase }, { on := 8, ground := Ground.phase }, { on := 9, ground := Ground.phase }, { on := 10, ground := Ground.phase }, { on := 11, ground := Ground.phase }, { on := 12, ground := Ground.phase }, { on := 13, ground := Ground.phase }, { on := 14, ground := Ground.phase }, { on := 15, ground := Ground.phase }, { on := 16, ground := Ground.phase }], guard := none }) (by kernel_rfl) rfl (fun K hK => ?_)
  go_simp
  refine hK.out _ _ ?_ (fun hHeld17 => ?_)
  · exact fun _ => S3B.out
  clear hK K
  try simp only [Act.put, List.setIfInBounds_toArray, List.set_cons_zero, List.set_cons_succ]
  refine wpAnyU_one (i := 18) (o := { dst := some 48, op := Op.fieldAddr 30 (Operand.tmp 47) 1, type := 0, pos := "ref.go:27", after := #[{ on := 17, ground := Ground.data }, { on := 0, ground := Ground.phase }, { on := 1, ground := Ground.phase }, { on := 2, ground := Ground.phase }, { on := 3, ground := Ground.phase }, { on := 4, ground := Ground.phase }, { on := 5, ground := Ground.phase }, { on := 6, ground := Ground.phase }, { on := 7, ground := Ground.phase }, { on := 8, ground := Ground.phase }, { on := 9, ground := Ground.phase }, { on := 10, ground := Ground.phase }, { on := 11, ground := Ground.phase }, { on := 12, ground := Ground.phase }, { on := 13, ground := Ground.phase }, { on := 14, ground := Ground.phase }, { on := 15, ground := Ground.phase }, { on := 16, ground := Ground.phase }], guard := none }) (by kernel_rfl) rfl (fun K hK => ?_)
  go_simp
  refine hK.out _ _ ?_ (fun hHeld18 => ?_)
  · exact fun _ => S3B.out
  clear hK K
  try simp only [Act.put, List.setIfInBounds_toArray, List.set_cons_zero, List.set_cons_succ]
  refine wpAnyU_one (i := 19) (o := { dst := none, op := Op.store 28 (Operand.tmp 48) (Operand.tmp 46), type := 0, pos := "ref.go:27", after := #[{ on := 18, ground := Ground.data }, { on := 16, ground := Ground.data }, { on := 16, ground := Ground.chain }, { on := 0, ground := Ground.phase }, { on := 1, ground := Ground.phase }, { on := 2, ground := Ground.phase }, { on := 3, ground := Ground.phase }, { on := 4, ground := Ground.phase }, { on := 5, ground := Ground.phase }, { on := 6, ground := Ground.phase }, { on := 7, ground := Ground.phase }, { on := 8, ground := Ground.phase }, { on := 9, ground := Ground.phase }, { on := 10, ground := Ground.phase }, { on := 11, ground := Ground.phase }, { on := 12, ground := Ground.phase }, { on := 13, ground := Ground.phase }, { on := 14, ground := Ground.phase }, { on := 15, ground := Ground.phase }, { on := 16, ground := Ground.phase }], guard := none }) (by kernel_rfl) rfl (fun K hK => ?_)
  go_simp
  refine hK.out _ _ ?_ (fun hHeld19 => ?_)
  · exact fun h => absurd h (by decide)
  clear hK K
  try simp only [Act.put, List.setIfInBounds_toArray, List.set_cons_zero, List.set_cons_succ]
  refine wpAnyU_done (by kernel_rfl) ?_ _
  rw [HW7.out]
  go_wp2_with fail
  go_ret
  exact ⟨rfl, HEND.out.1, _, _, _, _, HEND.out.2⟩
set_option maxHeartbeats 800000 in
theorem cancelR_any (w : World) (base rp : Nat) (R : RL) (ka : Option Addr) (kc : Nat) (va : Option Addr) (vc : Nat) (k : Int) (h : RW w base rp R ka kc va vc) (hd : (R.map (·.1)).Nodup) (hn : R.length ≤ 1000000) (hb0 : base ≤ w.heap.size) :
    Calls Try.prog 10 #[.pointer (some ⟨rp, 0, none⟩), .int .i64 k] w fun e w' => e = .returned (.bool (decide (k ∈ R.map (·.1)))) ∧ OnlyS (· = rp) w w' ∧ ∃ ka' kc' va' vc', RW w' base rp (cR k R) ka' kc' va' vc' := by
  rcases idxL_spec k (R.map (·.1)) with ⟨h1, h2⟩ | ⟨i, h1, h2, h3, h4⟩
  · have hA := findR_any w base rp R ka kc va vc k h hn
    rw [h1] at hA
    have HA := hide hA
    rw [cR_not h2, decide_eq_false h2]
    have HE := hide h
    clear hA h h1 h2 hd
    go_enter Try.func10, Try.ntmps10
    go_wp2_with fail
    refine HA.out.mono ?_
    rintro e w1 ⟨rfl, rfl⟩
    go_wp2_with fail
    go_ret
    exact ⟨rfl, OnlyS.refl _ _, _, _, _, _, HE.out⟩
  · have hc := cancelR_cut w base rp R ka kc va vc k i h hn h2 (by simpa using h1) hb0
    rw [cR_erase k R i hd h3] at hc
    rw [decide_eq_true (List.mem_of_getElem? h3)]
    exact hc
end Go.Proofs.Ytdjkoomgapflcaa
