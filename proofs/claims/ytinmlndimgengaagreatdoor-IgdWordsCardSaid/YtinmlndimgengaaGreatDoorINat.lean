/- What the router says of address translation. -/
import Derived.Test.YtinmlndimgengaaGreatDoorIArgs
namespace Go.Proofs.YtinmlndimgengaaGreatDoor
open Go.RowKit Go.Deep
set_option linter.unusedVariables false
set_option linter.unusedSimpArgs false
set_option maxRecDepth 100000
theorem yes_any (b : Bool) (w : World) : Calls Tryz.prog 154 #[.bool b] w fun e w' => e = .returned (.string (if b then ⟨#[49]⟩ else ⟨#[48]⟩)) ∧ w' = w := by
  cases b <;>
  · go_enter Tryz.func154, Tryz.ntmps154
    go_wp2_with fail
    go_ret
    exact ⟨rfl, rfl⟩
def natL : List ByteArray := [⟨#[78, 101, 119, 82, 83, 73, 80, 65, 118, 97, 105, 108, 97, 98, 108, 101]⟩, ⟨#[48]⟩, ⟨#[78, 101, 119, 78, 65, 84, 69, 110, 97, 98, 108, 101, 100]⟩, ⟨#[49]⟩]
set_option maxHeartbeats 1000000 in
theorem nat_any (w : World) (rq : Array Value) (hr : rq.size = 32) :
    Calls Tryz.prog 111 #[.agg rq] w fun e w' => ∃ v, e = .returned (.tuple #[v, .int .i64 0]) ∧ w'.ownsRow w.heap.size 75 2 v 2 (natL.map .string) ∧ Below w.heap.size w w' := by
  obtain ⟨W, hW, hb⟩ : ∃ W, w.alloc (.cells rq 113) = W ∧ Below w.heap.size w W := ⟨_, rfl, (Below.refl _ _).alloc (Nat.le_refl _) _⟩
  obtain ⟨V, hV, hv, hb2⟩ : ∃ V, W.alloc (.cells #[.string ⟨#[78, 101, 119, 82, 83, 73, 80, 65, 118, 97, 105, 108, 97, 98, 108, 101]⟩, .string ⟨#[48]⟩, .string ⟨#[78, 101, 119, 78, 65, 84, 69, 110, 97, 98, 108, 101, 100]⟩, .string ⟨#[49]⟩] 9) = V ∧ V.heap[W.heap.size]? = some (.cells #[.string ⟨#[78, 101, 119, 82, 83, 73, 80, 65, 118, 97, 105, 108, 97, 98, 108, 101]⟩, .string ⟨#[48]⟩, .string ⟨#[78, 101, 119, 78, 65, 84, 69, 110, 97, 98, 108, 101, 100]⟩, .string ⟨#[49]⟩] 9 (0, 0)) ∧ Below W.heap.size W V := ⟨_, rfl, heap_alloc_new _ _, (Below.refl _ _).alloc (Nat.le_refl _) _⟩
  obtain ⟨B, hB⟩ : ∃ b, W.heap.size = b := ⟨_, rfl⟩
  rw [hB] at hv
  have HA := hide (args_any V (some ⟨B, 0, none⟩) 4 2 4 natL (SRow.of_block (xs := natL) hv) rfl rfl (by omega))
  have HB := hide (hb.trans (hb2.mono hb.size))
  have HE := hide (And.intro hW (And.intro hV hB))
  have HY1 := hide (yes_any false W)
  have HY2 := hide (yes_any true W)
  clear hW hb hV hv hb2 hB
  go_enter Tryz.func111, Tryz.ntmps111
  go_upto_region 1 with (fail)
  rw [HE.out.1]
  go_wp2_with fail
  refine HY1.out.mono ?_
  rintro e w1 ⟨rfl, hq⟩
  obtain rfl := hq.symm
  go_wp2_with fail
  refine HY2.out.mono ?_
  rintro e w1 ⟨rfl, hq⟩
  obtain rfl := hq.symm
  go_wp2_with fail
  rw [HE.out.2.1, HE.out.2.2]
  refine HA.out.mono ?_
  rintro e w2 ⟨v, rfl, ho, b2⟩
  have HO := hide (owns_mono ho HB.out.size)
  have HB2 := hide (HB.out.trans (b2.mono HB.out.size))
  clear ho b2
  go_wp2_with fail
  exact bodyPost_ret (v := .tuple #[v, .int .i64 0]) (by simp [results, Tryz.results111, go_sem]) rfl ⟨v, rfl, HO.out, HB2.out⟩
theorem right_nil (w : World) (a : Option Addr) (c : Nat) : Calls Tryz.prog 41 #[.slice a 0 c, .slice none 0 0] w fun e w' => e = .returned (.bool true) ∧ w' = w := by
  go_enter Tryz.func41, Tryz.ntmps41
  go_wp2_with fail
  go_loop [16] (fun i => i = .int .i64 0) (fun _ => 0)
  case atStart => rfl
  case round =>
    obtain rfl := hrel
    go_wp2_with fail
    go_ret
    exact ⟨rfl, rfl⟩
theorem size_foldl (xs : List (Value × Nat)) (D : Array Value) : (xs.foldl (fun (cs : Array Value) (x : Value × Nat) => cs.setIfInBounds x.snd x.fst) D).size = D.size := by
  induction xs generalizing D with
  | nil => rfl
  | cons x r ih => rw [List.foldl_cons, ih]; simp
theorem nat_others : ((List.range 15).all fun j => j == 6 || !eqS (nmA j) ⟨#[71, 101, 116, 78, 65, 84, 82, 83, 73, 80, 83, 116, 97, 116, 117, 115]⟩) = true := by kernel_rfl
theorem nat_other (j : Nat) (h : j < 15) (h6 : j ≠ 6) : eqS (nmA j) ⟨#[71, 101, 116, 78, 65, 84, 82, 83, 73, 80, 83, 116, 97, 116, 117, 115]⟩ = false := by
  have h1 := List.all_eq_true.1 nat_others j (List.mem_range.2 h)
  have h2 : (j == 6) = false := by simp [h6]
  rw [h2] at h1
  simpa using h1
theorem nat_six : eqS (nmA 6) ⟨#[71, 101, 116, 78, 65, 84, 82, 83, 73, 80, 83, 116, 97, 116, 117, 115]⟩ = true := by kernel_rfl
theorem nat_idx {j : Nat} (h : findI nmA ⟨#[71, 101, 116, 78, 65, 84, 82, 83, 73, 80, 83, 116, 97, 116, 117, 115]⟩ j) : j = 6 := by
  by_cases h6 : j = 6
  · exact h6
  · have := h.2.1
    rw [nat_other j h.1 h6] at this
    cases this
theorem svc_eq : eqS ⟨#[117, 114, 110, 58, 115, 99, 104, 101, 109, 97, 115, 45, 117, 112, 110, 112, 45, 111, 114, 103, 58, 115, 101, 114, 118, 105, 99, 101, 58, 87, 65, 78, 73, 80, 67, 111, 110, 110, 101, 99, 116, 105, 111, 110, 58, 50]⟩ ⟨#[117, 114, 110, 58, 115, 99, 104, 101, 109, 97, 115, 45, 117, 112, 110, 112, 45, 111, 114, 103, 58, 115, 101, 114, 118, 105, 99, 101, 58, 87, 65, 78, 73, 80, 67, 111, 110, 110, 101, 99, 116, 105, 111, 110, 58, 50]⟩ = true := by kernel_rfl
theorem info_call : (Tryz.prog.info? 40).map (·.size) = some 3 := by kernel_rfl
/-- A call, stored whole. -/
theorem st_call {ops : Array Oper} {rest : List Oper} {o : Oper} {a : Act} {w : World} {Q : Exit → Act → World → Prop} (x y : Operand) (ho : o.op = .store 40 x y) (hw : Region.wanted o (yielded ops a.tmps) = true)
    (g : Nat) (hx : a.eval x = .pointer (some ⟨g, 0, none⟩)) (c cs : Array Value) (hy : a.eval y = .agg cs) (hg : w.heap[g]? = some (.cells c 40 (0, 0))) (hc : c.size = 3) (hs : cs.size = 3) (h1 : cs.all (·.oneCell') = true)
    {N : Nat} {w0 : World} (hB : Below N w0 w) (hN : N ≤ g)
    (h : ∀ w', w'.heap[g]? = some (.cells cs 40 (0, 0)) → Below N w0 w' → (∀ k, k ≠ g → w'.heap[k]? = w.heap[k]?) → w'.heap.size = w.heap.size → wpList Tryz.prog ops Q rest (a.put o.dst undef) w') : wpList Tryz.prog ops Q (o :: rest) a w := by
  refine BigFrame.wpList_want hw fun K hK => ?_
  unfold Oper.wp execOp
  simp only [ho, hx, hy, Instr.storeAt, Instr.sureAddr, Sem.run_bind, Sem.run_pure, Result.andThen_ok, run_storeVar_row w g 40 40 c cs hg (by rw [hs]; exact info_call) (by omega) h1]
  exact hK _ _ (h _ (setRow_heap w g c cs _ _ hg) (below_setRow hB hN cs) (fun k hk => setRow_other w g k cs hk) (setRow_size w g cs))
set_option maxHeartbeats 2000000 in
theorem do_nat (w : World) (sc : Array Value) (hs : sc.size = 31) (sv an : ByteArray) (a : Option Addr) (c : Nat) (hsv : sv = ⟨#[117, 114, 110, 58, 115, 99, 104, 101, 109, 97, 115, 45, 117, 112, 110, 112, 45, 111, 114, 103, 58, 115, 101, 114, 118, 105, 99, 101, 58, 87, 65, 78, 73, 80, 67, 111, 110, 110, 101, 99, 116, 105, 111, 110, 58, 50]⟩) (han : an = ⟨#[71, 101, 116, 78, 65, 84, 82, 83, 73, 80, 83, 116, 97, 116, 117, 115]⟩) :
    Calls Tryz.prog 14 #[.agg sc, .agg #[.string sv, .string an, .slice a 0 c]] w fun e w' => ∃ v, e = .returned (.tuple #[.agg #[.string ⟨#[117, 114, 110, 58, 115, 99, 104, 101, 109, 97, 115, 45, 117, 112, 110, 112, 45, 111, 114, 103, 58, 115, 101, 114, 118, 105, 99, 101, 58, 87, 65, 78, 73, 80, 67, 111, 110, 110, 101, 99, 116, 105, 111, 110, 58, 50]⟩, .string ⟨#[71, 101, 116, 78, 65, 84, 82, 83, 73, 80, 83, 116, 97, 116, 117, 115, 82, 101, 115, 112, 111, 110, 115, 101]⟩, v], .int .i64 0]) ∧ w'.ownsRow w.heap.size 75 2 v 2 (natL.map .string) ∧ Below w.heap.size w w' := by
  obtain ⟨W1, hW1, x1, b1⟩ : ∃ W, w.alloc (.cells sc 46) = W ∧ W.heap[w.heap.size]? = some (.cells sc 46 (0, 0)) ∧ Below w.heap.size w W := ⟨_, rfl, heap_alloc_new _ _, (Below.refl _ _).alloc (Nat.le_refl _) _⟩
  obtain ⟨W2, hW2, x2, b2⟩ : ∃ W, W1.alloc (.cells #[.string sv, .string an, .slice a 0 c] 40) = W ∧ W.heap[W1.heap.size]? = some (.cells #[.string sv, .string an, .slice a 0 c] 40 (0, 0)) ∧ Below W1.heap.size W1 W := ⟨_, rfl, heap_alloc_new _ _, (Below.refl _ _).alloc (Nat.le_refl _) _⟩
  obtain ⟨W3, hW3, x3, b3⟩ : ∃ W, W2.alloc (.cells #[.string ⟨#[]⟩, .string ⟨#[]⟩, .slice none 0 0] 40) = W ∧ W.heap[W2.heap.size]? = some (.cells #[.string ⟨#[]⟩, .string ⟨#[]⟩, .slice none 0 0] 40 (0, 0)) ∧ Below W2.heap.size W2 W := ⟨_, rfl, heap_alloc_new _ _, (Below.refl _ _).alloc (Nat.le_refl _) _⟩
  have hz2 : W1.heap.size = w.heap.size + 1 := by rw [← hW1]; simp
  have hz3 : W2.heap.size = w.heap.size + 1 + 1 := by rw [← hW2]; simp [hz2]
  rw [hz2] at x2
  rw [hz3] at x3
  have y2 := below_blk b3 x2 (by rw [hz3]; omega)
  have y1 := below_blk b3 (below_blk b2 x1 (by rw [hz2]; omega)) (by rw [hz3]; omega)
  obtain ⟨S, hS⟩ : ∃ b, w.heap.size = b := ⟨_, rfl⟩
  obtain ⟨C, hC⟩ : ∃ b, S + 1 = b := ⟨_, rfl⟩
  obtain ⟨R, hR⟩ : ∃ b, C + 1 = b := ⟨_, rfl⟩
  rw [hS] at y1 y2 x3
  rw [hC] at y2 x3
  rw [hR] at x3
  have HX := hide (And.intro y1 (And.intro y2 x3))
  have HB := hide ((b1.trans (b2.mono b1.size)).trans (b3.mono (b1.trans (b2.mono b1.size)).size))
  have HE := hide (And.intro hW1 (And.intro hW2 (And.intro hW3 (And.intro hS (And.intro hC hR)))))
  obtain ⟨c0, c1, c2, cf⟩ := three_cells y2
  have HF := hide (find_any W3 an)
  have HAN := hide (And.intro hsv han)
  clear hW1 hW2 hW3 x1 x2 x3 y1 y2 b1 b2 b3 hz2 hz3 hS hC hR hsv han
  go_enter Tryz.func14, Tryz.ntmps14
  go_upto_region 1 with (fail)
  rw [HE.out.1]
  try rw [HE.out.2.1]
  try rw [HE.out.2.2.1]
  try rw [HE.out.2.2.2.1]
  try rw [HE.out.2.2.2.2.1]
  try rw [HE.out.2.2.2.2.2]
  go_wp2_with fail
  refine HF.out.mono ?_
  rintro e w1 ⟨hb, hres⟩
  have hres2 : e = .returned (.tuple #[.agg #[.string ⟨#[71, 101, 116, 78, 65, 84, 82, 83, 73, 80, 83, 116, 97, 116, 117, 115]⟩, .slice none 0 0, .func (.func 111) #[] #[]], .bool true]) := by
    rw [HAN.out.2] at hres
    rcases hres with ⟨j, ta, ⟨_, _, _, _, _, _, rfl⟩, h1, h2⟩ | ⟨h1, _⟩
    · obtain rfl := nat_idx h1
      exact h2
    · have := h1 6 (by omega)
      rw [nat_six] at this
      cases this
  subst hres2
  have HB1 := hide (HB.out.trans (hb.mono HB.out.size))
  have HX1 := hide (show w1.heap[S]? = _ ∧ w1.heap[C]? = _ ∧ w1.heap[R]? = _ from ⟨below_blk hb HX.out.1 (Nat.le_refl _), below_blk hb HX.out.2.1 (Nat.le_refl _), below_blk hb HX.out.2.2 (Nat.le_refl _)⟩)
  clear hres hb HF c0 c1 c2 cf
  obtain ⟨c0, c1, c2, cf⟩ := three_cells HX1.out.2.1
  go_upto_region 2 with (fail)
  obtain ⟨V, hV, v1, vb⟩ : ∃ V, w1.alloc (.cells #[.string ⟨#[71, 101, 116, 78, 65, 84, 82, 83, 73, 80, 83, 116, 97, 116, 117, 115]⟩, .slice none 0 0, .func (.func 111) #[] #[]] 107) = V ∧ V.heap[w1.heap.size]? = some (.cells #[.string ⟨#[71, 101, 116, 78, 65, 84, 82, 83, 73, 80, 83, 116, 97, 116, 117, 115]⟩, .slice none 0 0, .func (.func 111) #[] #[]] 107 (0, 0)) ∧ Below w1.heap.size w1 V := ⟨_, rfl, heap_alloc_new _ _, (Below.refl _ _).alloc (Nat.le_refl _) _⟩
  obtain ⟨A, hA⟩ : ∃ b, w1.heap.size = b := ⟨_, rfl⟩
  rw [hA] at v1
  rw [hV, hA]
  have e1 : (sv.toList == (⟨#[117, 114, 110, 58, 115, 99, 104, 101, 109, 97, 115, 45, 117, 112, 110, 112, 45, 111, 114, 103, 58, 115, 101, 114, 118, 105, 99, 101, 58, 87, 65, 78, 73, 80, 67, 111, 110, 110, 101, 99, 116, 105, 111, 110, 58, 50]⟩ : ByteArray).toList) = true := by rw [HAN.out.1]; exact svc_eq
  have e3 : sv.toList = (⟨#[117, 114, 110, 58, 115, 99, 104, 101, 109, 97, 115, 45, 117, 112, 110, 112, 45, 111, 114, 103, 58, 115, 101, 114, 118, 105, 99, 101, 58, 87, 65, 78, 73, 80, 67, 111, 110, 110, 101, 99, 116, 105, 111, 110, 58, 50]⟩ : ByteArray).toList := by rw [HAN.out.1]
  have HV := hide (And.intro v1 (And.intro (below_blk vb HX1.out.1 (Nat.le_refl _)) (And.intro (below_blk vb HX1.out.2.1 (Nat.le_refl _)) (below_blk vb HX1.out.2.2 (Nat.le_refl _)))))
  have HVB := hide (HB1.out.trans (vb.mono HB1.out.size))
  clear c0 c1 c2 cf hV hA v1 vb HX1 HB1
  obtain ⟨c0, c1, c2, cf⟩ := three_cells HV.out.2.2.1
  obtain ⟨a0, a1, a2, af⟩ := three_cells HV.out.1
  have HRN := hide (right_nil V a c)
  have HRG := hide (show V.rangeAt S 0 sc.toList from fun j v hv => by
    have h3 : sc[j]? = some v := by simpa using hv
    rw [cell_of_row _ _ _ _ _ (0, 0) HV.out.2.1, Nat.zero_add]
    exact h3)
  obtain ⟨D, hD⟩ : ∃ D, Array.foldl (fun (cs : Array Value) (x : Value × Nat) => cs.setIfInBounds x.snd x.fst) #[.pointer none, .int .u8 0, .int .u8 0, .int .u8 0, .int .u8 0, .int .u8 0, .int .u8 0, .int .u8 0, .int .u8 0, .int .u8 0, .int .u8 0, .int .u8 0, .int .u8 0, .int .u8 0, .int .u8 0, .int .u8 0, .int .u8 0, .int .u8 0, .int .u8 0, .int .u32 0, .int .u32 0, .int .i64 0, .int .i64 0, .int .i64 0, .int .i64 0, .int .i64 0, .slice none 0 0, .int .u32 0, .string ⟨#[]⟩, .int .u32 0, .int .u64 0, .slice none 0 0] sc.zipIdx 0 31 = D := ⟨_, rfl⟩
  have hDz : D.size = 32 := by
    have h9 : ∀ n, n = sc.zipIdx.size → (Array.foldl (fun (cs : Array Value) (x : Value × Nat) => cs.setIfInBounds x.snd x.fst) #[.pointer none, .int .u8 0, .int .u8 0, .int .u8 0, .int .u8 0, .int .u8 0, .int .u8 0, .int .u8 0, .int .u8 0, .int .u8 0, .int .u8 0, .int .u8 0, .int .u8 0, .int .u8 0, .int .u8 0, .int .u8 0, .int .u8 0, .int .u8 0, .int .u8 0, .int .u32 0, .int .u32 0, .int .i64 0, .int .i64 0, .int .i64 0, .int .i64 0, .int .i64 0, .slice none 0 0, .int .u32 0, .string ⟨#[]⟩, .int .u32 0, .int .u64 0, .slice none 0 0] sc.zipIdx 0 n).size = 32 := by
      rintro n rfl
      rw [← Array.foldl_toList, size_foldl]
      rfl
    rw [← hD]
    exact h9 31 (by simp [hs])
  have his : (Tryz.prog.info? 46).map (·.size) = some sc.toList.length := by rw [Array.length_toList, hs]; kernel_rfl
  go_wp2_with fail
  refine HRN.out.mono ?_
  rintro e w2 ⟨rfl, hq⟩
  obtain rfl := hq.symm
  clear HRN
  go_wp2_with ((refine wpList_load_mid rfl 46 (.tmp 2) rfl S 0 rfl sc.toList _ HRG.out Tryz.underlying46 rfl his ?_; rw [Array.toArray_toList]; try simp only [Act.put, List.setIfInBounds_toArray, List.set_cons_zero, List.set_cons_succ]))
  refine (nat_any V (D.setIfInBounds 31 (.slice a 0 c)) (by simp [hDz])).mono ?_
  rintro e w3 ⟨v, rfl, ho, b9⟩
  have HB3 := hide (HVB.out.trans (b9.mono HVB.out.size))
  have h1 := below_blk b9 HV.out.2.2.2 (Nat.le_refl _)
  have h2 := below_blk b9 HV.out.1 (Nat.le_refl _)
  have HR9 := hide h1
  clear c0 c1 c2 cf a0 a1 a2 af
  obtain ⟨a0, a1, a2, af⟩ := three_cells h2
  obtain ⟨cp, n2, rfl⟩ := slice_form ho
  have HO := hide ho
  have HRV := hide (lt_of_block HV.out.2.2.2)
  clear ho b9 h1 h2 hD hDz his
  go_wp2_with ((refine st_call (.tmp 4) (.tmp 49) rfl (by rfl) R rfl _ _ rfl HR9.out rfl rfl (by simp [Value.oneCell']) HB3.out (by have := HE.out; omega) ?_; rintro w4 hr2 hb2 ho2 hs2; have HB4 := hide hb2; obtain ⟨t0, t1, t2, tf⟩ := three_cells hr2; try simp only [Act.put, List.setIfInBounds_toArray, List.set_cons_zero, List.set_cons_succ]))
  have t1' : w4.cell? ⟨R, 1, none⟩ = some (.string ⟨#[71, 101, 116, 78, 65, 84, 82, 83, 73, 80, 83, 116, 97, 116, 117, 115, 82, 101, 115, 112, 111, 110, 115, 101]⟩) := t1.trans (by kernel_rfl)
  clear t1
  refine bodyPost_ret (v := .tuple #[.agg #[.string ⟨#[117, 114, 110, 58, 115, 99, 104, 101, 109, 97, 115, 45, 117, 112, 110, 112, 45, 111, 114, 103, 58, 115, 101, 114, 118, 105, 99, 101, 58, 87, 65, 78, 73, 80, 67, 111, 110, 110, 101, 99, 116, 105, 111, 110, 58, 50]⟩, .string ⟨#[71, 101, 116, 78, 65, 84, 82, 83, 73, 80, 83, 116, 97, 116, 117, 115, 82, 101, 115, 112, 111, 110, 115, 101]⟩, .slice cp 2 n2], .int .i64 0]) (by simp [results, Tryz.results14, go_sem, t0, t1', t2]) rfl ⟨.slice cp 2 n2, rfl, ?_, HB4.out⟩
  have ho := HO.out
  refine ⟨ho.1, ?_⟩
  rcases ho.2 with h2 | ⟨g, cap, cur, hv, h2, h3, h4⟩
  · exact .inl h2
  · exact .inr ⟨g, cap, cur, hv, Nat.le_trans HVB.out.size h2, (ho2 g (by have := HRV.out; omega)).trans h3, h4⟩
end Go.Proofs.YtinmlndimgengaaGreatDoor
