/- An action by its name. -/
import Derived.Test.YtinmlndimgengaaGreatDoorIAct
import Derived.Laws.EntriesVeiled
namespace Go.Proofs.YtinmlndimgengaaGreatDoor
open Go.RowKit Go.Deep
set_option linter.unusedVariables false
set_option linter.unusedSimpArgs false
set_option maxRecDepth 100000
theorem info_act : (Tryz.prog.info? 107).map (·.size) = some 3 := by kernel_rfl
theorem three_cells {w : World} {R : Nat} {t : TypeId} {v0 v1 v2 : Value} (h : w.heap[R]? = some (.cells #[v0, v1, v2] t (0, 0))) : w.cell? ⟨R, 0, none⟩ = some v0 ∧ w.cell? ⟨R, 1, none⟩ = some v1 ∧ w.cell? ⟨R, 2, none⟩ = some v2 ∧ ∀ i, w.frozen? ⟨R, i, none⟩ = false := by
  refine ⟨?_, ?_, ?_, fun i => ?_⟩ <;> simp [World.cell?, World.frozen?, h]
/-- An action, stored whole. -/
theorem st_act {ops : Array Oper} {rest : List Oper} {o : Oper} {a : Act} {w : World} {Q : Exit → Act → World → Prop} (x y : Operand) (ho : o.op = .store 107 x y) (hw : Region.wanted o (yielded ops a.tmps) = true)
    (g : Nat) (hx : a.eval x = .pointer (some ⟨g, 0, none⟩)) (c cs : Array Value) (hy : a.eval y = .agg cs) (hg : w.heap[g]? = some (.cells c 107 (0, 0))) (hc : c.size = 3) (hs : cs.size = 3) (h1 : cs.all (·.oneCell') = true)
    {N : Nat} {w0 : World} (hB : Below N w0 w) (hN : N ≤ g)
    (h : ∀ w', w'.heap[g]? = some (.cells cs 107 (0, 0)) → Below N w0 w' → (∀ k, k ≠ g → w'.heap[k]? = w.heap[k]?) → w'.heap.size = w.heap.size → wpList Tryz.prog ops Q rest (a.put o.dst undef) w') : wpList Tryz.prog ops Q (o :: rest) a w := by
  refine BigFrame.wpList_want hw fun K hK => ?_
  unfold Oper.wp execOp
  simp only [ho, hx, hy, Instr.storeAt, Instr.sureAddr, Sem.run_bind, Sem.run_pure, Result.andThen_ok, run_storeVar_row w g 107 107 c cs hg (by rw [hs]; exact info_act) (by omega) h1]
  exact hK _ _ (h _ (setRow_heap w g c cs _ _ hg) (below_setRow hB hN cs) (fun k hk => setRow_other w g k cs hk) (setRow_size w g cs))

theorem one3 (a : ByteArray) (b : Option Addr) (n c : Nat) (f : FuncId) : (#[.string a, .slice b n c, .func (.func f) #[] #[]] : Array Value).all (·.oneCell') = true := by simp [Value.oneCell']
theorem one3z : (#[.string ⟨#[]⟩, .slice none 0 0, .nilFunc] : Array Value).all (·.oneCell') = true := by simp [Value.oneCell']
/-- The actions' names, what they take, what they do. -/
structure ActAt (w : World) (b : Nat) (nm : Nat → ByteArray) (ta : Nat → Option Addr × Nat × Nat) (fn : Nat → FuncId) : Prop where
  lt : b < w.heap.size
  c0 : ∀ j, j < 15 → w.cell? ⟨b, j * 3, none⟩ = some (.string (nm j))
  c1 : ∀ j, j < 15 → w.cell? ⟨b, j * 3 + 1, none⟩ = some (.slice (ta j).1 (ta j).2.1 (ta j).2.2)
  c2 : ∀ j, j < 15 → w.cell? ⟨b, j * 3 + 2, none⟩ = some (.func (.func (fn j)) #[] #[])
def eqS (a b : ByteArray) : Bool := a.toList == b.toList
def findI (nm : Nat → ByteArray) (s : ByteArray) (j : Nat) : Prop := j < 15 ∧ eqS (nm j) s = true ∧ ∀ i, i < j → eqS (nm i) s = false
set_option maxHeartbeats 4000000 in
theorem find_of (w : World) (s : ByteArray) (nm : Nat → ByteArray) (fn : Nat → FuncId) (P : (Nat → Option Addr × Nat × Nat) → Prop)
    (hact : Calls Tryz.prog 61 #[] (w.alloc (.cells #[.string ⟨#[]⟩, .slice none 0 0, .nilFunc] 107)) fun e w' => ∃ b ta, P ta ∧ e = .returned (.slice (some ⟨b, 0, none⟩) 15 15) ∧ ActAt w' b nm ta fn ∧ Below (w.heap.size + 1) (w.alloc (.cells #[.string ⟨#[]⟩, .slice none 0 0, .nilFunc] 107)) w') :
    Calls Tryz.prog 40 #[.string s] w fun e w' => Below w.heap.size w w' ∧ ((∃ j ta, P ta ∧ findI nm s j ∧ e = .returned (.tuple #[.agg #[.string (nm j), .slice (ta j).1 (ta j).2.1 (ta j).2.2, .func (.func (fn j)) #[] #[]], .bool true])) ∨ ((∀ j, j < 15 → eqS (nm j) s = false) ∧ e = .returned (.tuple #[.agg #[.string ⟨#[]⟩, .slice none 0 0, .nilFunc], .bool false]))) := by
  have hr0 := heap_alloc_new w (.cells #[.string ⟨#[]⟩, .slice none 0 0, .nilFunc] 107)
  obtain ⟨w0, hw0, HB0⟩ : ∃ wt, w.alloc (.cells #[.string ⟨#[]⟩, .slice none 0 0, .nilFunc] 107) = wt ∧ Hid (Below w.heap.size w wt) := ⟨_, rfl, hide ((Below.refl _ _).alloc (Nat.le_refl _) _)⟩
  obtain ⟨R, hR⟩ : ∃ R, w.heap.size = R := ⟨_, rfl⟩
  have hsz : w0.heap.size = R + 1 := by rw [← hw0, ← hR]; simp
  rw [hw0] at hr0 hact
  rw [hR] at hr0 hact
  have HACT := hide hact
  have HR0 := hide hr0
  have HW := hide (And.intro hw0 hR)
  have HZ := hide hsz
  clear hr0 hact hw0 hR hsz
  go_enter Tryz.func40, Tryz.ntmps40
  go_upto_region 1 with (fail)
  rw [HW.out.1, HW.out.2]
  go_wp2_with fail
  refine HACT.out.mono ?_
  rintro e w1 ⟨b, ta, hP, rfl, ha, hb⟩
  have HP := hide hP
  have HA := hide ha
  have HR1 := hide (show w1.heap[R]? = some (.cells #[.string ⟨#[]⟩, .slice none 0 0, .nilFunc] 107 (0, 0)) from (hb.block R (by omega)).trans HR0.out)
  have HB1 := hide (HB0.out.trans (hb.mono (by have := HW.out.2; omega)))
  clear ha hb hP HACT HR0 HB0
  go_wp2_with fail
  go_loopw [8] (fun i wz => ∃ j : Nat, j ≤ 15 ∧ i = .int .i64 j ∧ Hid (∀ i, i < j → eqS (nm i) s = false) ∧ Hid (wz.heap[R]? = some (.cells #[.string ⟨#[]⟩, .slice none 0 0, .nilFunc] 107 (0, 0))) ∧ Hid (Below w1.heap.size w1 wz)) (fun i _ => 15 - (intOf i).toNat)
  case atStart => exact ⟨0, Nat.zero_le _, rfl, hide (fun i h => by omega), HR1, hide (Below.refl _ _)⟩
  case round =>
    obtain ⟨j, hj, rfl, HI, HRz, HBz⟩ := hrel
    obtain ⟨wa, rfl⟩ : ∃ wa, wa = wr := ⟨_, rfl⟩
    have HBW := hide (HB1.out.trans (HBz.out.mono HB1.out.size))
    by_cases hlt : j < 15
    · have d0 := (HBz.out.cell (p := ⟨b, j * 3, none⟩) HA.out.lt).trans (HA.out.c0 j hlt)
      have d1 := (HBz.out.cell (p := ⟨b, j * 3 + 1, none⟩) HA.out.lt).trans (HA.out.c1 j hlt)
      have d2 := (HBz.out.cell (p := ⟨b, j * 3 + 2, none⟩) HA.out.lt).trans (HA.out.c2 j hlt)
      obtain ⟨nj, hnj⟩ : ∃ x, nm j = x := ⟨_, rfl⟩
      obtain ⟨⟨ta0, ta1, ta2⟩, htj⟩ : ∃ x, ta j = x := ⟨_, rfl⟩
      obtain ⟨fj, hfj⟩ : ∃ x, fn j = x := ⟨_, rfl⟩
      rw [hnj] at d0
      rw [htj] at d1
      rw [hfj] at d2
      simp only at d0 d1 d2
      have HNJ := hide (And.intro hnj (And.intro htj hfj))
      clear hnj htj hfj
      have HBA := hide (HBW.out.alloc HBW.out.size (.cells #[.string nj, .slice ta0 ta1 ta2, .func (.func fj) #[] #[]] 107))
      have HBB := hide (HBz.out.alloc HBz.out.size (.cells #[.string nj, .slice ta0 ta1 ta2, .func (.func fj) #[] #[]] 107))
      have HRA := hide (below_blk ((Below.refl wa.heap.size wa).alloc (Nat.le_refl _) (.cells #[.string nj, .slice ta0 ta1 ta2, .func (.func fj) #[] #[]] 107)) HRz.out (Nat.le_refl _))
      have hRlt : R < wa.heap.size := lt_of_block HRz.out
      by_cases he : (nj.toList == s.toList) = true
      · have HE := hide (show eqS nj s = true from he)
        obtain ⟨r0, r1, r2, rf⟩ := three_cells HRA.out
        go_wp2_with ((refine st_act (.tmp 2) (.tmp 16) rfl (by rfl) R rfl _ #[.string nj, .slice ta0 ta1 ta2, .func (.func fj) #[] #[]] rfl HRA.out rfl rfl (one3 _ _ _ _ _) HBA.out (Nat.le_of_eq HW.out.2) ?_; rintro w2 hr2 hb2 ho2 hs2; have HB2 := hide hb2; obtain ⟨t0, t1, t2, tf⟩ := three_cells hr2; clear hr2 hb2 ho2 hs2 tf r0 r1 r2 rf; try simp only [Act.put, List.setIfInBounds_toArray, List.set_cons_zero, List.set_cons_succ]))
        refine bodyPost_ret (v := .tuple #[.agg #[.string nj, .slice ta0 ta1 ta2, .func (.func fj) #[] #[]], .bool true]) (by simp [results, Tryz.results40, go_sem, t0, t1, t2]) rfl ⟨HB2.out,   .inl ⟨j, ta, HP.out, ⟨hlt, by rw [HNJ.out.1]; exact HE.out, HI.out⟩, by rw [HNJ.out.1, HNJ.out.2.1, HNJ.out.2.2]⟩⟩
      · have he : (nj.toList == s.toList) = false := by simpa using he
        have HN := hide (show ∀ i, i < j + 1 → eqS (nm i) s = false from fun i hi => by
          by_cases h2 : i = j
          · subst h2; rw [HNJ.out.1]; exact he
          · exact HI.out i (by omega))
        go_wp2_with fail
        go_roundw
        case rel => exact ⟨j + 1, by omega, by go_num, HN, HRA, HBB⟩
        case measure => simp [intOf]; omega
    · obtain ⟨r0, r1, r2, rf⟩ := three_cells HRz.out
      go_wp2_with ((refine st_act (.tmp 2) (.tmp 18) rfl (by rfl) R rfl _ #[.string ⟨#[]⟩, .slice none 0 0, .nilFunc] rfl HRz.out rfl rfl one3z HBW.out (Nat.le_of_eq HW.out.2) ?_; rintro w2 hr2 hb2 ho2 hs2; have HB2 := hide hb2; obtain ⟨t0, t1, t2, tf⟩ := three_cells hr2; clear hr2 hb2 ho2 hs2 tf r0 r1 r2 rf; try simp only [Act.put, List.setIfInBounds_toArray, List.set_cons_zero, List.set_cons_succ]))
      refine bodyPost_ret (v := .tuple #[.agg #[.string ⟨#[]⟩, .slice none 0 0, .nilFunc], .bool false]) (by simp [results, Tryz.results40, go_sem, t0, t1, t2]) rfl ⟨HB2.out, .inr ⟨fun i hi => HI.out i (by omega), rfl⟩⟩
/-- The actions of the document. -/
def nmA (j : Nat) : ByteArray := ([⟨#[83, 101, 116, 67, 111, 110, 110, 101, 99, 116, 105, 111, 110, 84, 121, 112, 101]⟩, ⟨#[71, 101, 116, 67, 111, 110, 110, 101, 99, 116, 105, 111, 110, 84, 121, 112, 101, 73, 110, 102, 111]⟩, ⟨#[82, 101, 113, 117, 101, 115, 116, 67, 111, 110, 110, 101, 99, 116, 105, 111, 110]⟩, ⟨#[82, 101, 113, 117, 101, 115, 116, 84, 101, 114, 109, 105, 110, 97, 116, 105, 111, 110]⟩, ⟨#[70, 111, 114, 99, 101, 84, 101, 114, 109, 105, 110, 97, 116, 105, 111, 110]⟩, ⟨#[71, 101, 116, 83, 116, 97, 116, 117, 115, 73, 110, 102, 111]⟩, ⟨#[71, 101, 116, 78, 65, 84, 82, 83, 73, 80, 83, 116, 97, 116, 117, 115]⟩, ⟨#[71, 101, 116, 69, 120, 116, 101, 114, 110, 97, 108, 73, 80, 65, 100, 100, 114, 101, 115, 115]⟩, ⟨#[71, 101, 116, 71, 101, 110, 101, 114, 105, 99, 80, 111, 114, 116, 77, 97, 112, 112, 105, 110, 103, 69, 110, 116, 114, 121]⟩, ⟨#[71, 101, 116, 83, 112, 101, 99, 105, 102, 105, 99, 80, 111, 114, 116, 77, 97, 112, 112, 105, 110, 103, 69, 110, 116, 114, 121]⟩, ⟨#[65, 100, 100, 80, 111, 114, 116, 77, 97, 112, 112, 105, 110, 103]⟩, ⟨#[65, 100, 100, 65, 110, 121, 80, 111, 114, 116, 77, 97, 112, 112, 105, 110, 103]⟩, ⟨#[68, 101, 108, 101, 116, 101, 80, 111, 114, 116, 77, 97, 112, 112, 105, 110, 103]⟩, ⟨#[68, 101, 108, 101, 116, 101, 80, 111, 114, 116, 77, 97, 112, 112, 105, 110, 103, 82, 97, 110, 103, 101]⟩, ⟨#[71, 101, 116, 76, 105, 115, 116, 79, 102, 80, 111, 114, 116, 77, 97, 112, 112, 105, 110, 103, 115]⟩] : List ByteArray)[j]?.getD ⟨#[]⟩
def fnA (j : Nat) : FuncId := ([106, 107, 108, 109, 109, 110, 111, 112, 113, 114, 115, 116, 117, 118, 119] : List FuncId)[j]?.getD 0
def taA (ty ix key whole ports lst : Option Addr × Nat × Nat) (j : Nat) : Option Addr × Nat × Nat := [ty, (none, 0, 0), (none, 0, 0), (none, 0, 0), (none, 0, 0), (none, 0, 0), (none, 0, 0), (none, 0, 0), ix, key, whole, whole, key, ports, lst][j]?.getD (none, 0, 0)
abbrev slV (x : Option Addr × Nat × Nat) : Value := .slice x.1 x.2.1 x.2.2
theorem acts_at {w : World} {b : Nat} (ty ix key whole ports lst : Option Addr × Nat × Nat) (h : w.heap[b]? = some (.cells (actsRow (slV ty) (slV ix) (slV key) (slV whole) (slV ports) (slV lst)) 107 (0, 0))) : ActAt w b nmA (taA ty ix key whole ports lst) fnA := by
  refine ⟨lt_of_block h, fun j hj => ?_, fun j hj => ?_, fun j hj => ?_⟩
  · rw [cell_of_row _ _ _ _ _ (0, 0) h]
    match j, hj with
    | 0, _ | 1, _ | 2, _ | 3, _ | 4, _ | 5, _ | 6, _ | 7, _ | 8, _ | 9, _ | 10, _ | 11, _ | 12, _ | 13, _ | 14, _ => rfl
  · rw [cell_of_row _ _ _ _ _ (0, 0) h]
    match j, hj with
    | 0, _ | 1, _ | 2, _ | 3, _ | 4, _ | 5, _ | 6, _ | 7, _ | 8, _ | 9, _ | 10, _ | 11, _ | 12, _ | 13, _ | 14, _ => rfl
  · rw [cell_of_row _ _ _ _ _ (0, 0) h]
    match j, hj with
    | 0, _ | 1, _ | 2, _ | 3, _ | 4, _ | 5, _ | 6, _ | 7, _ | 8, _ | 9, _ | 10, _ | 11, _ | 12, _ | 13, _ | 14, _ => rfl
/-- 'find': the action of a name. -/
theorem find_any (w : World) (s : ByteArray) :
    Calls Tryz.prog 40 #[.string s] w fun e w' => Below w.heap.size w w' ∧ ((∃ j ta, (∃ ty ix key whole ports lst, ta = taA ty ix key whole ports lst) ∧ findI nmA s j ∧ e = .returned (.tuple #[.agg #[.string (nmA j), .slice (ta j).1 (ta j).2.1 (ta j).2.2, .func (.func (fnA j)) #[] #[]], .bool true])) ∨ ((∀ j, j < 15 → eqS (nmA j) s = false) ∧ e = .returned (.tuple #[.agg #[.string ⟨#[]⟩, .slice none 0 0, .nilFunc], .bool false]))) := by
  refine find_of w s nmA fnA _ ((actions_any _).mono ?_)
  rintro e w' ⟨b, ty, ix, key, whole, ports, lst, rfl, hb, ⟨a0, c0, rfl, _⟩, ⟨a1, c1, rfl, _⟩, ⟨a2, c2, rfl, _⟩, ⟨a3, c3, rfl, _⟩, ⟨a4, c4, rfl, _⟩, ⟨a5, c5, rfl, _⟩, hbl⟩
  refine ⟨b, _, ⟨(a0, _, c0), (a1, _, c1), (a2, _, c2), (a3, _, c3), (a4, _, c4), (a5, _, c5), rfl⟩, rfl, acts_at _ _ _ _ _ _ hb, ?_⟩
  have h := hbl
  rw [show (w.alloc (.cells #[.string ⟨#[]⟩, .slice none 0 0, .nilFunc] 107)).heap.size = w.heap.size + 1 by simp] at h
  exact h
end Go.Proofs.YtinmlndimgengaaGreatDoor
