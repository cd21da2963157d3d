/- Which forward a port has: the program's and the document's. -/
import Derived.Test.YtinmlndimgengaaGreatDoorCSpeaks
import Derived.Deep.RegionHeld3
import Derived.Laws.CopyOwn
namespace Go.Proofs.YtinmlndimgengaaGreatDoor
open Go.RowKit
set_option linter.unusedVariables false
set_option linter.unusedSimpArgs false
set_option maxRecDepth 100000
abbrev Fwd := Nat × Nat × Nat × Nat
/-- Forwards that can be read. -/
def FwAt (w : World) (a : Option Addr) (fs : List Fwd) : Prop := fs ≠ [] → ∃ b off, a = some ⟨b, off, none⟩ ∧ b < w.heap.size ∧ ∀ i f, fs[i]? = some f →
  w.cell? ⟨b, off + i * 4, none⟩ = some (.int .u8 (f.1 : Int)) ∧ w.cell? ⟨b, off + i * 4 + 1, none⟩ = some (.int .u16 (f.2.1 : Int)) ∧ w.cell? ⟨b, off + i * 4 + 2, none⟩ = some (.int .u16 (f.2.2.1 : Int)) ∧ w.cell? ⟨b, off + i * 4 + 3, none⟩ = some (.int .u32 (f.2.2.2 : Int))
theorem FwAt.below {w w' : World} {a : Option Addr} {fs : List Fwd} {B : Nat} (h : FwAt w a fs) (hb : Below B w w') (hB : w.heap.size ≤ B) : FwAt w' a fs := by
  intro hne
  obtain ⟨b, off, rfl, hlt, hc⟩ := h hne
  refine ⟨b, off, rfl, Nat.lt_of_lt_of_le hlt hb.size, fun i f hi => ?_⟩
  obtain ⟨c0, c1, c2, c3⟩ := hc i f hi
  have k : ∀ o, w'.cell? ⟨b, o, none⟩ = w.cell? ⟨b, o, none⟩ := fun o => hb.cell (p := ⟨b, o, none⟩) (show b < B by omega)
  exact ⟨(k _).trans c0, (k _).trans c1, (k _).trans c2, (k _).trans c3⟩
theorem FwAt.cells {w : World} {a : Option Addr} {fs : List Fwd} (h : FwAt w a fs) {j : Nat} (hj : j < fs.length) : ∃ b off, a = some ⟨b, off, none⟩ ∧ b < w.heap.size ∧
    w.cell? ⟨b, off + j * 4, none⟩ = some (.int .u8 ((fs[j]'hj).1 : Int)) ∧ w.cell? ⟨b, off + j * 4 + 1, none⟩ = some (.int .u16 ((fs[j]'hj).2.1 : Int)) ∧ w.cell? ⟨b, off + j * 4 + 2, none⟩ = some (.int .u16 ((fs[j]'hj).2.2.1 : Int)) ∧ w.cell? ⟨b, off + j * 4 + 3, none⟩ = some (.int .u32 ((fs[j]'hj).2.2.2 : Int)) := by
  obtain ⟨b, off, rfl, hlt, hc⟩ := h (by intro e; subst e; simp at hj)
  exact ⟨b, off, rfl, hlt, hc j _ (List.getElem?_eq_getElem hj)⟩
def hitB (p q : Nat) (f : Fwd) : Bool := f.1 == p && f.2.1 == q
def findL (fs : List Fwd) (p q : Nat) : Option Fwd := fs.find? (hitB p q)
def fwF (o : Option Fwd) : Fwd := o.getD (0, 0, 0, 0)
theorem find_hit {fs : List Fwd} {p q j : Nat} (hj : j < fs.length) (hb : ∀ i f, i < j → fs[i]? = some f → hitB p q f = false) (hh : hitB p q (fs[j]'hj) = true) : findL fs p q = some (fs[j]'hj) := by
  unfold findL
  rw [List.find?_eq_some_iff_getElem]
  refine ⟨hh, j, hj, rfl, fun i hi => ?_⟩
  rw [hb i _ hi (List.getElem?_eq_getElem (by omega))]; rfl
theorem find_none {fs : List Fwd} {p q : Nat} (hb : ∀ i f, i < fs.length → fs[i]? = some f → hitB p q f = false) : findL fs p q = none := by
  unfold findL
  rw [List.find?_eq_none]
  intro f hf
  obtain ⟨i, hi, rfl⟩ := List.mem_iff_getElem.1 hf
  rw [hb i _ hi (List.getElem?_eq_getElem hi)]; decide
theorem hit_more {fs : List Fwd} {p q j : Nat} (hj : j < fs.length) (hb : ∀ i f, i < j → fs[i]? = some f → hitB p q f = false) (hh : hitB p q (fs[j]'hj) = false) : ∀ i f, i < j + 1 → fs[i]? = some f → hitB p q f = false := by
  intro i f hi hf
  by_cases h : i = j
  · subst h; rw [List.getElem?_eq_getElem hj] at hf; cases hf; exact hh
  · exact hb i f (by omega) hf
theorem four_cells {w : World} {R : Nat} {t : TypeId} {v0 v1 v2 v3 : Value} (h : w.heap[R]? = some (.cells #[v0, v1, v2, v3] t (0, 0))) : w.cell? ⟨R, 0, none⟩ = some v0 ∧ w.cell? ⟨R, 1, none⟩ = some v1 ∧ w.cell? ⟨R, 2, none⟩ = some v2 ∧ w.cell? ⟨R, 3, none⟩ = some v3 ∧ ∀ i, w.frozen? ⟨R, i, none⟩ = false := by
  refine ⟨?_, ?_, ?_, ?_, fun i => ?_⟩ <;> simp [World.cell?, World.frozen?, h]
theorem info_fwd : (Tryz.prog.info? 89).map (·.size) = some 4 := by kernel_rfl
theorem all4 (k0 k1 k2 k3 : IntKind) (a b c d : Int) : (#[.int k0 a, .int k1 b, .int k2 c, .int k3 d] : Array Value).all (·.oneCell') = true := by
  simp [Value.oneCell']
/-- A forward, stored whole. -/
theorem st_fwd {ops : Array Oper} {rest : List Oper} {o : Oper} {a : Act} {w : World} {Q : Exit → Act → World → Prop} (x y : Operand) (ho : o.op = .store 89 x y) (hw : Region.wanted o (yielded ops a.tmps) = true)
    (g : Nat) (hx : a.eval x = .pointer (some ⟨g, 0, none⟩)) (c cs : Array Value) (hy : a.eval y = .agg cs) (hg : w.heap[g]? = some (.cells c 89 (0, 0))) (hc : c.size = 4) (hs : cs.size = 4) (h1 : cs.all (·.oneCell') = true)
    {N : Nat} {w0 : World} (hB : Below N w0 w) (hN : N ≤ g)
    (h : ∀ w', w'.heap[g]? = some (.cells cs 89 (0, 0)) → Below N w0 w' → (∀ k, k ≠ g → w'.heap[k]? = w.heap[k]?) → w'.heap.size = w.heap.size → wpList Tryz.prog ops Q rest (a.put o.dst undef) w') : wpList Tryz.prog ops Q (o :: rest) a w := by
  refine BigFrame.wpList_want hw fun K hK => ?_
  unfold Oper.wp execOp
  simp only [ho, hx, hy, Instr.storeAt, Instr.sureAddr, Sem.run_bind, Sem.run_pure, Result.andThen_ok, run_storeVar_row w g 89 89 c cs hg (by rw [hs]; exact info_fwd) (by omega) h1]
  exact hK _ _ (h _ (setRow_heap w g c cs _ _ hg) (below_setRow hB hN cs) (fun k hk => setRow_other w g k cs hk) (setRow_size w g cs))
set_option maxHeartbeats 1600000 in
theorem first_any (w : World) (a : Option Addr) (fs : List Fwd) (n cap p q : Nat) (h : FwAt w a fs) (hl : fs.length = n) (hn : n ≤ 1000000) :
    Calls Tryz.prog 263 #[.slice a n cap, .int .u8 (p : Int), .int .u16 (q : Int)] w fun e w' => e = .returned (.tuple #[.agg #[.int .u8 ((fwF (findL fs p q)).1 : Int), .int .u16 ((fwF (findL fs p q)).2.1 : Int), .int .u16 ((fwF (findL fs p q)).2.2.1 : Int), .int .u32 ((fwF (findL fs p q)).2.2.2 : Int)], .bool (findL fs p q).isSome]) ∧ Below w.heap.size w w' := by
  have HO := hide h
  have HL := hide hl
  clear h hl
  obtain ⟨o, ho⟩ : ∃ o, findL fs p q = o := ⟨_, rfl⟩
  rw [ho]
  have HFO := hide ho
  clear ho
  go_enter Tryz.func263, Tryz.ntmps263
  go_wp2_with fail
  have hr0 := heap_alloc_new w (.cells #[.int .u8 0, .int .u16 0, .int .u16 0, .int .u32 0] 89)
  obtain ⟨R, w0, hR, hw0, HR0, HB0⟩ : ∃ R wt, w.heap.size = R ∧ w.alloc (.cells #[.int .u8 0, .int .u16 0, .int .u16 0, .int .u32 0] 89) = wt ∧ Hid (wt.heap[R]? = some (.cells #[.int .u8 0, .int .u16 0, .int .u16 0, .int .u32 0] 89 (0, 0))) ∧ Hid (Below w.heap.size w wt) := ⟨_, _, rfl, rfl, hide hr0, hide ((Below.refl _ _).alloc (Nat.le_refl _) _)⟩
  rw [hw0, hR]
  have HR := hide hR
  clear hr0 hw0 hR
  go_loopw [12] (fun i wz => ∃ j : Nat, j ≤ n ∧ i = .int .i64 j ∧ Hid (∀ i f, i < j → fs[i]? = some f → hitB p q f = false) ∧ Hid (wz.heap[R]? = some (.cells #[.int .u8 0, .int .u16 0, .int .u16 0, .int .u32 0] 89 (0, 0))) ∧ Hid (Below w.heap.size w wz)) (fun i _ => n - (intOf i).toNat)
  case atStart => exact ⟨0, Nat.zero_le _, rfl, hide (fun i f h => by omega), HR0, HB0⟩
  case round =>
    clear HR0 HB0
    obtain ⟨j, hj, rfl, HI, HRz, HBz⟩ := hrel
    obtain ⟨wa, rfl⟩ : ∃ wa, wa = wr := ⟨_, rfl⟩
    by_cases hlt : j < n
    · have hjl : j < fs.length := by rw [HL.out]; exact hlt
      obtain ⟨b, off, rfl, hb, c0, c1, c2, c3⟩ := (HO.out.cells hjl)
      have k : ∀ o, wa.cell? ⟨b, o, none⟩ = w.cell? ⟨b, o, none⟩ := fun o => HBz.out.cell (p := ⟨b, o, none⟩) hb
      have d0 := (k _).trans c0
      have d1 := (k _).trans c1
      have d2 := (k _).trans c2
      have d3 := (k _).trans c3
      obtain ⟨f, hf⟩ : ∃ f, fs[j]'hjl = f := ⟨_, rfl⟩
      have HMORE := hide (fun hh => hit_more (p := p) (q := q) hjl HI.out hh)
      have HHIT := hide (fun hh => find_hit (p := p) (q := q) hjl HI.out hh)
      rw [hf] at d0 d1 d2 d3 HMORE HHIT
      obtain ⟨f0, f1, f2, f3⟩ := f
      simp only at d0 d1 d2 d3
      clear hf k c0 c1 c2 c3
      have HBA := hide (HBz.out.alloc HBz.out.size (.cells #[.int .u8 (f0 : Int), .int .u16 (f1 : Int), .int .u16 (f2 : Int), .int .u32 (f3 : Int)] 89))
      have HRA := hide (below_blk ((Below.refl wa.heap.size wa).alloc (Nat.le_refl _) (.cells #[.int .u8 (f0 : Int), .int .u16 (f1 : Int), .int .u16 (f2 : Int), .int .u32 (f3 : Int)] 89)) HRz.out (Nat.le_refl _))
      by_cases h0 : f0 = p
      · have e0 : ((f0 : Int) == (p : Int)) = true := by simp [h0]
        by_cases h1 : f1 = q
        · have e1 : ((f1 : Int) == (q : Int)) = true := by simp [h1]
          have HE := hide (show o = some (f0, f1, f2, f3) by rw [← HFO.out]; exact HHIT.out (by simp [hitB, h0, h1]))
          obtain ⟨r0, r1, r2, r3, rf⟩ := four_cells HRA.out
          have hRlt : R < wa.heap.size := lt_of_block HRz.out
          clear h0 h1 HMORE HHIT
          go_wp2_with ((refine st_fwd (.tmp 6) (.tmp 26) rfl (by rfl) R rfl _ #[.int .u8 (f0 : Int), .int .u16 (f1 : Int), .int .u16 (f2 : Int), .int .u32 (f3 : Int)] rfl HRA.out rfl rfl (all4 _ _ _ _ _ _ _ _) HBA.out (Nat.le_of_eq HR.out) ?_; rintro w2 hr2 hb2 ho2 hs2; have HB2 := hide hb2; obtain ⟨t0, t1, t2, t3, tf⟩ := four_cells hr2; clear hr2 hb2 ho2 hs2 tf r0 r1 r2 r3 rf; try simp only [Act.put, List.setIfInBounds_toArray, List.set_cons_zero, List.set_cons_succ]))
          refine bodyPost_ret (v := .tuple #[.agg #[.int .u8 (f0 : Int), .int .u16 (f1 : Int), .int .u16 (f2 : Int), .int .u32 (f3 : Int)], .bool true]) (by simp [results, Tryz.results263, go_sem, t0, t1, t2, t3]) rfl ⟨?_, HB2.out⟩
          rw [HE.out]; rfl
        · have e1 : ((f1 : Int) == (q : Int)) = false := by simp; omega
          have HN := hide (HMORE.out (by simp [hitB, h1]))
          clear h0 h1 HMORE HHIT
          go_wp2_with fail
          go_roundw
          case rel => exact ⟨j + 1, by omega, by go_num, HN, HRA, HBA⟩
          case measure => simp [intOf]; omega
      · have e0 : ((f0 : Int) == (p : Int)) = false := by simp; omega
        have HN := hide (HMORE.out (by simp [hitB, h0]))
        clear h0 HMORE HHIT
        go_wp2_with fail
        go_roundw
        case rel => exact ⟨j + 1, by omega, by go_num, HN, HRA, HBA⟩
        case measure => simp [intOf]; omega
    · have HE := hide (show o = none by rw [← HFO.out]; exact find_none (fun i f hi hf => HI.out i f (by have := HL.out; omega) hf))
      obtain ⟨r0, r1, r2, r3, rf⟩ := four_cells HRz.out
      go_wp2_with ((refine st_fwd (.tmp 6) (.tmp 28) rfl (by rfl) R rfl _ #[.int .u8 0, .int .u16 0, .int .u16 0, .int .u32 0] rfl HRz.out rfl rfl (all4 _ _ _ _ _ _ _ _) HBz.out (Nat.le_of_eq HR.out) ?_; rintro w2 hr2 hb2 ho2 hs2; have HB2 := hide hb2; obtain ⟨t0, t1, t2, t3, tf⟩ := four_cells hr2; clear hr2 hb2 ho2 hs2 tf r0 r1 r2 r3 rf; try simp only [Act.put, List.setIfInBounds_toArray, List.set_cons_zero, List.set_cons_succ]))
      refine bodyPost_ret (v := .tuple #[.agg #[.int .u8 0, .int .u16 0, .int .u16 0, .int .u32 0], .bool false]) (by simp [results, Tryz.results263, go_sem, t0, t1, t2, t3]) rfl ⟨?_, HB2.out⟩
      rw [HE.out]; rfl
end Go.Proofs.YtinmlndimgengaaGreatDoor

/- Which forward a port has, of a configuration. -/
namespace Go.Proofs.YtinmlndimgengaaGreatDoor
open Go.RowKit
set_option linter.unusedVariables false
set_option linter.unusedSimpArgs false
set_option maxRecDepth 100000
/-- The cell of a configuration that has its forwards. -/
structure CfF (cs : Array Value) (a : Option Addr) (n cap : Nat) : Prop where
  size : cs.size = 28
  fw : cs[25]? = some (.slice a n cap)
set_option maxHeartbeats 1600000 in
theorem findC_any (cs : Array Value) (w : World) (a : Option Addr) (fs : List Fwd) (n cap p q : Nat) (hc : CfF cs a n cap) (h : FwAt w a fs) (hl : fs.length = n) (hn : n ≤ 1000000) :
    Calls Tryz.prog 251 #[.agg cs, .int .u8 (p : Int), .int .u16 (q : Int)] w fun e w' => e = .returned (.tuple #[.agg #[.int .u8 ((fwF (findL fs p q)).1 : Int), .int .u16 ((fwF (findL fs p q)).2.1 : Int), .int .u16 ((fwF (findL fs p q)).2.2.1 : Int), .int .u32 ((fwF (findL fs p q)).2.2.2 : Int)], .bool (findL fs p q).isSome]) ∧ Below w.heap.size w w' := by
  obtain ⟨_, c25⟩ := Array.getElem?_eq_some_iff.1 hc.fw
  have hs := hc.size
  have hb1 := (Below.refl w.heap.size w).alloc (Nat.le_refl _) (.cells cs 28)
  have hb2 := hb1.alloc hb1.size (.cells #[.int .u8 0, .int .u16 0, .int .u16 0, .int .u32 0] 89)
  have HF := hide (first_any _ a fs n cap p q (h.below hb2 (Nat.le_refl _)) hl hn)
  have hr := heap_alloc_new (w.alloc (.cells cs 28)) (.cells #[.int .u8 0, .int .u16 0, .int .u16 0, .int .u32 0] 89)
  have hsz : (w.alloc (.cells cs 28)).heap.size = w.heap.size + 1 := by simp
  rw [hsz] at hr
  have HR := hide hr
  have HB := hide hb2
  obtain ⟨f, hf⟩ : ∃ f, fwF (findL fs p q) = f := ⟨_, rfl⟩
  obtain ⟨g, hg⟩ : ∃ f, (findL fs p q).isSome = f := ⟨_, rfl⟩
  rw [hf, hg] at HF
  rw [hf, hg]
  obtain ⟨f0, f1, f2, f3⟩ := f
  simp only at HF
  clear h hl hc hb1 hb2 hr hsz hf hg
  go_enter Tryz.func251, Tryz.ntmps251
  go_wp2_with fail
  refine HF.out.mono ?_
  rintro e w1 ⟨rfl, b1⟩
  have HR1 := hide (below_blk b1 HR.out (Nat.le_refl _))
  have HB1 := hide (HB.out.trans (b1.mono HB.out.size))
  clear HF b1 HR HB
  go_wp2_with ((refine st_fwd (.tmp 6) (.tmp 13) rfl (by rfl) (w.heap.size + 1) rfl _ #[.int .u8 (f0 : Int), .int .u16 (f1 : Int), .int .u16 (f2 : Int), .int .u32 (f3 : Int)] rfl HR1.out rfl rfl (all4 _ _ _ _ _ _ _ _) HB1.out (Nat.le_succ _) ?_; rintro w2 hr2 hb2 ho2 hs2; have HB2 := hide hb2; obtain ⟨t0, t1, t2, t3, tf⟩ := four_cells hr2; clear hr2 hb2 ho2 hs2 tf; try simp only [Act.put, List.setIfInBounds_toArray, List.set_cons_zero, List.set_cons_succ]))
  refine bodyPost_ret (v := .tuple #[.agg #[.int .u8 (f0 : Int), .int .u16 (f1 : Int), .int .u16 (f2 : Int), .int .u32 (f3 : Int)], .bool g]) (by simp [results, Tryz.results251, go_sem, t0, t1, t2, t3]) rfl ⟨rfl, HB2.out⟩
set_option maxHeartbeats 1600000 in
theorem findR_any (cs : Array Value) (w : World) (a : Option Addr) (fs : List Fwd) (n cap p q : Nat) (hc : CfF cs a n cap) (h : FwAt w a fs) (hl : fs.length = n) (hn : n ≤ 1000000) :
    Calls Tryz.prog 173 #[.agg cs, .int .u8 (p : Int), .int .u16 (q : Int)] w fun e w' => e = .returned (.tuple #[.agg #[.int .u8 ((fwF (findL fs p q)).1 : Int), .int .u16 ((fwF (findL fs p q)).2.1 : Int), .int .u16 ((fwF (findL fs p q)).2.2.1 : Int), .int .u32 ((fwF (findL fs p q)).2.2.2 : Int)], .bool (findL fs p q).isSome]) ∧ Below w.heap.size w w' := by
  obtain ⟨_, c25⟩ := Array.getElem?_eq_some_iff.1 hc.fw
  have hs := hc.size
  have hb1 := (Below.refl w.heap.size w).alloc (Nat.le_refl _) (.cells cs 28)
  have hb2 := hb1.alloc hb1.size (.cells #[.int .u8 0, .int .u16 0, .int .u16 0, .int .u32 0] 89)
  have hr := heap_alloc_new (w.alloc (.cells cs 28)) (.cells #[.int .u8 0, .int .u16 0, .int .u16 0, .int .u32 0] 89)
  have hsz : (w.alloc (.cells cs 28)).heap.size = w.heap.size + 1 := by simp
  rw [hsz] at hr
  have hcc := below_blk ((Below.refl (w.alloc (.cells cs 28)).heap.size _).alloc (Nat.le_refl _) (.cells #[.int .u8 0, .int .u16 0, .int .u16 0, .int .u32 0] 89)) (heap_alloc_new w (.cells cs 28)) (Nat.le_refl _)
  have hcw := h.below hb2 (Nat.le_refl _)
  have HL := hide hl
  obtain ⟨o, ho⟩ : ∃ o, findL fs p q = o := ⟨_, rfl⟩
  rw [ho]
  have HFO := hide ho
  obtain ⟨B, R, w0, hB, hR, hw0, HC0, HR0, HB0, HW0⟩ : ∃ B R wt, w.heap.size = B ∧ w.heap.size + 1 = R ∧ (w.alloc (.cells cs 28)).alloc (.cells #[.int .u8 0, .int .u16 0, .int .u16 0, .int .u32 0] 89) = wt ∧ Hid (wt.heap[B]? = some (.cells cs 28 (0, 0))) ∧ Hid (wt.heap[R]? = some (.cells #[.int .u8 0, .int .u16 0, .int .u16 0, .int .u32 0] 89 (0, 0))) ∧ Hid (Below w.heap.size w wt) ∧ Hid (FwAt wt a fs) := ⟨_, _, _, rfl, rfl, rfl, hide hcc, hide hr, hide hb2, hide hcw⟩
  have HRB := hide (show w.heap.size ≤ R by omega)
  have HEQ := hide (And.intro hB (And.intro hR hw0))
  clear hb1 hb2 hr hsz hcc hcw h hl ho hB hR hw0
  go_enter Tryz.func173, Tryz.ntmps173
  go_wp2_with fail
  rw [HEQ.out.2.2, HEQ.out.2.1, HEQ.out.1]
  have d25 : w0.cell? ⟨B, 25, none⟩ = some (.slice a n cap) := by rw [cell_of_row w0 B 25 cs _ _ HC0.out, Array.getElem?_eq_getElem (by omega), c25]
  clear c25 hs hc HEQ
  go_loop [8] (fun i => ∃ j : Nat, j ≤ n ∧ i = .int .i64 j ∧ Hid (∀ i f, i < j → fs[i]? = some f → hitB p q f = false)) (fun i => n - (intOf i).toNat)
  case atStart => exact ⟨0, Nat.zero_le _, rfl, hide (fun i f h => by omega)⟩
  case round =>
    obtain ⟨j, hj, rfl, HI⟩ := hrel
    by_cases hlt : j < n
    · have hjl : j < fs.length := by rw [HL.out]; exact hlt
      obtain ⟨b, off, rfl, hb, d0, d1, d2, d3⟩ := (HW0.out.cells hjl)
      obtain ⟨f, hf⟩ : ∃ f, fs[j]'hjl = f := ⟨_, rfl⟩
      have HMORE := hide (fun hh => hit_more (p := p) (q := q) hjl HI.out hh)
      have HHIT := hide (fun hh => find_hit (p := p) (q := q) hjl HI.out hh)
      rw [hf] at d0 d1 d2 d3 HMORE HHIT
      obtain ⟨f0, f1, f2, f3⟩ := f
      simp only at d0 d1 d2 d3
      clear hf
      by_cases h0 : f0 = p
      · have e0 : ((f0 : Int) == (p : Int)) = true := by simp [h0]
        by_cases h1 : f1 = q
        · have e1 : ((f1 : Int) == (q : Int)) = true := by simp [h1]
          have HE := hide (show o = some (f0, f1, f2, f3) by rw [← HFO.out]; exact HHIT.out (by simp [hitB, h0, h1]))
          clear h0 h1 HMORE HHIT
          go_wp2_with ((refine st_fwd (.tmp 6) (.tmp 38) rfl (by rfl) R rfl _ #[.int .u8 (f0 : Int), .int .u16 (f1 : Int), .int .u16 (f2 : Int), .int .u32 (f3 : Int)] rfl HR0.out rfl rfl (all4 _ _ _ _ _ _ _ _) HB0.out HRB.out ?_; rintro w2 hr2 hb2 ho2 hs2; have HB2 := hide hb2; obtain ⟨t0, t1, t2, t3, tf⟩ := four_cells hr2; clear hr2 hb2 ho2 hs2 tf; try simp only [Act.put, List.setIfInBounds_toArray, List.set_cons_zero, List.set_cons_succ]))
          refine bodyPost_ret (v := .tuple #[.agg #[.int .u8 (f0 : Int), .int .u16 (f1 : Int), .int .u16 (f2 : Int), .int .u32 (f3 : Int)], .bool true]) (by simp [results, Tryz.results173, go_sem, t0, t1, t2, t3]) rfl ⟨?_, HB2.out⟩
          rw [HE.out]; rfl
        · have e1 : ((f1 : Int) == (q : Int)) = false := by simp; omega
          have HN := hide (HMORE.out (by simp [hitB, h1]))
          clear h0 h1 HMORE HHIT
          go_wp2_with fail
          go_round
          case rel => exact ⟨j + 1, by omega, by go_num, HN⟩
          case measure => simp [intOf]; omega
      · have e0 : ((f0 : Int) == (p : Int)) = false := by simp; omega
        have HN := hide (HMORE.out (by simp [hitB, h0]))
        clear h0 HMORE HHIT
        go_wp2_with fail
        go_round
        case rel => exact ⟨j + 1, by omega, by go_num, HN⟩
        case measure => simp [intOf]; omega
    · have HE := hide (show o = none by rw [← HFO.out]; exact find_none (fun i f hi hf => HI.out i f (by have := HL.out; omega) hf))
      go_wp2_with ((refine st_fwd (.tmp 6) (.tmp 39) rfl (by rfl) R rfl _ #[.int .u8 0, .int .u16 0, .int .u16 0, .int .u32 0] rfl HR0.out rfl rfl (all4 _ _ _ _ _ _ _ _) HB0.out HRB.out ?_; rintro w2 hr2 hb2 ho2 hs2; have HB2 := hide hb2; obtain ⟨t0, t1, t2, t3, tf⟩ := four_cells hr2; clear hr2 hb2 ho2 hs2 tf; try simp only [Act.put, List.setIfInBounds_toArray, List.set_cons_zero, List.set_cons_succ]))
      refine bodyPost_ret (v := .tuple #[.agg #[.int .u8 0, .int .u16 0, .int .u16 0, .int .u32 0], .bool false]) (by simp [results, Tryz.results173, go_sem, t0, t1, t2, t3]) rfl ⟨?_, HB2.out⟩
      rw [HE.out]; rfl
end Go.Proofs.YtinmlndimgengaaGreatDoor
