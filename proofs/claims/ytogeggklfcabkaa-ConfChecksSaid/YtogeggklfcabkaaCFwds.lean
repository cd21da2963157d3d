/- Whether the forwards of a configuration are right: the program's. -/
import Derived.Test.YtogeggklfcabkaaCChk
import Derived.Deep.RegionHeld3
import Derived.Deep.Cut
namespace Go.Proofs.Ytogeggklfcabkaa
open Go.RowKit
set_option linter.unusedVariables false
set_option linter.unusedSimpArgs false
set_option maxRecDepth 100000
/-- Is the forward at a place right, and the first one of its port? -/
def okI (c : Cfg) (fs : List Fwd) (i : Nat) : Bool := match fs[i]? with
  | some f => !(findL (fs.take i) f.1 f.2.1).isSome && fwdB c f
  | none => true
def fwdsB (c : Cfg) (fs : List Fwd) : Bool := decide (fs.length ≤ 32) && (List.range fs.length).all (okI c fs)
theorem fwds_long {c : Cfg} {fs : List Fwd} (h : 32 < fs.length) : fwdsB c fs = false := by
  unfold fwdsB; rw [show decide (fs.length ≤ 32) = false by simp; omega]; rfl
theorem fwds_bad {c : Cfg} {fs : List Fwd} {i : Nat} (hi : i < fs.length) (h : okI c fs i = false) : fwdsB c fs = false := by
  unfold fwdsB
  have : (List.range fs.length).all (okI c fs) = false := by
    rw [List.all_eq_false]
    exact ⟨i, List.mem_range.2 hi, by rw [h]; decide⟩
  rw [this, Bool.and_false]
theorem fwds_yes {c : Cfg} {fs : List Fwd} (hl : fs.length ≤ 32) (h : ∀ i, i < fs.length → okI c fs i = true) : fwdsB c fs = true := by
  unfold fwdsB
  rw [show decide (fs.length ≤ 32) = true by simpa using hl, Bool.true_and, List.all_eq_true]
  exact fun i hi => h i (List.mem_range.1 hi)
theorem FwAt.take {w : World} {a : Option Addr} {fs : List Fwd} (h : FwAt w a fs) (j : Nat) : FwAt w a (fs.take j) := by
  intro hne
  obtain ⟨b, off, rfl, hlt, hc⟩ := h (by intro e; subst e; simp at hne)
  refine ⟨b, off, rfl, hlt, fun i f hi => hc i f ?_⟩
  rw [List.getElem?_take] at hi
  split at hi
  · exact hi
  · cases hi
/-- A forward, stored whole, in a region that draws its order. -/
theorem step_st_fwd {ops : Array Oper} {o : Oper} {a : Act} {w : World} {K : Act → World → Prop} {Q : Exit → Act → World → Prop} {E : Prop} (x y : Operand) (ho : o.op = .store 36 x y) (hw : Region.wanted o (yielded ops a.tmps) = true)
    (g : Nat) (hx : a.eval x = .pointer (some ⟨g, 0, none⟩)) (c cs : Array Value) (hy : a.eval y = .agg cs) (hg : w.heap[g]? = some (.cells c 36 (0, 0))) (hc : c.size = 4) (hs : cs.size = 4) (h1 : cs.all (·.oneCell') = true)
    {N : Nat} {w0 : World} (hB : Below N w0 w) (hN : N ≤ g)
    (h : ∀ w', w'.heap[g]? = some (.cells cs 36 (0, 0)) → Below N w0 w' → (∀ k, k ≠ g → w'.heap[k]? = w.heap[k]?) → w'.heap.size = w.heap.size → K (a.put o.dst undef) w') :
    if Region.wanted o (yielded ops a.tmps) = true then Oper.wp Try.prog o a w K Q else E := by
  rw [if_pos hw]
  unfold Oper.wp execOp
  simp only [ho, hx, hy, Instr.storeAt, Instr.sureAddr, Sem.run_bind, Sem.run_pure, Result.andThen_ok, run_storeVar_row w g 36 36 c cs hg (by rw [hs]; exact info_fwd) (by omega) h1]
  exact h _ (setRow_heap w g c cs _ _ hg) (below_setRow hB hN cs) (fun k hk => setRow_other w g k cs hk) (setRow_size w g cs)
theorem ok_more {c : Cfg} {fs : List Fwd} {j : Nat} (hb : ∀ i, i < j → okI c fs i = true) (hh : okI c fs j = true) : ∀ i, i < j + 1 → okI c fs i = true := fun i hi => by
  by_cases h : i = j
  · subst h; exact hh
  · exact hb i (by omega)
set_option maxHeartbeats 600000 in
theorem rightFwds_any (cs : Array Value) (c : Cfg) (a : Option Addr) (fs : List Fwd) (n cap : Nat) (w : World) (hc : CfA cs c a n cap) (hk : CfOk c) (hw : FwAt w a fs) (hl : fs.length = n) (hf : ∀ f ∈ fs, FwOk f) (hn : n ≤ 9223372036854775807) (hm : n ≤ cap) :
    Calls Try.prog 23 #[.agg cs] w fun e w' => e = .returned (.bool (fwdsB c fs)) ∧ Below w.heap.size w w' := by
  obtain ⟨r, hr⟩ : ∃ r, fwdsB c fs = r := ⟨_, rfl⟩
  rw [hr]
  have HR := hide hr
  obtain ⟨_, c25⟩ := Array.getElem?_eq_some_iff.1 hc.fw
  have hs := hc.size
  have HSZ := hide hs
  have HB := hide ((Below.refl w.heap.size w).alloc (Nat.le_refl _) (.cells cs 28))
  have HH0 := hide (heap_alloc_new w (.cells cs 28))
  have HW := hide hw
  have HL := hide hl
  have HC := hide hc
  have HK := hide hk
  have HF := hide hf
  by_cases h32 : 32 < n
  · have h1 : decide (32 < (n : Int)) = true := by simp; omega
    have HE := hide (show r = false by rw [← HR.out]; exact fwds_long (by have := HL.out; omega))
    clear hc hk hw hl hf hr h32
    go_enter Try.func23, Try.ntmps23
    go_wp2_with fail
    go_ret
    exact ⟨by rw [HE.out]; rfl, HB.out⟩
  · have h1 : decide (32 < (n : Int)) = false := by simp; omega
    have hn32 : n ≤ 32 := by omega
    obtain ⟨B, w0, hB, hw0, HH1, HB1⟩ : ∃ B wt, w.heap.size = B ∧ w.alloc (.cells cs 28) = wt ∧ Hid (wt.heap[B]? = some (.cells cs 28 (0, 0))) ∧ Hid (Below w.heap.size w wt) := ⟨_, _, rfl, rfl, HH0, HB⟩
    have HEQ := hide (And.intro hB hw0)
    clear hc hk hw hl hf hr h32 HB HH0 hB hw0
    go_enter Try.func23, Try.ntmps23
    go_wp2_with fail
    rw [HEQ.out.2, HEQ.out.1]
    have HBW := hide HEQ.out.1
    clear HEQ
    go_loopw [14] (fun i wz => ∃ j : Nat, j ≤ n ∧ i = .int .i64 j ∧ Hid (∀ i, i < j → okI c fs i = true) ∧ Hid (wz.heap[B]? = some (.cells cs 28 (0, 0))) ∧ Hid (Below w.heap.size w wz)) (fun i _ => n - (intOf i).toNat)
    case atStart => exact ⟨0, Nat.zero_le _, rfl, hide (fun i h => by omega), HH1, HB1⟩
    case round =>
      clear HH1 HB1
      obtain ⟨j, hj, rfl, HI, HHz, HBz⟩ := hrel
      obtain ⟨wa, rfl⟩ : ∃ wa, wa = wr := ⟨_, rfl⟩
      by_cases hlt : j < n
      · have hjl : j < fs.length := by rw [HL.out]; exact hlt
        have HWa := hide (HW.out.below HBz.out (Nat.le_refl _))
        obtain ⟨b, off, rfl, hb, d0, d1, d2, d3⟩ := HWa.out.cells hjl
        obtain ⟨f, hfj⟩ : ∃ f, fs[j]'hjl = f := ⟨_, rfl⟩
        have hfo := HF.out _ (List.getElem_mem hjl)
        have hoki : okI c fs j = (!(findL (fs.take j) (fs[j]'hjl).1 (fs[j]'hjl).2.1).isSome && fwdB c (fs[j]'hjl)) := by unfold okI; rw [List.getElem?_eq_getElem hjl]
        rw [hfj] at d0 d1 d2 d3 hfo hoki
        obtain ⟨f0, f1, f2, f3⟩ := f
        simp only at d0 d1 d2 d3 hoki
        have hal : Below wa.heap.size wa (wa.alloc (.cells #[.int .u8 (f0 : Int), .int .u16 (f1 : Int), .int .u16 (f2 : Int), .int .u32 (f3 : Int)] 36)) := (Below.refl _ _).alloc (Nat.le_refl _) _
        obtain ⟨Fb, wb, hFb, hwb, HFB, HHB, HBB, HWB⟩ : ∃ X wt, wa.heap.size = X ∧ wa.alloc (.cells #[.int .u8 (f0 : Int), .int .u16 (f1 : Int), .int .u16 (f2 : Int), .int .u32 (f3 : Int)] 36) = wt ∧ Hid (wt.heap[X]? = some (.cells #[.int .u8 (f0 : Int), .int .u16 (f1 : Int), .int .u16 (f2 : Int), .int .u32 (f3 : Int)] 36 (0, 0))) ∧ Hid (wt.heap[B]? = some (.cells cs 28 (0, 0))) ∧ Hid (Below w.heap.size w wt) ∧ Hid (FwAt wt (some ⟨b, off, none⟩) fs) :=
          ⟨_, _, rfl, rfl, hide (heap_alloc_new _ _), hide (below_blk hal HHz.out (Nat.le_refl _)), hide (HBz.out.trans (hal.mono HBz.out.size)), hide (HWa.out.below hal (Nat.le_refl _))⟩
        have HEF := hide (And.intro hFb hwb)
        have hjc : j ≤ cap := by omega
        have z25 : wa.cell? ⟨B, 25, none⟩ = some (.slice (some ⟨b, off, none⟩) n cap) := by rw [cell_of_row wa B 25 cs _ _ HHz.out, Array.getElem?_eq_getElem (by omega), c25]
        have y25 : wb.cell? ⟨B, 25, none⟩ = some (.slice (some ⟨b, off, none⟩) n cap) := by rw [cell_of_row wb B 25 cs _ _ HHB.out, Array.getElem?_eq_getElem (by omega), c25]
        have HFI := hide (fun V (hV : Below wb.heap.size wb V) => first_any V (some ⟨b, off, none⟩) (fs.take j) j cap f0 f1 ((HWB.out.below hV (Nat.le_refl _)).take j) (by rw [List.length_take]; omega) (by omega))
        have HRF := hide (fun V => rightFwd_any cs c (some ⟨b, off, none⟩) n cap V f0 f1 f2 f3 HC.out HK.out hfo)
        obtain ⟨p, hp⟩ : ∃ x, (findL (fs.take j) f0 f1).isSome = x := ⟨_, rfl⟩
        obtain ⟨o, ho⟩ : ∃ x, fwF (findL (fs.take j) f0 f1) = x := ⟨_, rfl⟩
        obtain ⟨q, hq⟩ : ∃ x, fwdB c (f0, f1, f2, f3) = x := ⟨_, rfl⟩
        rw [hp, ho] at HFI
        rw [hq] at HRF
        rw [hp, hq] at hoki
        obtain ⟨o0, o1, o2, o3⟩ := o
        simp only at HFI
        have HOK := hide hoki
        obtain ⟨x0, x1, x2, x3, xf⟩ := four_cells HFB.out
        have hB0 : Below wb.heap.size wb wb.drew := (Below.refl _ _).drew
        have hB1 : Below wb.heap.size wb (wb.drew.alloc (.cells #[.int .u8 0, .int .u16 0, .int .u16 0, .int .u32 0] 36)) := ((Below.refl wb.heap.size wb).drew).alloc (Nat.le_refl _) _
        have HKP := hide (fun (V V' : World) (hb : Below V.heap.size V V') (h : (V.cell? ⟨B, 25, none⟩ = some (.slice (some ⟨b, off, none⟩) n cap) ∧ V.cell? ⟨Fb, 0, none⟩ = some (.int .u8 (f0 : Int)) ∧ V.cell? ⟨Fb, 1, none⟩ = some (.int .u16 (f1 : Int)))) => (⟨(hb.cell (p := ⟨B, 25, none⟩) (block_lt_of_cell h.1)).trans h.1, (hb.cell (p := ⟨Fb, 0, none⟩) (block_lt_of_cell h.2.1)).trans h.2.1, (hb.cell (p := ⟨Fb, 1, none⟩) (block_lt_of_cell h.2.2)).trans h.2.2⟩ : (V'.cell? ⟨B, 25, none⟩ = some (.slice (some ⟨b, off, none⟩) n cap) ∧ V'.cell? ⟨Fb, 0, none⟩ = some (.int .u8 (f0 : Int)) ∧ V'.cell? ⟨Fb, 1, none⟩ = some (.int .u16 (f1 : Int)))))
        have HKB := hide (fun (V : World) (h1 : V.heap[B]? = some (.cells cs 28 (0, 0))) (h2 : V.heap[Fb]? = some (.cells #[.int .u8 (f0 : Int), .int .u16 (f1 : Int), .int .u16 (f2 : Int), .int .u32 (f3 : Int)] 36 (0, 0))) => (⟨by rw [cell_of_row V B 25 cs _ _ h1, Array.getElem?_eq_getElem (by omega), c25], (four_cells h2).1, (four_cells h2).2.1⟩ : V.cell? ⟨B, 25, none⟩ = some (.slice (some ⟨b, off, none⟩) n cap) ∧ V.cell? ⟨Fb, 0, none⟩ = some (.int .u8 (f0 : Int)) ∧ V.cell? ⟨Fb, 1, none⟩ = some (.int .u16 (f1 : Int))))
        have HB0 := hide (HBB.out.trans (hB0.mono HBB.out.size))
        have HC0 := hide (show wb.drew.heap[B]? = some (.cells cs 28 (0, 0)) from HHB.out)
        have HX0 := hide (show wb.drew.heap[Fb]? = some (.cells #[.int .u8 (f0 : Int), .int .u16 (f1 : Int), .int .u16 (f2 : Int), .int .u32 (f3 : Int)] 36 (0, 0)) from HFB.out)
        have hBlt : B < wb.heap.size := lt_of_block HHB.out
        have hFlt : Fb < wb.heap.size := lt_of_block HFB.out
        have e1 : B ≠ wb.heap.size := by omega
        have e2 : Fb ≠ wb.heap.size := by omega
        have HS0 := hide (HKP.out wb _ hB0 ⟨y25, x0, x1⟩)
        have hk0 := HS0.out
        clear hfj hfo hoki hal hFb hwb hp ho hq HWa
        go_upto_region 6 with (fail)
        rw [HEF.out.2]
        try rw [HEF.out.1]
        clear HEF d0 d1 d2 d3 z25
        refine wp_region_held_drew (S := (fun w' => w'.cell? ⟨B, 25, none⟩ = some (.slice (some ⟨b, off, none⟩) n cap) ∧ w'.cell? ⟨Fb, 0, none⟩ = some (.int .u8 (f0 : Int)) ∧ w'.cell? ⟨Fb, 1, none⟩ = some (.int .u16 (f1 : Int)))) (by kernel_rfl) (by exact HS0.out) (fun hHeld => ?_)
        refine wpAnyH_take (i := 0) (oi := { dst := some 20, op := Op.fieldAddr 28 (Operand.tmp 1) 10, type := 0, pos := "conf.go:54", after := #[], guard := none }) (v := ?_) rfl (by kernel_rfl) (by kernel_rfl) (by kernel_rfl) (fun _ _ _ h => h) (Or.inl ⟨by rfl, ?_⟩) (by assumption) ?_
        rotate_left
        · intro wS hSw
          try dsimp only at hSw
          go_simp
          try with_reducible rfl
        try simp only [Act.put, List.setIfInBounds_toArray, List.set_cons_zero, List.set_cons_succ]
        refine wpAnyH_take (i := 1) (oi := { dst := some 21, op := Op.load 26 (Operand.tmp 20), type := 26, pos := "conf.go:54", after := #[{ on := 0, ground := Ground.data }], guard := none }) (v := ?_) rfl (by kernel_rfl) (by kernel_rfl) (by kernel_rfl) (fun _ _ _ h => h) (Or.inl ⟨by rfl, ?_⟩) (by assumption) ?_
        rotate_left
        · intro wS hSw
          try dsimp only at hSw
          go_simp
          try with_reducible rfl
        try simp only [Act.put, List.setIfInBounds_toArray, List.set_cons_zero, List.set_cons_succ]
        refine wpAnyH_take (i := 2) (oi := { dst := some 22, op := Op.move (Operand.tmp 3), type := 3, pos := "conf.go:54", after := #[], guard := none }) (v := ?_) rfl (by kernel_rfl) (by kernel_rfl) (by kernel_rfl) (fun _ _ _ h => h) (Or.inl ⟨by rfl, ?_⟩) (by assumption) ?_
        rotate_left
        · intro wS hSw
          try dsimp only at hSw
          go_simp
          try with_reducible rfl
        try simp only [Act.put, List.setIfInBounds_toArray, List.set_cons_zero, List.set_cons_succ]
        refine wpAnyH_take (i := 3) (oi := { dst := some 23, op := Op.slice 26 (Operand.tmp 21) none (some (Operand.tmp 22)) none, type := 26, pos := "conf.go:54", after := #[{ on := 1, ground := Ground.data }, { on := 2, ground := Ground.data }], guard := none }) (v := ?_) rfl (by kernel_rfl) (by kernel_rfl) (by kernel_rfl) (fun _ _ _ h => h) (Or.inl ⟨by rfl, ?_⟩) (by assumption) ?_
        rotate_left
        · intro wS hSw
          try dsimp only at hSw
          go_simp
          try with_reducible rfl
        try simp only [Act.put, List.setIfInBounds_toArray, List.set_cons_zero, List.set_cons_succ]
        refine wpAnyH_take (i := 4) (oi := { dst := some 24, op := Op.fieldAddr 36 (Operand.tmp 4) 0, type := 0, pos := "conf.go:54", after := #[], guard := none }) (v := ?_) rfl (by kernel_rfl) (by kernel_rfl) (by kernel_rfl) (fun _ _ _ h => h) (Or.inl ⟨by rfl, ?_⟩) (by assumption) ?_
        rotate_left
        · intro wS hSw
          try dsimp only at hSw
          go_simp
          try with_reducible rfl
        try simp only [Act.put, List.setIfInBounds_toArray, List.set_cons_zero, List.set_cons_succ]
        refine wpAnyH_take (i := 5) (oi := { dst := some 25, op := Op.load 5 (Operand.tmp 24), type := 5, pos := "conf.go:54", after := #[{ on := 4, ground := Ground.data }], guard := none }) (v := ?_) rfl (by kernel_rfl) (by kernel_rfl) (by kernel_rfl) (fun _ _ _ h => h) (Or.inl ⟨by rfl, ?_⟩) (by assumption) ?_
        rotate_left
        · intro wS hSw
          try dsimp only at hSw
          go_simp
          try with_reducible rfl
        try simp only [Act.put, List.setIfInBounds_toArray, List.set_cons_zero, List.set_cons_succ]
        refine wpAnyH_take (i := 6) (oi := { dst := some 26, op := Op.fieldAddr 36 (Operand.tmp 4) 1, type := 0, pos := "conf.go:54", after := #[], guard := none }) (v := ?_) rfl (by kernel_rfl) (by kernel_rfl) (by kernel_rfl) (fun _ _ _ h => h) (Or.inl ⟨by rfl, ?_⟩) (by assumption) ?_
        rotate_left
        · intro wS hSw
          try dsimp only at hSw
          go_simp
          try with_reducible rfl
        try simp only [Act.put, List.setIfInBounds_toArray, List.set_cons_zero, List.set_cons_succ]
        refine wpAnyH_take (i := 7) (oi := { dst := some 27, op := Op.load 34 (Operand.tmp 26), type := 34, pos := "conf.go:54", after := #[{ on := 6, ground := Ground.data }], guard := none }) (v := ?_) rfl (by kernel_rfl) (by kernel_rfl) (by kernel_rfl) (fun _ _ _ h => h) (Or.inl ⟨by rfl, ?_⟩) (by assumption) ?_
        rotate_left
        · intro wS hSw
          try dsimp only at hSw
          go_simp
          try with_reducible rfl
        try simp only [Act.put, List.setIfInBounds_toArray, List.set_cons_zero, List.set_cons_succ]
        refine wpAnyH_ready (rs := [8, 12]) (by kernel_rfl) (by simp) ?_
        refine AllReadyH.cons (o := { dst := some 28, op := Op.call { callee := Callee.value (Operand.func 27), args := #[Operand.tmp 23, Operand.tmp 25, Operand.tmp 27], argTypes := #[26, 5, 34] }, type := 38, pos := "conf.go:54", after := #[{ on := 3, ground := Ground.data }, { on := 5, ground := Ground.data }, { on := 7, ground := Ground.data }], guard := none }) rfl (fun K hK => ?_) (AllReadyH.cons (o := { dst := some 5, op := Op.alloc 36, type := 0, pos := "conf.go:54", after := #[], guard := none }) rfl (fun K hK => ?_) AllReadyH.nil)
        · go_simp
          have hD0 := hB0
          refine (HFI.out _ (hide hD0).out).mono ?_
          rintro e v1 ⟨rfl, b1⟩
          have hk1 := HKP.out _ _ b1 hk0
          have HB1 := hide (HB0.out.trans (b1.mono HB0.out.size))
          have HC1 := hide (below_blk b1 HC0.out (Nat.le_refl _))
          have HX1 := hide (below_blk b1 HX0.out (Nat.le_refl _))
          refine hK.out _ _ ?_ (fun hHeld => ?_)
          · try dsimp only
            exact hk1
          clear hK K
          try simp only [Act.put, List.setIfInBounds_toArray, List.set_cons_zero, List.set_cons_succ]
          refine wpAnyH_take (i := 9) (oi := { dst := some 19, op := Op.move (Operand.tmp 28), type := 38, pos := "conf.go:54", after := #[{ on := 8, ground := Ground.data }], guard := none }) (v := ?_) rfl (by kernel_rfl) (by kernel_rfl) (by kernel_rfl) (fun _ _ _ h => h) (Or.inl ⟨by rfl, ?_⟩) (by assumption) ?_
          rotate_left
          · intro wS hSw
            try dsimp only at hSw
            go_simp
            try with_reducible rfl
          try simp only [Act.put, List.setIfInBounds_toArray, List.set_cons_zero, List.set_cons_succ]
          refine wpAnyH_take (i := 10) (oi := { dst := some 29, op := Op.extract (Operand.tmp 19) 0, type := 36, pos := "conf.go:54", after := #[{ on := 9, ground := Ground.data }], guard := none }) (v := ?_) rfl (by kernel_rfl) (by kernel_rfl) (by kernel_rfl) (fun _ _ _ h => h) (Or.inl ⟨by rfl, ?_⟩) (by assumption) ?_
          rotate_left
          · intro wS hSw
            try dsimp only at hSw
            go_simp
            try with_reducible rfl
          try simp only [Act.put, List.setIfInBounds_toArray, List.set_cons_zero, List.set_cons_succ]
          refine wpAnyH_take (i := 11) (oi := { dst := some 30, op := Op.extract (Operand.tmp 19) 1, type := 4, pos := "conf.go:54", after := #[{ on := 9, ground := Ground.data }, { on := 13, ground := Ground.gcOnly Departure.lateStores }], guard := none }) (v := ?_) rfl (by kernel_rfl) (by kernel_rfl) (by kernel_rfl) (fun _ _ _ h => h) (Or.inl ⟨by rfl, ?_⟩) (by assumption) ?_
          rotate_left
          · intro wS hSw
            try dsimp only at hSw
            go_simp
            try with_reducible rfl
          try simp only [Act.put, List.setIfInBounds_toArray, List.set_cons_zero, List.set_cons_succ]
          refine wpAnyH_ready (rs := [12]) (by kernel_rfl) (by simp) ?_
          refine AllReadyH.cons (o := { dst := some 5, op := Op.alloc 36, type := 0, pos := "conf.go:54", after := #[], guard := none }) rfl (fun K hK => ?_) AllReadyH.nil
          go_simp
          obtain ⟨X, hX⟩ : ∃ X, v1.heap.size = X := ⟨_, rfl⟩
          have HZ2 := hide (heap_alloc_new v1 (.cells #[.int .u8 0, .int .u16 0, .int .u16 0, .int .u32 0] 36))
          have ba2 : Below v1.heap.size v1 (v1.alloc (.cells #[.int .u8 0, .int .u16 0, .int .u16 0, .int .u32 0] 36)) := (Below.refl _ _).alloc (Nat.le_refl _) _
          have hk2 := HKP.out _ _ ba2 hk1
          have HB2 := hide (HB1.out.trans (ba2.mono HB1.out.size))
          have HC2 := hide (below_blk ba2 HC1.out (Nat.le_refl _))
          have HX2 := hide (below_blk ba2 HX1.out (Nat.le_refl _))
          rw [hX] at HZ2
          try rw [hX]
          have HG2 := hide (show w.heap.size ≤ X ∧ B ≠ X ∧ Fb ≠ X from ⟨by have := HB1.out.size; omega, by have := lt_of_block HC1.out; omega, by have := lt_of_block HX1.out; omega⟩)
          clear hX
          refine hK.out _ _ ?_ (fun hHeld => ?_)
          · try dsimp only
            exact hk2
          clear hK K
          try simp only [Act.put, List.setIfInBounds_toArray, List.set_cons_zero, List.set_cons_succ]
          refine wpAnyH_ready (rs := [13]) (by kernel_rfl) (by simp) ?_
          refine AllReadyH.cons (o := { dst := none, op := Op.store 36 (Operand.tmp 5) (Operand.tmp 29), type := 0, pos := "conf.go:54", after := #[{ on := 12, ground := Ground.data }, { on := 10, ground := Ground.data }, { on := 8, ground := Ground.chain }, { on := 0, ground := Ground.phase }, { on := 1, ground := Ground.phase }, { on := 2, ground := Ground.phase }, { on := 3, ground := Ground.phase }, { on := 4, ground := Ground.phase }, { on := 5, ground := Ground.phase }, { on := 6, ground := Ground.phase }, { on := 7, ground := Ground.phase }, { on := 8, ground := Ground.phase }, { on := 9, ground := Ground.phase }, { on := 10, ground := Ground.phase }, { on := 11, ground := Ground.textOnly Departure.lateStores }, { on := 12, ground := Ground.phase }], guard := none }) rfl (fun K hK => ?_) AllReadyH.nil
          skip
          refine step_st_fwd (.tmp 5) (.tmp 29) rfl (by rfl) X rfl _ #[.int .u8 (o0 : Int), .int .u16 (o1 : Int), .int .u16 (o2 : Int), .int .u32 (o3 : Int)] rfl HZ2.out rfl rfl (all4 _ _ _ _ _ _ _ _) HB2.out HG2.out.1 ?_
          rintro v3 hr3 hb3 ho3 hs3
          have HB3 := hide hb3
          have HC3 := hide ((ho3 B HG2.out.2.1).trans HC2.out)
          have HX3 := hide ((ho3 Fb HG2.out.2.2).trans HX2.out)
          have hk3 := HKB.out v3 HC3.out HX3.out
          clear hr3 hb3 ho3 hs3
          refine hK.out _ _ ?_ (fun hHeld => ?_)
          · try dsimp only
            exact hk3
          clear hK K
          try simp only [Act.put, List.setIfInBounds_toArray, List.set_cons_zero, List.set_cons_succ]
          refine wpAnyH_take (i := 14) (oi := { dst := some 6, op := Op.assign (Operand.tmp 30), type := 4, pos := "conf.go:54", after := #[{ on := 11, ground := Ground.data }, { on := 13, ground := Ground.chain }, { on := 0, ground := Ground.phase }, { on := 1, ground := Ground.phase }, { on := 2, ground := Ground.phase }, { on := 3, ground := Ground.phase }, { on := 4, ground := Ground.phase }, { on := 5, ground := Ground.phase }, { on := 6, ground := Ground.phase }, { on := 7, ground := Ground.phase }, { on := 8, ground := Ground.phase }, { on := 9, ground := Ground.phase }, { on := 10, ground := Ground.phase }, { on := 11, ground := Ground.phase }, { on := 12, ground := Ground.phase }, { on := 13, ground := Ground.phase }], guard := none }) (v := ?_) rfl (by kernel_rfl) (by kernel_rfl) (by kernel_rfl) (fun _ _ _ h => h) (Or.inl ⟨by rfl, ?_⟩) (by assumption) ?_
          rotate_left
          · intro wS hSw
            try dsimp only at hSw
            go_simp
            try with_reducible rfl
          try simp only [Act.put, List.setIfInBounds_toArray, List.set_cons_zero, List.set_cons_succ]
          refine wpAnyH_done (by kernel_rfl) ?_ _
          clear hk0 hk1 hk2 hk3 hB0 hB1 y25 x0 x1 x2 x3 xf HKP HKB
          obtain ⟨z0, z1, z2, z3, zf⟩ := four_cells HX3.out
          clear zf
          cases p with
          | true =>
            have HE := hide (show r = false by rw [← HR.out]; exact fwds_bad hjl (by rw [HOK.out]; rfl))
            go_wp2_with fail
            go_ret
            exact ⟨by rw [HE.out]; rfl, HB3.out⟩
          | false =>
            cases q with
            | true =>
              have HN := hide (ok_more HI.out (by rw [HOK.out]; rfl))
              go_wp2_with (first | (refine ld_cfg (.tmp 1) rfl (by rfl) B rfl cs HC3.out HSZ.out ?_; try simp only [Act.put, List.setIfInBounds_toArray, List.set_cons_zero, List.set_cons_succ]) | (go_at_call 32; refine (HRF.out _).mono ?_; rintro e v4 ⟨rfl, b4⟩; have HB4 := hide (HB3.out.trans (b4.mono HB3.out.size)); have HC4 := hide (below_blk b4 HC3.out (Nat.le_refl _)); clear b4))
              go_roundw
              case rel => exact ⟨j + 1, by omega, by go_num, HN, HC4, HB4⟩
              case measure => simp [intOf]; omega
            | false =>
              have HE := hide (show r = false by rw [← HR.out]; exact fwds_bad hjl (by rw [HOK.out]; rfl))
              go_wp2_with (first | (refine ld_cfg (.tmp 1) rfl (by rfl) B rfl cs HC3.out HSZ.out ?_; try simp only [Act.put, List.setIfInBounds_toArray, List.set_cons_zero, List.set_cons_succ]) | (go_at_call 32; refine (HRF.out _).mono ?_; rintro e v4 ⟨rfl, b4⟩; have HB4 := hide (HB3.out.trans (b4.mono HB3.out.size)); have HC4 := hide (below_blk b4 HC3.out (Nat.le_refl _)); clear b4))
              go_ret
              exact ⟨by rw [HE.out]; rfl, HB4.out⟩
        · go_simp
          have ba1 : Below wb.drew.heap.size wb.drew (wb.drew.alloc (.cells #[.int .u8 0, .int .u16 0, .int .u16 0, .int .u32 0] 36)) := (Below.refl _ _).alloc (Nat.le_refl _) _
          have hk1 := HKP.out _ _ ba1 hk0
          have HB1 := hide (HB0.out.trans (ba1.mono HB0.out.size))
          have HC1 := hide (below_blk ba1 HC0.out (Nat.le_refl _))
          have HX1 := hide (below_blk ba1 HX0.out (Nat.le_refl _))
          have HZ1 := hide (show ((wb.drew).alloc (.cells #[.int .u8 0, .int .u16 0, .int .u16 0, .int .u32 0] 36)).heap[wb.heap.size]? = some (.cells #[.int .u8 0, .int .u16 0, .int .u16 0, .int .u32 0] 36 (0, 0)) from heap_alloc_new wb.drew _)
          refine hK.out _ _ ?_ (fun hHeld => ?_)
          · try dsimp only
            exact hk1
          clear hK K
          try simp only [Act.put, List.setIfInBounds_toArray, List.set_cons_zero, List.set_cons_succ]
          refine wpAnyH_ready (rs := [8]) (by kernel_rfl) (by simp) ?_
          refine AllReadyH.cons (o := { dst := some 28, op := Op.call { callee := Callee.value (Operand.func 27), args := #[Operand.tmp 23, Operand.tmp 25, Operand.tmp 27], argTypes := #[26, 5, 34] }, type := 38, pos := "conf.go:54", after := #[{ on := 3, ground := Ground.data }, { on := 5, ground := Ground.data }, { on := 7, ground := Ground.data }], guard := none }) rfl (fun K hK => ?_) AllReadyH.nil
          go_simp
          have hD1 := hB1
          refine (HFI.out _ (hide hD1).out).mono ?_
          rintro e v2 ⟨rfl, b2⟩
          have hk2 := HKP.out _ _ b2 hk1
          have HB2 := hide (HB1.out.trans (b2.mono HB1.out.size))
          have HC2 := hide (below_blk b2 HC1.out (Nat.le_refl _))
          have HX2 := hide (below_blk b2 HX1.out (Nat.le_refl _))
          have HZ2 := hide (below_blk b2 HZ1.out (Nat.le_refl _))
          have HG2 := hide (show w.heap.size ≤ wb.heap.size ∧ B ≠ wb.heap.size ∧ Fb ≠ wb.heap.size from ⟨HBB.out.size, e1, e2⟩)
          refine hK.out _ _ ?_ (fun hHeld => ?_)
          · try dsimp only
            exact hk2
          clear hK K
          try simp only [Act.put, List.setIfInBounds_toArray, List.set_cons_zero, List.set_cons_succ]
          refine wpAnyH_take (i := 9) (oi := { dst := some 19, op := Op.move (Operand.tmp 28), type := 38, pos := "conf.go:54", after := #[{ on := 8, ground := Ground.data }], guard := none }) (v := ?_) rfl (by kernel_rfl) (by kernel_rfl) (by kernel_rfl) (fun _ _ _ h => h) (Or.inl ⟨by rfl, ?_⟩) (by assumption) ?_
          rotate_left
          · intro wS hSw
            try dsimp only at hSw
            go_simp
            try with_reducible rfl
          try simp only [Act.put, List.setIfInBounds_toArray, List.set_cons_zero, List.set_cons_succ]
          refine wpAnyH_take (i := 10) (oi := { dst := some 29, op := Op.extract (Operand.tmp 19) 0, type := 36, pos := "conf.go:54", after := #[{ on := 9, ground := Ground.data }], guard := none }) (v := ?_) rfl (by kernel_rfl) (by kernel_rfl) (by kernel_rfl) (fun _ _ _ h => h) (Or.inl ⟨by rfl, ?_⟩) (by assumption) ?_
          rotate_left
          · intro wS hSw
            try dsimp only at hSw
            go_simp
            try with_reducible rfl
          try simp only [Act.put, List.setIfInBounds_toArray, List.set_cons_zero, List.set_cons_succ]
          refine wpAnyH_take (i := 11) (oi := { dst := some 30, op := Op.extract (Operand.tmp 19) 1, type := 4, pos := "conf.go:54", after := #[{ on := 9, ground := Ground.data }, { on := 13, ground := Ground.gcOnly Departure.lateStores }], guard := none }) (v := ?_) rfl (by kernel_rfl) (by kernel_rfl) (by kernel_rfl) (fun _ _ _ h => h) (Or.inl ⟨by rfl, ?_⟩) (by assumption) ?_
          rotate_left
          · intro wS hSw
            try dsimp only at hSw
            go_simp
            try with_reducible rfl
          try simp only [Act.put, List.setIfInBounds_toArray, List.set_cons_zero, List.set_cons_succ]
          refine wpAnyH_ready (rs := [13]) (by kernel_rfl) (by simp) ?_
          refine AllReadyH.cons (o := { dst := none, op := Op.store 36 (Operand.tmp 5) (Operand.tmp 29), type := 0, pos := "conf.go:54", after := #[{ on := 12, ground := Ground.data }, { on := 10, ground := Ground.data }, { on := 8, ground := Ground.chain }, { on := 0, ground := Ground.phase }, { on := 1, ground := Ground.phase }, { on := 2, ground := Ground.phase }, { on := 3, ground := Ground.phase }, { on := 4, ground := Ground.phase }, { on := 5, ground := Ground.phase }, { on := 6, ground := Ground.phase }, { on := 7, ground := Ground.phase }, { on := 8, ground := Ground.phase }, { on := 9, ground := Ground.phase }, { on := 10, ground := Ground.phase }, { on := 11, ground := Ground.textOnly Departure.lateStores }, { on := 12, ground := Ground.phase }], guard := none }) rfl (fun K hK => ?_) AllReadyH.nil
          skip
          refine step_st_fwd (.tmp 5) (.tmp 29) rfl (by rfl) wb.heap.size rfl _ #[.int .u8 (o0 : Int), .int .u16 (o1 : Int), .int .u16 (o2 : Int), .int .u32 (o3 : Int)] rfl HZ2.out rfl rfl (all4 _ _ _ _ _ _ _ _) HB2.out HG2.out.1 ?_
          rintro v3 hr3 hb3 ho3 hs3
          have HB3 := hide hb3
          have HC3 := hide ((ho3 B HG2.out.2.1).trans HC2.out)
          have HX3 := hide ((ho3 Fb HG2.out.2.2).trans HX2.out)
          have hk3 := HKB.out v3 HC3.out HX3.out
          clear hr3 hb3 ho3 hs3
          refine hK.out _ _ ?_ (fun hHeld => ?_)
          · try dsimp only
            exact hk3
          clear hK K
          try simp only [Act.put, List.setIfInBounds_toArray, List.set_cons_zero, List.set_cons_succ]
          refine wpAnyH_take (i := 14) (oi := { dst := some 6, op := Op.assign (Operand.tmp 30), type := 4, pos := "conf.go:54", after := #[{ on := 11, ground := Ground.data }, { on := 13, ground := Ground.chain }, { on := 0, ground := Ground.phase }, { on := 1, ground := Ground.phase }, { on := 2, ground := Ground.phase }, { on := 3, ground := Ground.phase }, { on := 4, ground := Ground.phase }, { on := 5, ground := Ground.phase }, { on := 6, ground := Ground.phase }, { on := 7, ground := Ground.phase }, { on := 8, ground := Ground.phase }, { on := 9, ground := Ground.phase }, { on := 10, ground := Ground.phase }, { on := 11, ground := Ground.phase }, { on := 12, ground := Ground.phase }, { on := 13, ground := Ground.phase }], guard := none }) (v := ?_) rfl (by kernel_rfl) (by kernel_rfl) (by kernel_rfl) (fun _ _ _ h => h) (Or.inl ⟨by rfl, ?_⟩) (by assumption) ?_
          rotate_left
          · intro wS hSw
            try dsimp only at hSw
            go_simp
            try with_reducible rfl
          try simp only [Act.put, List.setIfInBounds_toArray, List.set_cons_zero, List.set_cons_succ]
          refine wpAnyH_done (by kernel_rfl) ?_ _
          clear hk0 hk1 hk2 hk3 hB0 hB1 y25 x0 x1 x2 x3 xf HKP HKB
          obtain ⟨z0, z1, z2, z3, zf⟩ := four_cells HX3.out
          clear zf
          cases p with
          | true =>
            have HE := hide (show r = false by rw [← HR.out]; exact fwds_bad hjl (by rw [HOK.out]; rfl))
            go_wp2_with fail
            go_ret
            exact ⟨by rw [HE.out]; rfl, HB3.out⟩
          | false =>
            cases q with
            | true =>
              have HN := hide (ok_more HI.out (by rw [HOK.out]; rfl))
              go_wp2_with (first | (refine ld_cfg (.tmp 1) rfl (by rfl) B rfl cs HC3.out HSZ.out ?_; try simp only [Act.put, List.setIfInBounds_toArray, List.set_cons_zero, List.set_cons_succ]) | (go_at_call 32; refine (HRF.out _).mono ?_; rintro e v4 ⟨rfl, b4⟩; have HB4 := hide (HB3.out.trans (b4.mono HB3.out.size)); have HC4 := hide (below_blk b4 HC3.out (Nat.le_refl _)); clear b4))
              go_roundw
              case rel => exact ⟨j + 1, by omega, by go_num, HN, HC4, HB4⟩
              case measure => simp [intOf]; omega
            | false =>
              have HE := hide (show r = false by rw [← HR.out]; exact fwds_bad hjl (by rw [HOK.out]; rfl))
              go_wp2_with (first | (refine ld_cfg (.tmp 1) rfl (by rfl) B rfl cs HC3.out HSZ.out ?_; try simp only [Act.put, List.setIfInBounds_toArray, List.set_cons_zero, List.set_cons_succ]) | (go_at_call 32; refine (HRF.out _).mono ?_; rintro e v4 ⟨rfl, b4⟩; have HB4 := hide (HB3.out.trans (b4.mono HB3.out.size)); have HC4 := hide (below_blk b4 HC3.out (Nat.le_refl _)); clear b4))
              go_ret
              exact ⟨by rw [HE.out]; rfl, HB4.out⟩
      · have HE := hide (show r = true by rw [← HR.out]; exact fwds_yes (by have := HL.out; omega) (fun i hi => HI.out i (by have := HL.out; omega)))
        go_wp2_with fail
        go_ret
        exact ⟨by rw [HE.out]; rfl, HBz.out⟩
end Go.Proofs.Ytogeggklfcabkaa
