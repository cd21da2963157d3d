/- Ports: PortsPlays. -/
import Derived.Test.YtafoiblacmjpdaaDoorPTwo
import Derived.Test.YtafoiblacmjpdaaDoorPOps
import Derived.Test.YtafoiblacmjpdaaDoorPRise
namespace Go.Proofs.YtafoiblacmjpdaaDoor
open Go.RowKit Go.Deep
set_option linter.unusedVariables false
set_option linter.unusedSimpArgs false
set_option maxRecDepth 100000
theorem cell_at {w : World} {g : Nat} {t : TypeId} {cs : Array Value} (h : w.heap[g]? = some (.cells cs t (0, 0))) (i : Nat) {v : Value} (hv : cs[i]? = some v) : w.cell? ⟨g, i, none⟩ = some v := by simp [World.cell?, h, hv]
/-- The script's state: the set and the list agree. -/
def PlSt (w wz : World) (B R C j : Nat) : Prop := ∃ (t : Nat → Bool) (k : Nat), PAt wz B t (k : Int) ∧ RAt wz R (told t 1008) ∧ cnt t C = k ∧ k ≤ j ∧ Below w.heap.size w wz
theorem RAt.lt {w : World} {R : Nat} {xs : List Int} (h : RAt w R xs) : R < w.heap.size := by
  obtain ⟨a, c, h1, _⟩ := h.cell
  exact lt_of_block h1
theorem RAt.only {w w' : World} {R B : Nat} {xs : List Int} (h : RAt w R xs) (hb : OnlyB B w w') (hR : B < R) : RAt w' R xs := by
  obtain ⟨a, c, h1, h2, h3⟩ := h.cell
  have h4 := (hb.block R (lt_of_block h1) (by omega)).trans h1
  refine ⟨⟨a, c, h4, h2.only hb (fun b e => by have := h3 b e; omega), h3⟩, h.len, cap_of h4 (h.cap _ _ _ h1)⟩
/-- The state behind the copy of the call at hand. -/
def RdSt (w wz : World) (B R O C k : Nat) (t : Nat → Bool) (cs : Array Value) : Prop := PAt wz B t (k : Int) ∧ RAt wz R (told t 1008) ∧ cnt t C = k ∧ Below w.heap.size w wz ∧ wz.heap[O]? = some (.cells cs 33 (0, 0)) ∧ B < O ∧ R < O ∧ w.heap.size ≤ O
theorem RdSt.drew {w wz : World} {B R O C k : Nat} {t : Nat → Bool} {cs : Array Value} (h : RdSt w wz B R O C k t cs) : RdSt w wz.drew B R O C k t cs :=
  ⟨h.1.below ((Below.refl wz.heap.size wz).drew) (Nat.le_refl _), h.2.1.below ((Below.refl wz.heap.size wz).drew) (Nat.le_refl _), h.2.2.1, h.2.2.2.1.drew, h.2.2.2.2⟩
theorem RdSt.below {w wz w' : World} {B R O C k : Nat} {t : Nat → Bool} {cs : Array Value} (h : RdSt w wz B R O C k t cs) (hb : Below wz.heap.size wz w') : RdSt w w' B R O C k t cs :=
  ⟨h.1.below hb (Nat.le_refl _), h.2.1.below hb (Nat.le_refl _), h.2.2.1, h.2.2.2.1.trans (hb.mono h.2.2.2.1.size), below_block hb h.2.2.2.2.1 (Nat.le_refl _), h.2.2.2.2.2⟩
/-- Between the two calls: the set is ahead of the list. -/
def MdSt (w wz : World) (B R O C k k' : Nat) (t t' : Nat → Bool) (cs : Array Value) : Prop := PAt wz B t' (k' : Int) ∧ RAt wz R (told t 1008) ∧ cnt t' C = k' ∧ Below w.heap.size w wz ∧ wz.heap[O]? = some (.cells cs 33 (0, 0)) ∧ B < O ∧ R < O ∧ w.heap.size ≤ O
theorem RdSt.first {w wz w' : World} {B R O C k k' : Nat} {t t' : Nat → Bool} {cs : Array Value} (h : RdSt w wz B R O C k t cs) (hp : PAt w' B t' (k' : Int)) (hc : cnt t' C = k') (ho : OnlyB B wz w') (hB : w.heap.size ≤ B) (hBR : B < R) : MdSt w w' B R O C k k' t t' cs :=
  ⟨hp, h.2.1.only ho hBR, hc, h.2.2.2.1.trans (ho.below hB h.2.2.2.1.size), (ho.block O (lt_of_block h.2.2.2.2.1) (by have := h.2.2.2.2.2.1; omega)).trans h.2.2.2.2.1, h.2.2.2.2.2⟩
theorem MdSt.second {w wz w' : World} {B R O C k k' : Nat} {t t' : Nat → Bool} {cs : Array Value} (h : MdSt w wz B R O C k k' t t' cs) (hp : RAt w' R (told t' 1008)) (ho : OnlyB R wz w') (hR : w.heap.size ≤ R) (hBR : B < R) : RdSt w w' B R O C k' t' cs :=
  ⟨h.1.only ho (by omega), hp, h.2.2.1, h.2.2.2.1.trans (ho.below hR h.2.2.2.1.size), (ho.block O (lt_of_block h.2.2.2.2.1) (by have := h.2.2.2.2.2.2.1; omega)).trans h.2.2.2.2.1, h.2.2.2.2.2⟩
theorem OnlyB.drewl {B : Nat} {w w' : World} (h : OnlyB B w.drew w') : OnlyB B w w' := (OnlyB.refl B w).drew.trans h
/-- The cells of the call at hand. -/
abbrev opC (x0 : Int) (p d : Nat) : Array Value := #[.int .i64 x0, .int .u16 (p : Int), .int .u64 (d : Int)]
set_option maxHeartbeats 8000000 in
theorem portsPlays_any (w : World) (a : Option Addr) (os : List opsRec) (n cap : Nat) (hA : opsAt w a os) (hl : os.length = n) (hT : PtT w) :
    Calls Tryd.prog 3 #[.slice a n cap] w (Yes w) := by
  have HS := hide (speaks7_any w hT)
  have HT := hide hT
  have HA := hide (And.intro hA hl)
  obtain ⟨C, hC⟩ : ∃ C : Nat, C = 64512 := ⟨_, rfl⟩
  have HC := hide hC
  clear hT hA hl hC
  go_enter Tryd.func3, Tryd.ntmps3
  go_wp2_with fail
  refine HS.out.mono ?_
  rintro e w1 ⟨rfl, b1⟩
  have HB1 := hide b1
  clear b1 HS
  by_cases h2 : 100 < n
  · have d1 : decide ((100 : Int) < (n : Int)) = true := by simp; omega
    clear h2
    go_wp2_with fail
    go_ret
    exact ⟨rfl, HB1.out⟩
  have d1 : decide ((100 : Int) < (n : Int)) = false := by simp; omega
  have HNM := hide (show n ≤ 100 by omega)
  clear h2
  go_wp2_with fail
  refine (new_any _).mono ?_
  rintro e w2 ⟨B, rfl, hB, hp2, b2⟩
  have HBw := hide (show w.heap.size ≤ B by have := HB1.out.size; have h := hB; (try simp at h); omega)
  have HB2 := hide (HB1.out.trans (b2.mono (by have := HB1.out.size; (try simp); omega)))
  have HP2 := hide hp2
  clear hB hp2 b2 HB1
  have hal := (Below.refl w2.heap.size w2).alloc (Nat.le_refl _) (.cells #[.slice none 0 0] 29)
  have hnew := heap_alloc_new w2 (.cells #[.slice none 0 0] 29)
  obtain ⟨R, hR⟩ : ∃ R, w2.heap.size = R := ⟨_, rfl⟩
  obtain ⟨w3, hw3⟩ : ∃ z, w2.alloc (.cells #[.slice none 0 0] 29) = z := ⟨_, rfl⟩
  have HRW := hide (And.intro hR hw3)
  rw [hw3] at hal hnew
  have HRw := hide (show w.heap.size ≤ R by rw [← hR]; exact HB2.out.size)
  have HNE := hide (show B < R by have := HP2.out.lt; omega)
  have HX := hide (show PlSt w w3 B R C 0 from by
    refine ⟨none_, 0, HP2.out.below hal (Nat.le_refl _), ?_, ?_, Nat.le_refl _, HB2.out.trans (hal.mono HB2.out.size)⟩
    · rw [told_none]
      rw [hR] at hnew
      exact ⟨⟨none, 0, hnew, fun h => absurd rfl h, fun b h => by cases h⟩, by simp, cap_of hnew (Nat.le_refl _)⟩
    · have : ∀ k, cnt none_ k = 0 := fun k => by
        induction k with
        | zero => rfl
        | succ k ih => unfold cnt; rw [ih]; rfl
      exact this C)
  clear hal hnew hR hw3 HB2 HP2
  go_wp2_with fail
  rw [HRW.out.2]
  rw [HRW.out.1]
  clear HRW
  go_loopw [25] (fun i wz => ∃ j : Nat, j ≤ n ∧ i = .int .i64 j ∧ Hid (PlSt w wz B R C j)) (fun i _ => n - (intOf i).toNat)
  case atStart => exact ⟨0, Nat.zero_le _, rfl, HX⟩
  case round =>
    clear HX
    obtain ⟨j, hj, rfl, HX⟩ := hrel
    by_cases hlt : j < n
    · have d3 : decide ((j : Int) < (n : Int)) = true := by simp; omega
      obtain ⟨t, k, h1, h2, h3, h4, h5⟩ := HX.out
      have hk : k ≤ 1000 := by have := HNM.out; omega
      have hjl : j < os.length := by have := HA.out.2; omega
      obtain ⟨o, ho⟩ : ∃ o, os[j]? = some o := ⟨_, List.getElem?_eq_getElem hjl⟩
      obtain ⟨b, off, he, hbl, hc⟩ := HA.out.1 (by intro e; rw [e] at hjl; simp at hjl)
      obtain ⟨q0, q1, q2, e0, e1, e2⟩ := hc j o ho
      replace q0 := (h5.cell (p := ⟨b, off + j * 3, none⟩) hbl).trans q0
      replace q1 := (h5.cell (p := ⟨b, off + j * 3 + 1, none⟩) hbl).trans q1
      replace q2 := (h5.cell (p := ⟨b, off + j * 3 + 2, none⟩) hbl).trans q2
      have e1b := bounds_u16 e1
      have e2b := bounds_u64 e2
      obtain ⟨p, hp⟩ := Int.eq_ofNat_of_zero_le e1b.1
      obtain ⟨d, hd⟩ := Int.eq_ofNat_of_zero_le e2b.1
      obtain ⟨x0, hx0⟩ : ∃ x, o.x0 = x := ⟨_, rfl⟩
      rw [hp] at q1
      rw [hd] at q2
      rw [hx0] at q0
      have hn3 : (j : Int) ≤ 1000 := by have := HNM.out; omega
      have hj4 : (0 : Int) ≤ (j : Int) := by omega
      have hp2 : p ≤ 65535 := by omega
      have HP := hide hp2
      have HS := hide (And.intro h1 (And.intro h2 (And.intro h3 (And.intro h4 (And.intro h5 hk)))))
      clear h1 h2 h3 h4 h5 hk hjl ho hbl hc e0 e1 e2 e1b e2b hp hd hx0 hp2 HX
      subst he
      have hp3 : (p : Int) ≤ 65535 := by have := HP.out; omega
      have hp4 : (0 : Int) ≤ (p : Int) := by omega
      have hpw : IntKind.i64.wrap (p : Int) = (p : Int) := by rw [IntKind.wrap_i64]; omega
      obtain ⟨O, hO⟩ : ∃ O, wr.heap.size = O := ⟨_, rfl⟩
      obtain ⟨w4, hw4⟩ : ∃ z, wr.alloc (.cells #[.int .i64 x0, .int .u16 (p : Int), .int .u64 (d : Int)] 33) = z := ⟨_, rfl⟩
      have HW := hide (And.intro hO hw4)
      have HRD := hide (show RdSt w w4 B R O C k t (opC x0 p d) from by
        have h1 := HS.out
        have hal := (Below.refl wr.heap.size wr).alloc (Nat.le_refl _) (.cells (opC x0 p d) 33)
        have hnew := heap_alloc_new wr (.cells (opC x0 p d) 33)
        rw [hw4] at hal
        rw [hw4, hO] at hnew
        exact ⟨h1.1.below hal (Nat.le_refl _), h1.2.1.below hal (Nat.le_refl _), h1.2.2.1, h1.2.2.2.2.1.trans (hal.mono h1.2.2.2.2.1.size), hnew, by rw [← hO]; exact h1.1.lt, by rw [← hO]; exact h1.2.1.lt, by rw [← hO]; exact h1.2.2.2.2.1.size⟩)
      have HKJ := hide (show k ≤ j ∧ k ≤ 1000 from ⟨HS.out.2.2.2.1, HS.out.2.2.2.2.2⟩)
      clear hO hw4 HS
      obtain ⟨y, hy⟩ : ∃ y, bits BinOp.and IntKind.i64 x0 3 = y := ⟨_, rfl⟩
      by_cases c0 : y = 0
      · have d5 : (y == 0) = true := by simp [c0]
        clear c0
        obtain ⟨bb, t2, k2, hc2, hk2, h2a, h2b⟩ := take_two B R p k C t HC.out HP.out HKJ.out.2 HRD.out.2.2.1
        have HL1 := hide (h2a w4.drew HRD.out.drew.1 (HT.out.below HRD.out.drew.2.2.2.1 (Nat.le_refl _)))
        have H2B := hide h2b
        have HC2 := hide hc2
        have HK2 := hide (show k2 ≤ j + 1 by have := HKJ.out; omega)
        clear h2a h2b hc2 hk2
        go_wp2_with fail
        rw [HW.out.2]
        rw [HW.out.1]
        clear HW
        refine wp_region_held_drew (S := fun w' => w'.cell? ⟨O, 1, none⟩ = some (.int .u16 (p : Int))) (by kernel_rfl) (by exact cell_at HRD.out.2.2.2.2.1 1 rfl) (fun hHeld => ?_)
        refine wpAnyH_take (i := 0) (oi := { dst := some 57, op := Op.move (Operand.tmp 3), type := 24, pos := "law.go:53", after := #[], guard := none }) (v := ?_) rfl (by kernel_rfl) (by kernel_rfl) (by kernel_rfl) (fun _ _ _ h => h) (Or.inl ⟨by rfl, ?_⟩) (by assumption) ?_
        rotate_left
        · intro wS hSw
          try dsimp only at hSw
          go_simp
          try with_reducible rfl
        try simp only [Act.put, List.setIfInBounds_toArray, List.set_cons_zero, List.set_cons_succ]
        refine wpAnyH_take (i := 1) (oi := { dst := some 58, op := Op.fieldAddr 33 (Operand.tmp 6) 1, type := 0, pos := "law.go:53", after := #[], guard := none }) (v := ?_) rfl (by kernel_rfl) (by kernel_rfl) (by kernel_rfl) (fun _ _ _ h => h) (Or.inl ⟨by rfl, ?_⟩) (by assumption) ?_
        rotate_left
        · intro wS hSw
          try dsimp only at hSw
          go_simp
          try with_reducible rfl
        try simp only [Act.put, List.setIfInBounds_toArray, List.set_cons_zero, List.set_cons_succ]
        refine wpAnyH_take (i := 2) (oi := { dst := some 59, op := Op.load 30 (Operand.tmp 58), type := 30, pos := "law.go:53", after := #[{ on := 1, ground := Ground.data }], guard := none }) (v := ?_) rfl (by kernel_rfl) (by kernel_rfl) (by kernel_rfl) (fun _ _ _ h => h) (Or.inl ⟨by rfl, ?_⟩) (by assumption) ?_
        rotate_left
        · intro wS hSw
          try dsimp only at hSw
          go_simp
          try with_reducible rfl
        try simp only [Act.put, List.setIfInBounds_toArray, List.set_cons_zero, List.set_cons_succ]
        refine wpAnyH_take (i := 4) (oi := { dst := some 61, op := Op.move (Operand.tmp 4), type := 26, pos := "law.go:53", after := #[], guard := none }) (v := ?_) rfl (by kernel_rfl) (by kernel_rfl) (by kernel_rfl) (fun _ _ _ h => h) (Or.inl ⟨by rfl, ?_⟩) (by assumption) ?_
        rotate_left
        · intro wS hSw
          try dsimp only at hSw
          go_simp
          try with_reducible rfl
        try simp only [Act.put, List.setIfInBounds_toArray, List.set_cons_zero, List.set_cons_succ]
        refine wpAnyH_take (i := 5) (oi := { dst := some 62, op := Op.fieldAddr 33 (Operand.tmp 6) 1, type := 0, pos := "law.go:53", after := #[], guard := none }) (v := ?_) rfl (by kernel_rfl) (by kernel_rfl) (by kernel_rfl) (fun _ _ _ h => h) (Or.inl ⟨by rfl, ?_⟩) (by assumption) ?_
        rotate_left
        · intro wS hSw
          try dsimp only at hSw
          go_simp
          try with_reducible rfl
        try simp only [Act.put, List.setIfInBounds_toArray, List.set_cons_zero, List.set_cons_succ]
        refine wpAnyH_take (i := 6) (oi := { dst := some 63, op := Op.load 30 (Operand.tmp 62), type := 30, pos := "law.go:53", after := #[{ on := 5, ground := Ground.data }], guard := none }) (v := ?_) rfl (by kernel_rfl) (by kernel_rfl) (by kernel_rfl) (fun _ _ _ h => h) (Or.inl ⟨by rfl, ?_⟩) (by assumption) ?_
        rotate_left
        · intro wS hSw
          try dsimp only at hSw
          go_simp
          try with_reducible rfl
        try simp only [Act.put, List.setIfInBounds_toArray, List.set_cons_zero, List.set_cons_succ]
        refine wpAnyH_take (i := 7) (oi := { dst := some 64, op := Op.convert 30 3 (Operand.tmp 63), type := 3, pos := "law.go:53", after := #[{ on := 6, ground := Ground.data }], guard := none }) (v := ?_) rfl (by kernel_rfl) (by kernel_rfl) (by kernel_rfl) (fun _ _ _ h => h) (Or.inl ⟨by rfl, ?_⟩) (by assumption) ?_
        rotate_left
        · intro wS hSw
          try dsimp only at hSw
          go_simp
          try with_reducible rfl
        try simp only [Act.put, List.setIfInBounds_toArray, List.set_cons_zero, List.set_cons_succ]
        refine wpAnyH_ready (rs := [3]) (by kernel_rfl) (by simp) ?_
        refine AllReadyH.cons (o := { dst := some 60, op := Op.call { callee := Callee.value (Operand.func 10), args := #[Operand.tmp 57, Operand.tmp 59], argTypes := #[24, 30] }, type := 4, pos := "law.go:53", after := #[{ on := 0, ground := Ground.data }, { on := 2, ground := Ground.data }], guard := none }) rfl (fun K hK => ?_) AllReadyH.nil
        go_simp
        go_at_call 10
        (with_reducible refine (HL1.out).mono ?_)
        rintro e z1 ⟨rfl, p5, o5⟩
        have HM := hide (HRD.out.drew.first p5 HC2.out o5 HBw.out HNE.out)
        have HL2 := hide (H2B.out z1 HM.out.2.1)
        have HKP := hide (cell_at HM.out.2.2.2.2.1 1 rfl)
        clear p5 o5 HL1 HRD
        refine hK.out _ _ (HKP.out) (fun hHeld1 => ?_)
        clear hK K
        try simp only [Act.put, List.setIfInBounds_toArray, List.set_cons_zero, List.set_cons_succ]
        refine wpAnyH_ready (rs := [8]) (by kernel_rfl) (by simp) ?_
        refine AllReadyH.cons (o := { dst := some 65, op := Op.call { callee := Callee.value (Operand.func 11), args := #[Operand.tmp 61, Operand.tmp 64], argTypes := #[26, 3] }, type := 4, pos := "law.go:53", after := #[{ on := 4, ground := Ground.data }, { on := 7, ground := Ground.data }, { on := 3, ground := Ground.chain }], guard := none }) rfl (fun K hK => ?_) AllReadyH.nil
        go_simp
        go_at_call 11
        (with_reducible refine (HL2.out).mono ?_)
        rintro e z2 ⟨rfl, p6, o6⟩
        have HD := hide (HM.out.second p6 o6 HRw.out HNE.out)
        clear HKP
        have HKP := hide (cell_at HD.out.2.2.2.2.1 1 rfl)
        clear p6 o6 HM HL2 H2B
        refine hK.out _ _ (HKP.out) (fun hHeld2 => ?_)
        clear hK K
        try simp only [Act.put, List.setIfInBounds_toArray, List.set_cons_zero, List.set_cons_succ]
        refine wpAnyH_take (i := 9) (oi := { dst := some 66, op := Op.binOp BinOp.neq 4 (Operand.tmp 60) (Operand.tmp 65) 4, type := 4, pos := "law.go:53", after := #[{ on := 3, ground := Ground.data }, { on := 8, ground := Ground.data }], guard := none }) (v := ?_) rfl (by kernel_rfl) (by kernel_rfl) (by kernel_rfl) (fun _ _ _ h => h) (Or.inl ⟨by rfl, ?_⟩) (by assumption) ?_
        rotate_left
        · intro wS hSw
          try dsimp only at hSw
          go_simp
          try with_reducible rfl
        try simp only [Act.put, List.setIfInBounds_toArray, List.set_cons_zero, List.set_cons_succ]
        refine wpAnyH_done (by kernel_rfl) ?_ _
        clear HKP
        have HLI := hide (listed_any z2 B t2 (k2 : Int) ((k2 : Int) + 1) (HT.out.below HD.out.2.2.2.1 (Nat.le_refl _)) HD.out.1)
        obtain ⟨aR, cR, hr1, hr2, hr3⟩ := HD.out.2.1.cell
        have hln := told_size t2 C k2 HC.out HD.out.2.2.1
        rw [hln] at hr1
        have uR := (one_cell hr1).1
        have HUR := hide hr1
        have hk4 : (0 : Int) ≤ (k2 : Int) := by omega
        have hk5 : (k2 : Int) ≤ 1000 := by have := HK2.out; have := HNM.out; omega
        have HLN := hide hln
        clear hr1 hr2 hr3 hln
        go_wp2_with fail
        (with_reducible refine HLI.out.mono ?_)
        rintro e zl ⟨ab, cb, L, hL, rfl, hown, hbel⟩
        have hL2 : L = told t2 1008 := by
          rw [← hL]
          exact stopAt_all _ _ (.inr (by rw [HLN.out]; omega))
        have hLl : L.length = k2 := by rw [hL2]; exact HLN.out
        rw [hLl] at hown ⊢
        have HROW := hide (show Row .i64 zl ab (told t2 1008) from hL2 ▸ Row.of_owns hown)
        have HD3 := hide (HD.out.below hbel)
        have HU3 := hide (below_block hbel HUR.out (Nat.le_refl _))
        obtain ⟨hb, hhas, hrhas⟩ := has_two B R p k2 C t2 HC.out HP.out
        have HH1 := hide hhas
        have HH2 := hide hrhas
        have HQ0 := hide (show Below zl.heap.size zl zl.drew from (Below.refl _ _).drew)
        have HLEN := hide (len_two B t2 k2 zl.drew (HD3.out.below HQ0.out).1)
        clear hL hL2 hLl hown hbel hhas hrhas HLI uR HD HUR
        go_wp2_with fail
        refine wp_region_held_drew (S := fun w' => w'.cell? ⟨O, 1, none⟩ = some (.int .u16 (p : Int)) ∧ w'.cell? ⟨R, 0, none⟩ = some (.slice aR k2 cR)) (by kernel_rfl) (by exact ⟨cell_at (HD3.out.below HQ0.out).2.2.2.2.1 1 rfl, (one_cell (below_block HQ0.out HU3.out (Nat.le_refl _))).1⟩) (fun hHeld => ?_)
        refine wpAnyH_take (i := 0) (oi := { dst := some 87, op := Op.move (Operand.tmp 3), type := 24, pos := "law.go:68", after := #[], guard := none }) (v := ?_) rfl (by kernel_rfl) (by kernel_rfl) (by kernel_rfl) (fun _ _ _ h => h) (Or.inl ⟨by rfl, ?_⟩) (by assumption) ?_
        rotate_left
        · intro wS hSw
          try dsimp only at hSw
          go_simp
          try with_reducible rfl
        try simp only [Act.put, List.setIfInBounds_toArray, List.set_cons_zero, List.set_cons_succ]
        refine wpAnyH_take (i := 2) (oi := { dst := some 89, op := Op.move (Operand.tmp 4), type := 26, pos := "law.go:68", after := #[], guard := none }) (v := ?_) rfl (by kernel_rfl) (by kernel_rfl) (by kernel_rfl) (fun _ _ _ h => h) (Or.inl ⟨by rfl, ?_⟩) (by assumption) ?_
        rotate_left
        · intro wS hSw
          try dsimp only at hSw
          go_simp
          try with_reducible rfl
        try simp only [Act.put, List.setIfInBounds_toArray, List.set_cons_zero, List.set_cons_succ]
        refine wpAnyH_take (i := 3) (oi := { dst := some 90, op := Op.nilCheck (Operand.tmp 89), type := 0, pos := "law.go:68", after := #[{ on := 2, ground := Ground.data }], guard := none }) (v := ?_) rfl (by kernel_rfl) (by kernel_rfl) (by kernel_rfl) (fun _ _ _ h => h) (Or.inl ⟨by rfl, ?_⟩) (by assumption) ?_
        rotate_left
        · intro wS hSw
          try dsimp only at hSw
          go_simp
          try with_reducible rfl
        try simp only [Act.put, List.setIfInBounds_toArray, List.set_cons_zero, List.set_cons_succ]
        refine wpAnyH_take (i := 4) (oi := { dst := some 91, op := Op.fieldAddr 29 (Operand.tmp 90) 0, type := 0, pos := "law.go:68", after := #[{ on := 3, ground := Ground.data }], guard := none }) (v := ?_) rfl (by kernel_rfl) (by kernel_rfl) (by kernel_rfl) (fun _ _ _ h => h) (Or.inl ⟨by rfl, ?_⟩) (by assumption) ?_
        rotate_left
        · intro wS hSw
          try dsimp only at hSw
          go_simp
          try with_reducible rfl
        try simp only [Act.put, List.setIfInBounds_toArray, List.set_cons_zero, List.set_cons_succ]
        refine wpAnyH_take (i := 5) (oi := { dst := some 92, op := Op.load 27 (Operand.tmp 91), type := 27, pos := "law.go:68", after := #[{ on := 4, ground := Ground.data }], guard := none }) (v := ?_) rfl (by kernel_rfl) (by kernel_rfl) (by kernel_rfl) (fun _ _ _ h => h) (Or.inl ⟨by rfl, ?_⟩) (by assumption) ?_
        rotate_left
        · intro wS hSw
          try dsimp only at hSw
          go_simp
          try with_reducible rfl
        try simp only [Act.put, List.setIfInBounds_toArray, List.set_cons_zero, List.set_cons_succ]
        refine wpAnyH_take (i := 6) (oi := { dst := some 93, op := Op.call { callee := Callee.builtin Builtin.len, args := #[Operand.tmp 92], argTypes := #[27] }, type := 3, pos := "law.go:68", after := #[{ on := 5, ground := Ground.data }], guard := none }) (v := ?_) rfl (by kernel_rfl) (by kernel_rfl) (by kernel_rfl) (fun _ _ _ h => h) (Or.inl ⟨by rfl, ?_⟩) (by assumption) ?_
        rotate_left
        · intro wS hSw
          try dsimp only at hSw
          go_simp
          try with_reducible rfl
        try simp only [Act.put, List.setIfInBounds_toArray, List.set_cons_zero, List.set_cons_succ]
        refine wpAnyH_ready (rs := [1]) (by kernel_rfl) (by simp) ?_
        refine AllReadyH.cons (o := { dst := some 88, op := Op.call { callee := Callee.value (Operand.func 17), args := #[Operand.tmp 87], argTypes := #[24] }, type := 3, pos := "law.go:68", after := #[{ on := 0, ground := Ground.data }], guard := none }) rfl (fun K hK => ?_) AllReadyH.nil
        go_simp
        go_at_call 17
        (with_reducible refine (HLEN.out).mono ?_)
        rintro e z1 ⟨rfl, b⟩
        have HQ1 := hide (HQ0.out.trans (b.mono HQ0.out.size))
        have HCA := hide (HH1.out z1 (HD3.out.below HQ1.out).1)
        clear b HLEN HQ0
        refine hK.out _ _ (⟨cell_at (HD3.out.below HQ1.out).2.2.2.2.1 1 rfl, (one_cell (below_block HQ1.out HU3.out (Nat.le_refl _))).1⟩) (fun hHeld1 => ?_)
        clear hK K
        try simp only [Act.put, List.setIfInBounds_toArray, List.set_cons_zero, List.set_cons_succ]
        refine wpAnyH_take (i := 7) (oi := { dst := some 94, op := Op.binOp BinOp.neq 3 (Operand.tmp 88) (Operand.tmp 93) 3, type := 4, pos := "law.go:68", after := #[{ on := 1, ground := Ground.data }, { on := 6, ground := Ground.data }], guard := none }) (v := ?_) rfl (by kernel_rfl) (by kernel_rfl) (by kernel_rfl) (fun _ _ _ h => h) (Or.inl ⟨by rfl, ?_⟩) (by assumption) ?_
        rotate_left
        · intro wS hSw
          try dsimp only at hSw
          go_simp
          try with_reducible rfl
        try simp only [Act.put, List.setIfInBounds_toArray, List.set_cons_zero, List.set_cons_succ]
        refine wpAnyH_take (i := 8) (oi := { dst := some 95, op := Op.move (Operand.tmp 94), type := 4, pos := "law.go:68", after := #[{ on := 7, ground := Ground.data }, { on := 1, ground := Ground.chain }], guard := none }) (v := ?_) rfl (by kernel_rfl) (by kernel_rfl) (by kernel_rfl) (fun _ _ _ h => h) (Or.inl ⟨by rfl, ?_⟩) (by assumption) ?_
        rotate_left
        · intro wS hSw
          try dsimp only at hSw
          go_simp
          try with_reducible rfl
        try simp only [Act.put, List.setIfInBounds_toArray, List.set_cons_zero, List.set_cons_succ]
        refine wpAnyH_take (i := 9) (oi := { dst := some 96, op := Op.move (Operand.tmp 3), type := 24, pos := "law.go:68", after := #[{ on := 8, ground := Ground.guard }], guard := some (8, false) }) (v := ?_) rfl (by kernel_rfl) (by kernel_rfl) (by kernel_rfl) (fun _ _ _ h => h) (Or.inl ⟨by rfl, ?_⟩) (by assumption) ?_
        rotate_left
        · intro wS hSw
          try dsimp only at hSw
          go_simp
          try with_reducible rfl
        try simp only [Act.put, List.setIfInBounds_toArray, List.set_cons_zero, List.set_cons_succ]
        refine wpAnyH_take (i := 10) (oi := { dst := some 97, op := Op.fieldAddr 33 (Operand.tmp 6) 1, type := 0, pos := "law.go:68", after := #[{ on := 8, ground := Ground.guard }], guard := some (8, false) }) (v := ?_) rfl (by kernel_rfl) (by kernel_rfl) (by kernel_rfl) (fun _ _ _ h => h) (Or.inl ⟨by rfl, ?_⟩) (by assumption) ?_
        rotate_left
        · intro wS hSw
          try dsimp only at hSw
          go_simp
          try with_reducible rfl
        try simp only [Act.put, List.setIfInBounds_toArray, List.set_cons_zero, List.set_cons_succ]
        refine wpAnyH_take (i := 11) (oi := { dst := some 98, op := Op.load 30 (Operand.tmp 97), type := 30, pos := "law.go:68", after := #[{ on := 10, ground := Ground.data }, { on := 8, ground := Ground.guard }], guard := some (8, false) }) (v := ?_) rfl (by kernel_rfl) (by kernel_rfl) (by kernel_rfl) (fun _ _ _ h => h) (Or.inl ⟨by rfl, ?_⟩) (by assumption) ?_
        rotate_left
        · intro wS hSw
          try dsimp only at hSw
          go_simp
          try with_reducible rfl
        try simp only [Act.put, List.setIfInBounds_toArray, List.set_cons_zero, List.set_cons_succ]
        refine wpAnyH_take (i := 13) (oi := { dst := some 100, op := Op.move (Operand.tmp 4), type := 26, pos := "law.go:68", after := #[{ on := 8, ground := Ground.guard }], guard := some (8, false) }) (v := ?_) rfl (by kernel_rfl) (by kernel_rfl) (by kernel_rfl) (fun _ _ _ h => h) (Or.inl ⟨by rfl, ?_⟩) (by assumption) ?_
        rotate_left
        · intro wS hSw
          try dsimp only at hSw
          go_simp
          try with_reducible rfl
        try simp only [Act.put, List.setIfInBounds_toArray, List.set_cons_zero, List.set_cons_succ]
        refine wpAnyH_take (i := 14) (oi := { dst := some 101, op := Op.fieldAddr 33 (Operand.tmp 6) 1, type := 0, pos := "law.go:68", after := #[{ on := 8, ground := Ground.guard }], guard := some (8, false) }) (v := ?_) rfl (by kernel_rfl) (by kernel_rfl) (by kernel_rfl) (fun _ _ _ h => h) (Or.inl ⟨by rfl, ?_⟩) (by assumption) ?_
        rotate_left
        · intro wS hSw
          try dsimp only at hSw
          go_simp
          try with_reducible rfl
        try simp only [Act.put, List.setIfInBounds_toArray, List.set_cons_zero, List.set_cons_succ]
        refine wpAnyH_take (i := 15) (oi := { dst := some 102, op := Op.load 30 (Operand.tmp 101), type := 30, pos := "law.go:68", after := #[{ on := 14, ground := Ground.data }, { on := 8, ground := Ground.guard }], guard := some (8, false) }) (v := ?_) rfl (by kernel_rfl) (by kernel_rfl) (by kernel_rfl) (fun _ _ _ h => h) (Or.inl ⟨by rfl, ?_⟩) (by assumption) ?_
        rotate_left
        · intro wS hSw
          try dsimp only at hSw
          go_simp
          try with_reducible rfl
        try simp only [Act.put, List.setIfInBounds_toArray, List.set_cons_zero, List.set_cons_succ]
        refine wpAnyH_take (i := 16) (oi := { dst := some 103, op := Op.convert 30 3 (Operand.tmp 102), type := 3, pos := "law.go:68", after := #[{ on := 15, ground := Ground.data }, { on := 8, ground := Ground.guard }], guard := some (8, false) }) (v := ?_) rfl (by kernel_rfl) (by kernel_rfl) (by kernel_rfl) (fun _ _ _ h => h) (Or.inl ⟨by rfl, ?_⟩) (by assumption) ?_
        rotate_left
        · intro wS hSw
          try dsimp only at hSw
          go_simp
          try with_reducible rfl
        try simp only [Act.put, List.setIfInBounds_toArray, List.set_cons_zero, List.set_cons_succ]
        refine wpAnyH_ready (rs := [12]) (by kernel_rfl) (by simp) ?_
        refine AllReadyH.cons (o := { dst := some 99, op := Op.call { callee := Callee.value (Operand.func 18), args := #[Operand.tmp 96, Operand.tmp 98], argTypes := #[24, 30] }, type := 4, pos := "law.go:68", after := #[{ on := 9, ground := Ground.data }, { on := 11, ground := Ground.data }, { on := 8, ground := Ground.chain }, { on := 8, ground := Ground.guard }], guard := some (8, false) }) rfl (fun K hK => ?_) AllReadyH.nil
        go_simp
        go_at_call 18
        (with_reducible refine (HCA.out).mono ?_)
        rintro e z2 ⟨rfl, b⟩
        have HQ2 := hide (HQ1.out.trans (b.mono HQ1.out.size))
        have HCB := hide (HH2.out z2 (HD3.out.below HQ2.out).2.1)
        clear b HCA HQ1 HH1
        refine hK.out _ _ (⟨cell_at (HD3.out.below HQ2.out).2.2.2.2.1 1 rfl, (one_cell (below_block HQ2.out HU3.out (Nat.le_refl _))).1⟩) (fun hHeld2 => ?_)
        clear hK K
        try simp only [Act.put, List.setIfInBounds_toArray, List.set_cons_zero, List.set_cons_succ]
        refine wpAnyH_ready (rs := [17]) (by kernel_rfl) (by simp) ?_
        refine AllReadyH.cons (o := { dst := some 104, op := Op.call { callee := Callee.value (Operand.func 19), args := #[Operand.tmp 100, Operand.tmp 103], argTypes := #[26, 3] }, type := 4, pos := "law.go:68", after := #[{ on := 13, ground := Ground.data }, { on := 16, ground := Ground.data }, { on := 12, ground := Ground.chain }, { on := 8, ground := Ground.guard }], guard := some (8, false) }) rfl (fun K hK => ?_) AllReadyH.nil
        go_simp
        go_at_call 19
        (with_reducible refine (HCB.out).mono ?_)
        rintro e z3 ⟨rfl, b⟩
        have HQ3 := hide (HQ2.out.trans (b.mono HQ2.out.size))
        clear b HCB HQ2 HH2
        refine hK.out _ _ (⟨cell_at (HD3.out.below HQ3.out).2.2.2.2.1 1 rfl, (one_cell (below_block HQ3.out HU3.out (Nat.le_refl _))).1⟩) (fun hHeld3 => ?_)
        clear hK K
        try simp only [Act.put, List.setIfInBounds_toArray, List.set_cons_zero, List.set_cons_succ]
        refine wpAnyH_take (i := 18) (oi := { dst := some 105, op := Op.binOp BinOp.neq 4 (Operand.tmp 99) (Operand.tmp 104) 4, type := 4, pos := "law.go:68", after := #[{ on := 12, ground := Ground.data }, { on := 17, ground := Ground.data }, { on := 8, ground := Ground.guard }], guard := some (8, false) }) (v := ?_) rfl (by kernel_rfl) (by kernel_rfl) (by kernel_rfl) (fun _ _ _ h => h) (Or.inl ⟨by rfl, ?_⟩) (by assumption) ?_
        rotate_left
        · intro wS hSw
          try dsimp only at hSw
          go_simp
          try with_reducible rfl
        try simp only [Act.put, List.setIfInBounds_toArray, List.set_cons_zero, List.set_cons_succ]
        refine wpAnyH_take (i := 19) (oi := { dst := some 106, op := Op.pick (Operand.tmp 95) (Operand.const (Value.bool true)) (Operand.tmp 105), type := 4, pos := "law.go:68", after := #[{ on := 8, ground := Ground.data }, { on := 18, ground := Ground.data }], guard := none }) (v := ?_) rfl (by kernel_rfl) (by kernel_rfl) (by kernel_rfl) (fun _ _ _ h => h) (Or.inl ⟨by rfl, ?_⟩) (by assumption) ?_
        rotate_left
        · intro wS hSw
          try dsimp only at hSw
          go_simp
          try with_reducible rfl
        try simp only [Act.put, List.setIfInBounds_toArray, List.set_cons_zero, List.set_cons_succ]
        refine wpAnyH_take (i := 20) (oi := { dst := some 107, op := Op.move (Operand.tmp 106), type := 4, pos := "law.go:68", after := #[{ on := 19, ground := Ground.data }, { on := 17, ground := Ground.chain }], guard := none }) (v := ?_) rfl (by kernel_rfl) (by kernel_rfl) (by kernel_rfl) (fun _ _ _ h => h) (Or.inl ⟨by rfl, ?_⟩) (by assumption) ?_
        rotate_left
        · intro wS hSw
          try dsimp only at hSw
          go_simp
          try with_reducible rfl
        try simp only [Act.put, List.setIfInBounds_toArray, List.set_cons_zero, List.set_cons_succ]
        refine wpAnyH_take (i := 21) (oi := { dst := some 108, op := Op.move (Operand.tmp 11), type := 27, pos := "law.go:68", after := #[{ on := 20, ground := Ground.guard }], guard := some (20, false) }) (v := ?_) rfl (by kernel_rfl) (by kernel_rfl) (by kernel_rfl) (fun _ _ _ h => h) (Or.inl ⟨by rfl, ?_⟩) (by assumption) ?_
        rotate_left
        · intro wS hSw
          try dsimp only at hSw
          go_simp
          try with_reducible rfl
        try simp only [Act.put, List.setIfInBounds_toArray, List.set_cons_zero, List.set_cons_succ]
        refine wpAnyH_take (i := 22) (oi := { dst := some 109, op := Op.call { callee := Callee.builtin Builtin.len, args := #[Operand.tmp 108], argTypes := #[27] }, type := 3, pos := "law.go:68", after := #[{ on := 21, ground := Ground.data }, { on := 20, ground := Ground.guard }], guard := some (20, false) }) (v := ?_) rfl (by kernel_rfl) (by kernel_rfl) (by kernel_rfl) (fun _ _ _ h => h) (Or.inl ⟨by rfl, ?_⟩) (by assumption) ?_
        rotate_left
        · intro wS hSw
          try dsimp only at hSw
          go_simp
          try with_reducible rfl
        try simp only [Act.put, List.setIfInBounds_toArray, List.set_cons_zero, List.set_cons_succ]
        refine wpAnyH_take (i := 23) (oi := { dst := some 110, op := Op.move (Operand.tmp 4), type := 26, pos := "law.go:68", after := #[{ on := 20, ground := Ground.guard }], guard := some (20, false) }) (v := ?_) rfl (by kernel_rfl) (by kernel_rfl) (by kernel_rfl) (fun _ _ _ h => h) (Or.inl ⟨by rfl, ?_⟩) (by assumption) ?_
        rotate_left
        · intro wS hSw
          try dsimp only at hSw
          go_simp
          try with_reducible rfl
        try simp only [Act.put, List.setIfInBounds_toArray, List.set_cons_zero, List.set_cons_succ]
        refine wpAnyH_take (i := 24) (oi := { dst := some 111, op := Op.nilCheck (Operand.tmp 110), type := 0, pos := "law.go:68", after := #[{ on := 23, ground := Ground.data }, { on := 20, ground := Ground.guard }], guard := some (20, false) }) (v := ?_) rfl (by kernel_rfl) (by kernel_rfl) (by kernel_rfl) (fun _ _ _ h => h) (Or.inl ⟨by rfl, ?_⟩) (by assumption) ?_
        rotate_left
        · intro wS hSw
          try dsimp only at hSw
          go_simp
          try with_reducible rfl
        try simp only [Act.put, List.setIfInBounds_toArray, List.set_cons_zero, List.set_cons_succ]
        refine wpAnyH_take (i := 25) (oi := { dst := some 112, op := Op.fieldAddr 29 (Operand.tmp 111) 0, type := 0, pos := "law.go:68", after := #[{ on := 24, ground := Ground.data }, { on := 20, ground := Ground.guard }], guard := some (20, false) }) (v := ?_) rfl (by kernel_rfl) (by kernel_rfl) (by kernel_rfl) (fun _ _ _ h => h) (Or.inl ⟨by rfl, ?_⟩) (by assumption) ?_
        rotate_left
        · intro wS hSw
          try dsimp only at hSw
          go_simp
          try with_reducible rfl
        try simp only [Act.put, List.setIfInBounds_toArray, List.set_cons_zero, List.set_cons_succ]
        refine wpAnyH_take (i := 26) (oi := { dst := some 113, op := Op.load 27 (Operand.tmp 112), type := 27, pos := "law.go:68", after := #[{ on := 25, ground := Ground.data }, { on := 20, ground := Ground.guard }], guard := some (20, false) }) (v := ?_) rfl (by kernel_rfl) (by kernel_rfl) (by kernel_rfl) (fun _ _ _ h => h) (Or.inl ⟨by rfl, ?_⟩) (by assumption) ?_
        rotate_left
        · intro wS hSw
          try dsimp only at hSw
          go_simp
          try with_reducible rfl
        try simp only [Act.put, List.setIfInBounds_toArray, List.set_cons_zero, List.set_cons_succ]
        refine wpAnyH_take (i := 27) (oi := { dst := some 114, op := Op.call { callee := Callee.builtin Builtin.len, args := #[Operand.tmp 113], argTypes := #[27] }, type := 3, pos := "law.go:68", after := #[{ on := 26, ground := Ground.data }, { on := 20, ground := Ground.guard }], guard := some (20, false) }) (v := ?_) rfl (by kernel_rfl) (by kernel_rfl) (by kernel_rfl) (fun _ _ _ h => h) (Or.inl ⟨by rfl, ?_⟩) (by assumption) ?_
        rotate_left
        · intro wS hSw
          try dsimp only at hSw
          go_simp
          try with_reducible rfl
        try simp only [Act.put, List.setIfInBounds_toArray, List.set_cons_zero, List.set_cons_succ]
        refine wpAnyH_take (i := 28) (oi := { dst := some 115, op := Op.binOp BinOp.neq 3 (Operand.tmp 109) (Operand.tmp 114) 3, type := 4, pos := "law.go:68", after := #[{ on := 22, ground := Ground.data }, { on := 27, ground := Ground.data }, { on := 20, ground := Ground.guard }], guard := some (20, false) }) (v := ?_) rfl (by kernel_rfl) (by kernel_rfl) (by kernel_rfl) (fun _ _ _ h => h) (Or.inl ⟨by rfl, ?_⟩) (by assumption) ?_
        rotate_left
        · intro wS hSw
          try dsimp only at hSw
          go_simp
          try with_reducible rfl
        try simp only [Act.put, List.setIfInBounds_toArray, List.set_cons_zero, List.set_cons_succ]
        refine wpAnyH_take (i := 29) (oi := { dst := some 116, op := Op.pick (Operand.tmp 107) (Operand.const (Value.bool true)) (Operand.tmp 115), type := 4, pos := "law.go:68", after := #[{ on := 20, ground := Ground.data }, { on := 28, ground := Ground.data }], guard := none }) (v := ?_) rfl (by kernel_rfl) (by kernel_rfl) (by kernel_rfl) (fun _ _ _ h => h) (Or.inl ⟨by rfl, ?_⟩) (by assumption) ?_
        rotate_left
        · intro wS hSw
          try dsimp only at hSw
          go_simp
          try with_reducible rfl
        try simp only [Act.put, List.setIfInBounds_toArray, List.set_cons_zero, List.set_cons_succ]
        refine wpAnyH_done (by kernel_rfl) ?_ _
        have HD4 := hide (And.intro (HD3.out.below HQ3.out) (And.intro (HROW.out.below HQ3.out (Nat.le_refl _)) (below_block HQ3.out HU3.out (Nat.le_refl _))))
        clear HD3 HROW HU3 HQ3
        go_wp2_with fail
        go_loopw [119] (fun i wz => ∃ r : Nat, r ≤ k2 ∧ i = .int .i64 r ∧ Hid (RdSt w wz B R O C k2 t2 (opC x0 p d) ∧ Row .i64 wz ab (told t2 1008) ∧ wz.heap[R]? = some (.cells #[.slice aR k2 cR] 29 (0, 0)))) (fun i _ => k2 - (intOf i).toNat)
        case atStart => exact ⟨0, Nat.zero_le _, rfl, HD4⟩
        case round =>
          clear HD4
          obtain ⟨r, hr, rfl, HD⟩ := hrel
          by_cases hrk : r < k2
          · have d9 : decide (r < k2) = true := by simp; omega
            have HLN2 := HLN.out
            obtain ⟨b1, o1, he1, hl1, hc1⟩ := HD.out.2.1.at (i := r) (by omega)
            have g1 := hc1 r (by omega)
            obtain ⟨a', c', u1, u2, u3⟩ := HD.out.1.2.1.cell
            have ea : a' = aR := by
              have e1 := (one_cell u1).1
              rw [(one_cell HD.out.2.2).1] at e1
              simp at e1
              exact e1.1.symm
            rw [ea] at u2
            obtain ⟨b2, o2, he2, hl2, hc2⟩ := u2.at (i := r) (by omega)
            have g2 := hc2 r (by omega)
            obtain ⟨x, hx⟩ : ∃ x, (told t2 1008)[r]?.getD 0 = x := ⟨_, rfl⟩
            rw [hx] at g1 g2
            have g3 := (one_cell HD.out.2.2).1
            have r4 : (0 : Int) ≤ (r : Int) := by omega
            have r5 : (r : Int) ≤ 1000 := by omega
            have HDD := hide (And.intro HD.out.1.drew (And.intro (HD.out.2.1.below ((Below.refl wr.heap.size wr).drew) (Nat.le_refl _)) (show wr.drew.heap[R]? = some (.cells #[.slice aR k2 cR] 29 (0, 0)) from HD.out.2.2)))
            clear hl1 hc1 u1 u2 u3 ea hl2 hc2 hx HLN2 HD
            subst he1
            subst he2
            go_wp2_with fail
            go_region
            go_wp2_with fail
            go_roundw
            case rel => exact ⟨r + 1, by omega, by go_num, HDD⟩
            case measure => simp [intOf]; omega
          · have d9 : decide (r < k2) = false := by simp; omega
            clear hr hrk
            have HE := hide (show PlSt w wr B R C (j + 1) from ⟨t2, k2, HD.out.1.1, HD.out.1.2.1, HD.out.1.2.2.1, HK2.out, HD.out.1.2.2.2.1⟩)
            clear HD
            go_wp2_with fail
            go_roundw
            case rel => exact ⟨j + 1, by omega, by go_num, HE⟩
            case measure => simp [intOf]; omega
      by_cases c1 : y = 1
      · have d5 : (y == 0) = false := by simp [c0]
        have d6 : (y == 1) = true := by simp [c1]
        clear c0 c1
        obtain ⟨bb, t2, k2, hc2, hk2, h2a, h2b⟩ := give_two B R p k C t HC.out HP.out HKJ.out.2 HRD.out.2.2.1
        have HL1 := hide (h2a w4.drew HRD.out.drew.1 (HT.out.below HRD.out.drew.2.2.2.1 (Nat.le_refl _)))
        have H2B := hide h2b
        have HC2 := hide hc2
        have HK2 := hide (show k2 ≤ j + 1 by have := HKJ.out; omega)
        clear h2a h2b hc2 hk2
        go_wp2_with fail
        rw [HW.out.2]
        rw [HW.out.1]
        clear HW
        refine wp_region_held_drew (S := fun w' => w'.cell? ⟨O, 1, none⟩ = some (.int .u16 (p : Int))) (by kernel_rfl) (by exact cell_at HRD.out.2.2.2.2.1 1 rfl) (fun hHeld => ?_)
        refine wpAnyH_take (i := 0) (oi := { dst := some 69, op := Op.move (Operand.tmp 3), type := 24, pos := "law.go:57", after := #[], guard := none }) (v := ?_) rfl (by kernel_rfl) (by kernel_rfl) (by kernel_rfl) (fun _ _ _ h => h) (Or.inl ⟨by rfl, ?_⟩) (by assumption) ?_
        rotate_left
        · intro wS hSw
          try dsimp only at hSw
          go_simp
          try with_reducible rfl
        try simp only [Act.put, List.setIfInBounds_toArray, List.set_cons_zero, List.set_cons_succ]
        refine wpAnyH_take (i := 1) (oi := { dst := some 70, op := Op.fieldAddr 33 (Operand.tmp 6) 1, type := 0, pos := "law.go:57", after := #[], guard := none }) (v := ?_) rfl (by kernel_rfl) (by kernel_rfl) (by kernel_rfl) (fun _ _ _ h => h) (Or.inl ⟨by rfl, ?_⟩) (by assumption) ?_
        rotate_left
        · intro wS hSw
          try dsimp only at hSw
          go_simp
          try with_reducible rfl
        try simp only [Act.put, List.setIfInBounds_toArray, List.set_cons_zero, List.set_cons_succ]
        refine wpAnyH_take (i := 2) (oi := { dst := some 71, op := Op.load 30 (Operand.tmp 70), type := 30, pos := "law.go:57", after := #[{ on := 1, ground := Ground.data }], guard := none }) (v := ?_) rfl (by kernel_rfl) (by kernel_rfl) (by kernel_rfl) (fun _ _ _ h => h) (Or.inl ⟨by rfl, ?_⟩) (by assumption) ?_
        rotate_left
        · intro wS hSw
          try dsimp only at hSw
          go_simp
          try with_reducible rfl
        try simp only [Act.put, List.setIfInBounds_toArray, List.set_cons_zero, List.set_cons_succ]
        refine wpAnyH_take (i := 4) (oi := { dst := some 73, op := Op.move (Operand.tmp 4), type := 26, pos := "law.go:57", after := #[], guard := none }) (v := ?_) rfl (by kernel_rfl) (by kernel_rfl) (by kernel_rfl) (fun _ _ _ h => h) (Or.inl ⟨by rfl, ?_⟩) (by assumption) ?_
        rotate_left
        · intro wS hSw
          try dsimp only at hSw
          go_simp
          try with_reducible rfl
        try simp only [Act.put, List.setIfInBounds_toArray, List.set_cons_zero, List.set_cons_succ]
        refine wpAnyH_take (i := 5) (oi := { dst := some 74, op := Op.fieldAddr 33 (Operand.tmp 6) 1, type := 0, pos := "law.go:57", after := #[], guard := none }) (v := ?_) rfl (by kernel_rfl) (by kernel_rfl) (by kernel_rfl) (fun _ _ _ h => h) (Or.inl ⟨by rfl, ?_⟩) (by assumption) ?_
        rotate_left
        · intro wS hSw
          try dsimp only at hSw
          go_simp
          try with_reducible rfl
        try simp only [Act.put, List.setIfInBounds_toArray, List.set_cons_zero, List.set_cons_succ]
        refine wpAnyH_take (i := 6) (oi := { dst := some 75, op := Op.load 30 (Operand.tmp 74), type := 30, pos := "law.go:57", after := #[{ on := 5, ground := Ground.data }], guard := none }) (v := ?_) rfl (by kernel_rfl) (by kernel_rfl) (by kernel_rfl) (fun _ _ _ h => h) (Or.inl ⟨by rfl, ?_⟩) (by assumption) ?_
        rotate_left
        · intro wS hSw
          try dsimp only at hSw
          go_simp
          try with_reducible rfl
        try simp only [Act.put, List.setIfInBounds_toArray, List.set_cons_zero, List.set_cons_succ]
        refine wpAnyH_take (i := 7) (oi := { dst := some 76, op := Op.convert 30 3 (Operand.tmp 75), type := 3, pos := "law.go:57", after := #[{ on := 6, ground := Ground.data }], guard := none }) (v := ?_) rfl (by kernel_rfl) (by kernel_rfl) (by kernel_rfl) (fun _ _ _ h => h) (Or.inl ⟨by rfl, ?_⟩) (by assumption) ?_
        rotate_left
        · intro wS hSw
          try dsimp only at hSw
          go_simp
          try with_reducible rfl
        try simp only [Act.put, List.setIfInBounds_toArray, List.set_cons_zero, List.set_cons_succ]
        refine wpAnyH_ready (rs := [3]) (by kernel_rfl) (by simp) ?_
        refine AllReadyH.cons (o := { dst := some 72, op := Op.call { callee := Callee.value (Operand.func 12), args := #[Operand.tmp 69, Operand.tmp 71], argTypes := #[24, 30] }, type := 4, pos := "law.go:57", after := #[{ on := 0, ground := Ground.data }, { on := 2, ground := Ground.data }], guard := none }) rfl (fun K hK => ?_) AllReadyH.nil
        go_simp
        go_at_call 12
        (with_reducible refine (HL1.out).mono ?_)
        rintro e z1 ⟨rfl, p5, o5⟩
        have HM := hide (HRD.out.drew.first p5 HC2.out o5 HBw.out HNE.out)
        have HL2 := hide (H2B.out z1 HM.out.2.1)
        have HKP := hide (cell_at HM.out.2.2.2.2.1 1 rfl)
        clear p5 o5 HL1 HRD
        refine hK.out _ _ (HKP.out) (fun hHeld1 => ?_)
        clear hK K
        try simp only [Act.put, List.setIfInBounds_toArray, List.set_cons_zero, List.set_cons_succ]
        refine wpAnyH_ready (rs := [8]) (by kernel_rfl) (by simp) ?_
        refine AllReadyH.cons (o := { dst := some 77, op := Op.call { callee := Callee.value (Operand.func 13), args := #[Operand.tmp 73, Operand.tmp 76], argTypes := #[26, 3] }, type := 4, pos := "law.go:57", after := #[{ on := 4, ground := Ground.data }, { on := 7, ground := Ground.data }, { on := 3, ground := Ground.chain }], guard := none }) rfl (fun K hK => ?_) AllReadyH.nil
        go_simp
        go_at_call 13
        (with_reducible refine (HL2.out).mono ?_)
        rintro e z2 ⟨rfl, p6, o6⟩
        have HD := hide (HM.out.second p6 o6 HRw.out HNE.out)
        clear HKP
        have HKP := hide (cell_at HD.out.2.2.2.2.1 1 rfl)
        clear p6 o6 HM HL2 H2B
        refine hK.out _ _ (HKP.out) (fun hHeld2 => ?_)
        clear hK K
        try simp only [Act.put, List.setIfInBounds_toArray, List.set_cons_zero, List.set_cons_succ]
        refine wpAnyH_take (i := 9) (oi := { dst := some 78, op := Op.binOp BinOp.neq 4 (Operand.tmp 72) (Operand.tmp 77) 4, type := 4, pos := "law.go:57", after := #[{ on := 3, ground := Ground.data }, { on := 8, ground := Ground.data }], guard := none }) (v := ?_) rfl (by kernel_rfl) (by kernel_rfl) (by kernel_rfl) (fun _ _ _ h => h) (Or.inl ⟨by rfl, ?_⟩) (by assumption) ?_
        rotate_left
        · intro wS hSw
          try dsimp only at hSw
          go_simp
          try with_reducible rfl
        try simp only [Act.put, List.setIfInBounds_toArray, List.set_cons_zero, List.set_cons_succ]
        refine wpAnyH_done (by kernel_rfl) ?_ _
        clear HKP
        have HLI := hide (listed_any z2 B t2 (k2 : Int) ((k2 : Int) + 1) (HT.out.below HD.out.2.2.2.1 (Nat.le_refl _)) HD.out.1)
        obtain ⟨aR, cR, hr1, hr2, hr3⟩ := HD.out.2.1.cell
        have hln := told_size t2 C k2 HC.out HD.out.2.2.1
        rw [hln] at hr1
        have uR := (one_cell hr1).1
        have HUR := hide hr1
        have hk4 : (0 : Int) ≤ (k2 : Int) := by omega
        have hk5 : (k2 : Int) ≤ 1000 := by have := HK2.out; have := HNM.out; omega
        have HLN := hide hln
        clear hr1 hr2 hr3 hln
        go_wp2_with fail
        (with_reducible refine HLI.out.mono ?_)
        rintro e zl ⟨ab, cb, L, hL, rfl, hown, hbel⟩
        have hL2 : L = told t2 1008 := by
          rw [← hL]
          exact stopAt_all _ _ (.inr (by rw [HLN.out]; omega))
        have hLl : L.length = k2 := by rw [hL2]; exact HLN.out
        rw [hLl] at hown ⊢
        have HROW := hide (show Row .i64 zl ab (told t2 1008) from hL2 ▸ Row.of_owns hown)
        have HD3 := hide (HD.out.below hbel)
        have HU3 := hide (below_block hbel HUR.out (Nat.le_refl _))
        obtain ⟨hb, hhas, hrhas⟩ := has_two B R p k2 C t2 HC.out HP.out
        have HH1 := hide hhas
        have HH2 := hide hrhas
        have HQ0 := hide (show Below zl.heap.size zl zl.drew from (Below.refl _ _).drew)
        have HLEN := hide (len_two B t2 k2 zl.drew (HD3.out.below HQ0.out).1)
        clear hL hL2 hLl hown hbel hhas hrhas HLI uR HD HUR
        go_wp2_with fail
        refine wp_region_held_drew (S := fun w' => w'.cell? ⟨O, 1, none⟩ = some (.int .u16 (p : Int)) ∧ w'.cell? ⟨R, 0, none⟩ = some (.slice aR k2 cR)) (by kernel_rfl) (by exact ⟨cell_at (HD3.out.below HQ0.out).2.2.2.2.1 1 rfl, (one_cell (below_block HQ0.out HU3.out (Nat.le_refl _))).1⟩) (fun hHeld => ?_)
        refine wpAnyH_take (i := 0) (oi := { dst := some 87, op := Op.move (Operand.tmp 3), type := 24, pos := "law.go:68", after := #[], guard := none }) (v := ?_) rfl (by kernel_rfl) (by kernel_rfl) (by kernel_rfl) (fun _ _ _ h => h) (Or.inl ⟨by rfl, ?_⟩) (by assumption) ?_
        rotate_left
        · intro wS hSw
          try dsimp only at hSw
          go_simp
          try with_reducible rfl
        try simp only [Act.put, List.setIfInBounds_toArray, List.set_cons_zero, List.set_cons_succ]
        refine wpAnyH_take (i := 2) (oi := { dst := some 89, op := Op.move (Operand.tmp 4), type := 26, pos := "law.go:68", after := #[], guard := none }) (v := ?_) rfl (by kernel_rfl) (by kernel_rfl) (by kernel_rfl) (fun _ _ _ h => h) (Or.inl ⟨by rfl, ?_⟩) (by assumption) ?_
        rotate_left
        · intro wS hSw
          try dsimp only at hSw
          go_simp
          try with_reducible rfl
        try simp only [Act.put, List.setIfInBounds_toArray, List.set_cons_zero, List.set_cons_succ]
        refine wpAnyH_take (i := 3) (oi := { dst := some 90, op := Op.nilCheck (Operand.tmp 89), type := 0, pos := "law.go:68", after := #[{ on := 2, ground := Ground.data }], guard := none }) (v := ?_) rfl (by kernel_rfl) (by kernel_rfl) (by kernel_rfl) (fun _ _ _ h => h) (Or.inl ⟨by rfl, ?_⟩) (by assumption) ?_
        rotate_left
        · intro wS hSw
          try dsimp only at hSw
          go_simp
          try with_reducible rfl
        try simp only [Act.put, List.setIfInBounds_toArray, List.set_cons_zero, List.set_cons_succ]
        refine wpAnyH_take (i := 4) (oi := { dst := some 91, op := Op.fieldAddr 29 (Operand.tmp 90) 0, type := 0, pos := "law.go:68", after := #[{ on := 3, ground := Ground.data }], guard := none }) (v := ?_) rfl (by kernel_rfl) (by kernel_rfl) (by kernel_rfl) (fun _ _ _ h => h) (Or.inl ⟨by rfl, ?_⟩) (by assumption) ?_
        rotate_left
        · intro wS hSw
          try dsimp only at hSw
          go_simp
          try with_reducible rfl
        try simp only [Act.put, List.setIfInBounds_toArray, List.set_cons_zero, List.set_cons_succ]
        refine wpAnyH_take (i := 5) (oi := { dst := some 92, op := Op.load 27 (Operand.tmp 91), type := 27, pos := "law.go:68", after := #[{ on := 4, ground := Ground.data }], guard := none }) (v := ?_) rfl (by kernel_rfl) (by kernel_rfl) (by kernel_rfl) (fun _ _ _ h => h) (Or.inl ⟨by rfl, ?_⟩) (by assumption) ?_
        rotate_left
        · intro wS hSw
          try dsimp only at hSw
          go_simp
          try with_reducible rfl
        try simp only [Act.put, List.setIfInBounds_toArray, List.set_cons_zero, List.set_cons_succ]
        refine wpAnyH_take (i := 6) (oi := { dst := some 93, op := Op.call { callee := Callee.builtin Builtin.len, args := #[Operand.tmp 92], argTypes := #[27] }, type := 3, pos := "law.go:68", after := #[{ on := 5, ground := Ground.data }], guard := none }) (v := ?_) rfl (by kernel_rfl) (by kernel_rfl) (by kernel_rfl) (fun _ _ _ h => h) (Or.inl ⟨by rfl, ?_⟩) (by assumption) ?_
        rotate_left
        · intro wS hSw
          try dsimp only at hSw
          go_simp
          try with_reducible rfl
        try simp only [Act.put, List.setIfInBounds_toArray, List.set_cons_zero, List.set_cons_succ]
        refine wpAnyH_ready (rs := [1]) (by kernel_rfl) (by simp) ?_
        refine AllReadyH.cons (o := { dst := some 88, op := Op.call { callee := Callee.value (Operand.func 17), args := #[Operand.tmp 87], argTypes := #[24] }, type := 3, pos := "law.go:68", after := #[{ on := 0, ground := Ground.data }], guard := none }) rfl (fun K hK => ?_) AllReadyH.nil
        go_simp
        go_at_call 17
        (with_reducible refine (HLEN.out).mono ?_)
        rintro e z1 ⟨rfl, b⟩
        have HQ1 := hide (HQ0.out.trans (b.mono HQ0.out.size))
        have HCA := hide (HH1.out z1 (HD3.out.below HQ1.out).1)
        clear b HLEN HQ0
        refine hK.out _ _ (⟨cell_at (HD3.out.below HQ1.out).2.2.2.2.1 1 rfl, (one_cell (below_block HQ1.out HU3.out (Nat.le_refl _))).1⟩) (fun hHeld1 => ?_)
        clear hK K
        try simp only [Act.put, List.setIfInBounds_toArray, List.set_cons_zero, List.set_cons_succ]
        refine wpAnyH_take (i := 7) (oi := { dst := some 94, op := Op.binOp BinOp.neq 3 (Operand.tmp 88) (Operand.tmp 93) 3, type := 4, pos := "law.go:68", after := #[{ on := 1, ground := Ground.data }, { on := 6, ground := Ground.data }], guard := none }) (v := ?_) rfl (by kernel_rfl) (by kernel_rfl) (by kernel_rfl) (fun _ _ _ h => h) (Or.inl ⟨by rfl, ?_⟩) (by assumption) ?_
        rotate_left
        · intro wS hSw
          try dsimp only at hSw
          go_simp
          try with_reducible rfl
        try simp only [Act.put, List.setIfInBounds_toArray, List.set_cons_zero, List.set_cons_succ]
        refine wpAnyH_take (i := 8) (oi := { dst := some 95, op := Op.move (Operand.tmp 94), type := 4, pos := "law.go:68", after := #[{ on := 7, ground := Ground.data }, { on := 1, ground := Ground.chain }], guard := none }) (v := ?_) rfl (by kernel_rfl) (by kernel_rfl) (by kernel_rfl) (fun _ _ _ h => h) (Or.inl ⟨by rfl, ?_⟩) (by assumption) ?_
        rotate_left
        · intro wS hSw
          try dsimp only at hSw
          go_simp
          try with_reducible rfl
        try simp only [Act.put, List.setIfInBounds_toArray, List.set_cons_zero, List.set_cons_succ]
        refine wpAnyH_take (i := 9) (oi := { dst := some 96, op := Op.move (Operand.tmp 3), type := 24, pos := "law.go:68", after := #[{ on := 8, ground := Ground.guard }], guard := some (8, false) }) (v := ?_) rfl (by kernel_rfl) (by kernel_rfl) (by kernel_rfl) (fun _ _ _ h => h) (Or.inl ⟨by rfl, ?_⟩) (by assumption) ?_
        rotate_left
        · intro wS hSw
          try dsimp only at hSw
          go_simp
          try with_reducible rfl
        try simp only [Act.put, List.setIfInBounds_toArray, List.set_cons_zero, List.set_cons_succ]
        refine wpAnyH_take (i := 10) (oi := { dst := some 97, op := Op.fieldAddr 33 (Operand.tmp 6) 1, type := 0, pos := "law.go:68", after := #[{ on := 8, ground := Ground.guard }], guard := some (8, false) }) (v := ?_) rfl (by kernel_rfl) (by kernel_rfl) (by kernel_rfl) (fun _ _ _ h => h) (Or.inl ⟨by rfl, ?_⟩) (by assumption) ?_
        rotate_left
        · intro wS hSw
          try dsimp only at hSw
          go_simp
          try with_reducible rfl
        try simp only [Act.put, List.setIfInBounds_toArray, List.set_cons_zero, List.set_cons_succ]
        refine wpAnyH_take (i := 11) (oi := { dst := some 98, op := Op.load 30 (Operand.tmp 97), type := 30, pos := "law.go:68", after := #[{ on := 10, ground := Ground.data }, { on := 8, ground := Ground.guard }], guard := some (8, false) }) (v := ?_) rfl (by kernel_rfl) (by kernel_rfl) (by kernel_rfl) (fun _ _ _ h => h) (Or.inl ⟨by rfl, ?_⟩) (by assumption) ?_
        rotate_left
        · intro wS hSw
          try dsimp only at hSw
          go_simp
          try with_reducible rfl
        try simp only [Act.put, List.setIfInBounds_toArray, List.set_cons_zero, List.set_cons_succ]
        refine wpAnyH_take (i := 13) (oi := { dst := some 100, op := Op.move (Operand.tmp 4), type := 26, pos := "law.go:68", after := #[{ on := 8, ground := Ground.guard }], guard := some (8, false) }) (v := ?_) rfl (by kernel_rfl) (by kernel_rfl) (by kernel_rfl) (fun _ _ _ h => h) (Or.inl ⟨by rfl, ?_⟩) (by assumption) ?_
        rotate_left
        · intro wS hSw
          try dsimp only at hSw
          go_simp
          try with_reducible rfl
        try simp only [Act.put, List.setIfInBounds_toArray, List.set_cons_zero, List.set_cons_succ]
        refine wpAnyH_take (i := 14) (oi := { dst := some 101, op := Op.fieldAddr 33 (Operand.tmp 6) 1, type := 0, pos := "law.go:68", after := #[{ on := 8, ground := Ground.guard }], guard := some (8, false) }) (v := ?_) rfl (by kernel_rfl) (by kernel_rfl) (by kernel_rfl) (fun _ _ _ h => h) (Or.inl ⟨by rfl, ?_⟩) (by assumption) ?_
        rotate_left
        · intro wS hSw
          try dsimp only at hSw
          go_simp
          try with_reducible rfl
        try simp only [Act.put, List.setIfInBounds_toArray, List.set_cons_zero, List.set_cons_succ]
        refine wpAnyH_take (i := 15) (oi := { dst := some 102, op := Op.load 30 (Operand.tmp 101), type := 30, pos := "law.go:68", after := #[{ on := 14, ground := Ground.data }, { on := 8, ground := Ground.guard }], guard := some (8, false) }) (v := ?_) rfl (by kernel_rfl) (by kernel_rfl) (by kernel_rfl) (fun _ _ _ h => h) (Or.inl ⟨by rfl, ?_⟩) (by assumption) ?_
        rotate_left
        · intro wS hSw
          try dsimp only at hSw
          go_simp
          try with_reducible rfl
        try simp only [Act.put, List.setIfInBounds_toArray, List.set_cons_zero, List.set_cons_succ]
        refine wpAnyH_take (i := 16) (oi := { dst := some 103, op := Op.convert 30 3 (Operand.tmp 102), type := 3, pos := "law.go:68", after := #[{ on := 15, ground := Ground.data }, { on := 8, ground := Ground.guard }], guard := some (8, false) }) (v := ?_) rfl (by kernel_rfl) (by kernel_rfl) (by kernel_rfl) (fun _ _ _ h => h) (Or.inl ⟨by rfl, ?_⟩) (by assumption) ?_
        rotate_left
        · intro wS hSw
          try dsimp only at hSw
          go_simp
          try with_reducible rfl
        try simp only [Act.put, List.setIfInBounds_toArray, List.set_cons_zero, List.set_cons_succ]
        refine wpAnyH_ready (rs := [12]) (by kernel_rfl) (by simp) ?_
        refine AllReadyH.cons (o := { dst := some 99, op := Op.call { callee := Callee.value (Operand.func 18), args := #[Operand.tmp 96, Operand.tmp 98], argTypes := #[24, 30] }, type := 4, pos := "law.go:68", after := #[{ on := 9, ground := Ground.data }, { on := 11, ground := Ground.data }, { on := 8, ground := Ground.chain }, { on := 8, ground := Ground.guard }], guard := some (8, false) }) rfl (fun K hK => ?_) AllReadyH.nil
        go_simp
        go_at_call 18
        (with_reducible refine (HCA.out).mono ?_)
        rintro e z2 ⟨rfl, b⟩
        have HQ2 := hide (HQ1.out.trans (b.mono HQ1.out.size))
        have HCB := hide (HH2.out z2 (HD3.out.below HQ2.out).2.1)
        clear b HCA HQ1 HH1
        refine hK.out _ _ (⟨cell_at (HD3.out.below HQ2.out).2.2.2.2.1 1 rfl, (one_cell (below_block HQ2.out HU3.out (Nat.le_refl _))).1⟩) (fun hHeld2 => ?_)
        clear hK K
        try simp only [Act.put, List.setIfInBounds_toArray, List.set_cons_zero, List.set_cons_succ]
        refine wpAnyH_ready (rs := [17]) (by kernel_rfl) (by simp) ?_
        refine AllReadyH.cons (o := { dst := some 104, op := Op.call { callee := Callee.value (Operand.func 19), args := #[Operand.tmp 100, Operand.tmp 103], argTypes := #[26, 3] }, type := 4, pos := "law.go:68", after := #[{ on := 13, ground := Ground.data }, { on := 16, ground := Ground.data }, { on := 12, ground := Ground.chain }, { on := 8, ground := Ground.guard }], guard := some (8, false) }) rfl (fun K hK => ?_) AllReadyH.nil
        go_simp
        go_at_call 19
        (with_reducible refine (HCB.out).mono ?_)
        rintro e z3 ⟨rfl, b⟩
        have HQ3 := hide (HQ2.out.trans (b.mono HQ2.out.size))
        clear b HCB HQ2 HH2
        refine hK.out _ _ (⟨cell_at (HD3.out.below HQ3.out).2.2.2.2.1 1 rfl, (one_cell (below_block HQ3.out HU3.out (Nat.le_refl _))).1⟩) (fun hHeld3 => ?_)
        clear hK K
        try simp only [Act.put, List.setIfInBounds_toArray, List.set_cons_zero, List.set_cons_succ]
        refine wpAnyH_take (i := 18) (oi := { dst := some 105, op := Op.binOp BinOp.neq 4 (Operand.tmp 99) (Operand.tmp 104) 4, type := 4, pos := "law.go:68", after := #[{ on := 12, ground := Ground.data }, { on := 17, ground := Ground.data }, { on := 8, ground := Ground.guard }], guard := some (8, false) }) (v := ?_) rfl (by kernel_rfl) (by kernel_rfl) (by kernel_rfl) (fun _ _ _ h => h) (Or.inl ⟨by rfl, ?_⟩) (by assumption) ?_
        rotate_left
        · intro wS hSw
          try dsimp only at hSw
          go_simp
          try with_reducible rfl
        try simp only [Act.put, List.setIfInBounds_toArray, List.set_cons_zero, List.set_cons_succ]
        refine wpAnyH_take (i := 19) (oi := { dst := some 106, op := Op.pick (Operand.tmp 95) (Operand.const (Value.bool true)) (Operand.tmp 105), type := 4, pos := "law.go:68", after := #[{ on := 8, ground := Ground.data }, { on := 18, ground := Ground.data }], guard := none }) (v := ?_) rfl (by kernel_rfl) (by kernel_rfl) (by kernel_rfl) (fun _ _ _ h => h) (Or.inl ⟨by rfl, ?_⟩) (by assumption) ?_
        rotate_left
        · intro wS hSw
          try dsimp only at hSw
          go_simp
          try with_reducible rfl
        try simp only [Act.put, List.setIfInBounds_toArray, List.set_cons_zero, List.set_cons_succ]
        refine wpAnyH_take (i := 20) (oi := { dst := some 107, op := Op.move (Operand.tmp 106), type := 4, pos := "law.go:68", after := #[{ on := 19, ground := Ground.data }, { on := 17, ground := Ground.chain }], guard := none }) (v := ?_) rfl (by kernel_rfl) (by kernel_rfl) (by kernel_rfl) (fun _ _ _ h => h) (Or.inl ⟨by rfl, ?_⟩) (by assumption) ?_
        rotate_left
        · intro wS hSw
          try dsimp only at hSw
          go_simp
          try with_reducible rfl
        try simp only [Act.put, List.setIfInBounds_toArray, List.set_cons_zero, List.set_cons_succ]
        refine wpAnyH_take (i := 21) (oi := { dst := some 108, op := Op.move (Operand.tmp 11), type := 27, pos := "law.go:68", after := #[{ on := 20, ground := Ground.guard }], guard := some (20, false) }) (v := ?_) rfl (by kernel_rfl) (by kernel_rfl) (by kernel_rfl) (fun _ _ _ h => h) (Or.inl ⟨by rfl, ?_⟩) (by assumption) ?_
        rotate_left
        · intro wS hSw
          try dsimp only at hSw
          go_simp
          try with_reducible rfl
        try simp only [Act.put, List.setIfInBounds_toArray, List.set_cons_zero, List.set_cons_succ]
        refine wpAnyH_take (i := 22) (oi := { dst := some 109, op := Op.call { callee := Callee.builtin Builtin.len, args := #[Operand.tmp 108], argTypes := #[27] }, type := 3, pos := "law.go:68", after := #[{ on := 21, ground := Ground.data }, { on := 20, ground := Ground.guard }], guard := some (20, false) }) (v := ?_) rfl (by kernel_rfl) (by kernel_rfl) (by kernel_rfl) (fun _ _ _ h => h) (Or.inl ⟨by rfl, ?_⟩) (by assumption) ?_
        rotate_left
        · intro wS hSw
          try dsimp only at hSw
          go_simp
          try with_reducible rfl
        try simp only [Act.put, List.setIfInBounds_toArray, List.set_cons_zero, List.set_cons_succ]
        refine wpAnyH_take (i := 23) (oi := { dst := some 110, op := Op.move (Operand.tmp 4), type := 26, pos := "law.go:68", after := #[{ on := 20, ground := Ground.guard }], guard := some (20, false) }) (v := ?_) rfl (by kernel_rfl) (by kernel_rfl) (by kernel_rfl) (fun _ _ _ h => h) (Or.inl ⟨by rfl, ?_⟩) (by assumption) ?_
        rotate_left
        · intro wS hSw
          try dsimp only at hSw
          go_simp
          try with_reducible rfl
        try simp only [Act.put, List.setIfInBounds_toArray, List.set_cons_zero, List.set_cons_succ]
        refine wpAnyH_take (i := 24) (oi := { dst := some 111, op := Op.nilCheck (Operand.tmp 110), type := 0, pos := "law.go:68", after := #[{ on := 23, ground := Ground.data }, { on := 20, ground := Ground.guard }], guard := some (20, false) }) (v := ?_) rfl (by kernel_rfl) (by kernel_rfl) (by kernel_rfl) (fun _ _ _ h => h) (Or.inl ⟨by rfl, ?_⟩) (by assumption) ?_
        rotate_left
        · intro wS hSw
          try dsimp only at hSw
          go_simp
          try with_reducible rfl
        try simp only [Act.put, List.setIfInBounds_toArray, List.set_cons_zero, List.set_cons_succ]
        refine wpAnyH_take (i := 25) (oi := { dst := some 112, op := Op.fieldAddr 29 (Operand.tmp 111) 0, type := 0, pos := "law.go:68", after := #[{ on := 24, ground := Ground.data }, { on := 20, ground := Ground.guard }], guard := some (20, false) }) (v := ?_) rfl (by kernel_rfl) (by kernel_rfl) (by kernel_rfl) (fun _ _ _ h => h) (Or.inl ⟨by rfl, ?_⟩) (by assumption) ?_
        rotate_left
        · intro wS hSw
          try dsimp only at hSw
          go_simp
          try with_reducible rfl
        try simp only [Act.put, List.setIfInBounds_toArray, List.set_cons_zero, List.set_cons_succ]
        refine wpAnyH_take (i := 26) (oi := { dst := some 113, op := Op.load 27 (Operand.tmp 112), type := 27, pos := "law.go:68", after := #[{ on := 25, ground := Ground.data }, { on := 20, ground := Ground.guard }], guard := some (20, false) }) (v := ?_) rfl (by kernel_rfl) (by kernel_rfl) (by kernel_rfl) (fun _ _ _ h => h) (Or.inl ⟨by rfl, ?_⟩) (by assumption) ?_
        rotate_left
        · intro wS hSw
          try dsimp only at hSw
          go_simp
          try with_reducible rfl
        try simp only [Act.put, List.setIfInBounds_toArray, List.set_cons_zero, List.set_cons_succ]
        refine wpAnyH_take (i := 27) (oi := { dst := some 114, op := Op.call { callee := Callee.builtin Builtin.len, args := #[Operand.tmp 113], argTypes := #[27] }, type := 3, pos := "law.go:68", after := #[{ on := 26, ground := Ground.data }, { on := 20, ground := Ground.guard }], guard := some (20, false) }) (v := ?_) rfl (by kernel_rfl) (by kernel_rfl) (by kernel_rfl) (fun _ _ _ h => h) (Or.inl ⟨by rfl, ?_⟩) (by assumption) ?_
        rotate_left
        · intro wS hSw
          try dsimp only at hSw
          go_simp
          try with_reducible rfl
        try simp only [Act.put, List.setIfInBounds_toArray, List.set_cons_zero, List.set_cons_succ]
        refine wpAnyH_take (i := 28) (oi := { dst := some 115, op := Op.binOp BinOp.neq 3 (Operand.tmp 109) (Operand.tmp 114) 3, type := 4, pos := "law.go:68", after := #[{ on := 22, ground := Ground.data }, { on := 27, ground := Ground.data }, { on := 20, ground := Ground.guard }], guard := some (20, false) }) (v := ?_) rfl (by kernel_rfl) (by kernel_rfl) (by kernel_rfl) (fun _ _ _ h => h) (Or.inl ⟨by rfl, ?_⟩) (by assumption) ?_
        rotate_left
        · intro wS hSw
          try dsimp only at hSw
          go_simp
          try with_reducible rfl
        try simp only [Act.put, List.setIfInBounds_toArray, List.set_cons_zero, List.set_cons_succ]
        refine wpAnyH_take (i := 29) (oi := { dst := some 116, op := Op.pick (Operand.tmp 107) (Operand.const (Value.bool true)) (Operand.tmp 115), type := 4, pos := "law.go:68", after := #[{ on := 20, ground := Ground.data }, { on := 28, ground := Ground.data }], guard := none }) (v := ?_) rfl (by kernel_rfl) (by kernel_rfl) (by kernel_rfl) (fun _ _ _ h => h) (Or.inl ⟨by rfl, ?_⟩) (by assumption) ?_
        rotate_left
        · intro wS hSw
          try dsimp only at hSw
          go_simp
          try with_reducible rfl
        try simp only [Act.put, List.setIfInBounds_toArray, List.set_cons_zero, List.set_cons_succ]
        refine wpAnyH_done (by kernel_rfl) ?_ _
        have HD4 := hide (And.intro (HD3.out.below HQ3.out) (And.intro (HROW.out.below HQ3.out (Nat.le_refl _)) (below_block HQ3.out HU3.out (Nat.le_refl _))))
        clear HD3 HROW HU3 HQ3
        go_wp2_with fail
        go_loopw [119] (fun i wz => ∃ r : Nat, r ≤ k2 ∧ i = .int .i64 r ∧ Hid (RdSt w wz B R O C k2 t2 (opC x0 p d) ∧ Row .i64 wz ab (told t2 1008) ∧ wz.heap[R]? = some (.cells #[.slice aR k2 cR] 29 (0, 0)))) (fun i _ => k2 - (intOf i).toNat)
        case atStart => exact ⟨0, Nat.zero_le _, rfl, HD4⟩
        case round =>
          clear HD4
          obtain ⟨r, hr, rfl, HD⟩ := hrel
          by_cases hrk : r < k2
          · have d9 : decide (r < k2) = true := by simp; omega
            have HLN2 := HLN.out
            obtain ⟨b1, o1, he1, hl1, hc1⟩ := HD.out.2.1.at (i := r) (by omega)
            have g1 := hc1 r (by omega)
            obtain ⟨a', c', u1, u2, u3⟩ := HD.out.1.2.1.cell
            have ea : a' = aR := by
              have e1 := (one_cell u1).1
              rw [(one_cell HD.out.2.2).1] at e1
              simp at e1
              exact e1.1.symm
            rw [ea] at u2
            obtain ⟨b2, o2, he2, hl2, hc2⟩ := u2.at (i := r) (by omega)
            have g2 := hc2 r (by omega)
            obtain ⟨x, hx⟩ : ∃ x, (told t2 1008)[r]?.getD 0 = x := ⟨_, rfl⟩
            rw [hx] at g1 g2
            have g3 := (one_cell HD.out.2.2).1
            have r4 : (0 : Int) ≤ (r : Int) := by omega
            have r5 : (r : Int) ≤ 1000 := by omega
            have HDD := hide (And.intro HD.out.1.drew (And.intro (HD.out.2.1.below ((Below.refl wr.heap.size wr).drew) (Nat.le_refl _)) (show wr.drew.heap[R]? = some (.cells #[.slice aR k2 cR] 29 (0, 0)) from HD.out.2.2)))
            clear hl1 hc1 u1 u2 u3 ea hl2 hc2 hx HLN2 HD
            subst he1
            subst he2
            go_wp2_with fail
            go_region
            go_wp2_with fail
            go_roundw
            case rel => exact ⟨r + 1, by omega, by go_num, HDD⟩
            case measure => simp [intOf]; omega
          · have d9 : decide (r < k2) = false := by simp; omega
            clear hr hrk
            have HE := hide (show PlSt w wr B R C (j + 1) from ⟨t2, k2, HD.out.1.1, HD.out.1.2.1, HD.out.1.2.2.1, HK2.out, HD.out.1.2.2.2.1⟩)
            clear HD
            go_wp2_with fail
            go_roundw
            case rel => exact ⟨j + 1, by omega, by go_num, HE⟩
            case measure => simp [intOf]; omega
      have d5 : (y == 0) = false := by simp [c0]
      have d6 : (y == 1) = false := by simp [c1]
      clear c0 c1
      obtain ⟨v, bb, t2, k2, hv, hc2, hk2, h2a, h2b⟩ := pick_two B R d k C t HC.out HKJ.out.2 HRD.out.2.2.1
      have HL1 := hide (h2a w4 HRD.out.1 (HT.out.below HRD.out.2.2.2.1 (Nat.le_refl _)))
      have H2B := hide h2b
      have HC2 := hide hc2
      have HK2 := hide (show k2 ≤ j + 1 by have := HKJ.out; omega)
      have hv2 : (v : Int) ≤ 65535 := by omega
      have hv3 : (0 : Int) ≤ (v : Int) := by omega
      clear h2a h2b hc2 hk2 hv
      go_wp2_with fail
      rw [HW.out.2]
      rw [HW.out.1]
      clear HW
      (with_reducible refine HL1.out.mono ?_)
      rintro e z1 ⟨rfl, p5, o5⟩
      have HM := hide (HRD.out.first p5 HC2.out o5 HBw.out HNE.out)
      have HL2 := hide (H2B.out z1 HM.out.2.1)
      have hq2 := cell_at HM.out.2.2.2.2.1 2 rfl
      clear p5 o5 HL1 HRD
      go_wp2_with fail
      (with_reducible refine HL2.out.mono ?_)
      rintro e z2 ⟨rfl, p6, o6⟩
      have HD := hide (HM.out.second p6 o6 HRw.out HNE.out)
      clear p6 o6 HM HL2 H2B hq2
      have HLI := hide (listed_any z2 B t2 (k2 : Int) ((k2 : Int) + 1) (HT.out.below HD.out.2.2.2.1 (Nat.le_refl _)) HD.out.1)
      obtain ⟨aR, cR, hr1, hr2, hr3⟩ := HD.out.2.1.cell
      have hln := told_size t2 C k2 HC.out HD.out.2.2.1
      rw [hln] at hr1
      have uR := (one_cell hr1).1
      have HUR := hide hr1
      have hk4 : (0 : Int) ≤ (k2 : Int) := by omega
      have hk5 : (k2 : Int) ≤ 1000 := by have := HK2.out; have := HNM.out; omega
      have HLN := hide hln
      clear hr1 hr2 hr3 hln
      go_wp2_with fail
      (with_reducible refine HLI.out.mono ?_)
      rintro e zl ⟨ab, cb, L, hL, rfl, hown, hbel⟩
      have hL2 : L = told t2 1008 := by
        rw [← hL]
        exact stopAt_all _ _ (.inr (by rw [HLN.out]; omega))
      have hLl : L.length = k2 := by rw [hL2]; exact HLN.out
      rw [hLl] at hown ⊢
      have HROW := hide (show Row .i64 zl ab (told t2 1008) from hL2 ▸ Row.of_owns hown)
      have HD3 := hide (HD.out.below hbel)
      have HU3 := hide (below_block hbel HUR.out (Nat.le_refl _))
      obtain ⟨hb, hhas, hrhas⟩ := has_two B R p k2 C t2 HC.out HP.out
      have HH1 := hide hhas
      have HH2 := hide hrhas
      have HQ0 := hide (show Below zl.heap.size zl zl.drew from (Below.refl _ _).drew)
      have HLEN := hide (len_two B t2 k2 zl.drew (HD3.out.below HQ0.out).1)
      clear hL hL2 hLl hown hbel hhas hrhas HLI uR HD HUR
      go_wp2_with fail
      refine wp_region_held_drew (S := fun w' => w'.cell? ⟨O, 1, none⟩ = some (.int .u16 (p : Int)) ∧ w'.cell? ⟨R, 0, none⟩ = some (.slice aR k2 cR)) (by kernel_rfl) (by exact ⟨cell_at (HD3.out.below HQ0.out).2.2.2.2.1 1 rfl, (one_cell (below_block HQ0.out HU3.out (Nat.le_refl _))).1⟩) (fun hHeld => ?_)
      refine wpAnyH_take (i := 0) (oi := { dst := some 87, op := Op.move (Operand.tmp 3), type := 24, pos := "law.go:68", after := #[], guard := none }) (v := ?_) rfl (by kernel_rfl) (by kernel_rfl) (by kernel_rfl) (fun _ _ _ h => h) (Or.inl ⟨by rfl, ?_⟩) (by assumption) ?_
      rotate_left
      · intro wS hSw
        try dsimp only at hSw
        go_simp
        try with_reducible rfl
      try simp only [Act.put, List.setIfInBounds_toArray, List.set_cons_zero, List.set_cons_succ]
      refine wpAnyH_take (i := 2) (oi := { dst := some 89, op := Op.move (Operand.tmp 4), type := 26, pos := "law.go:68", after := #[], guard := none }) (v := ?_) rfl (by kernel_rfl) (by kernel_rfl) (by kernel_rfl) (fun _ _ _ h => h) (Or.inl ⟨by rfl, ?_⟩) (by assumption) ?_
      rotate_left
      · intro wS hSw
        try dsimp only at hSw
        go_simp
        try with_reducible rfl
      try simp only [Act.put, List.setIfInBounds_toArray, List.set_cons_zero, List.set_cons_succ]
      refine wpAnyH_take (i := 3) (oi := { dst := some 90, op := Op.nilCheck (Operand.tmp 89), type := 0, pos := "law.go:68", after := #[{ on := 2, ground := Ground.data }], guard := none }) (v := ?_) rfl (by kernel_rfl) (by kernel_rfl) (by kernel_rfl) (fun _ _ _ h => h) (Or.inl ⟨by rfl, ?_⟩) (by assumption) ?_
      rotate_left
      · intro wS hSw
        try dsimp only at hSw
        go_simp
        try with_reducible rfl
      try simp only [Act.put, List.setIfInBounds_toArray, List.set_cons_zero, List.set_cons_succ]
      refine wpAnyH_take (i := 4) (oi := { dst := some 91, op := Op.fieldAddr 29 (Operand.tmp 90) 0, type := 0, pos := "law.go:68", after := #[{ on := 3, ground := Ground.data }], guard := none }) (v := ?_) rfl (by kernel_rfl) (by kernel_rfl) (by kernel_rfl) (fun _ _ _ h => h) (Or.inl ⟨by rfl, ?_⟩) (by assumption) ?_
      rotate_left
      · intro wS hSw
        try dsimp only at hSw
        go_simp
        try with_reducible rfl
      try simp only [Act.put, List.setIfInBounds_toArray, List.set_cons_zero, List.set_cons_succ]
      refine wpAnyH_take (i := 5) (oi := { dst := some 92, op := Op.load 27 (Operand.tmp 91), type := 27, pos := "law.go:68", after := #[{ on := 4, ground := Ground.data }], guard := none }) (v := ?_) rfl (by kernel_rfl) (by kernel_rfl) (by kernel_rfl) (fun _ _ _ h => h) (Or.inl ⟨by rfl, ?_⟩) (by assumption) ?_
      rotate_left
      · intro wS hSw
        try dsimp only at hSw
        go_simp
        try with_reducible rfl
      try simp only [Act.put, List.setIfInBounds_toArray, List.set_cons_zero, List.set_cons_succ]
      refine wpAnyH_take (i := 6) (oi := { dst := some 93, op := Op.call { callee := Callee.builtin Builtin.len, args := #[Operand.tmp 92], argTypes := #[27] }, type := 3, pos := "law.go:68", after := #[{ on := 5, ground := Ground.data }], guard := none }) (v := ?_) rfl (by kernel_rfl) (by kernel_rfl) (by kernel_rfl) (fun _ _ _ h => h) (Or.inl ⟨by rfl, ?_⟩) (by assumption) ?_
      rotate_left
      · intro wS hSw
        try dsimp only at hSw
        go_simp
        try with_reducible rfl
      try simp only [Act.put, List.setIfInBounds_toArray, List.set_cons_zero, List.set_cons_succ]
      refine wpAnyH_ready (rs := [1]) (by kernel_rfl) (by simp) ?_
      refine AllReadyH.cons (o := { dst := some 88, op := Op.call { callee := Callee.value (Operand.func 17), args := #[Operand.tmp 87], argTypes := #[24] }, type := 3, pos := "law.go:68", after := #[{ on := 0, ground := Ground.data }], guard := none }) rfl (fun K hK => ?_) AllReadyH.nil
      go_simp
      go_at_call 17
      (with_reducible refine (HLEN.out).mono ?_)
      rintro e z1 ⟨rfl, b⟩
      have HQ1 := hide (HQ0.out.trans (b.mono HQ0.out.size))
      have HCA := hide (HH1.out z1 (HD3.out.below HQ1.out).1)
      clear b HLEN HQ0
      refine hK.out _ _ (⟨cell_at (HD3.out.below HQ1.out).2.2.2.2.1 1 rfl, (one_cell (below_block HQ1.out HU3.out (Nat.le_refl _))).1⟩) (fun hHeld1 => ?_)
      clear hK K
      try simp only [Act.put, List.setIfInBounds_toArray, List.set_cons_zero, List.set_cons_succ]
      refine wpAnyH_take (i := 7) (oi := { dst := some 94, op := Op.binOp BinOp.neq 3 (Operand.tmp 88) (Operand.tmp 93) 3, type := 4, pos := "law.go:68", after := #[{ on := 1, ground := Ground.data }, { on := 6, ground := Ground.data }], guard := none }) (v := ?_) rfl (by kernel_rfl) (by kernel_rfl) (by kernel_rfl) (fun _ _ _ h => h) (Or.inl ⟨by rfl, ?_⟩) (by assumption) ?_
      rotate_left
      · intro wS hSw
        try dsimp only at hSw
        go_simp
        try with_reducible rfl
      try simp only [Act.put, List.setIfInBounds_toArray, List.set_cons_zero, List.set_cons_succ]
      refine wpAnyH_take (i := 8) (oi := { dst := some 95, op := Op.move (Operand.tmp 94), type := 4, pos := "law.go:68", after := #[{ on := 7, ground := Ground.data }, { on := 1, ground := Ground.chain }], guard := none }) (v := ?_) rfl (by kernel_rfl) (by kernel_rfl) (by kernel_rfl) (fun _ _ _ h => h) (Or.inl ⟨by rfl, ?_⟩) (by assumption) ?_
      rotate_left
      · intro wS hSw
        try dsimp only at hSw
        go_simp
        try with_reducible rfl
      try simp only [Act.put, List.setIfInBounds_toArray, List.set_cons_zero, List.set_cons_succ]
      refine wpAnyH_take (i := 9) (oi := { dst := some 96, op := Op.move (Operand.tmp 3), type := 24, pos := "law.go:68", after := #[{ on := 8, ground := Ground.guard }], guard := some (8, false) }) (v := ?_) rfl (by kernel_rfl) (by kernel_rfl) (by kernel_rfl) (fun _ _ _ h => h) (Or.inl ⟨by rfl, ?_⟩) (by assumption) ?_
      rotate_left
      · intro wS hSw
        try dsimp only at hSw
        go_simp
        try with_reducible rfl
      try simp only [Act.put, List.setIfInBounds_toArray, List.set_cons_zero, List.set_cons_succ]
      refine wpAnyH_take (i := 10) (oi := { dst := some 97, op := Op.fieldAddr 33 (Operand.tmp 6) 1, type := 0, pos := "law.go:68", after := #[{ on := 8, ground := Ground.guard }], guard := some (8, false) }) (v := ?_) rfl (by kernel_rfl) (by kernel_rfl) (by kernel_rfl) (fun _ _ _ h => h) (Or.inl ⟨by rfl, ?_⟩) (by assumption) ?_
      rotate_left
      · intro wS hSw
        try dsimp only at hSw
        go_simp
        try with_reducible rfl
      try simp only [Act.put, List.setIfInBounds_toArray, List.set_cons_zero, List.set_cons_succ]
      refine wpAnyH_take (i := 11) (oi := { dst := some 98, op := Op.load 30 (Operand.tmp 97), type := 30, pos := "law.go:68", after := #[{ on := 10, ground := Ground.data }, { on := 8, ground := Ground.guard }], guard := some (8, false) }) (v := ?_) rfl (by kernel_rfl) (by kernel_rfl) (by kernel_rfl) (fun _ _ _ h => h) (Or.inl ⟨by rfl, ?_⟩) (by assumption) ?_
      rotate_left
      · intro wS hSw
        try dsimp only at hSw
        go_simp
        try with_reducible rfl
      try simp only [Act.put, List.setIfInBounds_toArray, List.set_cons_zero, List.set_cons_succ]
      refine wpAnyH_take (i := 13) (oi := { dst := some 100, op := Op.move (Operand.tmp 4), type := 26, pos := "law.go:68", after := #[{ on := 8, ground := Ground.guard }], guard := some (8, false) }) (v := ?_) rfl (by kernel_rfl) (by kernel_rfl) (by kernel_rfl) (fun _ _ _ h => h) (Or.inl ⟨by rfl, ?_⟩) (by assumption) ?_
      rotate_left
      · intro wS hSw
        try dsimp only at hSw
        go_simp
        try with_reducible rfl
      try simp only [Act.put, List.setIfInBounds_toArray, List.set_cons_zero, List.set_cons_succ]
      refine wpAnyH_take (i := 14) (oi := { dst := some 101, op := Op.fieldAddr 33 (Operand.tmp 6) 1, type := 0, pos := "law.go:68", after := #[{ on := 8, ground := Ground.guard }], guard := some (8, false) }) (v := ?_) rfl (by kernel_rfl) (by kernel_rfl) (by kernel_rfl) (fun _ _ _ h => h) (Or.inl ⟨by rfl, ?_⟩) (by assumption) ?_
      rotate_left
      · intro wS hSw
        try dsimp only at hSw
        go_simp
        try with_reducible rfl
      try simp only [Act.put, List.setIfInBounds_toArray, List.set_cons_zero, List.set_cons_succ]
      refine wpAnyH_take (i := 15) (oi := { dst := some 102, op := Op.load 30 (Operand.tmp 101), type := 30, pos := "law.go:68", after := #[{ on := 14, ground := Ground.data }, { on := 8, ground := Ground.guard }], guard := some (8, false) }) (v := ?_) rfl (by kernel_rfl) (by kernel_rfl) (by kernel_rfl) (fun _ _ _ h => h) (Or.inl ⟨by rfl, ?_⟩) (by assumption) ?_
      rotate_left
      · intro wS hSw
        try dsimp only at hSw
        go_simp
        try with_reducible rfl
      try simp only [Act.put, List.setIfInBounds_toArray, List.set_cons_zero, List.set_cons_succ]
      refine wpAnyH_take (i := 16) (oi := { dst := some 103, op := Op.convert 30 3 (Operand.tmp 102), type := 3, pos := "law.go:68", after := #[{ on := 15, ground := Ground.data }, { on := 8, ground := Ground.guard }], guard := some (8, false) }) (v := ?_) rfl (by kernel_rfl) (by kernel_rfl) (by kernel_rfl) (fun _ _ _ h => h) (Or.inl ⟨by rfl, ?_⟩) (by assumption) ?_
      rotate_left
      · intro wS hSw
        try dsimp only at hSw
        go_simp
        try with_reducible rfl
      try simp only [Act.put, List.setIfInBounds_toArray, List.set_cons_zero, List.set_cons_succ]
      refine wpAnyH_ready (rs := [12]) (by kernel_rfl) (by simp) ?_
      refine AllReadyH.cons (o := { dst := some 99, op := Op.call { callee := Callee.value (Operand.func 18), args := #[Operand.tmp 96, Operand.tmp 98], argTypes := #[24, 30] }, type := 4, pos := "law.go:68", after := #[{ on := 9, ground := Ground.data }, { on := 11, ground := Ground.data }, { on := 8, ground := Ground.chain }, { on := 8, ground := Ground.guard }], guard := some (8, false) }) rfl (fun K hK => ?_) AllReadyH.nil
      go_simp
      go_at_call 18
      (with_reducible refine (HCA.out).mono ?_)
      rintro e z2 ⟨rfl, b⟩
      have HQ2 := hide (HQ1.out.trans (b.mono HQ1.out.size))
      have HCB := hide (HH2.out z2 (HD3.out.below HQ2.out).2.1)
      clear b HCA HQ1 HH1
      refine hK.out _ _ (⟨cell_at (HD3.out.below HQ2.out).2.2.2.2.1 1 rfl, (one_cell (below_block HQ2.out HU3.out (Nat.le_refl _))).1⟩) (fun hHeld2 => ?_)
      clear hK K
      try simp only [Act.put, List.setIfInBounds_toArray, List.set_cons_zero, List.set_cons_succ]
      refine wpAnyH_ready (rs := [17]) (by kernel_rfl) (by simp) ?_
      refine AllReadyH.cons (o := { dst := some 104, op := Op.call { callee := Callee.value (Operand.func 19), args := #[Operand.tmp 100, Operand.tmp 103], argTypes := #[26, 3] }, type := 4, pos := "law.go:68", after := #[{ on := 13, ground := Ground.data }, { on := 16, ground := Ground.data }, { on := 12, ground := Ground.chain }, { on := 8, ground := Ground.guard }], guard := some (8, false) }) rfl (fun K hK => ?_) AllReadyH.nil
      go_simp
      go_at_call 19
      (with_reducible refine (HCB.out).mono ?_)
      rintro e z3 ⟨rfl, b⟩
      have HQ3 := hide (HQ2.out.trans (b.mono HQ2.out.size))
      clear b HCB HQ2 HH2
      refine hK.out _ _ (⟨cell_at (HD3.out.below HQ3.out).2.2.2.2.1 1 rfl, (one_cell (below_block HQ3.out HU3.out (Nat.le_refl _))).1⟩) (fun hHeld3 => ?_)
      clear hK K
      try simp only [Act.put, List.setIfInBounds_toArray, List.set_cons_zero, List.set_cons_succ]
      refine wpAnyH_take (i := 18) (oi := { dst := some 105, op := Op.binOp BinOp.neq 4 (Operand.tmp 99) (Operand.tmp 104) 4, type := 4, pos := "law.go:68", after := #[{ on := 12, ground := Ground.data }, { on := 17, ground := Ground.data }, { on := 8, ground := Ground.guard }], guard := some (8, false) }) (v := ?_) rfl (by kernel_rfl) (by kernel_rfl) (by kernel_rfl) (fun _ _ _ h => h) (Or.inl ⟨by rfl, ?_⟩) (by assumption) ?_
      rotate_left
      · intro wS hSw
        try dsimp only at hSw
        go_simp
        try with_reducible rfl
      try simp only [Act.put, List.setIfInBounds_toArray, List.set_cons_zero, List.set_cons_succ]
      refine wpAnyH_take (i := 19) (oi := { dst := some 106, op := Op.pick (Operand.tmp 95) (Operand.const (Value.bool true)) (Operand.tmp 105), type := 4, pos := "law.go:68", after := #[{ on := 8, ground := Ground.data }, { on := 18, ground := Ground.data }], guard := none }) (v := ?_) rfl (by kernel_rfl) (by kernel_rfl) (by kernel_rfl) (fun _ _ _ h => h) (Or.inl ⟨by rfl, ?_⟩) (by assumption) ?_
      rotate_left
      · intro wS hSw
        try dsimp only at hSw
        go_simp
        try with_reducible rfl
      try simp only [Act.put, List.setIfInBounds_toArray, List.set_cons_zero, List.set_cons_succ]
      refine wpAnyH_take (i := 20) (oi := { dst := some 107, op := Op.move (Operand.tmp 106), type := 4, pos := "law.go:68", after := #[{ on := 19, ground := Ground.data }, { on := 17, ground := Ground.chain }], guard := none }) (v := ?_) rfl (by kernel_rfl) (by kernel_rfl) (by kernel_rfl) (fun _ _ _ h => h) (Or.inl ⟨by rfl, ?_⟩) (by assumption) ?_
      rotate_left
      · intro wS hSw
        try dsimp only at hSw
        go_simp
        try with_reducible rfl
      try simp only [Act.put, List.setIfInBounds_toArray, List.set_cons_zero, List.set_cons_succ]
      refine wpAnyH_take (i := 21) (oi := { dst := some 108, op := Op.move (Operand.tmp 11), type := 27, pos := "law.go:68", after := #[{ on := 20, ground := Ground.guard }], guard := some (20, false) }) (v := ?_) rfl (by kernel_rfl) (by kernel_rfl) (by kernel_rfl) (fun _ _ _ h => h) (Or.inl ⟨by rfl, ?_⟩) (by assumption) ?_
      rotate_left
      · intro wS hSw
        try dsimp only at hSw
        go_simp
        try with_reducible rfl
      try simp only [Act.put, List.setIfInBounds_toArray, List.set_cons_zero, List.set_cons_succ]
      refine wpAnyH_take (i := 22) (oi := { dst := some 109, op := Op.call { callee := Callee.builtin Builtin.len, args := #[Operand.tmp 108], argTypes := #[27] }, type := 3, pos := "law.go:68", after := #[{ on := 21, ground := Ground.data }, { on := 20, ground := Ground.guard }], guard := some (20, false) }) (v := ?_) rfl (by kernel_rfl) (by kernel_rfl) (by kernel_rfl) (fun _ _ _ h => h) (Or.inl ⟨by rfl, ?_⟩) (by assumption) ?_
      rotate_left
      · intro wS hSw
        try dsimp only at hSw
        go_simp
        try with_reducible rfl
      try simp only [Act.put, List.setIfInBounds_toArray, List.set_cons_zero, List.set_cons_succ]
      refine wpAnyH_take (i := 23) (oi := { dst := some 110, op := Op.move (Operand.tmp 4), type := 26, pos := "law.go:68", after := #[{ on := 20, ground := Ground.guard }], guard := some (20, false) }) (v := ?_) rfl (by kernel_rfl) (by kernel_rfl) (by kernel_rfl) (fun _ _ _ h => h) (Or.inl ⟨by rfl, ?_⟩) (by assumption) ?_
      rotate_left
      · intro wS hSw
        try dsimp only at hSw
        go_simp
        try with_reducible rfl
      try simp only [Act.put, List.setIfInBounds_toArray, List.set_cons_zero, List.set_cons_succ]
      refine wpAnyH_take (i := 24) (oi := { dst := some 111, op := Op.nilCheck (Operand.tmp 110), type := 0, pos := "law.go:68", after := #[{ on := 23, ground := Ground.data }, { on := 20, ground := Ground.guard }], guard := some (20, false) }) (v := ?_) rfl (by kernel_rfl) (by kernel_rfl) (by kernel_rfl) (fun _ _ _ h => h) (Or.inl ⟨by rfl, ?_⟩) (by assumption) ?_
      rotate_left
      · intro wS hSw
        try dsimp only at hSw
        go_simp
        try with_reducible rfl
      try simp only [Act.put, List.setIfInBounds_toArray, List.set_cons_zero, List.set_cons_succ]
      refine wpAnyH_take (i := 25) (oi := { dst := some 112, op := Op.fieldAddr 29 (Operand.tmp 111) 0, type := 0, pos := "law.go:68", after := #[{ on := 24, ground := Ground.data }, { on := 20, ground := Ground.guard }], guard := some (20, false) }) (v := ?_) rfl (by kernel_rfl) (by kernel_rfl) (by kernel_rfl) (fun _ _ _ h => h) (Or.inl ⟨by rfl, ?_⟩) (by assumption) ?_
      rotate_left
      · intro wS hSw
        try dsimp only at hSw
        go_simp
        try with_reducible rfl
      try simp only [Act.put, List.setIfInBounds_toArray, List.set_cons_zero, List.set_cons_succ]
      refine wpAnyH_take (i := 26) (oi := { dst := some 113, op := Op.load 27 (Operand.tmp 112), type := 27, pos := "law.go:68", after := #[{ on := 25, ground := Ground.data }, { on := 20, ground := Ground.guard }], guard := some (20, false) }) (v := ?_) rfl (by kernel_rfl) (by kernel_rfl) (by kernel_rfl) (fun _ _ _ h => h) (Or.inl ⟨by rfl, ?_⟩) (by assumption) ?_
      rotate_left
      · intro wS hSw
        try dsimp only at hSw
        go_simp
        try with_reducible rfl
      try simp only [Act.put, List.setIfInBounds_toArray, List.set_cons_zero, List.set_cons_succ]
      refine wpAnyH_take (i := 27) (oi := { dst := some 114, op := Op.call { callee := Callee.builtin Builtin.len, args := #[Operand.tmp 113], argTypes := #[27] }, type := 3, pos := "law.go:68", after := #[{ on := 26, ground := Ground.data }, { on := 20, ground := Ground.guard }], guard := some (20, false) }) (v := ?_) rfl (by kernel_rfl) (by kernel_rfl) (by kernel_rfl) (fun _ _ _ h => h) (Or.inl ⟨by rfl, ?_⟩) (by assumption) ?_
      rotate_left
      · intro wS hSw
        try dsimp only at hSw
        go_simp
        try with_reducible rfl
      try simp only [Act.put, List.setIfInBounds_toArray, List.set_cons_zero, List.set_cons_succ]
      refine wpAnyH_take (i := 28) (oi := { dst := some 115, op := Op.binOp BinOp.neq 3 (Operand.tmp 109) (Operand.tmp 114) 3, type := 4, pos := "law.go:68", after := #[{ on := 22, ground := Ground.data }, { on := 27, ground := Ground.data }, { on := 20, ground := Ground.guard }], guard := some (20, false) }) (v := ?_) rfl (by kernel_rfl) (by kernel_rfl) (by kernel_rfl) (fun _ _ _ h => h) (Or.inl ⟨by rfl, ?_⟩) (by assumption) ?_
      rotate_left
      · intro wS hSw
        try dsimp only at hSw
        go_simp
        try with_reducible rfl
      try simp only [Act.put, List.setIfInBounds_toArray, List.set_cons_zero, List.set_cons_succ]
      refine wpAnyH_take (i := 29) (oi := { dst := some 116, op := Op.pick (Operand.tmp 107) (Operand.const (Value.bool true)) (Operand.tmp 115), type := 4, pos := "law.go:68", after := #[{ on := 20, ground := Ground.data }, { on := 28, ground := Ground.data }], guard := none }) (v := ?_) rfl (by kernel_rfl) (by kernel_rfl) (by kernel_rfl) (fun _ _ _ h => h) (Or.inl ⟨by rfl, ?_⟩) (by assumption) ?_
      rotate_left
      · intro wS hSw
        try dsimp only at hSw
        go_simp
        try with_reducible rfl
      try simp only [Act.put, List.setIfInBounds_toArray, List.set_cons_zero, List.set_cons_succ]
      refine wpAnyH_done (by kernel_rfl) ?_ _
      have HD4 := hide (And.intro (HD3.out.below HQ3.out) (And.intro (HROW.out.below HQ3.out (Nat.le_refl _)) (below_block HQ3.out HU3.out (Nat.le_refl _))))
      clear HD3 HROW HU3 HQ3
      go_wp2_with fail
      go_loopw [119] (fun i wz => ∃ r : Nat, r ≤ k2 ∧ i = .int .i64 r ∧ Hid (RdSt w wz B R O C k2 t2 (opC x0 p d) ∧ Row .i64 wz ab (told t2 1008) ∧ wz.heap[R]? = some (.cells #[.slice aR k2 cR] 29 (0, 0)))) (fun i _ => k2 - (intOf i).toNat)
      case atStart => exact ⟨0, Nat.zero_le _, rfl, HD4⟩
      case round =>
        clear HD4
        obtain ⟨r, hr, rfl, HD⟩ := hrel
        by_cases hrk : r < k2
        · have d9 : decide (r < k2) = true := by simp; omega
          have HLN2 := HLN.out
          obtain ⟨b1, o1, he1, hl1, hc1⟩ := HD.out.2.1.at (i := r) (by omega)
          have g1 := hc1 r (by omega)
          obtain ⟨a', c', u1, u2, u3⟩ := HD.out.1.2.1.cell
          have ea : a' = aR := by
            have e1 := (one_cell u1).1
            rw [(one_cell HD.out.2.2).1] at e1
            simp at e1
            exact e1.1.symm
          rw [ea] at u2
          obtain ⟨b2, o2, he2, hl2, hc2⟩ := u2.at (i := r) (by omega)
          have g2 := hc2 r (by omega)
          obtain ⟨x, hx⟩ : ∃ x, (told t2 1008)[r]?.getD 0 = x := ⟨_, rfl⟩
          rw [hx] at g1 g2
          have g3 := (one_cell HD.out.2.2).1
          have r4 : (0 : Int) ≤ (r : Int) := by omega
          have r5 : (r : Int) ≤ 1000 := by omega
          have HDD := hide (And.intro HD.out.1.drew (And.intro (HD.out.2.1.below ((Below.refl wr.heap.size wr).drew) (Nat.le_refl _)) (show wr.drew.heap[R]? = some (.cells #[.slice aR k2 cR] 29 (0, 0)) from HD.out.2.2)))
          clear hl1 hc1 u1 u2 u3 ea hl2 hc2 hx HLN2 HD
          subst he1
          subst he2
          go_wp2_with fail
          go_region
          go_wp2_with fail
          go_roundw
          case rel => exact ⟨r + 1, by omega, by go_num, HDD⟩
          case measure => simp [intOf]; omega
        · have d9 : decide (r < k2) = false := by simp; omega
          clear hr hrk
          have HE := hide (show PlSt w wr B R C (j + 1) from ⟨t2, k2, HD.out.1.1, HD.out.1.2.1, HD.out.1.2.2.1, HK2.out, HD.out.1.2.2.2.1⟩)
          clear HD
          go_wp2_with fail
          go_roundw
          case rel => exact ⟨j + 1, by omega, by go_num, HE⟩
          case measure => simp [intOf]; omega
    · have d3 : decide (j < n) = false := by simp; omega
      clear hlt
      obtain ⟨t, k, h1, h2, h3, h4, h5⟩ := HX.out
      go_wp2_with fail
      go_ret
      exact ⟨rfl, h5⟩
end Go.Proofs.YtafoiblacmjpdaaDoor
