/- Ssdp: what is told of the device. -/
import Derived.Test.YtonoaopioifedaaGreatDoorSAcc
namespace Go.Proofs.YtonoaopioifedaaGreatDoor
open Go.RowKit Go.Shelf Go.Deep
set_option linter.unusedVariables false
set_option linter.unusedSimpArgs false
set_option maxRecDepth 100000
attribute [local go_sem] Oper.semAt_some
def strRow (xs : List (List UInt8)) : Array Value := (xs.map fun y => Value.string (bt y)).toArray
theorem str_cell {W : World} {g k : Nat} {xs : List (List UInt8)} {y : List UInt8} (h : W.heap[g]? = some (.cells (strRow xs) 9 (0, 0))) (hy : xs[k]? = some y) : W.cell? ⟨g, k, none⟩ = some (.string (bt y)) := by
  have : (strRow xs)[k]? = some (.string (bt y)) := by unfold strRow; simp [hy]
  simp [World.cell?, h, this]
theorem ldInL_cfg {F : Fence} {n : Nat} {ops : Array Oper} {rest : List Oper} {o : Oper} {a : Act} {w : World} {Q : Exit → Act → World → Prop} (x : Operand) (ho : o.op = .load 28 x) (hg : o.guard = none) (b : Nat) (hx : a.eval x = .pointer (some ⟨b, 0, none⟩)) (cs : Array Value)
    (hc : w.heap[b]? = some (.cells cs 28 (0, 0))) (hs : cs.size = 28) (h : wpListIn F n Tryz.prog ops Q rest (a.put o.dst (.agg cs)) w) : wpListIn F n Tryz.prog ops Q (o :: rest) a w :=
  wpListIn_plain hg fun K hK => ldIn_cfg x ho b hx cs hc hs (hK _ _ h)
theorem join_le (xs : List (List UInt8)) : (Lib.join xs cr).length ≤ 2 * xs.length + Lib.lens xs := by
  cases xs with
  | nil => exact Nat.zero_le _
  | cons x r =>
    rw [Lib.join_cons, List.length_append, Lib.joinTail_length]
    simp only [Lib.lens, List.map_cons, List.sum_cons, List.length_cons, cr, List.length_nil]
    omega
set_option maxHeartbeats 4000000 in
theorem alive_any (cs : Array Value) (ad : Nat) (u : List UInt8) (hc : CfS cs ad u) (w : World) (hp : PT w) (ha : ad ≤ 4294967295) (hu : u.length ≤ 900) :
    Calls Tryz.prog 15 #[.agg cs] w fun e w' => ∃ a c, e = .returned (.slice a 6 c) ∧ AnsAt w' w.heap.size a 6 c ((namesL (sUu ++ u)).map (alvL (plcL (txt (qb ad) 4)))) ∧ Below w.heap.size w w' := by
  have hl := txt_len (qb ad) (fun i => by have : qb ad i < 256 := Nat.mod_lt _ (by decide); omega) 4 (Nat.le_refl _)
  obtain ⟨W1, hW1⟩ : ∃ V, w.alloc (.cells cs 28) = V := ⟨_, rfl⟩
  obtain ⟨W2, hW2⟩ : ∃ V, W1.alloc (.cells #[.slice none 0 0] 32) = V := ⟨_, rfl⟩
  have hb1 : Below w.heap.size w W1 := by rw [← hW1]; exact (Below.refl _ _).alloc (Nat.le_refl _) _
  have hb2 : Below W1.heap.size W1 W2 := by rw [← hW2]; exact (Below.refl _ _).alloc (Nat.le_refl _) _
  obtain ⟨KK, hKK⟩ : ∃ k, w.heap.size = k := ⟨_, rfl⟩
  obtain ⟨OO, hOO⟩ : ∃ k, KK + 1 = k := ⟨_, rfl⟩
  have hs1 : W1.heap.size = OO := by rw [← hW1, ← hOO, ← hKK]; simp
  have hc2 : W2.heap[KK]? = some (.cells cs 28 (0, 0)) := below_blk hb2 (by rw [← hW1, ← hKK]; exact heap_alloc_new _ _) (Nat.le_refl _)
  have ho2 : W2.heap[OO]? = some (.cells #[.slice none 0 0] 32 (0, 0)) := by rw [← hs1, ← hW2]; exact heap_alloc_new _ _
  have HE := hide (show (w.alloc (.cells cs 28)).alloc (.cells #[.slice none 0 0] 32) = W2 from by rw [hW1]; exact hW2)
  have HK0 := hide (And.intro hKK hOO)
  have HS := hide (show Acc w KK OO KK cs [] W2 from ⟨by rw [← hKK]; exact hb1.trans (hb2.mono hb1.size), Nat.le_of_eq hKK.symm, by omega, ⟨none, 0, 0, ho2, [], ⟨rfl, .inl ⟨rfl, rfl⟩⟩, rfl, fun i v l h => by simp at h⟩, hc2⟩)
  have HNM := hide (names_any cs ad u hc W2 hu)
  have HPL0 := hide (fun (V : World) (hV : Below w.heap.size w V) => place_any cs ad u hc V (hp.below hV (Nat.le_refl _)) ha)
  have HWW := hide (show Below w.heap.size w W2 from hb1.trans (hb2.mono hb1.size))
  have HSZ := hide hc.size
  have HPP := hide (show (plcL (txt (qb ad) 4)).length ≤ 300 from by unfold plcL tLoc; simp only [List.length_append, List.length_cons, List.length_nil]; omega)
  have HOL := hide (show (sUu ++ u).length ≤ 1000 from by unfold sUu; simp only [List.length_append, List.length_cons, List.length_nil]; omega)
  generalize plcL (txt (qb ad) 4) = PP at *
  generalize sUu ++ u = o at *
  clear hl hW1 hW2 hb1 hb2 hKK hOO hs1 hc2 ho2 hc hp ha hu
  refine (callsIn_wide (n := 8)).1 ?_
  have hro : Fence.wide.round = none := rfl
  refine callsIn_of_wp_marks Tryz.func15 rfl trivial ?_ hro
  simp only [Tryz.ntmps15, List.size_toArray, List.length_cons, List.length_nil, Nat.reduceAdd, Nat.reduceSub, Array.replicate_succ, Array.replicate_zero, List.push_toArray, List.append_toArray, List.nil_append, List.cons_append]
  gi_upto_region 2 with (fail)
  rw [HE.out]
  rw [HK0.out.1]
  rw [HK0.out.2]
  gi_wp2_with ((refine ldInL_cfg (o := ⟨some 6, _, _, _, _, _⟩) (.tmp 1) rfl rfl KK rfl cs HS.out.cfg HSZ.out ?_; try simp only [Act.put, List.setIfInBounds_toArray, List.set_cons_zero, List.set_cons_succ]))
  refine ⟨trivial, ?_⟩
  refine (callsIn_wide.2 HNM.out).mono ?_
  rintro e w2 ⟨P, rfl, hP, b2⟩
  have HS2 := hide (HS.out.next b2)
  have HW2 := hide (HWW.out.trans (b2.mono HWW.out.size))
  have HP := hide hP
  have HPL := HPL0
  clear hP b2 HNM HS HWW HE
  gi_wp2_with fail
  have HSEQ := hide (nms_stops Fence.wide 7 trivial hro (by omega) P o HOL.out w2 KX (fun _ _ h => h.1) HP.out)
  refine wpIn_rangeFunc_ownG hro (by omega) (gf := 31) (lb := #[.pointer (some ⟨P, 0, none⟩)]) rfl trivial (enters_of Tryz.func31 (by kernel_rfl) rfl)
    HSEQ.out KX.trans kx_b (Below.refl _ _) (fun _ => rfl)
    (fun pre W => Acc w KK OO KK cs (pre.map (fun x : NX => alvL PP x.val)) W) (fun _ _ _ => False)
    (Acc.own _ (Nat.le_trans HS2.out.size HW2.out.size)) (fun _ _ _ _ _ hs _ _ => hs) HS2.out
    (fun x => { tmps := #[.agg cs, .pointer (some ⟨KK, 0, none⟩), .slice none 0 0, .pointer (some ⟨OO, 0, none⟩), .string (bt x.val.1), .string (bt x.val.2), .agg cs, .func (.func 31) #[] #[.pointer (some ⟨P, 0, none⟩)], .string (bt x.val.1), .string (bt x.val.2), undef, undef, undef, undef, undef, undef, undef, undef, undef, undef, undef, undef], defers := [] }) ?assign ?body ?done ?stop
  case assign =>
    intro l x W K hK
    have HK := hide hK
    clear hK
    gi_wp2
    exact HK.out
  case body =>
    rintro l pre x W hacc hlt
    obtain ⟨a, n, c, hO, han⟩ := hacc.box
    have HN := hide (show n ≤ 1000 by obtain ⟨vs, _, h2, _⟩ := han; rw [List.length_map] at h2; omega)
    have HO := hide hO
    have HC := hide hacc.cfg
    have HACC := hide hacc
    have HPL := hide (show ∀ V, Below W.heap.size W V → Calls Tryz.prog 24 #[.agg cs] V fun e w' => e = .returned (.string (bt PP)) ∧ Below V.heap.size V w' from fun V hV => HPL0.out V (by
      have h1 := hacc.below
      rw [← HK0.out.1] at h1
      exact h1.trans (hV.mono h1.size)))
    obtain ⟨FF, hFF⟩ : ∃ f, f = (fun x : NX => alvL PP x.val) := ⟨_, rfl⟩
    rw [← hFF] at HACC ⊢
    obtain ⟨x1, hx1⟩ : ∃ y, x.val.1 = y := ⟨_, rfl⟩
    obtain ⟨x2, hx2⟩ : ∃ y, x.val.2 = y := ⟨_, rfl⟩
    have hl1 : x1.length ≤ 1000 := hx1 ▸ x.property.1
    have hl2 : x2.length ≤ 2002 := hx2 ▸ x.property.2
    obtain ⟨XS, hXS⟩ : ∃ l, [tNot, tHost, tMax, PP, tNt ++ x1, tAlv, tSrv, tUsn ++ x2] = l := ⟨_, rfl⟩
    have HFX := hide (show FF x = msgL XS from by rw [hFF, ← hXS, ← hx1, ← hx2]; rfl)
    rw [hx1, hx2]
    have hsa : ∀ V : World, (Op.stringOp .add ⟨#[78, 84, 58, 32]⟩ (bt x1)).run Tryz.prog V = .ok (.string (bt (tNt ++ x1))) V := fun V => run_string_add_lists V tNt x1 (by decide) (by omega)
    have hsb : ∀ V : World, (Op.stringOp .add ⟨#[85, 83, 78, 58, 32]⟩ (bt x2)).run Tryz.prog V = .ok (.string (bt (tUsn ++ x2))) V := fun V => run_string_add_lists V tUsn x2 (by decide) (by omega)
    have HMS := hide (show ∀ (V : World) (bk : Nat), V.heap[bk]? = some (.cells (strRow XS) 9 (0, 0)) → Calls Tryz.prog 23 #[.slice (some ⟨bk, 0, none⟩) 8 8] V fun e w' => ∃ g cap m, m = (msgL XS).length ∧ e = .returned (.slice (some ⟨g, 0, none⟩) m cap) ∧ TxB w' g (msgL XS) ∧ V.heap.size ≤ g ∧ Below V.heap.size V w' from fun V bk h =>
      message_any bk 8 8 XS V (fun j x hx => str_cell h hx) (lt_of_block h) (by rw [← hXS]; rfl) (by decide) (by decide) (by
        have := join_le XS
        have h2 : Lib.lens XS ≤ 10000 := by rw [← hXS]; have := HPP.out; simp only [Lib.lens, List.map_cons, List.map_nil, List.sum_cons, List.sum_nil, List.length_append, tAlv, tHost, tMax, tNot, tNt, tSrv, tUsn, List.length_cons, List.length_nil]; omega
        have h3 : XS.length = 8 := by rw [← hXS]; rfl
        omega))
    have HRW := hide (show ∀ z : World, (z.alloc (.cells #[.string ⟨#[78, 79, 84, 73, 70, 89, 32, 42, 32, 72, 84, 84, 80, 47, 49, 46, 49]⟩, .string ⟨#[72, 79, 83, 84, 58, 32, 50, 51, 57, 46, 50, 53, 53, 46, 50, 53, 53, 46, 50, 53, 48, 58, 49, 57, 48, 48]⟩, .string ⟨#[67, 65, 67, 72, 69, 45, 67, 79, 78, 84, 82, 79, 76, 58, 32, 109, 97, 120, 45, 97, 103, 101, 61, 49, 56, 48, 48]⟩, .string (bt PP), .string (bt (tNt ++ x1)), .string ⟨#[78, 84, 83, 58, 32, 115, 115, 100, 112, 58, 97, 108, 105, 118, 101]⟩, .string ⟨#[83, 69, 82, 86, 69, 82, 58, 32, 104, 101, 97, 114, 116, 104, 47, 49, 32, 85, 80, 110, 80, 47, 49, 46, 49, 32, 104, 101, 97, 114, 116, 104, 47, 49]⟩, .string (bt (tUsn ++ x2))] 9)).heap[z.heap.size]? = some (.cells (strRow XS) 9 (0, 0)) from fun z => by rw [← hXS]; exact heap_alloc_new _ _)
    generalize bt (tNt ++ x1) = B1 at *
    generalize bt (tUsn ++ x2) = B2 at *
    generalize bt x1 = X1 at *
    generalize bt x2 = X2 at *
    generalize bt PP = BP at *
    clear hx1 hx2 hl1 hl2 hXS hFF hO han hacc hlt
    gi_wp2_with fail
    refine regionIn_round (by kernel_rfl) (by kernel_rfl) ?_
    have HB0 := hide (show Below W.heap.size W W.drew from (Below.refl _ _).drew)
    generalize W.drew = z0 at *
    refine wpAnyIn_take (i := 3) (oi := { dst := some 13, op := Op.move (Operand.tmp 4), type := 9, pos := "ssdp.go:22", after := #[], guard := none }) (v := ?_) hro rfl (by kernel_rfl) (by kernel_rfl) (by kernel_rfl) (fun _ _ _ h => h) ⟨Or.inl ⟨by rfl, ?_⟩, fun _ => rfl⟩ ?_
    rotate_left
    · intro w
      go_simp
      try with_reducible rfl
    try simp only [Act.put, List.setIfInBounds_toArray, List.set_cons_zero, List.set_cons_succ]
    refine wpAnyIn_take (i := 4) (oi := { dst := some 14, op := Op.binOp BinOp.add 9 (Operand.const (Value.string { data := #[78, 84, 58, 32] })) (Operand.tmp 13) 9, type := 9, pos := "ssdp.go:22", after := #[{ on := 3, ground := Ground.data }], guard := none }) (v := ?_) hro rfl (by kernel_rfl) (by kernel_rfl) (by kernel_rfl) (fun _ _ _ h => h) ⟨Or.inl ⟨by rfl, ?_⟩, fun _ => rfl⟩ ?_
    rotate_left
    · intro w
      go_simp
      try with_reducible rfl
    try simp only [Act.put, List.setIfInBounds_toArray, List.set_cons_zero, List.set_cons_succ]
    refine wpAnyIn_take (i := 5) (oi := { dst := some 15, op := Op.move (Operand.tmp 5), type := 9, pos := "ssdp.go:22", after := #[], guard := none }) (v := ?_) hro rfl (by kernel_rfl) (by kernel_rfl) (by kernel_rfl) (fun _ _ _ h => h) ⟨Or.inl ⟨by rfl, ?_⟩, fun _ => rfl⟩ ?_
    rotate_left
    · intro w
      go_simp
      try with_reducible rfl
    try simp only [Act.put, List.setIfInBounds_toArray, List.set_cons_zero, List.set_cons_succ]
    refine wpAnyIn_take (i := 6) (oi := { dst := some 16, op := Op.binOp BinOp.add 9 (Operand.const (Value.string { data := #[85, 83, 78, 58, 32] })) (Operand.tmp 15) 9, type := 9, pos := "ssdp.go:22", after := #[{ on := 5, ground := Ground.data }], guard := none }) (v := ?_) hro rfl (by kernel_rfl) (by kernel_rfl) (by kernel_rfl) (fun _ _ _ h => h) ⟨Or.inl ⟨by rfl, ?_⟩, fun _ => rfl⟩ ?_
    rotate_left
    · intro w
      go_simp
      try with_reducible rfl
    try simp only [Act.put, List.setIfInBounds_toArray, List.set_cons_zero, List.set_cons_succ]
    refine wpAnyIn_ready (rs := [0, 1]) (by kernel_rfl) (by simp) ?_
    refine AllReadyIn.cons (o := { dst := some 10, op := Op.load 32 (Operand.tmp 3), type := 32, pos := "ssdp.go:22", after := #[], guard := none }) rfl (fun K hK => ?_) ?_
    ·
      have cO := cell_of_one (below_blk HB0.out HO.out (Nat.le_refl _))
      go_simp
      clear cO
      refine hK _ _ ?_
      clear hK K
      try simp only [Act.put, List.setIfInBounds_toArray, List.set_cons_zero, List.set_cons_succ]
      refine wpAnyIn_ready (rs := [1]) (by kernel_rfl) (by simp) ?_
      refine AllReadyIn.cons (o := { dst := some 11, op := Op.load 28 (Operand.tmp 1), type := 28, pos := "ssdp.go:22", after := #[], guard := none }) rfl (fun K hK => ?_) ?_
      ·
        rw [if_pos (by rfl)]
        refine ldIn_cfg (.tmp 1) rfl KK rfl cs (below_blk HB0.out HC.out (Nat.le_refl _)) HSZ.out ?_
        refine hK _ _ ?_
        clear hK K
        try simp only [Act.put, List.setIfInBounds_toArray, List.set_cons_zero, List.set_cons_succ]
        refine wpAnyIn_ready (rs := [2]) (by kernel_rfl) (by simp) ?_
        refine AllReadyIn.cons (o := { dst := some 12, op := Op.call { callee := Callee.value (Operand.func 24), args := #[Operand.tmp 11], argTypes := #[28] }, type := 9, pos := "ssdp.go:22", after := #[{ on := 1, ground := Ground.data }], guard := none }) rfl (fun K hK => ?_) ?_
        ·
          go_simp
          refine ⟨trivial, ?_⟩
          refine (callsIn_wide.2 (HPL.out z0 HB0.out)).mono ?_
          rintro e z1 ⟨rfl, b9⟩
          have HB1 := hide (HB0.out.trans (b9.mono HB0.out.size))
          clear b9
          refine hK _ _ ?_
          clear hK K
          try simp only [Act.put, List.setIfInBounds_toArray, List.set_cons_zero, List.set_cons_succ]
          refine wpAnyIn_ready (rs := [7]) (by kernel_rfl) (by simp) ?_
          refine AllReadyIn.cons (o := { dst := some 17, op := Op.buildSlice 35 8 #[(0, Operand.const (Value.string { data := #[78, 79, 84, 73, 70, 89, 32, 42, 32, 72, 84, 84, 80, 47, 49, 46, 49] })), (1, Operand.const (Value.string { data := #[72, 79, 83, 84, 58, 32, 50, 51, 57, 46, 50, 53, 53, 46, 50, 53, 53, 46, 50, 53, 48, 58, 49, 57, 48, 48] })), (2, Operand.const (Value.string { data := #[67, 65, 67, 72, 69, 45, 67, 79, 78, 84, 82, 79, 76, 58, 32, 109, 97, 120, 45, 97, 103, 101, 61, 49, 56, 48, 48] })), (3, Operand.tmp 12), (4, Operand.tmp 14), (5, Operand.const (Value.string { data := #[78, 84, 83, 58, 32, 115, 115, 100, 112, 58, 97, 108, 105, 118, 101] })), (6, Operand.const (Value.string { data := #[83, 69, 82, 86, 69, 82, 58, 32, 104, 101, 97, 114, 116, 104, 47, 49, 32, 85, 80, 110, 80, 47, 49, 46, 49, 32, 104, 101, 97, 114, 116, 104, 47, 49] })), (7, Operand.tmp 16)], type := 35, pos := "ssdp.go:22", after := #[{ on := 2, ground := Ground.data }, { on := 4, ground := Ground.data }, { on := 6, ground := Ground.data }], guard := none }) rfl (fun K hK => ?_) ?_
          ·
            obtain ⟨z2, hz2, hr2, hb2⟩ : ∃ V, z1.alloc (.cells #[.string ⟨#[78, 79, 84, 73, 70, 89, 32, 42, 32, 72, 84, 84, 80, 47, 49, 46, 49]⟩, .string ⟨#[72, 79, 83, 84, 58, 32, 50, 51, 57, 46, 50, 53, 53, 46, 50, 53, 53, 46, 50, 53, 48, 58, 49, 57, 48, 48]⟩, .string ⟨#[67, 65, 67, 72, 69, 45, 67, 79, 78, 84, 82, 79, 76, 58, 32, 109, 97, 120, 45, 97, 103, 101, 61, 49, 56, 48, 48]⟩, .string BP, .string B1, .string ⟨#[78, 84, 83, 58, 32, 115, 115, 100, 112, 58, 97, 108, 105, 118, 101]⟩, .string ⟨#[83, 69, 82, 86, 69, 82, 58, 32, 104, 101, 97, 114, 116, 104, 47, 49, 32, 85, 80, 110, 80, 47, 49, 46, 49, 32, 104, 101, 97, 114, 116, 104, 47, 49]⟩, .string B2] 9) = V ∧ V.heap[z1.heap.size]? = some (.cells (strRow XS) 9 (0, 0)) ∧ Below z1.heap.size z1 V := ⟨_, rfl, HRW.out _, (Below.refl _ _).alloc (Nat.le_refl _) _⟩
            have HB2 := hide (HB1.out.trans (hb2.mono HB1.out.size))
            have HR2 := hide hr2
            clear hr2 hb2
            go_simp
            try rw [hz2]
            clear hz2
            obtain ⟨bk2, hbk2⟩ : ∃ b, z1.heap.size = b := ⟨_, rfl⟩
            rw [hbk2] at HR2 ⊢
            clear hbk2
            refine hK _ _ ?_
            clear hK K
            try simp only [Act.put, List.setIfInBounds_toArray, List.set_cons_zero, List.set_cons_succ]
            refine wpAnyIn_ready (rs := [8]) (by kernel_rfl) (by simp) ?_
            refine AllReadyIn.cons (o := { dst := some 18, op := Op.call { callee := Callee.value (Operand.func 23), args := #[Operand.tmp 17], argTypes := #[35] }, type := 29, pos := "ssdp.go:22", after := #[{ on := 7, ground := Ground.data }, { on := 2, ground := Ground.chain }], guard := none }) rfl (fun K hK => ?_) ?_
            ·
              go_simp
              refine ⟨trivial, ?_⟩
              refine (callsIn_wide.2 (HMS.out z2 _ HR2.out)).mono ?_
              rintro e z3 ⟨g, cap, m, hm, rfl, htx, hgz, b9⟩
              have htx := And.intro htx (Nat.le_trans HB2.out.size hgz)
              clear hgz
              have HB3 := hide (HB2.out.trans (b9.mono HB2.out.size))
              obtain ⟨a5, c5, w5, hrun, hO5, hacc, hkx, hko⟩ := acc_push HACC.out a n c HO.out HB3.out g m cap _ hm htx HN.out
              have HRUN := hide hrun
              have HO5 := hide hO5
              have HAC := hide (show Acc w KK OO KK cs ((pre ++ [x]).map FF) _ from (by rw [List.map_append, List.map_singleton, HFX.out]; exact hacc))
              have HKX := hide hkx
              have HKO := hide hko
              clear b9 hm htx hrun hO5 hacc hkx hko
              refine hK _ _ ?_
              clear hK K
              try simp only [Act.put, List.setIfInBounds_toArray, List.set_cons_zero, List.set_cons_succ]
              refine wpAnyIn_ready (rs := [9]) (by kernel_rfl) (by simp) ?_
              refine AllReadyIn.cons (o := { dst := some 19, op := Op.buildSlice 32 1 #[(0, Operand.tmp 18)], type := 32, pos := "ssdp.go:22", after := #[{ on := 8, ground := Ground.data }], guard := none }) rfl (fun K hK => ?_) ?_
              ·
                go_simp
                refine hK _ _ ?_
                clear hK K
                try simp only [Act.put, List.setIfInBounds_toArray, List.set_cons_zero, List.set_cons_succ]
                refine wpAnyIn_ready (rs := [10]) (by kernel_rfl) (by simp) ?_
                refine AllReadyIn.cons (o := { dst := some 20, op := Op.call { callee := Callee.builtin Builtin.append, args := #[Operand.tmp 10, Operand.tmp 19], argTypes := #[32, 32] }, type := 32, pos := "ssdp.go:22", after := #[{ on := 0, ground := Ground.data }, { on := 9, ground := Ground.data }, { on := 8, ground := Ground.chain }], guard := none }) rfl (fun K hK => ?_) ?_
                ·
                  rw [if_pos (by rfl)]
                  refine apIn_run _ _ _ _ rfl _ _ rfl rfl _ _ HRUN.out ?_
                  refine hK _ _ ?_
                  clear hK K
                  try simp only [Act.put, List.setIfInBounds_toArray, List.set_cons_zero, List.set_cons_succ]
                  refine wpAnyIn_ready (rs := [11]) (by kernel_rfl) (by simp) ?_
                  refine AllReadyIn.cons (o := { dst := none, op := Op.store 32 (Operand.tmp 3) (Operand.tmp 20), type := 0, pos := "ssdp.go:22", after := #[{ on := 10, ground := Ground.data }, { on := 10, ground := Ground.chain }, { on := 0, ground := Ground.phase }, { on := 1, ground := Ground.phase }, { on := 2, ground := Ground.phase }, { on := 3, ground := Ground.phase }, { on := 4, ground := Ground.phase }, { on := 5, ground := Ground.phase }, { on := 6, ground := Ground.phase }, { on := 7, ground := Ground.phase }, { on := 8, ground := Ground.phase }, { on := 9, ground := Ground.phase }, { on := 10, ground := Ground.phase }], guard := none }) rfl (fun K hK => ?_) ?_
                  ·
                    have cO := cell_of_one HO5.out
                    have fO := free_of_one HO5.out
                    go_simp
                    clear cO fO
                    refine hK _ _ ?_
                    clear hK K
                    try simp only [Act.put, List.setIfInBounds_toArray, List.set_cons_zero, List.set_cons_succ]
                    refine wpAnyIn_done (by kernel_rfl) ?_ _
                    exact ⟨HKO.out.from _, HKX.out, HAC.out⟩
                  exact AllReadyIn.nil
                exact AllReadyIn.nil
              exact AllReadyIn.nil
            exact AllReadyIn.nil
          exact AllReadyIn.nil
        exact AllReadyIn.nil
      exact AllReadyIn.nil
    refine AllReadyIn.cons (o := { dst := some 11, op := Op.load 28 (Operand.tmp 1), type := 28, pos := "ssdp.go:22", after := #[], guard := none }) rfl (fun K hK => ?_) ?_
    ·
      rw [if_pos (by rfl)]
      refine ldIn_cfg (.tmp 1) rfl KK rfl cs (below_blk HB0.out HC.out (Nat.le_refl _)) HSZ.out ?_
      refine hK _ _ ?_
      clear hK K
      try simp only [Act.put, List.setIfInBounds_toArray, List.set_cons_zero, List.set_cons_succ]
      refine wpAnyIn_ready (rs := [0, 2]) (by kernel_rfl) (by simp) ?_
      refine AllReadyIn.cons (o := { dst := some 10, op := Op.load 32 (Operand.tmp 3), type := 32, pos := "ssdp.go:22", after := #[], guard := none }) rfl (fun K hK => ?_) ?_
      ·
        have cO := cell_of_one (below_blk HB0.out HO.out (Nat.le_refl _))
        go_simp
        clear cO
        refine hK _ _ ?_
        clear hK K
        try simp only [Act.put, List.setIfInBounds_toArray, List.set_cons_zero, List.set_cons_succ]
        refine wpAnyIn_ready (rs := [2]) (by kernel_rfl) (by simp) ?_
        refine AllReadyIn.cons (o := { dst := some 12, op := Op.call { callee := Callee.value (Operand.func 24), args := #[Operand.tmp 11], argTypes := #[28] }, type := 9, pos := "ssdp.go:22", after := #[{ on := 1, ground := Ground.data }], guard := none }) rfl (fun K hK => ?_) ?_
        ·
          go_simp
          refine ⟨trivial, ?_⟩
          refine (callsIn_wide.2 (HPL.out z0 HB0.out)).mono ?_
          rintro e z4 ⟨rfl, b9⟩
          have HB4 := hide (HB0.out.trans (b9.mono HB0.out.size))
          clear b9
          refine hK _ _ ?_
          clear hK K
          try simp only [Act.put, List.setIfInBounds_toArray, List.set_cons_zero, List.set_cons_succ]
          refine wpAnyIn_ready (rs := [7]) (by kernel_rfl) (by simp) ?_
          refine AllReadyIn.cons (o := { dst := some 17, op := Op.buildSlice 35 8 #[(0, Operand.const (Value.string { data := #[78, 79, 84, 73, 70, 89, 32, 42, 32, 72, 84, 84, 80, 47, 49, 46, 49] })), (1, Operand.const (Value.string { data := #[72, 79, 83, 84, 58, 32, 50, 51, 57, 46, 50, 53, 53, 46, 50, 53, 53, 46, 50, 53, 48, 58, 49, 57, 48, 48] })), (2, Operand.const (Value.string { data := #[67, 65, 67, 72, 69, 45, 67, 79, 78, 84, 82, 79, 76, 58, 32, 109, 97, 120, 45, 97, 103, 101, 61, 49, 56, 48, 48] })), (3, Operand.tmp 12), (4, Operand.tmp 14), (5, Operand.const (Value.string { data := #[78, 84, 83, 58, 32, 115, 115, 100, 112, 58, 97, 108, 105, 118, 101] })), (6, Operand.const (Value.string { data := #[83, 69, 82, 86, 69, 82, 58, 32, 104, 101, 97, 114, 116, 104, 47, 49, 32, 85, 80, 110, 80, 47, 49, 46, 49, 32, 104, 101, 97, 114, 116, 104, 47, 49] })), (7, Operand.tmp 16)], type := 35, pos := "ssdp.go:22", after := #[{ on := 2, ground := Ground.data }, { on := 4, ground := Ground.data }, { on := 6, ground := Ground.data }], guard := none }) rfl (fun K hK => ?_) ?_
          ·
            obtain ⟨z5, hz5, hr5, hb5⟩ : ∃ V, z4.alloc (.cells #[.string ⟨#[78, 79, 84, 73, 70, 89, 32, 42, 32, 72, 84, 84, 80, 47, 49, 46, 49]⟩, .string ⟨#[72, 79, 83, 84, 58, 32, 50, 51, 57, 46, 50, 53, 53, 46, 50, 53, 53, 46, 50, 53, 48, 58, 49, 57, 48, 48]⟩, .string ⟨#[67, 65, 67, 72, 69, 45, 67, 79, 78, 84, 82, 79, 76, 58, 32, 109, 97, 120, 45, 97, 103, 101, 61, 49, 56, 48, 48]⟩, .string BP, .string B1, .string ⟨#[78, 84, 83, 58, 32, 115, 115, 100, 112, 58, 97, 108, 105, 118, 101]⟩, .string ⟨#[83, 69, 82, 86, 69, 82, 58, 32, 104, 101, 97, 114, 116, 104, 47, 49, 32, 85, 80, 110, 80, 47, 49, 46, 49, 32, 104, 101, 97, 114, 116, 104, 47, 49]⟩, .string B2] 9) = V ∧ V.heap[z4.heap.size]? = some (.cells (strRow XS) 9 (0, 0)) ∧ Below z4.heap.size z4 V := ⟨_, rfl, HRW.out _, (Below.refl _ _).alloc (Nat.le_refl _) _⟩
            have HB5 := hide (HB4.out.trans (hb5.mono HB4.out.size))
            have HR5 := hide hr5
            clear hr5 hb5
            go_simp
            try rw [hz5]
            clear hz5
            obtain ⟨bk5, hbk5⟩ : ∃ b, z4.heap.size = b := ⟨_, rfl⟩
            rw [hbk5] at HR5 ⊢
            clear hbk5
            refine hK _ _ ?_
            clear hK K
            try simp only [Act.put, List.setIfInBounds_toArray, List.set_cons_zero, List.set_cons_succ]
            refine wpAnyIn_ready (rs := [8]) (by kernel_rfl) (by simp) ?_
            refine AllReadyIn.cons (o := { dst := some 18, op := Op.call { callee := Callee.value (Operand.func 23), args := #[Operand.tmp 17], argTypes := #[35] }, type := 29, pos := "ssdp.go:22", after := #[{ on := 7, ground := Ground.data }, { on := 2, ground := Ground.chain }], guard := none }) rfl (fun K hK => ?_) ?_
            ·
              go_simp
              refine ⟨trivial, ?_⟩
              refine (callsIn_wide.2 (HMS.out z5 _ HR5.out)).mono ?_
              rintro e z6 ⟨g, cap, m, hm, rfl, htx, hgz, b9⟩
              have htx := And.intro htx (Nat.le_trans HB5.out.size hgz)
              clear hgz
              have HB6 := hide (HB5.out.trans (b9.mono HB5.out.size))
              obtain ⟨a5, c5, w5, hrun, hO5, hacc, hkx, hko⟩ := acc_push HACC.out a n c HO.out HB6.out g m cap _ hm htx HN.out
              have HRUN := hide hrun
              have HO5 := hide hO5
              have HAC := hide (show Acc w KK OO KK cs ((pre ++ [x]).map FF) _ from (by rw [List.map_append, List.map_singleton, HFX.out]; exact hacc))
              have HKX := hide hkx
              have HKO := hide hko
              clear b9 hm htx hrun hO5 hacc hkx hko
              refine hK _ _ ?_
              clear hK K
              try simp only [Act.put, List.setIfInBounds_toArray, List.set_cons_zero, List.set_cons_succ]
              refine wpAnyIn_ready (rs := [9]) (by kernel_rfl) (by simp) ?_
              refine AllReadyIn.cons (o := { dst := some 19, op := Op.buildSlice 32 1 #[(0, Operand.tmp 18)], type := 32, pos := "ssdp.go:22", after := #[{ on := 8, ground := Ground.data }], guard := none }) rfl (fun K hK => ?_) ?_
              ·
                go_simp
                refine hK _ _ ?_
                clear hK K
                try simp only [Act.put, List.setIfInBounds_toArray, List.set_cons_zero, List.set_cons_succ]
                refine wpAnyIn_ready (rs := [10]) (by kernel_rfl) (by simp) ?_
                refine AllReadyIn.cons (o := { dst := some 20, op := Op.call { callee := Callee.builtin Builtin.append, args := #[Operand.tmp 10, Operand.tmp 19], argTypes := #[32, 32] }, type := 32, pos := "ssdp.go:22", after := #[{ on := 0, ground := Ground.data }, { on := 9, ground := Ground.data }, { on := 8, ground := Ground.chain }], guard := none }) rfl (fun K hK => ?_) ?_
                ·
                  rw [if_pos (by rfl)]
                  refine apIn_run _ _ _ _ rfl _ _ rfl rfl _ _ HRUN.out ?_
                  refine hK _ _ ?_
                  clear hK K
                  try simp only [Act.put, List.setIfInBounds_toArray, List.set_cons_zero, List.set_cons_succ]
                  refine wpAnyIn_ready (rs := [11]) (by kernel_rfl) (by simp) ?_
                  refine AllReadyIn.cons (o := { dst := none, op := Op.store 32 (Operand.tmp 3) (Operand.tmp 20), type := 0, pos := "ssdp.go:22", after := #[{ on := 10, ground := Ground.data }, { on := 10, ground := Ground.chain }, { on := 0, ground := Ground.phase }, { on := 1, ground := Ground.phase }, { on := 2, ground := Ground.phase }, { on := 3, ground := Ground.phase }, { on := 4, ground := Ground.phase }, { on := 5, ground := Ground.phase }, { on := 6, ground := Ground.phase }, { on := 7, ground := Ground.phase }, { on := 8, ground := Ground.phase }, { on := 9, ground := Ground.phase }, { on := 10, ground := Ground.phase }], guard := none }) rfl (fun K hK => ?_) ?_
                  ·
                    have cO := cell_of_one HO5.out
                    have fO := free_of_one HO5.out
                    go_simp
                    clear cO fO
                    refine hK _ _ ?_
                    clear hK K
                    try simp only [Act.put, List.setIfInBounds_toArray, List.set_cons_zero, List.set_cons_succ]
                    refine wpAnyIn_done (by kernel_rfl) ?_ _
                    exact ⟨HKO.out.from _, HKX.out, HAC.out⟩
                  exact AllReadyIn.nil
                exact AllReadyIn.nil
              exact AllReadyIn.nil
            exact AllReadyIn.nil
          exact AllReadyIn.nil
        exact AllReadyIn.nil
      refine AllReadyIn.cons (o := { dst := some 12, op := Op.call { callee := Callee.value (Operand.func 24), args := #[Operand.tmp 11], argTypes := #[28] }, type := 9, pos := "ssdp.go:22", after := #[{ on := 1, ground := Ground.data }], guard := none }) rfl (fun K hK => ?_) ?_
      ·
        go_simp
        refine ⟨trivial, ?_⟩
        refine (callsIn_wide.2 (HPL.out z0 HB0.out)).mono ?_
        rintro e z7 ⟨rfl, b9⟩
        have HB7 := hide (HB0.out.trans (b9.mono HB0.out.size))
        clear b9
        refine hK _ _ ?_
        clear hK K
        try simp only [Act.put, List.setIfInBounds_toArray, List.set_cons_zero, List.set_cons_succ]
        refine wpAnyIn_ready (rs := [0, 7]) (by kernel_rfl) (by simp) ?_
        refine AllReadyIn.cons (o := { dst := some 10, op := Op.load 32 (Operand.tmp 3), type := 32, pos := "ssdp.go:22", after := #[], guard := none }) rfl (fun K hK => ?_) ?_
        ·
          have cO := cell_of_one (below_blk HB7.out HO.out (Nat.le_refl _))
          go_simp
          clear cO
          refine hK _ _ ?_
          clear hK K
          try simp only [Act.put, List.setIfInBounds_toArray, List.set_cons_zero, List.set_cons_succ]
          refine wpAnyIn_ready (rs := [7]) (by kernel_rfl) (by simp) ?_
          refine AllReadyIn.cons (o := { dst := some 17, op := Op.buildSlice 35 8 #[(0, Operand.const (Value.string { data := #[78, 79, 84, 73, 70, 89, 32, 42, 32, 72, 84, 84, 80, 47, 49, 46, 49] })), (1, Operand.const (Value.string { data := #[72, 79, 83, 84, 58, 32, 50, 51, 57, 46, 50, 53, 53, 46, 50, 53, 53, 46, 50, 53, 48, 58, 49, 57, 48, 48] })), (2, Operand.const (Value.string { data := #[67, 65, 67, 72, 69, 45, 67, 79, 78, 84, 82, 79, 76, 58, 32, 109, 97, 120, 45, 97, 103, 101, 61, 49, 56, 48, 48] })), (3, Operand.tmp 12), (4, Operand.tmp 14), (5, Operand.const (Value.string { data := #[78, 84, 83, 58, 32, 115, 115, 100, 112, 58, 97, 108, 105, 118, 101] })), (6, Operand.const (Value.string { data := #[83, 69, 82, 86, 69, 82, 58, 32, 104, 101, 97, 114, 116, 104, 47, 49, 32, 85, 80, 110, 80, 47, 49, 46, 49, 32, 104, 101, 97, 114, 116, 104, 47, 49] })), (7, Operand.tmp 16)], type := 35, pos := "ssdp.go:22", after := #[{ on := 2, ground := Ground.data }, { on := 4, ground := Ground.data }, { on := 6, ground := Ground.data }], guard := none }) rfl (fun K hK => ?_) ?_
          ·
            obtain ⟨z8, hz8, hr8, hb8⟩ : ∃ V, z7.alloc (.cells #[.string ⟨#[78, 79, 84, 73, 70, 89, 32, 42, 32, 72, 84, 84, 80, 47, 49, 46, 49]⟩, .string ⟨#[72, 79, 83, 84, 58, 32, 50, 51, 57, 46, 50, 53, 53, 46, 50, 53, 53, 46, 50, 53, 48, 58, 49, 57, 48, 48]⟩, .string ⟨#[67, 65, 67, 72, 69, 45, 67, 79, 78, 84, 82, 79, 76, 58, 32, 109, 97, 120, 45, 97, 103, 101, 61, 49, 56, 48, 48]⟩, .string BP, .string B1, .string ⟨#[78, 84, 83, 58, 32, 115, 115, 100, 112, 58, 97, 108, 105, 118, 101]⟩, .string ⟨#[83, 69, 82, 86, 69, 82, 58, 32, 104, 101, 97, 114, 116, 104, 47, 49, 32, 85, 80, 110, 80, 47, 49, 46, 49, 32, 104, 101, 97, 114, 116, 104, 47, 49]⟩, .string B2] 9) = V ∧ V.heap[z7.heap.size]? = some (.cells (strRow XS) 9 (0, 0)) ∧ Below z7.heap.size z7 V := ⟨_, rfl, HRW.out _, (Below.refl _ _).alloc (Nat.le_refl _) _⟩
            have HB8 := hide (HB7.out.trans (hb8.mono HB7.out.size))
            have HR8 := hide hr8
            clear hr8 hb8
            go_simp
            try rw [hz8]
            clear hz8
            obtain ⟨bk8, hbk8⟩ : ∃ b, z7.heap.size = b := ⟨_, rfl⟩
            rw [hbk8] at HR8 ⊢
            clear hbk8
            refine hK _ _ ?_
            clear hK K
            try simp only [Act.put, List.setIfInBounds_toArray, List.set_cons_zero, List.set_cons_succ]
            refine wpAnyIn_ready (rs := [8]) (by kernel_rfl) (by simp) ?_
            refine AllReadyIn.cons (o := { dst := some 18, op := Op.call { callee := Callee.value (Operand.func 23), args := #[Operand.tmp 17], argTypes := #[35] }, type := 29, pos := "ssdp.go:22", after := #[{ on := 7, ground := Ground.data }, { on := 2, ground := Ground.chain }], guard := none }) rfl (fun K hK => ?_) ?_
            ·
              go_simp
              refine ⟨trivial, ?_⟩
              refine (callsIn_wide.2 (HMS.out z8 _ HR8.out)).mono ?_
              rintro e z9 ⟨g, cap, m, hm, rfl, htx, hgz, b9⟩
              have htx := And.intro htx (Nat.le_trans HB8.out.size hgz)
              clear hgz
              have HB9 := hide (HB8.out.trans (b9.mono HB8.out.size))
              obtain ⟨a5, c5, w5, hrun, hO5, hacc, hkx, hko⟩ := acc_push HACC.out a n c HO.out HB9.out g m cap _ hm htx HN.out
              have HRUN := hide hrun
              have HO5 := hide hO5
              have HAC := hide (show Acc w KK OO KK cs ((pre ++ [x]).map FF) _ from (by rw [List.map_append, List.map_singleton, HFX.out]; exact hacc))
              have HKX := hide hkx
              have HKO := hide hko
              clear b9 hm htx hrun hO5 hacc hkx hko
              refine hK _ _ ?_
              clear hK K
              try simp only [Act.put, List.setIfInBounds_toArray, List.set_cons_zero, List.set_cons_succ]
              refine wpAnyIn_ready (rs := [9]) (by kernel_rfl) (by simp) ?_
              refine AllReadyIn.cons (o := { dst := some 19, op := Op.buildSlice 32 1 #[(0, Operand.tmp 18)], type := 32, pos := "ssdp.go:22", after := #[{ on := 8, ground := Ground.data }], guard := none }) rfl (fun K hK => ?_) ?_
              ·
                go_simp
                refine hK _ _ ?_
                clear hK K
                try simp only [Act.put, List.setIfInBounds_toArray, List.set_cons_zero, List.set_cons_succ]
                refine wpAnyIn_ready (rs := [10]) (by kernel_rfl) (by simp) ?_
                refine AllReadyIn.cons (o := { dst := some 20, op := Op.call { callee := Callee.builtin Builtin.append, args := #[Operand.tmp 10, Operand.tmp 19], argTypes := #[32, 32] }, type := 32, pos := "ssdp.go:22", after := #[{ on := 0, ground := Ground.data }, { on := 9, ground := Ground.data }, { on := 8, ground := Ground.chain }], guard := none }) rfl (fun K hK => ?_) ?_
                ·
                  rw [if_pos (by rfl)]
                  refine apIn_run _ _ _ _ rfl _ _ rfl rfl _ _ HRUN.out ?_
                  refine hK _ _ ?_
                  clear hK K
                  try simp only [Act.put, List.setIfInBounds_toArray, List.set_cons_zero, List.set_cons_succ]
                  refine wpAnyIn_ready (rs := [11]) (by kernel_rfl) (by simp) ?_
                  refine AllReadyIn.cons (o := { dst := none, op := Op.store 32 (Operand.tmp 3) (Operand.tmp 20), type := 0, pos := "ssdp.go:22", after := #[{ on := 10, ground := Ground.data }, { on := 10, ground := Ground.chain }, { on := 0, ground := Ground.phase }, { on := 1, ground := Ground.phase }, { on := 2, ground := Ground.phase }, { on := 3, ground := Ground.phase }, { on := 4, ground := Ground.phase }, { on := 5, ground := Ground.phase }, { on := 6, ground := Ground.phase }, { on := 7, ground := Ground.phase }, { on := 8, ground := Ground.phase }, { on := 9, ground := Ground.phase }, { on := 10, ground := Ground.phase }], guard := none }) rfl (fun K hK => ?_) ?_
                  ·
                    have cO := cell_of_one HO5.out
                    have fO := free_of_one HO5.out
                    go_simp
                    clear cO fO
                    refine hK _ _ ?_
                    clear hK K
                    try simp only [Act.put, List.setIfInBounds_toArray, List.set_cons_zero, List.set_cons_succ]
                    refine wpAnyIn_done (by kernel_rfl) ?_ _
                    exact ⟨HKO.out.from _, HKX.out, HAC.out⟩
                  exact AllReadyIn.nil
                exact AllReadyIn.nil
              exact AllReadyIn.nil
            exact AllReadyIn.nil
          exact AllReadyIn.nil
        refine AllReadyIn.cons (o := { dst := some 17, op := Op.buildSlice 35 8 #[(0, Operand.const (Value.string { data := #[78, 79, 84, 73, 70, 89, 32, 42, 32, 72, 84, 84, 80, 47, 49, 46, 49] })), (1, Operand.const (Value.string { data := #[72, 79, 83, 84, 58, 32, 50, 51, 57, 46, 50, 53, 53, 46, 50, 53, 53, 46, 50, 53, 48, 58, 49, 57, 48, 48] })), (2, Operand.const (Value.string { data := #[67, 65, 67, 72, 69, 45, 67, 79, 78, 84, 82, 79, 76, 58, 32, 109, 97, 120, 45, 97, 103, 101, 61, 49, 56, 48, 48] })), (3, Operand.tmp 12), (4, Operand.tmp 14), (5, Operand.const (Value.string { data := #[78, 84, 83, 58, 32, 115, 115, 100, 112, 58, 97, 108, 105, 118, 101] })), (6, Operand.const (Value.string { data := #[83, 69, 82, 86, 69, 82, 58, 32, 104, 101, 97, 114, 116, 104, 47, 49, 32, 85, 80, 110, 80, 47, 49, 46, 49, 32, 104, 101, 97, 114, 116, 104, 47, 49] })), (7, Operand.tmp 16)], type := 35, pos := "ssdp.go:22", after := #[{ on := 2, ground := Ground.data }, { on := 4, ground := Ground.data }, { on := 6, ground := Ground.data }], guard := none }) rfl (fun K hK => ?_) ?_
        ·
          obtain ⟨z10, hz10, hr10, hb10⟩ : ∃ V, z7.alloc (.cells #[.string ⟨#[78, 79, 84, 73, 70, 89, 32, 42, 32, 72, 84, 84, 80, 47, 49, 46, 49]⟩, .string ⟨#[72, 79, 83, 84, 58, 32, 50, 51, 57, 46, 50, 53, 53, 46, 50, 53, 53, 46, 50, 53, 48, 58, 49, 57, 48, 48]⟩, .string ⟨#[67, 65, 67, 72, 69, 45, 67, 79, 78, 84, 82, 79, 76, 58, 32, 109, 97, 120, 45, 97, 103, 101, 61, 49, 56, 48, 48]⟩, .string BP, .string B1, .string ⟨#[78, 84, 83, 58, 32, 115, 115, 100, 112, 58, 97, 108, 105, 118, 101]⟩, .string ⟨#[83, 69, 82, 86, 69, 82, 58, 32, 104, 101, 97, 114, 116, 104, 47, 49, 32, 85, 80, 110, 80, 47, 49, 46, 49, 32, 104, 101, 97, 114, 116, 104, 47, 49]⟩, .string B2] 9) = V ∧ V.heap[z7.heap.size]? = some (.cells (strRow XS) 9 (0, 0)) ∧ Below z7.heap.size z7 V := ⟨_, rfl, HRW.out _, (Below.refl _ _).alloc (Nat.le_refl _) _⟩
          have HB10 := hide (HB7.out.trans (hb10.mono HB7.out.size))
          have HR10 := hide hr10
          clear hr10 hb10
          go_simp
          try rw [hz10]
          clear hz10
          obtain ⟨bk10, hbk10⟩ : ∃ b, z7.heap.size = b := ⟨_, rfl⟩
          rw [hbk10] at HR10 ⊢
          clear hbk10
          refine hK _ _ ?_
          clear hK K
          try simp only [Act.put, List.setIfInBounds_toArray, List.set_cons_zero, List.set_cons_succ]
          refine wpAnyIn_ready (rs := [0, 8]) (by kernel_rfl) (by simp) ?_
          refine AllReadyIn.cons (o := { dst := some 10, op := Op.load 32 (Operand.tmp 3), type := 32, pos := "ssdp.go:22", after := #[], guard := none }) rfl (fun K hK => ?_) ?_
          ·
            have cO := cell_of_one (below_blk HB10.out HO.out (Nat.le_refl _))
            go_simp
            clear cO
            refine hK _ _ ?_
            clear hK K
            try simp only [Act.put, List.setIfInBounds_toArray, List.set_cons_zero, List.set_cons_succ]
            refine wpAnyIn_ready (rs := [8]) (by kernel_rfl) (by simp) ?_
            refine AllReadyIn.cons (o := { dst := some 18, op := Op.call { callee := Callee.value (Operand.func 23), args := #[Operand.tmp 17], argTypes := #[35] }, type := 29, pos := "ssdp.go:22", after := #[{ on := 7, ground := Ground.data }, { on := 2, ground := Ground.chain }], guard := none }) rfl (fun K hK => ?_) ?_
            ·
              go_simp
              refine ⟨trivial, ?_⟩
              refine (callsIn_wide.2 (HMS.out z10 _ HR10.out)).mono ?_
              rintro e z11 ⟨g, cap, m, hm, rfl, htx, hgz, b9⟩
              have htx := And.intro htx (Nat.le_trans HB10.out.size hgz)
              clear hgz
              have HB11 := hide (HB10.out.trans (b9.mono HB10.out.size))
              obtain ⟨a5, c5, w5, hrun, hO5, hacc, hkx, hko⟩ := acc_push HACC.out a n c HO.out HB11.out g m cap _ hm htx HN.out
              have HRUN := hide hrun
              have HO5 := hide hO5
              have HAC := hide (show Acc w KK OO KK cs ((pre ++ [x]).map FF) _ from (by rw [List.map_append, List.map_singleton, HFX.out]; exact hacc))
              have HKX := hide hkx
              have HKO := hide hko
              clear b9 hm htx hrun hO5 hacc hkx hko
              refine hK _ _ ?_
              clear hK K
              try simp only [Act.put, List.setIfInBounds_toArray, List.set_cons_zero, List.set_cons_succ]
              refine wpAnyIn_ready (rs := [9]) (by kernel_rfl) (by simp) ?_
              refine AllReadyIn.cons (o := { dst := some 19, op := Op.buildSlice 32 1 #[(0, Operand.tmp 18)], type := 32, pos := "ssdp.go:22", after := #[{ on := 8, ground := Ground.data }], guard := none }) rfl (fun K hK => ?_) ?_
              ·
                go_simp
                refine hK _ _ ?_
                clear hK K
                try simp only [Act.put, List.setIfInBounds_toArray, List.set_cons_zero, List.set_cons_succ]
                refine wpAnyIn_ready (rs := [10]) (by kernel_rfl) (by simp) ?_
                refine AllReadyIn.cons (o := { dst := some 20, op := Op.call { callee := Callee.builtin Builtin.append, args := #[Operand.tmp 10, Operand.tmp 19], argTypes := #[32, 32] }, type := 32, pos := "ssdp.go:22", after := #[{ on := 0, ground := Ground.data }, { on := 9, ground := Ground.data }, { on := 8, ground := Ground.chain }], guard := none }) rfl (fun K hK => ?_) ?_
                ·
                  rw [if_pos (by rfl)]
                  refine apIn_run _ _ _ _ rfl _ _ rfl rfl _ _ HRUN.out ?_
                  refine hK _ _ ?_
                  clear hK K
                  try simp only [Act.put, List.setIfInBounds_toArray, List.set_cons_zero, List.set_cons_succ]
                  refine wpAnyIn_ready (rs := [11]) (by kernel_rfl) (by simp) ?_
                  refine AllReadyIn.cons (o := { dst := none, op := Op.store 32 (Operand.tmp 3) (Operand.tmp 20), type := 0, pos := "ssdp.go:22", after := #[{ on := 10, ground := Ground.data }, { on := 10, ground := Ground.chain }, { on := 0, ground := Ground.phase }, { on := 1, ground := Ground.phase }, { on := 2, ground := Ground.phase }, { on := 3, ground := Ground.phase }, { on := 4, ground := Ground.phase }, { on := 5, ground := Ground.phase }, { on := 6, ground := Ground.phase }, { on := 7, ground := Ground.phase }, { on := 8, ground := Ground.phase }, { on := 9, ground := Ground.phase }, { on := 10, ground := Ground.phase }], guard := none }) rfl (fun K hK => ?_) ?_
                  ·
                    have cO := cell_of_one HO5.out
                    have fO := free_of_one HO5.out
                    go_simp
                    clear cO fO
                    refine hK _ _ ?_
                    clear hK K
                    try simp only [Act.put, List.setIfInBounds_toArray, List.set_cons_zero, List.set_cons_succ]
                    refine wpAnyIn_done (by kernel_rfl) ?_ _
                    exact ⟨HKO.out.from _, HKX.out, HAC.out⟩
                  exact AllReadyIn.nil
                exact AllReadyIn.nil
              exact AllReadyIn.nil
            exact AllReadyIn.nil
          refine AllReadyIn.cons (o := { dst := some 18, op := Op.call { callee := Callee.value (Operand.func 23), args := #[Operand.tmp 17], argTypes := #[35] }, type := 29, pos := "ssdp.go:22", after := #[{ on := 7, ground := Ground.data }, { on := 2, ground := Ground.chain }], guard := none }) rfl (fun K hK => ?_) ?_
          ·
            go_simp
            refine ⟨trivial, ?_⟩
            refine (callsIn_wide.2 (HMS.out z10 _ HR10.out)).mono ?_
            rintro e z12 ⟨g, cap, m, hm, rfl, htx, hgz, b9⟩
            have htx := And.intro htx (Nat.le_trans HB10.out.size hgz)
            clear hgz
            have HB12 := hide (HB10.out.trans (b9.mono HB10.out.size))
            obtain ⟨a5, c5, w5, hrun, hO5, hacc, hkx, hko⟩ := acc_push HACC.out a n c HO.out HB12.out g m cap _ hm htx HN.out
            have HRUN := hide hrun
            have HO5 := hide hO5
            have HAC := hide (show Acc w KK OO KK cs ((pre ++ [x]).map FF) _ from (by rw [List.map_append, List.map_singleton, HFX.out]; exact hacc))
            have HKX := hide hkx
            have HKO := hide hko
            clear b9 hm htx hrun hO5 hacc hkx hko
            refine hK _ _ ?_
            clear hK K
            try simp only [Act.put, List.setIfInBounds_toArray, List.set_cons_zero, List.set_cons_succ]
            refine wpAnyIn_ready (rs := [0, 9]) (by kernel_rfl) (by simp) ?_
            refine AllReadyIn.cons (o := { dst := some 10, op := Op.load 32 (Operand.tmp 3), type := 32, pos := "ssdp.go:22", after := #[], guard := none }) rfl (fun K hK => ?_) ?_
            ·
              have cO := cell_of_one (below_blk HB12.out HO.out (Nat.le_refl _))
              go_simp
              clear cO
              refine hK _ _ ?_
              clear hK K
              try simp only [Act.put, List.setIfInBounds_toArray, List.set_cons_zero, List.set_cons_succ]
              refine wpAnyIn_ready (rs := [9]) (by kernel_rfl) (by simp) ?_
              refine AllReadyIn.cons (o := { dst := some 19, op := Op.buildSlice 32 1 #[(0, Operand.tmp 18)], type := 32, pos := "ssdp.go:22", after := #[{ on := 8, ground := Ground.data }], guard := none }) rfl (fun K hK => ?_) ?_
              ·
                go_simp
                refine hK _ _ ?_
                clear hK K
                try simp only [Act.put, List.setIfInBounds_toArray, List.set_cons_zero, List.set_cons_succ]
                refine wpAnyIn_ready (rs := [10]) (by kernel_rfl) (by simp) ?_
                refine AllReadyIn.cons (o := { dst := some 20, op := Op.call { callee := Callee.builtin Builtin.append, args := #[Operand.tmp 10, Operand.tmp 19], argTypes := #[32, 32] }, type := 32, pos := "ssdp.go:22", after := #[{ on := 0, ground := Ground.data }, { on := 9, ground := Ground.data }, { on := 8, ground := Ground.chain }], guard := none }) rfl (fun K hK => ?_) ?_
                ·
                  rw [if_pos (by rfl)]
                  refine apIn_run _ _ _ _ rfl _ _ rfl rfl _ _ HRUN.out ?_
                  refine hK _ _ ?_
                  clear hK K
                  try simp only [Act.put, List.setIfInBounds_toArray, List.set_cons_zero, List.set_cons_succ]
                  refine wpAnyIn_ready (rs := [11]) (by kernel_rfl) (by simp) ?_
                  refine AllReadyIn.cons (o := { dst := none, op := Op.store 32 (Operand.tmp 3) (Operand.tmp 20), type := 0, pos := "ssdp.go:22", after := #[{ on := 10, ground := Ground.data }, { on := 10, ground := Ground.chain }, { on := 0, ground := Ground.phase }, { on := 1, ground := Ground.phase }, { on := 2, ground := Ground.phase }, { on := 3, ground := Ground.phase }, { on := 4, ground := Ground.phase }, { on := 5, ground := Ground.phase }, { on := 6, ground := Ground.phase }, { on := 7, ground := Ground.phase }, { on := 8, ground := Ground.phase }, { on := 9, ground := Ground.phase }, { on := 10, ground := Ground.phase }], guard := none }) rfl (fun K hK => ?_) ?_
                  ·
                    have cO := cell_of_one HO5.out
                    have fO := free_of_one HO5.out
                    go_simp
                    clear cO fO
                    refine hK _ _ ?_
                    clear hK K
                    try simp only [Act.put, List.setIfInBounds_toArray, List.set_cons_zero, List.set_cons_succ]
                    refine wpAnyIn_done (by kernel_rfl) ?_ _
                    exact ⟨HKO.out.from _, HKX.out, HAC.out⟩
                  exact AllReadyIn.nil
                exact AllReadyIn.nil
              exact AllReadyIn.nil
            refine AllReadyIn.cons (o := { dst := some 19, op := Op.buildSlice 32 1 #[(0, Operand.tmp 18)], type := 32, pos := "ssdp.go:22", after := #[{ on := 8, ground := Ground.data }], guard := none }) rfl (fun K hK => ?_) ?_
            ·
              go_simp
              refine hK _ _ ?_
              clear hK K
              try simp only [Act.put, List.setIfInBounds_toArray, List.set_cons_zero, List.set_cons_succ]
              refine wpAnyIn_ready (rs := [0]) (by kernel_rfl) (by simp) ?_
              refine AllReadyIn.cons (o := { dst := some 10, op := Op.load 32 (Operand.tmp 3), type := 32, pos := "ssdp.go:22", after := #[], guard := none }) rfl (fun K hK => ?_) ?_
              ·
                have cO := cell_of_one (below_blk ((Below.refl _ z12).alloc (Nat.le_refl _) (.cells #[.slice (some ⟨g, 0, none⟩) m cap] 29)) (below_blk HB12.out HO.out (Nat.le_refl _)) (Nat.le_refl _))
                go_simp
                clear cO
                refine hK _ _ ?_
                clear hK K
                try simp only [Act.put, List.setIfInBounds_toArray, List.set_cons_zero, List.set_cons_succ]
                refine wpAnyIn_ready (rs := [10]) (by kernel_rfl) (by simp) ?_
                refine AllReadyIn.cons (o := { dst := some 20, op := Op.call { callee := Callee.builtin Builtin.append, args := #[Operand.tmp 10, Operand.tmp 19], argTypes := #[32, 32] }, type := 32, pos := "ssdp.go:22", after := #[{ on := 0, ground := Ground.data }, { on := 9, ground := Ground.data }, { on := 8, ground := Ground.chain }], guard := none }) rfl (fun K hK => ?_) ?_
                ·
                  rw [if_pos (by rfl)]
                  refine apIn_run _ _ _ _ rfl _ _ rfl rfl _ _ HRUN.out ?_
                  refine hK _ _ ?_
                  clear hK K
                  try simp only [Act.put, List.setIfInBounds_toArray, List.set_cons_zero, List.set_cons_succ]
                  refine wpAnyIn_ready (rs := [11]) (by kernel_rfl) (by simp) ?_
                  refine AllReadyIn.cons (o := { dst := none, op := Op.store 32 (Operand.tmp 3) (Operand.tmp 20), type := 0, pos := "ssdp.go:22", after := #[{ on := 10, ground := Ground.data }, { on := 10, ground := Ground.chain }, { on := 0, ground := Ground.phase }, { on := 1, ground := Ground.phase }, { on := 2, ground := Ground.phase }, { on := 3, ground := Ground.phase }, { on := 4, ground := Ground.phase }, { on := 5, ground := Ground.phase }, { on := 6, ground := Ground.phase }, { on := 7, ground := Ground.phase }, { on := 8, ground := Ground.phase }, { on := 9, ground := Ground.phase }, { on := 10, ground := Ground.phase }], guard := none }) rfl (fun K hK => ?_) ?_
                  ·
                    have cO := cell_of_one HO5.out
                    have fO := free_of_one HO5.out
                    go_simp
                    clear cO fO
                    refine hK _ _ ?_
                    clear hK K
                    try simp only [Act.put, List.setIfInBounds_toArray, List.set_cons_zero, List.set_cons_succ]
                    refine wpAnyIn_done (by kernel_rfl) ?_ _
                    exact ⟨HKO.out.from _, HKX.out, HAC.out⟩
                  exact AllReadyIn.nil
                exact AllReadyIn.nil
              exact AllReadyIn.nil
            exact AllReadyIn.nil
          exact AllReadyIn.nil
        exact AllReadyIn.nil
      exact AllReadyIn.nil
    exact AllReadyIn.nil
  case done =>
    rintro D ys W hD rfl hacc hKD
    obtain ⟨a, n, c, hO, han⟩ := hacc.box
    obtain rfl : n = 6 := by obtain ⟨vs, _, h2, _⟩ := han; rw [List.length_map, namesX_len] at h2; omega
    have cO := cell_of_one hO
    have HAN := hide (show AnsAt W w.heap.size a 6 c ((namesL o).map (alvL PP)) ∧ Below w.heap.size w W from by rw [HK0.out.1, ← namesX_map o HOL.out]; exact ⟨han, hacc.below⟩)
    have HD := hide hD
    have HKD := hide hKD
    clear han hO hacc hD hKD
    gi_wp2
    refine ⟨by simp, .inl ⟨_, _, rfl, run_takeDeferred HKD.out, ?_⟩⟩
    exact ⟨_, results_tmp rfl _ _ _, _, _, rfl, HAN.out.1.kt (kt_b W D _ _ HKD.out rfl) (kt_b W D _ _ HKD.out rfl), HAN.out.2.trans (belowK_b (w := w2) HW2.out.size W D _ _ HD.out HKD.out rfl rfl)⟩
  case stop =>
    rintro D c pre W _ _ h _
    exact h.elim
set_option maxHeartbeats 4000000 in
theorem bye_any (cs : Array Value) (ad : Nat) (u : List UInt8) (hc : CfS cs ad u) (w : World) (hp : PT w) (ha : ad ≤ 4294967295) (hu : u.length ≤ 900) :
    Calls Tryz.prog 17 #[.agg cs] w fun e w' => ∃ a c, e = .returned (.slice a 6 c) ∧ AnsAt w' w.heap.size a 6 c ((namesL (sUu ++ u)).map (byeL)) ∧ Below w.heap.size w w' := by
  have hl := txt_len (qb ad) (fun i => by have : qb ad i < 256 := Nat.mod_lt _ (by decide); omega) 4 (Nat.le_refl _)
  obtain ⟨W1, hW1⟩ : ∃ V, w.alloc (.cells cs 28) = V := ⟨_, rfl⟩
  obtain ⟨W2, hW2⟩ : ∃ V, W1.alloc (.cells #[.slice none 0 0] 32) = V := ⟨_, rfl⟩
  have hb1 : Below w.heap.size w W1 := by rw [← hW1]; exact (Below.refl _ _).alloc (Nat.le_refl _) _
  have hb2 : Below W1.heap.size W1 W2 := by rw [← hW2]; exact (Below.refl _ _).alloc (Nat.le_refl _) _
  obtain ⟨KK, hKK⟩ : ∃ k, w.heap.size = k := ⟨_, rfl⟩
  obtain ⟨OO, hOO⟩ : ∃ k, KK + 1 = k := ⟨_, rfl⟩
  have hs1 : W1.heap.size = OO := by rw [← hW1, ← hOO, ← hKK]; simp
  have hc2 : W2.heap[KK]? = some (.cells cs 28 (0, 0)) := below_blk hb2 (by rw [← hW1, ← hKK]; exact heap_alloc_new _ _) (Nat.le_refl _)
  have ho2 : W2.heap[OO]? = some (.cells #[.slice none 0 0] 32 (0, 0)) := by rw [← hs1, ← hW2]; exact heap_alloc_new _ _
  have HE := hide (show (w.alloc (.cells cs 28)).alloc (.cells #[.slice none 0 0] 32) = W2 from by rw [hW1]; exact hW2)
  have HK0 := hide (And.intro hKK hOO)
  have HS := hide (show Acc w KK OO KK cs [] W2 from ⟨by rw [← hKK]; exact hb1.trans (hb2.mono hb1.size), Nat.le_of_eq hKK.symm, by omega, ⟨none, 0, 0, ho2, [], ⟨rfl, .inl ⟨rfl, rfl⟩⟩, rfl, fun i v l h => by simp at h⟩, hc2⟩)
  have HNM := hide (names_any cs ad u hc W2 hu)
  have HPL0 := hide (fun (V : World) (hV : Below w.heap.size w V) => place_any cs ad u hc V (hp.below hV (Nat.le_refl _)) ha)
  have HWW := hide (show Below w.heap.size w W2 from hb1.trans (hb2.mono hb1.size))
  have HSZ := hide hc.size
  have HPP := hide (show (plcL (txt (qb ad) 4)).length ≤ 300 from by unfold plcL tLoc; simp only [List.length_append, List.length_cons, List.length_nil]; omega)
  have HOL := hide (show (sUu ++ u).length ≤ 1000 from by unfold sUu; simp only [List.length_append, List.length_cons, List.length_nil]; omega)
  generalize plcL (txt (qb ad) 4) = PP at *
  generalize sUu ++ u = o at *
  clear hl hW1 hW2 hb1 hb2 hKK hOO hs1 hc2 ho2 hc hp ha hu
  refine (callsIn_wide (n := 8)).1 ?_
  have hro : Fence.wide.round = none := rfl
  refine callsIn_of_wp_marks Tryz.func17 rfl trivial ?_ hro
  simp only [Tryz.ntmps17, List.size_toArray, List.length_cons, List.length_nil, Nat.reduceAdd, Nat.reduceSub, Array.replicate_succ, Array.replicate_zero, List.push_toArray, List.append_toArray, List.nil_append, List.cons_append]
  gi_upto_region 2 with (fail)
  rw [HE.out]
  rw [HK0.out.1]
  rw [HK0.out.2]
  gi_wp2_with ((refine ldInL_cfg (o := ⟨some 6, _, _, _, _, _⟩) (.tmp 1) rfl rfl KK rfl cs HS.out.cfg HSZ.out ?_; try simp only [Act.put, List.setIfInBounds_toArray, List.set_cons_zero, List.set_cons_succ]))
  refine ⟨trivial, ?_⟩
  refine (callsIn_wide.2 HNM.out).mono ?_
  rintro e w2 ⟨P, rfl, hP, b2⟩
  have HS2 := hide (HS.out.next b2)
  have HW2 := hide (HWW.out.trans (b2.mono HWW.out.size))
  have HP := hide hP
  have HPL := HPL0
  clear hP b2 HNM HS HWW HE
  gi_wp2_with fail
  have HSEQ := hide (nms_stops Fence.wide 7 trivial hro (by omega) P o HOL.out w2 KX (fun _ _ h => h.1) HP.out)
  refine wpIn_rangeFunc_ownG hro (by omega) (gf := 31) (lb := #[.pointer (some ⟨P, 0, none⟩)]) rfl trivial (enters_of Tryz.func31 (by kernel_rfl) rfl)
    HSEQ.out KX.trans kx_b (Below.refl _ _) (fun _ => rfl)
    (fun pre W => Acc w KK OO KK cs (pre.map (fun x : NX => byeL x.val)) W) (fun _ _ _ => False)
    (Acc.own _ (Nat.le_trans HS2.out.size HW2.out.size)) (fun _ _ _ _ _ hs _ _ => hs) HS2.out
    (fun x => { tmps := #[.agg cs, .pointer (some ⟨KK, 0, none⟩), .slice none 0 0, .pointer (some ⟨OO, 0, none⟩), .string (bt x.val.1), .string (bt x.val.2), .agg cs, .func (.func 31) #[] #[.pointer (some ⟨P, 0, none⟩)], .string (bt x.val.1), .string (bt x.val.2), undef, undef, undef, undef, undef, undef, undef, undef, undef, undef], defers := [] }) ?assign ?body ?done ?stop
  case assign =>
    intro l x W K hK
    have HK := hide hK
    clear hK
    gi_wp2
    exact HK.out
  case body =>
    rintro l pre x W hacc hlt
    obtain ⟨a, n, c, hO, han⟩ := hacc.box
    have HN := hide (show n ≤ 1000 by obtain ⟨vs, _, h2, _⟩ := han; rw [List.length_map] at h2; omega)
    have HO := hide hO
    have HC := hide hacc.cfg
    have HACC := hide hacc
    have HPL := hide (show ∀ V, Below W.heap.size W V → Calls Tryz.prog 24 #[.agg cs] V fun e w' => e = .returned (.string (bt PP)) ∧ Below V.heap.size V w' from fun V hV => HPL0.out V (by
      have h1 := hacc.below
      rw [← HK0.out.1] at h1
      exact h1.trans (hV.mono h1.size)))
    obtain ⟨FF, hFF⟩ : ∃ f, f = (fun x : NX => byeL x.val) := ⟨_, rfl⟩
    rw [← hFF] at HACC ⊢
    obtain ⟨x1, hx1⟩ : ∃ y, x.val.1 = y := ⟨_, rfl⟩
    obtain ⟨x2, hx2⟩ : ∃ y, x.val.2 = y := ⟨_, rfl⟩
    have hl1 : x1.length ≤ 1000 := hx1 ▸ x.property.1
    have hl2 : x2.length ≤ 2002 := hx2 ▸ x.property.2
    obtain ⟨XS, hXS⟩ : ∃ l, [tNot, tHost, tNt ++ x1, tBye, tUsn ++ x2] = l := ⟨_, rfl⟩
    have HFX := hide (show FF x = msgL XS from by rw [hFF, ← hXS, ← hx1, ← hx2]; rfl)
    rw [hx1, hx2]
    have hsa : ∀ V : World, (Op.stringOp .add ⟨#[78, 84, 58, 32]⟩ (bt x1)).run Tryz.prog V = .ok (.string (bt (tNt ++ x1))) V := fun V => run_string_add_lists V tNt x1 (by decide) (by omega)
    have hsb : ∀ V : World, (Op.stringOp .add ⟨#[85, 83, 78, 58, 32]⟩ (bt x2)).run Tryz.prog V = .ok (.string (bt (tUsn ++ x2))) V := fun V => run_string_add_lists V tUsn x2 (by decide) (by omega)
    have HMS := hide (show ∀ (V : World) (bk : Nat), V.heap[bk]? = some (.cells (strRow XS) 9 (0, 0)) → Calls Tryz.prog 23 #[.slice (some ⟨bk, 0, none⟩) 5 5] V fun e w' => ∃ g cap m, m = (msgL XS).length ∧ e = .returned (.slice (some ⟨g, 0, none⟩) m cap) ∧ TxB w' g (msgL XS) ∧ V.heap.size ≤ g ∧ Below V.heap.size V w' from fun V bk h =>
      message_any bk 5 5 XS V (fun j x hx => str_cell h hx) (lt_of_block h) (by rw [← hXS]; rfl) (by decide) (by decide) (by
        have := join_le XS
        have h2 : Lib.lens XS ≤ 10000 := by rw [← hXS]; have := HPP.out; simp only [Lib.lens, List.map_cons, List.map_nil, List.sum_cons, List.sum_nil, List.length_append, tBye, tHost, tNot, tNt, tUsn, List.length_cons, List.length_nil]; omega
        have h3 : XS.length = 5 := by rw [← hXS]; rfl
        omega))
    have HRW := hide (show ∀ z : World, (z.alloc (.cells #[.string ⟨#[78, 79, 84, 73, 70, 89, 32, 42, 32, 72, 84, 84, 80, 47, 49, 46, 49]⟩, .string ⟨#[72, 79, 83, 84, 58, 32, 50, 51, 57, 46, 50, 53, 53, 46, 50, 53, 53, 46, 50, 53, 48, 58, 49, 57, 48, 48]⟩, .string (bt (tNt ++ x1)), .string ⟨#[78, 84, 83, 58, 32, 115, 115, 100, 112, 58, 98, 121, 101, 98, 121, 101]⟩, .string (bt (tUsn ++ x2))] 9)).heap[z.heap.size]? = some (.cells (strRow XS) 9 (0, 0)) from fun z => by rw [← hXS]; exact heap_alloc_new _ _)
    generalize bt (tNt ++ x1) = B1 at *
    generalize bt (tUsn ++ x2) = B2 at *
    generalize bt x1 = X1 at *
    generalize bt x2 = X2 at *
    generalize bt PP = BP at *
    clear hx1 hx2 hl1 hl2 hXS hFF hO han hacc hlt
    gi_wp2_with fail
    refine regionIn_round (by kernel_rfl) (by kernel_rfl) ?_
    have HB0 := hide (show Below W.heap.size W W.drew from (Below.refl _ _).drew)
    generalize W.drew = z0 at *
    refine wpAnyIn_take (i := 1) (oi := { dst := some 11, op := Op.move (Operand.tmp 4), type := 9, pos := "ssdp.go:31", after := #[], guard := none }) (v := ?_) hro rfl (by kernel_rfl) (by kernel_rfl) (by kernel_rfl) (fun _ _ _ h => h) ⟨Or.inl ⟨by rfl, ?_⟩, fun _ => rfl⟩ ?_
    rotate_left
    · intro w
      go_simp
      try with_reducible rfl
    try simp only [Act.put, List.setIfInBounds_toArray, List.set_cons_zero, List.set_cons_succ]
    refine wpAnyIn_take (i := 2) (oi := { dst := some 12, op := Op.binOp BinOp.add 9 (Operand.const (Value.string { data := #[78, 84, 58, 32] })) (Operand.tmp 11) 9, type := 9, pos := "ssdp.go:31", after := #[{ on := 1, ground := Ground.data }], guard := none }) (v := ?_) hro rfl (by kernel_rfl) (by kernel_rfl) (by kernel_rfl) (fun _ _ _ h => h) ⟨Or.inl ⟨by rfl, ?_⟩, fun _ => rfl⟩ ?_
    rotate_left
    · intro w
      go_simp
      try with_reducible rfl
    try simp only [Act.put, List.setIfInBounds_toArray, List.set_cons_zero, List.set_cons_succ]
    refine wpAnyIn_take (i := 3) (oi := { dst := some 13, op := Op.move (Operand.tmp 5), type := 9, pos := "ssdp.go:31", after := #[], guard := none }) (v := ?_) hro rfl (by kernel_rfl) (by kernel_rfl) (by kernel_rfl) (fun _ _ _ h => h) ⟨Or.inl ⟨by rfl, ?_⟩, fun _ => rfl⟩ ?_
    rotate_left
    · intro w
      go_simp
      try with_reducible rfl
    try simp only [Act.put, List.setIfInBounds_toArray, List.set_cons_zero, List.set_cons_succ]
    refine wpAnyIn_take (i := 4) (oi := { dst := some 14, op := Op.binOp BinOp.add 9 (Operand.const (Value.string { data := #[85, 83, 78, 58, 32] })) (Operand.tmp 13) 9, type := 9, pos := "ssdp.go:31", after := #[{ on := 3, ground := Ground.data }], guard := none }) (v := ?_) hro rfl (by kernel_rfl) (by kernel_rfl) (by kernel_rfl) (fun _ _ _ h => h) ⟨Or.inl ⟨by rfl, ?_⟩, fun _ => rfl⟩ ?_
    rotate_left
    · intro w
      go_simp
      try with_reducible rfl
    try simp only [Act.put, List.setIfInBounds_toArray, List.set_cons_zero, List.set_cons_succ]
    refine wpAnyIn_ready (rs := [0, 5]) (by kernel_rfl) (by simp) ?_
    refine AllReadyIn.cons (o := { dst := some 10, op := Op.load 32 (Operand.tmp 3), type := 32, pos := "ssdp.go:31", after := #[], guard := none }) rfl (fun K hK => ?_) ?_
    ·
      have cO := cell_of_one (below_blk HB0.out HO.out (Nat.le_refl _))
      go_simp
      clear cO
      refine hK _ _ ?_
      clear hK K
      try simp only [Act.put, List.setIfInBounds_toArray, List.set_cons_zero, List.set_cons_succ]
      refine wpAnyIn_ready (rs := [5]) (by kernel_rfl) (by simp) ?_
      refine AllReadyIn.cons (o := { dst := some 15, op := Op.buildSlice 35 5 #[(0, Operand.const (Value.string { data := #[78, 79, 84, 73, 70, 89, 32, 42, 32, 72, 84, 84, 80, 47, 49, 46, 49] })), (1, Operand.const (Value.string { data := #[72, 79, 83, 84, 58, 32, 50, 51, 57, 46, 50, 53, 53, 46, 50, 53, 53, 46, 50, 53, 48, 58, 49, 57, 48, 48] })), (2, Operand.tmp 12), (3, Operand.const (Value.string { data := #[78, 84, 83, 58, 32, 115, 115, 100, 112, 58, 98, 121, 101, 98, 121, 101] })), (4, Operand.tmp 14)], type := 35, pos := "ssdp.go:31", after := #[{ on := 2, ground := Ground.data }, { on := 4, ground := Ground.data }], guard := none }) rfl (fun K hK => ?_) ?_
      ·
        obtain ⟨z1, hz1, hr1, hb1⟩ : ∃ V, z0.alloc (.cells #[.string ⟨#[78, 79, 84, 73, 70, 89, 32, 42, 32, 72, 84, 84, 80, 47, 49, 46, 49]⟩, .string ⟨#[72, 79, 83, 84, 58, 32, 50, 51, 57, 46, 50, 53, 53, 46, 50, 53, 53, 46, 50, 53, 48, 58, 49, 57, 48, 48]⟩, .string B1, .string ⟨#[78, 84, 83, 58, 32, 115, 115, 100, 112, 58, 98, 121, 101, 98, 121, 101]⟩, .string B2] 9) = V ∧ V.heap[z0.heap.size]? = some (.cells (strRow XS) 9 (0, 0)) ∧ Below z0.heap.size z0 V := ⟨_, rfl, HRW.out _, (Below.refl _ _).alloc (Nat.le_refl _) _⟩
        have HB1 := hide (HB0.out.trans (hb1.mono HB0.out.size))
        have HR1 := hide hr1
        clear hr1 hb1
        go_simp
        try rw [hz1]
        clear hz1
        obtain ⟨bk1, hbk1⟩ : ∃ b, z0.heap.size = b := ⟨_, rfl⟩
        rw [hbk1] at HR1 ⊢
        clear hbk1
        refine hK _ _ ?_
        clear hK K
        try simp only [Act.put, List.setIfInBounds_toArray, List.set_cons_zero, List.set_cons_succ]
        refine wpAnyIn_ready (rs := [6]) (by kernel_rfl) (by simp) ?_
        refine AllReadyIn.cons (o := { dst := some 16, op := Op.call { callee := Callee.value (Operand.func 23), args := #[Operand.tmp 15], argTypes := #[35] }, type := 29, pos := "ssdp.go:31", after := #[{ on := 5, ground := Ground.data }], guard := none }) rfl (fun K hK => ?_) ?_
        ·
          go_simp
          refine ⟨trivial, ?_⟩
          refine (callsIn_wide.2 (HMS.out z1 _ HR1.out)).mono ?_
          rintro e z2 ⟨g, cap, m, hm, rfl, htx, hgz, b9⟩
          have htx := And.intro htx (Nat.le_trans HB1.out.size hgz)
          clear hgz
          have HB2 := hide (HB1.out.trans (b9.mono HB1.out.size))
          obtain ⟨a5, c5, w5, hrun, hO5, hacc, hkx, hko⟩ := acc_push HACC.out a n c HO.out HB2.out g m cap _ hm htx HN.out
          have HRUN := hide hrun
          have HO5 := hide hO5
          have HAC := hide (show Acc w KK OO KK cs ((pre ++ [x]).map FF) _ from (by rw [List.map_append, List.map_singleton, HFX.out]; exact hacc))
          have HKX := hide hkx
          have HKO := hide hko
          clear b9 hm htx hrun hO5 hacc hkx hko
          refine hK _ _ ?_
          clear hK K
          try simp only [Act.put, List.setIfInBounds_toArray, List.set_cons_zero, List.set_cons_succ]
          refine wpAnyIn_ready (rs := [7]) (by kernel_rfl) (by simp) ?_
          refine AllReadyIn.cons (o := { dst := some 17, op := Op.buildSlice 32 1 #[(0, Operand.tmp 16)], type := 32, pos := "ssdp.go:31", after := #[{ on := 6, ground := Ground.data }], guard := none }) rfl (fun K hK => ?_) ?_
          ·
            go_simp
            refine hK _ _ ?_
            clear hK K
            try simp only [Act.put, List.setIfInBounds_toArray, List.set_cons_zero, List.set_cons_succ]
            refine wpAnyIn_ready (rs := [8]) (by kernel_rfl) (by simp) ?_
            refine AllReadyIn.cons (o := { dst := some 18, op := Op.call { callee := Callee.builtin Builtin.append, args := #[Operand.tmp 10, Operand.tmp 17], argTypes := #[32, 32] }, type := 32, pos := "ssdp.go:31", after := #[{ on := 0, ground := Ground.data }, { on := 7, ground := Ground.data }, { on := 6, ground := Ground.chain }], guard := none }) rfl (fun K hK => ?_) ?_
            ·
              rw [if_pos (by rfl)]
              refine apIn_run _ _ _ _ rfl _ _ rfl rfl _ _ HRUN.out ?_
              refine hK _ _ ?_
              clear hK K
              try simp only [Act.put, List.setIfInBounds_toArray, List.set_cons_zero, List.set_cons_succ]
              refine wpAnyIn_ready (rs := [9]) (by kernel_rfl) (by simp) ?_
              refine AllReadyIn.cons (o := { dst := none, op := Op.store 32 (Operand.tmp 3) (Operand.tmp 18), type := 0, pos := "ssdp.go:31", after := #[{ on := 8, ground := Ground.data }, { on := 8, ground := Ground.chain }, { on := 0, ground := Ground.phase }, { on := 1, ground := Ground.phase }, { on := 2, ground := Ground.phase }, { on := 3, ground := Ground.phase }, { on := 4, ground := Ground.phase }, { on := 5, ground := Ground.phase }, { on := 6, ground := Ground.phase }, { on := 7, ground := Ground.phase }, { on := 8, ground := Ground.phase }], guard := none }) rfl (fun K hK => ?_) ?_
              ·
                have cO := cell_of_one HO5.out
                have fO := free_of_one HO5.out
                go_simp
                clear cO fO
                refine hK _ _ ?_
                clear hK K
                try simp only [Act.put, List.setIfInBounds_toArray, List.set_cons_zero, List.set_cons_succ]
                refine wpAnyIn_done (by kernel_rfl) ?_ _
                exact ⟨HKO.out.from _, HKX.out, HAC.out⟩
              exact AllReadyIn.nil
            exact AllReadyIn.nil
          exact AllReadyIn.nil
        exact AllReadyIn.nil
      exact AllReadyIn.nil
    refine AllReadyIn.cons (o := { dst := some 15, op := Op.buildSlice 35 5 #[(0, Operand.const (Value.string { data := #[78, 79, 84, 73, 70, 89, 32, 42, 32, 72, 84, 84, 80, 47, 49, 46, 49] })), (1, Operand.const (Value.string { data := #[72, 79, 83, 84, 58, 32, 50, 51, 57, 46, 50, 53, 53, 46, 50, 53, 53, 46, 50, 53, 48, 58, 49, 57, 48, 48] })), (2, Operand.tmp 12), (3, Operand.const (Value.string { data := #[78, 84, 83, 58, 32, 115, 115, 100, 112, 58, 98, 121, 101, 98, 121, 101] })), (4, Operand.tmp 14)], type := 35, pos := "ssdp.go:31", after := #[{ on := 2, ground := Ground.data }, { on := 4, ground := Ground.data }], guard := none }) rfl (fun K hK => ?_) ?_
    ·
      obtain ⟨z3, hz3, hr3, hb3⟩ : ∃ V, z0.alloc (.cells #[.string ⟨#[78, 79, 84, 73, 70, 89, 32, 42, 32, 72, 84, 84, 80, 47, 49, 46, 49]⟩, .string ⟨#[72, 79, 83, 84, 58, 32, 50, 51, 57, 46, 50, 53, 53, 46, 50, 53, 53, 46, 50, 53, 48, 58, 49, 57, 48, 48]⟩, .string B1, .string ⟨#[78, 84, 83, 58, 32, 115, 115, 100, 112, 58, 98, 121, 101, 98, 121, 101]⟩, .string B2] 9) = V ∧ V.heap[z0.heap.size]? = some (.cells (strRow XS) 9 (0, 0)) ∧ Below z0.heap.size z0 V := ⟨_, rfl, HRW.out _, (Below.refl _ _).alloc (Nat.le_refl _) _⟩
      have HB3 := hide (HB0.out.trans (hb3.mono HB0.out.size))
      have HR3 := hide hr3
      clear hr3 hb3
      go_simp
      try rw [hz3]
      clear hz3
      obtain ⟨bk3, hbk3⟩ : ∃ b, z0.heap.size = b := ⟨_, rfl⟩
      rw [hbk3] at HR3 ⊢
      clear hbk3
      refine hK _ _ ?_
      clear hK K
      try simp only [Act.put, List.setIfInBounds_toArray, List.set_cons_zero, List.set_cons_succ]
      refine wpAnyIn_ready (rs := [0, 6]) (by kernel_rfl) (by simp) ?_
      refine AllReadyIn.cons (o := { dst := some 10, op := Op.load 32 (Operand.tmp 3), type := 32, pos := "ssdp.go:31", after := #[], guard := none }) rfl (fun K hK => ?_) ?_
      ·
        have cO := cell_of_one (below_blk HB3.out HO.out (Nat.le_refl _))
        go_simp
        clear cO
        refine hK _ _ ?_
        clear hK K
        try simp only [Act.put, List.setIfInBounds_toArray, List.set_cons_zero, List.set_cons_succ]
        refine wpAnyIn_ready (rs := [6]) (by kernel_rfl) (by simp) ?_
        refine AllReadyIn.cons (o := { dst := some 16, op := Op.call { callee := Callee.value (Operand.func 23), args := #[Operand.tmp 15], argTypes := #[35] }, type := 29, pos := "ssdp.go:31", after := #[{ on := 5, ground := Ground.data }], guard := none }) rfl (fun K hK => ?_) ?_
        ·
          go_simp
          refine ⟨trivial, ?_⟩
          refine (callsIn_wide.2 (HMS.out z3 _ HR3.out)).mono ?_
          rintro e z4 ⟨g, cap, m, hm, rfl, htx, hgz, b9⟩
          have htx := And.intro htx (Nat.le_trans HB3.out.size hgz)
          clear hgz
          have HB4 := hide (HB3.out.trans (b9.mono HB3.out.size))
          obtain ⟨a5, c5, w5, hrun, hO5, hacc, hkx, hko⟩ := acc_push HACC.out a n c HO.out HB4.out g m cap _ hm htx HN.out
          have HRUN := hide hrun
          have HO5 := hide hO5
          have HAC := hide (show Acc w KK OO KK cs ((pre ++ [x]).map FF) _ from (by rw [List.map_append, List.map_singleton, HFX.out]; exact hacc))
          have HKX := hide hkx
          have HKO := hide hko
          clear b9 hm htx hrun hO5 hacc hkx hko
          refine hK _ _ ?_
          clear hK K
          try simp only [Act.put, List.setIfInBounds_toArray, List.set_cons_zero, List.set_cons_succ]
          refine wpAnyIn_ready (rs := [7]) (by kernel_rfl) (by simp) ?_
          refine AllReadyIn.cons (o := { dst := some 17, op := Op.buildSlice 32 1 #[(0, Operand.tmp 16)], type := 32, pos := "ssdp.go:31", after := #[{ on := 6, ground := Ground.data }], guard := none }) rfl (fun K hK => ?_) ?_
          ·
            go_simp
            refine hK _ _ ?_
            clear hK K
            try simp only [Act.put, List.setIfInBounds_toArray, List.set_cons_zero, List.set_cons_succ]
            refine wpAnyIn_ready (rs := [8]) (by kernel_rfl) (by simp) ?_
            refine AllReadyIn.cons (o := { dst := some 18, op := Op.call { callee := Callee.builtin Builtin.append, args := #[Operand.tmp 10, Operand.tmp 17], argTypes := #[32, 32] }, type := 32, pos := "ssdp.go:31", after := #[{ on := 0, ground := Ground.data }, { on := 7, ground := Ground.data }, { on := 6, ground := Ground.chain }], guard := none }) rfl (fun K hK => ?_) ?_
            ·
              rw [if_pos (by rfl)]
              refine apIn_run _ _ _ _ rfl _ _ rfl rfl _ _ HRUN.out ?_
              refine hK _ _ ?_
              clear hK K
              try simp only [Act.put, List.setIfInBounds_toArray, List.set_cons_zero, List.set_cons_succ]
              refine wpAnyIn_ready (rs := [9]) (by kernel_rfl) (by simp) ?_
              refine AllReadyIn.cons (o := { dst := none, op := Op.store 32 (Operand.tmp 3) (Operand.tmp 18), type := 0, pos := "ssdp.go:31", after := #[{ on := 8, ground := Ground.data }, { on := 8, ground := Ground.chain }, { on := 0, ground := Ground.phase }, { on := 1, ground := Ground.phase }, { on := 2, ground := Ground.phase }, { on := 3, ground := Ground.phase }, { on := 4, ground := Ground.phase }, { on := 5, ground := Ground.phase }, { on := 6, ground := Ground.phase }, { on := 7, ground := Ground.phase }, { on := 8, ground := Ground.phase }], guard := none }) rfl (fun K hK => ?_) ?_
              ·
                have cO := cell_of_one HO5.out
                have fO := free_of_one HO5.out
                go_simp
                clear cO fO
                refine hK _ _ ?_
                clear hK K
                try simp only [Act.put, List.setIfInBounds_toArray, List.set_cons_zero, List.set_cons_succ]
                refine wpAnyIn_done (by kernel_rfl) ?_ _
                exact ⟨HKO.out.from _, HKX.out, HAC.out⟩
              exact AllReadyIn.nil
            exact AllReadyIn.nil
          exact AllReadyIn.nil
        exact AllReadyIn.nil
      refine AllReadyIn.cons (o := { dst := some 16, op := Op.call { callee := Callee.value (Operand.func 23), args := #[Operand.tmp 15], argTypes := #[35] }, type := 29, pos := "ssdp.go:31", after := #[{ on := 5, ground := Ground.data }], guard := none }) rfl (fun K hK => ?_) ?_
      ·
        go_simp
        refine ⟨trivial, ?_⟩
        refine (callsIn_wide.2 (HMS.out z3 _ HR3.out)).mono ?_
        rintro e z5 ⟨g, cap, m, hm, rfl, htx, hgz, b9⟩
        have htx := And.intro htx (Nat.le_trans HB3.out.size hgz)
        clear hgz
        have HB5 := hide (HB3.out.trans (b9.mono HB3.out.size))
        obtain ⟨a5, c5, w5, hrun, hO5, hacc, hkx, hko⟩ := acc_push HACC.out a n c HO.out HB5.out g m cap _ hm htx HN.out
        have HRUN := hide hrun
        have HO5 := hide hO5
        have HAC := hide (show Acc w KK OO KK cs ((pre ++ [x]).map FF) _ from (by rw [List.map_append, List.map_singleton, HFX.out]; exact hacc))
        have HKX := hide hkx
        have HKO := hide hko
        clear b9 hm htx hrun hO5 hacc hkx hko
        refine hK _ _ ?_
        clear hK K
        try simp only [Act.put, List.setIfInBounds_toArray, List.set_cons_zero, List.set_cons_succ]
        refine wpAnyIn_ready (rs := [0, 7]) (by kernel_rfl) (by simp) ?_
        refine AllReadyIn.cons (o := { dst := some 10, op := Op.load 32 (Operand.tmp 3), type := 32, pos := "ssdp.go:31", after := #[], guard := none }) rfl (fun K hK => ?_) ?_
        ·
          have cO := cell_of_one (below_blk HB5.out HO.out (Nat.le_refl _))
          go_simp
          clear cO
          refine hK _ _ ?_
          clear hK K
          try simp only [Act.put, List.setIfInBounds_toArray, List.set_cons_zero, List.set_cons_succ]
          refine wpAnyIn_ready (rs := [7]) (by kernel_rfl) (by simp) ?_
          refine AllReadyIn.cons (o := { dst := some 17, op := Op.buildSlice 32 1 #[(0, Operand.tmp 16)], type := 32, pos := "ssdp.go:31", after := #[{ on := 6, ground := Ground.data }], guard := none }) rfl (fun K hK => ?_) ?_
          ·
            go_simp
            refine hK _ _ ?_
            clear hK K
            try simp only [Act.put, List.setIfInBounds_toArray, List.set_cons_zero, List.set_cons_succ]
            refine wpAnyIn_ready (rs := [8]) (by kernel_rfl) (by simp) ?_
            refine AllReadyIn.cons (o := { dst := some 18, op := Op.call { callee := Callee.builtin Builtin.append, args := #[Operand.tmp 10, Operand.tmp 17], argTypes := #[32, 32] }, type := 32, pos := "ssdp.go:31", after := #[{ on := 0, ground := Ground.data }, { on := 7, ground := Ground.data }, { on := 6, ground := Ground.chain }], guard := none }) rfl (fun K hK => ?_) ?_
            ·
              rw [if_pos (by rfl)]
              refine apIn_run _ _ _ _ rfl _ _ rfl rfl _ _ HRUN.out ?_
              refine hK _ _ ?_
              clear hK K
              try simp only [Act.put, List.setIfInBounds_toArray, List.set_cons_zero, List.set_cons_succ]
              refine wpAnyIn_ready (rs := [9]) (by kernel_rfl) (by simp) ?_
              refine AllReadyIn.cons (o := { dst := none, op := Op.store 32 (Operand.tmp 3) (Operand.tmp 18), type := 0, pos := "ssdp.go:31", after := #[{ on := 8, ground := Ground.data }, { on := 8, ground := Ground.chain }, { on := 0, ground := Ground.phase }, { on := 1, ground := Ground.phase }, { on := 2, ground := Ground.phase }, { on := 3, ground := Ground.phase }, { on := 4, ground := Ground.phase }, { on := 5, ground := Ground.phase }, { on := 6, ground := Ground.phase }, { on := 7, ground := Ground.phase }, { on := 8, ground := Ground.phase }], guard := none }) rfl (fun K hK => ?_) ?_
              ·
                have cO := cell_of_one HO5.out
                have fO := free_of_one HO5.out
                go_simp
                clear cO fO
                refine hK _ _ ?_
                clear hK K
                try simp only [Act.put, List.setIfInBounds_toArray, List.set_cons_zero, List.set_cons_succ]
                refine wpAnyIn_done (by kernel_rfl) ?_ _
                exact ⟨HKO.out.from _, HKX.out, HAC.out⟩
              exact AllReadyIn.nil
            exact AllReadyIn.nil
          exact AllReadyIn.nil
        refine AllReadyIn.cons (o := { dst := some 17, op := Op.buildSlice 32 1 #[(0, Operand.tmp 16)], type := 32, pos := "ssdp.go:31", after := #[{ on := 6, ground := Ground.data }], guard := none }) rfl (fun K hK => ?_) ?_
        ·
          go_simp
          refine hK _ _ ?_
          clear hK K
          try simp only [Act.put, List.setIfInBounds_toArray, List.set_cons_zero, List.set_cons_succ]
          refine wpAnyIn_ready (rs := [0]) (by kernel_rfl) (by simp) ?_
          refine AllReadyIn.cons (o := { dst := some 10, op := Op.load 32 (Operand.tmp 3), type := 32, pos := "ssdp.go:31", after := #[], guard := none }) rfl (fun K hK => ?_) ?_
          ·
            have cO := cell_of_one (below_blk ((Below.refl _ z5).alloc (Nat.le_refl _) (.cells #[.slice (some ⟨g, 0, none⟩) m cap] 29)) (below_blk HB5.out HO.out (Nat.le_refl _)) (Nat.le_refl _))
            go_simp
            clear cO
            refine hK _ _ ?_
            clear hK K
            try simp only [Act.put, List.setIfInBounds_toArray, List.set_cons_zero, List.set_cons_succ]
            refine wpAnyIn_ready (rs := [8]) (by kernel_rfl) (by simp) ?_
            refine AllReadyIn.cons (o := { dst := some 18, op := Op.call { callee := Callee.builtin Builtin.append, args := #[Operand.tmp 10, Operand.tmp 17], argTypes := #[32, 32] }, type := 32, pos := "ssdp.go:31", after := #[{ on := 0, ground := Ground.data }, { on := 7, ground := Ground.data }, { on := 6, ground := Ground.chain }], guard := none }) rfl (fun K hK => ?_) ?_
            ·
              rw [if_pos (by rfl)]
              refine apIn_run _ _ _ _ rfl _ _ rfl rfl _ _ HRUN.out ?_
              refine hK _ _ ?_
              clear hK K
              try simp only [Act.put, List.setIfInBounds_toArray, List.set_cons_zero, List.set_cons_succ]
              refine wpAnyIn_ready (rs := [9]) (by kernel_rfl) (by simp) ?_
              refine AllReadyIn.cons (o := { dst := none, op := Op.store 32 (Operand.tmp 3) (Operand.tmp 18), type := 0, pos := "ssdp.go:31", after := #[{ on := 8, ground := Ground.data }, { on := 8, ground := Ground.chain }, { on := 0, ground := Ground.phase }, { on := 1, ground := Ground.phase }, { on := 2, ground := Ground.phase }, { on := 3, ground := Ground.phase }, { on := 4, ground := Ground.phase }, { on := 5, ground := Ground.phase }, { on := 6, ground := Ground.phase }, { on := 7, ground := Ground.phase }, { on := 8, ground := Ground.phase }], guard := none }) rfl (fun K hK => ?_) ?_
              ·
                have cO := cell_of_one HO5.out
                have fO := free_of_one HO5.out
                go_simp
                clear cO fO
                refine hK _ _ ?_
                clear hK K
                try simp only [Act.put, List.setIfInBounds_toArray, List.set_cons_zero, List.set_cons_succ]
                refine wpAnyIn_done (by kernel_rfl) ?_ _
                exact ⟨HKO.out.from _, HKX.out, HAC.out⟩
              exact AllReadyIn.nil
            exact AllReadyIn.nil
          exact AllReadyIn.nil
        exact AllReadyIn.nil
      exact AllReadyIn.nil
    exact AllReadyIn.nil
  case done =>
    rintro D ys W hD rfl hacc hKD
    obtain ⟨a, n, c, hO, han⟩ := hacc.box
    obtain rfl : n = 6 := by obtain ⟨vs, _, h2, _⟩ := han; rw [List.length_map, namesX_len] at h2; omega
    have cO := cell_of_one hO
    have HAN := hide (show AnsAt W w.heap.size a 6 c ((namesL o).map (byeL)) ∧ Below w.heap.size w W from by rw [HK0.out.1, ← namesX_map o HOL.out]; exact ⟨han, hacc.below⟩)
    have HD := hide hD
    have HKD := hide hKD
    clear han hO hacc hD hKD
    gi_wp2
    refine ⟨by simp, .inl ⟨_, _, rfl, run_takeDeferred HKD.out, ?_⟩⟩
    exact ⟨_, results_tmp rfl _ _ _, _, _, rfl, HAN.out.1.kt (kt_b W D _ _ HKD.out rfl) (kt_b W D _ _ HKD.out rfl), HAN.out.2.trans (belowK_b (w := w2) HW2.out.size W D _ _ HD.out HKD.out rfl rfl)⟩
  case stop =>
    rintro D c pre W _ _ h _
    exact h.elim
end Go.Proofs.YtonoaopioifedaaGreatDoor
