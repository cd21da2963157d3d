/- Ssdp: the answers to a search. -/
import Derived.Test.YtonoaopioifedaaGreatDoorSAlv
import Derived.Test.YtonoaopioifedaaGreatDoorSSo
namespace Go.Proofs.YtonoaopioifedaaGreatDoor
open Go.RowKit Go.Shelf Go.Deep
set_option linter.unusedVariables false
set_option linter.unusedSimpArgs false
set_option maxRecDepth 100000
attribute [local go_sem] Oper.semAt_some
/-- Is a name searched for? -/
def sel (st : List UInt8) (x : List UInt8 × List UInt8) : Bool := decide (st = x.1) || decide (st = sAll)
/-- The answers to a search. -/
def searchL (p o st : List UInt8) : List (List UInt8) := ((namesL o).filter (sel st)).map (ansL p)
def selX (p st : List UInt8) (xs : List NX) : List (List UInt8) := (xs.filter fun x => sel st x.val).map fun x => ansL p x.val
theorem selX_all (p o st : List UInt8) (ho : o.length ≤ 1000) : selX p st (namesX o) = searchL p o st := by
  unfold selX searchL
  rw [← namesX_val o ho]
  generalize namesX o = xs
  induction xs with
  | nil => rfl
  | cons x r ih =>
    rw [List.map_cons, List.filter_cons, List.filter_cons]
    cases h : sel st x.val
    · rw [if_neg (by decide), if_neg (by decide)]; exact ih
    · rw [if_pos rfl, if_pos rfl, List.map_cons, List.map_cons, ih]
theorem selX_le (p st : List UInt8) (xs : List NX) : (selX p st xs).length ≤ xs.length := by
  unfold selX; rw [List.length_map]; exact List.length_filter_le _ _
theorem selX_yes (p st : List UInt8) (xs : List NX) (x : NX) (h : sel st x.val = true) : selX p st (xs ++ [x]) = selX p st xs ++ [ansL p x.val] := by
  unfold selX; rw [List.filter_append, List.map_append, List.filter_cons, if_pos h]; rfl
theorem selX_no (p st : List UInt8) (xs : List NX) (x : NX) (h : sel st x.val = false) : selX p st (xs ++ [x]) = selX p st xs := by
  unfold selX; rw [List.filter_append, List.map_append, List.filter_cons, if_neg (by rw [h]; decide)]; simp
structure SAcc (w0 : World) (K O C SB : Nat) (cs : Array Value) (p st : List UInt8) (pre : List NX) (W : World) : Prop where
  acc : Acc w0 K O C cs (selX p st pre) W
  sb : W.heap[SB]? = some (.cells #[.string (bt st)] 9 (0, 0))
theorem SAcc.own {w0 : World} {K O C SB B : Nat} {cs : Array Value} {p st : List UInt8} (hB : K ≤ B) : OwnFrom B (SAcc w0 K O C SB cs p st) := fun s W W' row hs hg hr =>
  ⟨Acc.own (selX p st) hB s W W' row hs.acc hg hr, own_kt hg hr _ _ _ hs.sb⟩
set_option maxHeartbeats 8000000 in
theorem search_any (cs : Array Value) (ad : Nat) (u : List UInt8) (hc : CfS cs ad u) (l : List UInt8) (tg tc tn : Nat) (w : World) (hp : PT w) (hE : H.Env w) (ha : ad ≤ 4294967295) (hu : u.length ≤ 900) (htn : l.length = tn) (hn9 : tn ≤ 100000) (hT : ∀ (j : Nat) (b : UInt8), l[j]? = some b → w.cell? ⟨tg, j, none⟩ = some (H.byV b)) :
    Calls Tryz.prog 9 #[.agg cs, .slice (some ⟨tg, 0, none⟩) tn tc] w fun e w' => ∃ a m c, e = .returned (.slice a m c) ∧ AnsAt w' w.heap.size a m c (searchL (plcL (txt (qb ad) 4)) (sUu ++ u) (H.soughtL l)) ∧ Below w.heap.size w w' := by
  have hl := txt_len (qb ad) (fun i => by have : qb ad i < 256 := Nat.mod_lt _ (by decide); omega) 4 (Nat.le_refl _)
  obtain ⟨W1, hW1⟩ : ∃ V, w.alloc (.cells cs 28) = V := ⟨_, rfl⟩
  obtain ⟨W2, hW2⟩ : ∃ V, W1.alloc (.cells #[.slice none 0 0] 32) = V := ⟨_, rfl⟩
  have hb1 : Below w.heap.size w W1 := by rw [← hW1]; exact (Below.refl _ _).alloc (Nat.le_refl _) _
  have hb2 : Below W1.heap.size W1 W2 := by rw [← hW2]; exact (Below.refl _ _).alloc (Nat.le_refl _) _
  obtain ⟨KK, hKK⟩ : ∃ k, w.heap.size = k := ⟨_, rfl⟩
  obtain ⟨OO, hOO⟩ : ∃ k, KK + 1 = k := ⟨_, rfl⟩
  have hs1 : W1.heap.size = OO := by rw [← hW1, ← hOO, ← hKK]; simp
  have hc2 : W2.heap[KK]? = some (.cells cs 28 (0, 0)) := below_blk hb2 (by rw [← hW1, ← hKK]; exact heap_alloc_new _ _) (Nat.le_refl _)
  have ho2 : W2.heap[OO]? = some (.cells #[.slice none 0 0] 32 (0, 0)) := by rw [← hs1, ← hW2]; exact heap_alloc_new _ _
  have HE := hide (show (w.alloc (.cells cs 28)).alloc (.cells #[.slice none 0 0] 32) = W2 from by rw [hW1]; exact hW2)
  have HK0 := hide (And.intro hKK hOO)
  have HS := hide (show Acc w KK OO KK cs [] W2 from ⟨by rw [← hKK]; exact hb1.trans (hb2.mono hb1.size), Nat.le_of_eq hKK.symm, by omega, ⟨none, 0, 0, ho2, [], ⟨rfl, .inl ⟨rfl, rfl⟩⟩, rfl, fun i v l h => by simp at h⟩, hc2⟩)
  have HNM := hide (fun V => names_any cs ad u hc V hu)
  have HPL0 := hide (fun (V : World) (hV : Below w.heap.size w V) => place_any cs ad u hc V (hp.below hV (Nat.le_refl _)) ha)
  have hww : Below w.heap.size w W2 := hb1.trans (hb2.mono hb1.size)
  have HWW := hide hww
  have HSG := hide (H.sought_any l tg tc tn W2 (hE.below hww (Nat.le_refl _)) htn hn9 (fun j b hb => (hww.cell (p := ⟨tg, j, none⟩) (World.block_lt_of_cell? _ _ (hT j b hb))).trans (hT j b hb)))
  have HSZ := hide hc.size
  have HPP := hide (show (plcL (txt (qb ad) 4)).length ≤ 300 from by unfold plcL tLoc; simp only [List.length_append, List.length_cons, List.length_nil]; omega)
  have HOL := hide (show (sUu ++ u).length ≤ 1000 from by unfold sUu; simp only [List.length_append, List.length_cons, List.length_nil]; omega)
  generalize plcL (txt (qb ad) 4) = PP at *
  generalize sUu ++ u = o at *
  generalize H.soughtL l = st at *
  clear hl hW1 hW2 hb1 hb2 hKK hOO hs1 hc2 ho2 hc hp ha hu hww hT hE htn hn9
  refine (callsIn_wide (n := 8)).1 ?_
  have hro : Fence.wide.round = none := rfl
  refine callsIn_of_wp_marks Tryz.func9 rfl trivial ?_ hro
  simp only [Tryz.ntmps9, List.size_toArray, List.length_cons, List.length_nil, Nat.reduceAdd, Nat.reduceSub, Array.replicate_succ, Array.replicate_zero, List.push_toArray, List.append_toArray, List.nil_append, List.cons_append]
  gi_upto_region 2 with (fail)
  rw [HE.out]
  rw [HK0.out.1]
  rw [HK0.out.2]
  gi_wp2_with fail
  refine ⟨trivial, ?_⟩
  refine (callsIn_wide.2 HSG.out).mono ?_
  rintro e w3 ⟨rfl, b3⟩
  obtain ⟨SB, hSB⟩ : ∃ k, w3.heap.size = k := ⟨_, rfl⟩
  obtain ⟨w4, hw4⟩ : ∃ V, w3.alloc (.cells #[.string (bt st)] 9) = V := ⟨_, rfl⟩
  have hb4 : Below w3.heap.size w3 w4 := by rw [← hw4]; exact (Below.refl _ _).alloc (Nat.le_refl _) _
  have HSB4 := hide (show w4.heap[SB]? = some (.cells #[.string (bt st)] 9 (0, 0)) from by rw [← hw4, ← hSB]; exact heap_alloc_new _ _)
  have HS4 := hide ((HS.out.next b3).next hb4)
  have HW4 := hide (HWW.out.trans ((b3.trans (hb4.mono b3.size)).mono HWW.out.size))
  have HE4 := hide (And.intro hw4 hSB)
  have HST := hide (show H.bs st = bt st from rfl)
  clear b3 hb4 HS HWW HE HSG hSB hw4
  gi_upto_region 3 with (fail)
  try rw [HST.out]
  rw [HE4.out.1]
  rw [HE4.out.2]
  gi_wp2_with ((refine ldInL_cfg (o := ⟨some 11, _, _, _, _, _⟩) (.tmp 2) rfl rfl KK rfl cs HS4.out.cfg HSZ.out ?_; try simp only [Act.put, List.setIfInBounds_toArray, List.set_cons_zero, List.set_cons_succ]))
  refine ⟨trivial, ?_⟩
  refine (callsIn_wide.2 (HNM.out w4)).mono ?_
  rintro e w2 ⟨P, rfl, hP, b2⟩
  have HS2 := hide (HS4.out.next b2)
  have HSB2 := hide (below_blk b2 HSB4.out (Nat.le_refl _))
  have HW2 := hide (HW4.out.trans (b2.mono HW4.out.size))
  have HP := hide hP
  clear hP b2 HNM HS4 HW4 HSB4 HE4
  gi_wp2_with fail
  have HSEQ := hide (nms_stops Fence.wide 7 trivial hro (by omega) P o HOL.out w2 KX (fun _ _ h => h.1) HP.out)
  refine wpIn_rangeFunc_ownG hro (by omega) (gf := 31) (lb := #[.pointer (some ⟨P, 0, none⟩)]) rfl trivial (enters_of Tryz.func31 (by kernel_rfl) rfl)
    HSEQ.out KX.trans kx_b (Below.refl _ _) (fun _ => rfl)
    (SAcc w KK OO KK SB cs PP st) (fun _ _ _ => False)
    (SAcc.own (Nat.le_trans HS2.out.size HW2.out.size)) (fun _ _ _ _ _ hs _ _ => hs) ⟨HS2.out, HSB2.out⟩
    (fun x => { tmps := #[.agg cs, .slice (some ⟨tg, 0, none⟩) tn tc, .pointer (some ⟨KK, 0, none⟩), undef, .slice none 0 0, .pointer (some ⟨OO, 0, none⟩), .pointer (some ⟨SB, 0, none⟩), .string (bt x.val.1), .string (bt x.val.2), .slice (some ⟨tg, 0, none⟩) tn tc, .string (bt st), .agg cs, .func (.func 31) #[] #[.pointer (some ⟨P, 0, none⟩)], .string (bt x.val.1), .string (bt x.val.2), undef, undef, undef, undef, undef, undef, undef, undef, undef, undef, undef, undef, undef, undef, undef, undef, undef, undef, undef], defers := [] }) ?assign ?body ?done ?stop
  case assign =>
    intro l x W K hK
    have HK := hide hK
    clear hK
    gi_wp2
    exact HK.out
  case body =>
    rintro l pre x W hacc hlt
    obtain ⟨a, n, c, hO, han⟩ := hacc.acc.box
    have HN := hide (show n ≤ 1000 by obtain ⟨vs, _, h2, _⟩ := han; have := selX_le PP st pre; omega)
    have HO := hide hO
    have HC := hide hacc.acc.cfg
    have HSB := hide hacc.sb
    have HACC := hide hacc.acc
    have HPL := hide (show ∀ V, Below W.heap.size W V → Calls Tryz.prog 24 #[.agg cs] V fun e w' => e = .returned (.string (bt PP)) ∧ Below V.heap.size V w' from fun V hV => HPL0.out V (by
      have h1 := hacc.acc.below
      rw [← HK0.out.1] at h1
      exact h1.trans (hV.mono h1.size)))
    obtain ⟨x1, hx1⟩ : ∃ y, x.val.1 = y := ⟨_, rfl⟩
    obtain ⟨x2, hx2⟩ : ∃ y, x.val.2 = y := ⟨_, rfl⟩
    have hl1 : x1.length ≤ 1000 := hx1 ▸ x.property.1
    have hl2 : x2.length ≤ 2002 := hx2 ▸ x.property.2
    obtain ⟨XS, hXS⟩ : ∃ l, [tOk, tMax, tExt, PP, tSrv, tSt ++ x1, tUsn ++ x2] = l := ⟨_, rfl⟩
    have HFY := hide (show sel st x.val = true → selX PP st (pre ++ [x]) = selX PP st pre ++ [msgL XS] from fun h => by rw [selX_yes _ _ _ _ h, ← hXS, ← hx1, ← hx2]; rfl)
    have HFN := hide (show sel st x.val = false → selX PP st (pre ++ [x]) = selX PP st pre from selX_no _ _ _ _)
    have hsel : sel st x.val = (decide (st = x1) || decide (st = sAll)) := by unfold sel; rw [hx1]
    rw [hx1, hx2]
    have q1 := bt_beq st x1
    have q2 : ((bt st).toList == [115, 115, 100, 112, 58, 97, 108, 108]) = decide (st = sAll) := by rw [bt_list]; by_cases h : st = sAll; (rw [decide_eq_true h, h]; decide); (rw [decide_eq_false h, beq_eq_false_iff_ne]; exact h)
    obtain ⟨b1, hb1⟩ : ∃ b, decide (st = x1) = b := ⟨_, rfl⟩
    obtain ⟨b2, hb2⟩ : ∃ b, decide (st = sAll) = b := ⟨_, rfl⟩
    rw [hb1] at q1
    rw [hb2] at q2
    rw [hb1, hb2] at hsel
    have HSEL := hide hsel
    have hsa : ∀ V : World, (Op.stringOp .add ⟨#[83, 84, 58, 32]⟩ (bt x1)).run Tryz.prog V = .ok (.string (bt (tSt ++ x1))) V := fun V => run_string_add_lists V tSt x1 (by decide) (by omega)
    have hsb : ∀ V : World, (Op.stringOp .add ⟨#[85, 83, 78, 58, 32]⟩ (bt x2)).run Tryz.prog V = .ok (.string (bt (tUsn ++ x2))) V := fun V => run_string_add_lists V tUsn x2 (by decide) (by omega)
    have HMS := hide (show ∀ (V : World) (bk : Nat), V.heap[bk]? = some (.cells (strRow XS) 9 (0, 0)) → Calls Tryz.prog 23 #[.slice (some ⟨bk, 0, none⟩) 7 7] V fun e w' => ∃ g cap m, m = (msgL XS).length ∧ e = .returned (.slice (some ⟨g, 0, none⟩) m cap) ∧ TxB w' g (msgL XS) ∧ V.heap.size ≤ g ∧ Below V.heap.size V w' from fun V bk h =>
      message_any bk 7 7 XS V (fun j x hx => str_cell h hx) (lt_of_block h) (by rw [← hXS]; rfl) (by decide) (by decide) (by
        have := join_le XS
        have h2 : Lib.lens XS ≤ 10000 := by rw [← hXS]; have := HPP.out; simp only [Lib.lens, List.map_cons, List.map_nil, List.sum_cons, List.sum_nil, List.length_append, tExt, tMax, tOk, tSrv, tSt, tUsn, List.length_cons, List.length_nil]; omega
        have h3 : XS.length = 7 := by rw [← hXS]; rfl
        omega))
    have HRW := hide (show ∀ z : World, (z.alloc (.cells #[.string ⟨#[72, 84, 84, 80, 47, 49, 46, 49, 32, 50, 48, 48, 32, 79, 75]⟩, .string ⟨#[67, 65, 67, 72, 69, 45, 67, 79, 78, 84, 82, 79, 76, 58, 32, 109, 97, 120, 45, 97, 103, 101, 61, 49, 56, 48, 48]⟩, .string ⟨#[69, 88, 84, 58]⟩, .string (bt PP), .string ⟨#[83, 69, 82, 86, 69, 82, 58, 32, 104, 101, 97, 114, 116, 104, 47, 49, 32, 85, 80, 110, 80, 47, 49, 46, 49, 32, 104, 101, 97, 114, 116, 104, 47, 49]⟩, .string (bt (tSt ++ x1)), .string (bt (tUsn ++ x2))] 9)).heap[z.heap.size]? = some (.cells (strRow XS) 9 (0, 0)) from fun z => by rw [← hXS]; exact heap_alloc_new _ _)
    have cS := cell_of_one HSB.out
    have HSTT := hide (show bt st = bt st from rfl)
    obtain ⟨ST, hST⟩ : ∃ s, bt st = s := ⟨_, rfl⟩
    rw [hST] at cS q1 q2 ⊢
    generalize bt (tSt ++ x1) = B1 at *
    generalize bt (tUsn ++ x2) = B2 at *
    generalize bt x1 = X1 at *
    generalize bt x2 = X2 at *
    generalize bt PP = BP at *
    have HSTE := hide hST
    clear hx1 hx2 hl1 hl2 hXS hO han hacc hlt hsel hb1 hb2 hST
    cases b1 with
    | true =>
      have HFX := hide (HFY.out HSEL.out)
      clear q2
      gi_wp2_with fail
      refine regionIn_round (by kernel_rfl) (by kernel_rfl) ?_
      have HB0 := hide (show Below W.heap.size W W.drew from (Below.refl _ _).drew)
      generalize W.drew = z0 at *
      refine wpAnyIn_take (i := 3) (oi := { dst := some 25, op := Op.move (Operand.tmp 7), type := 9, pos := "ssdp.go:12", after := #[], guard := none }) (v := ?_) hro rfl (by kernel_rfl) (by kernel_rfl) (by kernel_rfl) (fun _ _ _ h => h) ⟨Or.inl ⟨by rfl, ?_⟩, fun _ => rfl⟩ ?_
      rotate_left
      · intro w
        go_simp
        try with_reducible rfl
      try simp only [Act.put, List.setIfInBounds_toArray, List.set_cons_zero, List.set_cons_succ]
      refine wpAnyIn_take (i := 4) (oi := { dst := some 26, op := Op.binOp BinOp.add 9 (Operand.const (Value.string { data := #[83, 84, 58, 32] })) (Operand.tmp 25) 9, type := 9, pos := "ssdp.go:12", after := #[{ on := 3, ground := Ground.data }], guard := none }) (v := ?_) hro rfl (by kernel_rfl) (by kernel_rfl) (by kernel_rfl) (fun _ _ _ h => h) ⟨Or.inl ⟨by rfl, ?_⟩, fun _ => rfl⟩ ?_
      rotate_left
      · intro w
        go_simp
        try with_reducible rfl
      try simp only [Act.put, List.setIfInBounds_toArray, List.set_cons_zero, List.set_cons_succ]
      refine wpAnyIn_take (i := 5) (oi := { dst := some 27, op := Op.move (Operand.tmp 8), type := 9, pos := "ssdp.go:12", after := #[], guard := none }) (v := ?_) hro rfl (by kernel_rfl) (by kernel_rfl) (by kernel_rfl) (fun _ _ _ h => h) ⟨Or.inl ⟨by rfl, ?_⟩, fun _ => rfl⟩ ?_
      rotate_left
      · intro w
        go_simp
        try with_reducible rfl
      try simp only [Act.put, List.setIfInBounds_toArray, List.set_cons_zero, List.set_cons_succ]
      refine wpAnyIn_take (i := 6) (oi := { dst := some 28, op := Op.binOp BinOp.add 9 (Operand.const (Value.string { data := #[85, 83, 78, 58, 32] })) (Operand.tmp 27) 9, type := 9, pos := "ssdp.go:12", after := #[{ on := 5, ground := Ground.data }], guard := none }) (v := ?_) hro rfl (by kernel_rfl) (by kernel_rfl) (by kernel_rfl) (fun _ _ _ h => h) ⟨Or.inl ⟨by rfl, ?_⟩, fun _ => rfl⟩ ?_
      rotate_left
      · intro w
        go_simp
        try with_reducible rfl
      try simp only [Act.put, List.setIfInBounds_toArray, List.set_cons_zero, List.set_cons_succ]
      refine wpAnyIn_ready (rs := [0, 1]) (by kernel_rfl) (by simp) ?_
      refine AllReadyIn.cons (o := { dst := some 22, op := Op.load 32 (Operand.tmp 5), type := 32, pos := "ssdp.go:12", after := #[], guard := none }) rfl (fun K hK => ?_) ?_
      ·
        have cO := cell_of_one (below_blk HB0.out HO.out (Nat.le_refl _))
        go_simp
        clear cO
        refine hK _ _ ?_
        clear hK K
        try simp only [Act.put, List.setIfInBounds_toArray, List.set_cons_zero, List.set_cons_succ]
        refine wpAnyIn_ready (rs := [1]) (by kernel_rfl) (by simp) ?_
        refine AllReadyIn.cons (o := { dst := some 23, op := Op.load 28 (Operand.tmp 2), type := 28, pos := "ssdp.go:12", after := #[], guard := none }) rfl (fun K hK => ?_) ?_
        ·
          rw [if_pos (by rfl)]
          refine ldIn_cfg (.tmp 2) rfl KK rfl cs (below_blk HB0.out HC.out (Nat.le_refl _)) HSZ.out ?_
          refine hK _ _ ?_
          clear hK K
          try simp only [Act.put, List.setIfInBounds_toArray, List.set_cons_zero, List.set_cons_succ]
          refine wpAnyIn_ready (rs := [2]) (by kernel_rfl) (by simp) ?_
          refine AllReadyIn.cons (o := { dst := some 24, op := Op.call { callee := Callee.value (Operand.func 24), args := #[Operand.tmp 23], argTypes := #[28] }, type := 9, pos := "ssdp.go:12", after := #[{ on := 1, ground := Ground.data }], guard := none }) rfl (fun K hK => ?_) ?_
          ·
            go_simp
            refine ⟨trivial, ?_⟩
            refine (callsIn_wide.2 (HPL.out z0 HB0.out)).mono ?_
            rintro e z1 ⟨rfl, b9⟩
            have HB1 := hide (HB0.out.trans (b9.mono HB0.out.size))
            clear b9
            refine hK _ _ ?_
            clear hK K
            try simp only [Act.put, List.setIfInBounds_toArray, List.set_cons_zero, List.set_cons_succ]
            refine wpAnyIn_ready (rs := [7]) (by kernel_rfl) (by simp) ?_
            refine AllReadyIn.cons (o := { dst := some 29, op := Op.buildSlice 35 7 #[(0, Operand.const (Value.string { data := #[72, 84, 84, 80, 47, 49, 46, 49, 32, 50, 48, 48, 32, 79, 75] })), (1, Operand.const (Value.string { data := #[67, 65, 67, 72, 69, 45, 67, 79, 78, 84, 82, 79, 76, 58, 32, 109, 97, 120, 45, 97, 103, 101, 61, 49, 56, 48, 48] })), (2, Operand.const (Value.string { data := #[69, 88, 84, 58] })), (3, Operand.tmp 24), (4, Operand.const (Value.string { data := #[83, 69, 82, 86, 69, 82, 58, 32, 104, 101, 97, 114, 116, 104, 47, 49, 32, 85, 80, 110, 80, 47, 49, 46, 49, 32, 104, 101, 97, 114, 116, 104, 47, 49] })), (5, Operand.tmp 26), (6, Operand.tmp 28)], type := 35, pos := "ssdp.go:12", after := #[{ on := 2, ground := Ground.data }, { on := 4, ground := Ground.data }, { on := 6, ground := Ground.data }], guard := none }) rfl (fun K hK => ?_) ?_
            ·
              obtain ⟨z2, hz2, hr2, hb2⟩ : ∃ V, z1.alloc (.cells #[.string ⟨#[72, 84, 84, 80, 47, 49, 46, 49, 32, 50, 48, 48, 32, 79, 75]⟩, .string ⟨#[67, 65, 67, 72, 69, 45, 67, 79, 78, 84, 82, 79, 76, 58, 32, 109, 97, 120, 45, 97, 103, 101, 61, 49, 56, 48, 48]⟩, .string ⟨#[69, 88, 84, 58]⟩, .string BP, .string ⟨#[83, 69, 82, 86, 69, 82, 58, 32, 104, 101, 97, 114, 116, 104, 47, 49, 32, 85, 80, 110, 80, 47, 49, 46, 49, 32, 104, 101, 97, 114, 116, 104, 47, 49]⟩, .string B1, .string B2] 9) = V ∧ V.heap[z1.heap.size]? = some (.cells (strRow XS) 9 (0, 0)) ∧ Below z1.heap.size z1 V := ⟨_, rfl, HRW.out _, (Below.refl _ _).alloc (Nat.le_refl _) _⟩
              have HB2 := hide (HB1.out.trans (hb2.mono HB1.out.size))
              have HR2 := hide hr2
              clear hr2 hb2
              go_simp
              try rw [hz2]
              clear hz2
              obtain ⟨bk2, hbk2⟩ : ∃ b, z1.heap.size = b := ⟨_, rfl⟩
              rw [hbk2] at HR2 ⊢
              clear hbk2
              refine hK _ _ ?_
              clear hK K
              try simp only [Act.put, List.setIfInBounds_toArray, List.set_cons_zero, List.set_cons_succ]
              refine wpAnyIn_ready (rs := [8]) (by kernel_rfl) (by simp) ?_
              refine AllReadyIn.cons (o := { dst := some 30, op := Op.call { callee := Callee.value (Operand.func 23), args := #[Operand.tmp 29], argTypes := #[35] }, type := 29, pos := "ssdp.go:12", after := #[{ on := 7, ground := Ground.data }, { on := 2, ground := Ground.chain }], guard := none }) rfl (fun K hK => ?_) ?_
              ·
                go_simp
                refine ⟨trivial, ?_⟩
                refine (callsIn_wide.2 (HMS.out z2 _ HR2.out)).mono ?_
                rintro e z3 ⟨g, cap, m, hm, rfl, htx, hgz, b9⟩
                have htx := And.intro htx (Nat.le_trans HB2.out.size hgz)
                clear hgz
                have HB3 := hide (HB2.out.trans (b9.mono HB2.out.size))
                obtain ⟨a5, c5, w5, hrun, hO5, hacc, hkx, hko⟩ := acc_push HACC.out a n c HO.out HB3.out g m cap _ hm htx HN.out
                have HRUN := hide hrun
                have HO5 := hide hO5
                have HAC := hide (show SAcc w KK OO KK SB cs PP st (pre ++ [x]) _ from ⟨(by rw [HFX.out]; exact hacc), hkx.1 _ _ _ HSB.out⟩)
                have HKX := hide hkx
                have HKO := hide hko
                clear b9 hm htx hrun hO5 hacc hkx hko
                refine hK _ _ ?_
                clear hK K
                try simp only [Act.put, List.setIfInBounds_toArray, List.set_cons_zero, List.set_cons_succ]
                refine wpAnyIn_ready (rs := [9]) (by kernel_rfl) (by simp) ?_
                refine AllReadyIn.cons (o := { dst := some 31, op := Op.buildSlice 32 1 #[(0, Operand.tmp 30)], type := 32, pos := "ssdp.go:12", after := #[{ on := 8, ground := Ground.data }], guard := none }) rfl (fun K hK => ?_) ?_
                ·
                  go_simp
                  refine hK _ _ ?_
                  clear hK K
                  try simp only [Act.put, List.setIfInBounds_toArray, List.set_cons_zero, List.set_cons_succ]
                  refine wpAnyIn_ready (rs := [10]) (by kernel_rfl) (by simp) ?_
                  refine AllReadyIn.cons (o := { dst := some 32, op := Op.call { callee := Callee.builtin Builtin.append, args := #[Operand.tmp 22, Operand.tmp 31], argTypes := #[32, 32] }, type := 32, pos := "ssdp.go:12", after := #[{ on := 0, ground := Ground.data }, { on := 9, ground := Ground.data }, { on := 8, ground := Ground.chain }], guard := none }) rfl (fun K hK => ?_) ?_
                  ·
                    rw [if_pos (by rfl)]
                    refine apIn_run _ _ _ _ rfl _ _ rfl rfl _ _ HRUN.out ?_
                    refine hK _ _ ?_
                    clear hK K
                    try simp only [Act.put, List.setIfInBounds_toArray, List.set_cons_zero, List.set_cons_succ]
                    refine wpAnyIn_ready (rs := [11]) (by kernel_rfl) (by simp) ?_
                    refine AllReadyIn.cons (o := { dst := none, op := Op.store 32 (Operand.tmp 5) (Operand.tmp 32), type := 0, pos := "ssdp.go:12", after := #[{ on := 10, ground := Ground.data }, { on := 10, ground := Ground.chain }, { on := 0, ground := Ground.phase }, { on := 1, ground := Ground.phase }, { on := 2, ground := Ground.phase }, { on := 3, ground := Ground.phase }, { on := 4, ground := Ground.phase }, { on := 5, ground := Ground.phase }, { on := 6, ground := Ground.phase }, { on := 7, ground := Ground.phase }, { on := 8, ground := Ground.phase }, { on := 9, ground := Ground.phase }, { on := 10, ground := Ground.phase }], guard := none }) rfl (fun K hK => ?_) ?_
                    ·
                      have cO := cell_of_one HO5.out
                      have fO := free_of_one HO5.out
                      go_simp
                      clear cO fO
                      refine hK _ _ ?_
                      clear hK K
                      try simp only [Act.put, List.setIfInBounds_toArray, List.set_cons_zero, List.set_cons_succ]
                      refine wpAnyIn_done (by kernel_rfl) ?_ _
                      exact ⟨HKO.out.from _, HKX.out, HAC.out⟩
                    exact AllReadyIn.nil
                  exact AllReadyIn.nil
                exact AllReadyIn.nil
              exact AllReadyIn.nil
            exact AllReadyIn.nil
          exact AllReadyIn.nil
        exact AllReadyIn.nil
      refine AllReadyIn.cons (o := { dst := some 23, op := Op.load 28 (Operand.tmp 2), type := 28, pos := "ssdp.go:12", after := #[], guard := none }) rfl (fun K hK => ?_) ?_
      ·
        rw [if_pos (by rfl)]
        refine ldIn_cfg (.tmp 2) rfl KK rfl cs (below_blk HB0.out HC.out (Nat.le_refl _)) HSZ.out ?_
        refine hK _ _ ?_
        clear hK K
        try simp only [Act.put, List.setIfInBounds_toArray, List.set_cons_zero, List.set_cons_succ]
        refine wpAnyIn_ready (rs := [0, 2]) (by kernel_rfl) (by simp) ?_
        refine AllReadyIn.cons (o := { dst := some 22, op := Op.load 32 (Operand.tmp 5), type := 32, pos := "ssdp.go:12", after := #[], guard := none }) rfl (fun K hK => ?_) ?_
        ·
          have cO := cell_of_one (below_blk HB0.out HO.out (Nat.le_refl _))
          go_simp
          clear cO
          refine hK _ _ ?_
          clear hK K
          try simp only [Act.put, List.setIfInBounds_toArray, List.set_cons_zero, List.set_cons_succ]
          refine wpAnyIn_ready (rs := [2]) (by kernel_rfl) (by simp) ?_
          refine AllReadyIn.cons (o := { dst := some 24, op := Op.call { callee := Callee.value (Operand.func 24), args := #[Operand.tmp 23], argTypes := #[28] }, type := 9, pos := "ssdp.go:12", after := #[{ on := 1, ground := Ground.data }], guard := none }) rfl (fun K hK => ?_) ?_
          ·
            go_simp
            refine ⟨trivial, ?_⟩
            refine (callsIn_wide.2 (HPL.out z0 HB0.out)).mono ?_
            rintro e z4 ⟨rfl, b9⟩
            have HB4 := hide (HB0.out.trans (b9.mono HB0.out.size))
            clear b9
            refine hK _ _ ?_
            clear hK K
            try simp only [Act.put, List.setIfInBounds_toArray, List.set_cons_zero, List.set_cons_succ]
            refine wpAnyIn_ready (rs := [7]) (by kernel_rfl) (by simp) ?_
            refine AllReadyIn.cons (o := { dst := some 29, op := Op.buildSlice 35 7 #[(0, Operand.const (Value.string { data := #[72, 84, 84, 80, 47, 49, 46, 49, 32, 50, 48, 48, 32, 79, 75] })), (1, Operand.const (Value.string { data := #[67, 65, 67, 72, 69, 45, 67, 79, 78, 84, 82, 79, 76, 58, 32, 109, 97, 120, 45, 97, 103, 101, 61, 49, 56, 48, 48] })), (2, Operand.const (Value.string { data := #[69, 88, 84, 58] })), (3, Operand.tmp 24), (4, Operand.const (Value.string { data := #[83, 69, 82, 86, 69, 82, 58, 32, 104, 101, 97, 114, 116, 104, 47, 49, 32, 85, 80, 110, 80, 47, 49, 46, 49, 32, 104, 101, 97, 114, 116, 104, 47, 49] })), (5, Operand.tmp 26), (6, Operand.tmp 28)], type := 35, pos := "ssdp.go:12", after := #[{ on := 2, ground := Ground.data }, { on := 4, ground := Ground.data }, { on := 6, ground := Ground.data }], guard := none }) rfl (fun K hK => ?_) ?_
            ·
              obtain ⟨z5, hz5, hr5, hb5⟩ : ∃ V, z4.alloc (.cells #[.string ⟨#[72, 84, 84, 80, 47, 49, 46, 49, 32, 50, 48, 48, 32, 79, 75]⟩, .string ⟨#[67, 65, 67, 72, 69, 45, 67, 79, 78, 84, 82, 79, 76, 58, 32, 109, 97, 120, 45, 97, 103, 101, 61, 49, 56, 48, 48]⟩, .string ⟨#[69, 88, 84, 58]⟩, .string BP, .string ⟨#[83, 69, 82, 86, 69, 82, 58, 32, 104, 101, 97, 114, 116, 104, 47, 49, 32, 85, 80, 110, 80, 47, 49, 46, 49, 32, 104, 101, 97, 114, 116, 104, 47, 49]⟩, .string B1, .string B2] 9) = V ∧ V.heap[z4.heap.size]? = some (.cells (strRow XS) 9 (0, 0)) ∧ Below z4.heap.size z4 V := ⟨_, rfl, HRW.out _, (Below.refl _ _).alloc (Nat.le_refl _) _⟩
              have HB5 := hide (HB4.out.trans (hb5.mono HB4.out.size))
              have HR5 := hide hr5
              clear hr5 hb5
              go_simp
              try rw [hz5]
              clear hz5
              obtain ⟨bk5, hbk5⟩ : ∃ b, z4.heap.size = b := ⟨_, rfl⟩
              rw [hbk5] at HR5 ⊢
              clear hbk5
              refine hK _ _ ?_
              clear hK K
              try simp only [Act.put, List.setIfInBounds_toArray, List.set_cons_zero, List.set_cons_succ]
              refine wpAnyIn_ready (rs := [8]) (by kernel_rfl) (by simp) ?_
              refine AllReadyIn.cons (o := { dst := some 30, op := Op.call { callee := Callee.value (Operand.func 23), args := #[Operand.tmp 29], argTypes := #[35] }, type := 29, pos := "ssdp.go:12", after := #[{ on := 7, ground := Ground.data }, { on := 2, ground := Ground.chain }], guard := none }) rfl (fun K hK => ?_) ?_
              ·
                go_simp
                refine ⟨trivial, ?_⟩
                refine (callsIn_wide.2 (HMS.out z5 _ HR5.out)).mono ?_
                rintro e z6 ⟨g, cap, m, hm, rfl, htx, hgz, b9⟩
                have htx := And.intro htx (Nat.le_trans HB5.out.size hgz)
                clear hgz
                have HB6 := hide (HB5.out.trans (b9.mono HB5.out.size))
                obtain ⟨a5, c5, w5, hrun, hO5, hacc, hkx, hko⟩ := acc_push HACC.out a n c HO.out HB6.out g m cap _ hm htx HN.out
                have HRUN := hide hrun
                have HO5 := hide hO5
                have HAC := hide (show SAcc w KK OO KK SB cs PP st (pre ++ [x]) _ from ⟨(by rw [HFX.out]; exact hacc), hkx.1 _ _ _ HSB.out⟩)
                have HKX := hide hkx
                have HKO := hide hko
                clear b9 hm htx hrun hO5 hacc hkx hko
                refine hK _ _ ?_
                clear hK K
                try simp only [Act.put, List.setIfInBounds_toArray, List.set_cons_zero, List.set_cons_succ]
                refine wpAnyIn_ready (rs := [9]) (by kernel_rfl) (by simp) ?_
                refine AllReadyIn.cons (o := { dst := some 31, op := Op.buildSlice 32 1 #[(0, Operand.tmp 30)], type := 32, pos := "ssdp.go:12", after := #[{ on := 8, ground := Ground.data }], guard := none }) rfl (fun K hK => ?_) ?_
                ·
                  go_simp
                  refine hK _ _ ?_
                  clear hK K
                  try simp only [Act.put, List.setIfInBounds_toArray, List.set_cons_zero, List.set_cons_succ]
                  refine wpAnyIn_ready (rs := [10]) (by kernel_rfl) (by simp) ?_
                  refine AllReadyIn.cons (o := { dst := some 32, op := Op.call { callee := Callee.builtin Builtin.append, args := #[Operand.tmp 22, Operand.tmp 31], argTypes := #[32, 32] }, type := 32, pos := "ssdp.go:12", after := #[{ on := 0, ground := Ground.data }, { on := 9, ground := Ground.data }, { on := 8, ground := Ground.chain }], guard := none }) rfl (fun K hK => ?_) ?_
                  ·
                    rw [if_pos (by rfl)]
                    refine apIn_run _ _ _ _ rfl _ _ rfl rfl _ _ HRUN.out ?_
                    refine hK _ _ ?_
                    clear hK K
                    try simp only [Act.put, List.setIfInBounds_toArray, List.set_cons_zero, List.set_cons_succ]
                    refine wpAnyIn_ready (rs := [11]) (by kernel_rfl) (by simp) ?_
                    refine AllReadyIn.cons (o := { dst := none, op := Op.store 32 (Operand.tmp 5) (Operand.tmp 32), type := 0, pos := "ssdp.go:12", after := #[{ on := 10, ground := Ground.data }, { on := 10, ground := Ground.chain }, { on := 0, ground := Ground.phase }, { on := 1, ground := Ground.phase }, { on := 2, ground := Ground.phase }, { on := 3, ground := Ground.phase }, { on := 4, ground := Ground.phase }, { on := 5, ground := Ground.phase }, { on := 6, ground := Ground.phase }, { on := 7, ground := Ground.phase }, { on := 8, ground := Ground.phase }, { on := 9, ground := Ground.phase }, { on := 10, ground := Ground.phase }], guard := none }) rfl (fun K hK => ?_) ?_
                    ·
                      have cO := cell_of_one HO5.out
                      have fO := free_of_one HO5.out
                      go_simp
                      clear cO fO
                      refine hK _ _ ?_
                      clear hK K
                      try simp only [Act.put, List.setIfInBounds_toArray, List.set_cons_zero, List.set_cons_succ]
                      refine wpAnyIn_done (by kernel_rfl) ?_ _
                      exact ⟨HKO.out.from _, HKX.out, HAC.out⟩
                    exact AllReadyIn.nil
                  exact AllReadyIn.nil
                exact AllReadyIn.nil
              exact AllReadyIn.nil
            exact AllReadyIn.nil
          exact AllReadyIn.nil
        refine AllReadyIn.cons (o := { dst := some 24, op := Op.call { callee := Callee.value (Operand.func 24), args := #[Operand.tmp 23], argTypes := #[28] }, type := 9, pos := "ssdp.go:12", after := #[{ on := 1, ground := Ground.data }], guard := none }) rfl (fun K hK => ?_) ?_
        ·
          go_simp
          refine ⟨trivial, ?_⟩
          refine (callsIn_wide.2 (HPL.out z0 HB0.out)).mono ?_
          rintro e z7 ⟨rfl, b9⟩
          have HB7 := hide (HB0.out.trans (b9.mono HB0.out.size))
          clear b9
          refine hK _ _ ?_
          clear hK K
          try simp only [Act.put, List.setIfInBounds_toArray, List.set_cons_zero, List.set_cons_succ]
          refine wpAnyIn_ready (rs := [0, 7]) (by kernel_rfl) (by simp) ?_
          refine AllReadyIn.cons (o := { dst := some 22, op := Op.load 32 (Operand.tmp 5), type := 32, pos := "ssdp.go:12", after := #[], guard := none }) rfl (fun K hK => ?_) ?_
          ·
            have cO := cell_of_one (below_blk HB7.out HO.out (Nat.le_refl _))
            go_simp
            clear cO
            refine hK _ _ ?_
            clear hK K
            try simp only [Act.put, List.setIfInBounds_toArray, List.set_cons_zero, List.set_cons_succ]
            refine wpAnyIn_ready (rs := [7]) (by kernel_rfl) (by simp) ?_
            refine AllReadyIn.cons (o := { dst := some 29, op := Op.buildSlice 35 7 #[(0, Operand.const (Value.string { data := #[72, 84, 84, 80, 47, 49, 46, 49, 32, 50, 48, 48, 32, 79, 75] })), (1, Operand.const (Value.string { data := #[67, 65, 67, 72, 69, 45, 67, 79, 78, 84, 82, 79, 76, 58, 32, 109, 97, 120, 45, 97, 103, 101, 61, 49, 56, 48, 48] })), (2, Operand.const (Value.string { data := #[69, 88, 84, 58] })), (3, Operand.tmp 24), (4, Operand.const (Value.string { data := #[83, 69, 82, 86, 69, 82, 58, 32, 104, 101, 97, 114, 116, 104, 47, 49, 32, 85, 80, 110, 80, 47, 49, 46, 49, 32, 104, 101, 97, 114, 116, 104, 47, 49] })), (5, Operand.tmp 26), (6, Operand.tmp 28)], type := 35, pos := "ssdp.go:12", after := #[{ on := 2, ground := Ground.data }, { on := 4, ground := Ground.data }, { on := 6, ground := Ground.data }], guard := none }) rfl (fun K hK => ?_) ?_
            ·
              obtain ⟨z8, hz8, hr8, hb8⟩ : ∃ V, z7.alloc (.cells #[.string ⟨#[72, 84, 84, 80, 47, 49, 46, 49, 32, 50, 48, 48, 32, 79, 75]⟩, .string ⟨#[67, 65, 67, 72, 69, 45, 67, 79, 78, 84, 82, 79, 76, 58, 32, 109, 97, 120, 45, 97, 103, 101, 61, 49, 56, 48, 48]⟩, .string ⟨#[69, 88, 84, 58]⟩, .string BP, .string ⟨#[83, 69, 82, 86, 69, 82, 58, 32, 104, 101, 97, 114, 116, 104, 47, 49, 32, 85, 80, 110, 80, 47, 49, 46, 49, 32, 104, 101, 97, 114, 116, 104, 47, 49]⟩, .string B1, .string B2] 9) = V ∧ V.heap[z7.heap.size]? = some (.cells (strRow XS) 9 (0, 0)) ∧ Below z7.heap.size z7 V := ⟨_, rfl, HRW.out _, (Below.refl _ _).alloc (Nat.le_refl _) _⟩
              have HB8 := hide (HB7.out.trans (hb8.mono HB7.out.size))
              have HR8 := hide hr8
              clear hr8 hb8
              go_simp
              try rw [hz8]
              clear hz8
              obtain ⟨bk8, hbk8⟩ : ∃ b, z7.heap.size = b := ⟨_, rfl⟩
              rw [hbk8] at HR8 ⊢
              clear hbk8
              refine hK _ _ ?_
              clear hK K
              try simp only [Act.put, List.setIfInBounds_toArray, List.set_cons_zero, List.set_cons_succ]
              refine wpAnyIn_ready (rs := [8]) (by kernel_rfl) (by simp) ?_
              refine AllReadyIn.cons (o := { dst := some 30, op := Op.call { callee := Callee.value (Operand.func 23), args := #[Operand.tmp 29], argTypes := #[35] }, type := 29, pos := "ssdp.go:12", after := #[{ on := 7, ground := Ground.data }, { on := 2, ground := Ground.chain }], guard := none }) rfl (fun K hK => ?_) ?_
              ·
                go_simp
                refine ⟨trivial, ?_⟩
                refine (callsIn_wide.2 (HMS.out z8 _ HR8.out)).mono ?_
                rintro e z9 ⟨g, cap, m, hm, rfl, htx, hgz, b9⟩
                have htx := And.intro htx (Nat.le_trans HB8.out.size hgz)
                clear hgz
                have HB9 := hide (HB8.out.trans (b9.mono HB8.out.size))
                obtain ⟨a5, c5, w5, hrun, hO5, hacc, hkx, hko⟩ := acc_push HACC.out a n c HO.out HB9.out g m cap _ hm htx HN.out
                have HRUN := hide hrun
                have HO5 := hide hO5
                have HAC := hide (show SAcc w KK OO KK SB cs PP st (pre ++ [x]) _ from ⟨(by rw [HFX.out]; exact hacc), hkx.1 _ _ _ HSB.out⟩)
                have HKX := hide hkx
                have HKO := hide hko
                clear b9 hm htx hrun hO5 hacc hkx hko
                refine hK _ _ ?_
                clear hK K
                try simp only [Act.put, List.setIfInBounds_toArray, List.set_cons_zero, List.set_cons_succ]
                refine wpAnyIn_ready (rs := [9]) (by kernel_rfl) (by simp) ?_
                refine AllReadyIn.cons (o := { dst := some 31, op := Op.buildSlice 32 1 #[(0, Operand.tmp 30)], type := 32, pos := "ssdp.go:12", after := #[{ on := 8, ground := Ground.data }], guard := none }) rfl (fun K hK => ?_) ?_
                ·
                  go_simp
                  refine hK _ _ ?_
                  clear hK K
                  try simp only [Act.put, List.setIfInBounds_toArray, List.set_cons_zero, List.set_cons_succ]
                  refine wpAnyIn_ready (rs := [10]) (by kernel_rfl) (by simp) ?_
                  refine AllReadyIn.cons (o := { dst := some 32, op := Op.call { callee := Callee.builtin Builtin.append, args := #[Operand.tmp 22, Operand.tmp 31], argTypes := #[32, 32] }, type := 32, pos := "ssdp.go:12", after := #[{ on := 0, ground := Ground.data }, { on := 9, ground := Ground.data }, { on := 8, ground := Ground.chain }], guard := none }) rfl (fun K hK => ?_) ?_
                  ·
                    rw [if_pos (by rfl)]
                    refine apIn_run _ _ _ _ rfl _ _ rfl rfl _ _ HRUN.out ?_
                    refine hK _ _ ?_
                    clear hK K
                    try simp only [Act.put, List.setIfInBounds_toArray, List.set_cons_zero, List.set_cons_succ]
                    refine wpAnyIn_ready (rs := [11]) (by kernel_rfl) (by simp) ?_
                    refine AllReadyIn.cons (o := { dst := none, op := Op.store 32 (Operand.tmp 5) (Operand.tmp 32), type := 0, pos := "ssdp.go:12", after := #[{ on := 10, ground := Ground.data }, { on := 10, ground := Ground.chain }, { on := 0, ground := Ground.phase }, { on := 1, ground := Ground.phase }, { on := 2, ground := Ground.phase }, { on := 3, ground := Ground.phase }, { on := 4, ground := Ground.phase }, { on := 5, ground := Ground.phase }, { on := 6, ground := Ground.phase }, { on := 7, ground := Ground.phase }, { on := 8, ground := Ground.phase }, { on := 9, ground := Ground.phase }, { on := 10, ground := Ground.phase }], guard := none }) rfl (fun K hK => ?_) ?_
                    ·
                      have cO := cell_of_one HO5.out
                      have fO := free_of_one HO5.out
                      go_simp
                      clear cO fO
                      refine hK _ _ ?_
                      clear hK K
                      try simp only [Act.put, List.setIfInBounds_toArray, List.set_cons_zero, List.set_cons_succ]
                      refine wpAnyIn_done (by kernel_rfl) ?_ _
                      exact ⟨HKO.out.from _, HKX.out, HAC.out⟩
                    exact AllReadyIn.nil
                  exact AllReadyIn.nil
                exact AllReadyIn.nil
              exact AllReadyIn.nil
            exact AllReadyIn.nil
          refine AllReadyIn.cons (o := { dst := some 29, op := Op.buildSlice 35 7 #[(0, Operand.const (Value.string { data := #[72, 84, 84, 80, 47, 49, 46, 49, 32, 50, 48, 48, 32, 79, 75] })), (1, Operand.const (Value.string { data := #[67, 65, 67, 72, 69, 45, 67, 79, 78, 84, 82, 79, 76, 58, 32, 109, 97, 120, 45, 97, 103, 101, 61, 49, 56, 48, 48] })), (2, Operand.const (Value.string { data := #[69, 88, 84, 58] })), (3, Operand.tmp 24), (4, Operand.const (Value.string { data := #[83, 69, 82, 86, 69, 82, 58, 32, 104, 101, 97, 114, 116, 104, 47, 49, 32, 85, 80, 110, 80, 47, 49, 46, 49, 32, 104, 101, 97, 114, 116, 104, 47, 49] })), (5, Operand.tmp 26), (6, Operand.tmp 28)], type := 35, pos := "ssdp.go:12", after := #[{ on := 2, ground := Ground.data }, { on := 4, ground := Ground.data }, { on := 6, ground := Ground.data }], guard := none }) rfl (fun K hK => ?_) ?_
          ·
            obtain ⟨z10, hz10, hr10, hb10⟩ : ∃ V, z7.alloc (.cells #[.string ⟨#[72, 84, 84, 80, 47, 49, 46, 49, 32, 50, 48, 48, 32, 79, 75]⟩, .string ⟨#[67, 65, 67, 72, 69, 45, 67, 79, 78, 84, 82, 79, 76, 58, 32, 109, 97, 120, 45, 97, 103, 101, 61, 49, 56, 48, 48]⟩, .string ⟨#[69, 88, 84, 58]⟩, .string BP, .string ⟨#[83, 69, 82, 86, 69, 82, 58, 32, 104, 101, 97, 114, 116, 104, 47, 49, 32, 85, 80, 110, 80, 47, 49, 46, 49, 32, 104, 101, 97, 114, 116, 104, 47, 49]⟩, .string B1, .string B2] 9) = V ∧ V.heap[z7.heap.size]? = some (.cells (strRow XS) 9 (0, 0)) ∧ Below z7.heap.size z7 V := ⟨_, rfl, HRW.out _, (Below.refl _ _).alloc (Nat.le_refl _) _⟩
            have HB10 := hide (HB7.out.trans (hb10.mono HB7.out.size))
            have HR10 := hide hr10
            clear hr10 hb10
            go_simp
            try rw [hz10]
            clear hz10
            obtain ⟨bk10, hbk10⟩ : ∃ b, z7.heap.size = b := ⟨_, rfl⟩
            rw [hbk10] at HR10 ⊢
            clear hbk10
            refine hK _ _ ?_
            clear hK K
            try simp only [Act.put, List.setIfInBounds_toArray, List.set_cons_zero, List.set_cons_succ]
            refine wpAnyIn_ready (rs := [0, 8]) (by kernel_rfl) (by simp) ?_
            refine AllReadyIn.cons (o := { dst := some 22, op := Op.load 32 (Operand.tmp 5), type := 32, pos := "ssdp.go:12", after := #[], guard := none }) rfl (fun K hK => ?_) ?_
            ·
              have cO := cell_of_one (below_blk HB10.out HO.out (Nat.le_refl _))
              go_simp
              clear cO
              refine hK _ _ ?_
              clear hK K
              try simp only [Act.put, List.setIfInBounds_toArray, List.set_cons_zero, List.set_cons_succ]
              refine wpAnyIn_ready (rs := [8]) (by kernel_rfl) (by simp) ?_
              refine AllReadyIn.cons (o := { dst := some 30, op := Op.call { callee := Callee.value (Operand.func 23), args := #[Operand.tmp 29], argTypes := #[35] }, type := 29, pos := "ssdp.go:12", after := #[{ on := 7, ground := Ground.data }, { on := 2, ground := Ground.chain }], guard := none }) rfl (fun K hK => ?_) ?_
              ·
                go_simp
                refine ⟨trivial, ?_⟩
                refine (callsIn_wide.2 (HMS.out z10 _ HR10.out)).mono ?_
                rintro e z11 ⟨g, cap, m, hm, rfl, htx, hgz, b9⟩
                have htx := And.intro htx (Nat.le_trans HB10.out.size hgz)
                clear hgz
                have HB11 := hide (HB10.out.trans (b9.mono HB10.out.size))
                obtain ⟨a5, c5, w5, hrun, hO5, hacc, hkx, hko⟩ := acc_push HACC.out a n c HO.out HB11.out g m cap _ hm htx HN.out
                have HRUN := hide hrun
                have HO5 := hide hO5
                have HAC := hide (show SAcc w KK OO KK SB cs PP st (pre ++ [x]) _ from ⟨(by rw [HFX.out]; exact hacc), hkx.1 _ _ _ HSB.out⟩)
                have HKX := hide hkx
                have HKO := hide hko
                clear b9 hm htx hrun hO5 hacc hkx hko
                refine hK _ _ ?_
                clear hK K
                try simp only [Act.put, List.setIfInBounds_toArray, List.set_cons_zero, List.set_cons_succ]
                refine wpAnyIn_ready (rs := [9]) (by kernel_rfl) (by simp) ?_
                refine AllReadyIn.cons (o := { dst := some 31, op := Op.buildSlice 32 1 #[(0, Operand.tmp 30)], type := 32, pos := "ssdp.go:12", after := #[{ on := 8, ground := Ground.data }], guard := none }) rfl (fun K hK => ?_) ?_
                ·
                  go_simp
                  refine hK _ _ ?_
                  clear hK K
                  try simp only [Act.put, List.setIfInBounds_toArray, List.set_cons_zero, List.set_cons_succ]
                  refine wpAnyIn_ready (rs := [10]) (by kernel_rfl) (by simp) ?_
                  refine AllReadyIn.cons (o := { dst := some 32, op := Op.call { callee := Callee.builtin Builtin.append, args := #[Operand.tmp 22, Operand.tmp 31], argTypes := #[32, 32] }, type := 32, pos := "ssdp.go:12", after := #[{ on := 0, ground := Ground.data }, { on := 9, ground := Ground.data }, { on := 8, ground := Ground.chain }], guard := none }) rfl (fun K hK => ?_) ?_
                  ·
                    rw [if_pos (by rfl)]
                    refine apIn_run _ _ _ _ rfl _ _ rfl rfl _ _ HRUN.out ?_
                    refine hK _ _ ?_
                    clear hK K
                    try simp only [Act.put, List.setIfInBounds_toArray, List.set_cons_zero, List.set_cons_succ]
                    refine wpAnyIn_ready (rs := [11]) (by kernel_rfl) (by simp) ?_
                    refine AllReadyIn.cons (o := { dst := none, op := Op.store 32 (Operand.tmp 5) (Operand.tmp 32), type := 0, pos := "ssdp.go:12", after := #[{ on := 10, ground := Ground.data }, { on := 10, ground := Ground.chain }, { on := 0, ground := Ground.phase }, { on := 1, ground := Ground.phase }, { on := 2, ground := Ground.phase }, { on := 3, ground := Ground.phase }, { on := 4, ground := Ground.phase }, { on := 5, ground := Ground.phase }, { on := 6, ground := Ground.phase }, { on := 7, ground := Ground.phase }, { on := 8, ground := Ground.phase }, { on := 9, ground := Ground.phase }, { on := 10, ground := Ground.phase }], guard := none }) rfl (fun K hK => ?_) ?_
                    ·
                      have cO := cell_of_one HO5.out
                      have fO := free_of_one HO5.out
                      go_simp
                      clear cO fO
                      refine hK _ _ ?_
                      clear hK K
                      try simp only [Act.put, List.setIfInBounds_toArray, List.set_cons_zero, List.set_cons_succ]
                      refine wpAnyIn_done (by kernel_rfl) ?_ _
                      exact ⟨HKO.out.from _, HKX.out, HAC.out⟩
                    exact AllReadyIn.nil
                  exact AllReadyIn.nil
                exact AllReadyIn.nil
              exact AllReadyIn.nil
            refine AllReadyIn.cons (o := { dst := some 30, op := Op.call { callee := Callee.value (Operand.func 23), args := #[Operand.tmp 29], argTypes := #[35] }, type := 29, pos := "ssdp.go:12", after := #[{ on := 7, ground := Ground.data }, { on := 2, ground := Ground.chain }], guard := none }) rfl (fun K hK => ?_) ?_
            ·
              go_simp
              refine ⟨trivial, ?_⟩
              refine (callsIn_wide.2 (HMS.out z10 _ HR10.out)).mono ?_
              rintro e z12 ⟨g, cap, m, hm, rfl, htx, hgz, b9⟩
              have htx := And.intro htx (Nat.le_trans HB10.out.size hgz)
              clear hgz
              have HB12 := hide (HB10.out.trans (b9.mono HB10.out.size))
              obtain ⟨a5, c5, w5, hrun, hO5, hacc, hkx, hko⟩ := acc_push HACC.out a n c HO.out HB12.out g m cap _ hm htx HN.out
              have HRUN := hide hrun
              have HO5 := hide hO5
              have HAC := hide (show SAcc w KK OO KK SB cs PP st (pre ++ [x]) _ from ⟨(by rw [HFX.out]; exact hacc), hkx.1 _ _ _ HSB.out⟩)
              have HKX := hide hkx
              have HKO := hide hko
              clear b9 hm htx hrun hO5 hacc hkx hko
              refine hK _ _ ?_
              clear hK K
              try simp only [Act.put, List.setIfInBounds_toArray, List.set_cons_zero, List.set_cons_succ]
              refine wpAnyIn_ready (rs := [0, 9]) (by kernel_rfl) (by simp) ?_
              refine AllReadyIn.cons (o := { dst := some 22, op := Op.load 32 (Operand.tmp 5), type := 32, pos := "ssdp.go:12", after := #[], guard := none }) rfl (fun K hK => ?_) ?_
              ·
                have cO := cell_of_one (below_blk HB12.out HO.out (Nat.le_refl _))
                go_simp
                clear cO
                refine hK _ _ ?_
                clear hK K
                try simp only [Act.put, List.setIfInBounds_toArray, List.set_cons_zero, List.set_cons_succ]
                refine wpAnyIn_ready (rs := [9]) (by kernel_rfl) (by simp) ?_
                refine AllReadyIn.cons (o := { dst := some 31, op := Op.buildSlice 32 1 #[(0, Operand.tmp 30)], type := 32, pos := "ssdp.go:12", after := #[{ on := 8, ground := Ground.data }], guard := none }) rfl (fun K hK => ?_) ?_
                ·
                  go_simp
                  refine hK _ _ ?_
                  clear hK K
                  try simp only [Act.put, List.setIfInBounds_toArray, List.set_cons_zero, List.set_cons_succ]
                  refine wpAnyIn_ready (rs := [10]) (by kernel_rfl) (by simp) ?_
                  refine AllReadyIn.cons (o := { dst := some 32, op := Op.call { callee := Callee.builtin Builtin.append, args := #[Operand.tmp 22, Operand.tmp 31], argTypes := #[32, 32] }, type := 32, pos := "ssdp.go:12", after := #[{ on := 0, ground := Ground.data }, { on := 9, ground := Ground.data }, { on := 8, ground := Ground.chain }], guard := none }) rfl (fun K hK => ?_) ?_
                  ·
                    rw [if_pos (by rfl)]
                    refine apIn_run _ _ _ _ rfl _ _ rfl rfl _ _ HRUN.out ?_
                    refine hK _ _ ?_
                    clear hK K
                    try simp only [Act.put, List.setIfInBounds_toArray, List.set_cons_zero, List.set_cons_succ]
                    refine wpAnyIn_ready (rs := [11]) (by kernel_rfl) (by simp) ?_
                    refine AllReadyIn.cons (o := { dst := none, op := Op.store 32 (Operand.tmp 5) (Operand.tmp 32), type := 0, pos := "ssdp.go:12", after := #[{ on := 10, ground := Ground.data }, { on := 10, ground := Ground.chain }, { on := 0, ground := Ground.phase }, { on := 1, ground := Ground.phase }, { on := 2, ground := Ground.phase }, { on := 3, ground := Ground.phase }, { on := 4, ground := Ground.phase }, { on := 5, ground := Ground.phase }, { on := 6, ground := Ground.phase }, { on := 7, ground := Ground.phase }, { on := 8, ground := Ground.phase }, { on := 9, ground := Ground.phase }, { on := 10, ground := Ground.phase }], guard := none }) rfl (fun K hK => ?_) ?_
                    ·
                      have cO := cell_of_one HO5.out
                      have fO := free_of_one HO5.out
                      go_simp
                      clear cO fO
                      refine hK _ _ ?_
                      clear hK K
                      try simp only [Act.put, List.setIfInBounds_toArray, List.set_cons_zero, List.set_cons_succ]
                      refine wpAnyIn_done (by kernel_rfl) ?_ _
                      exact ⟨HKO.out.from _, HKX.out, HAC.out⟩
                    exact AllReadyIn.nil
                  exact AllReadyIn.nil
                exact AllReadyIn.nil
              refine AllReadyIn.cons (o := { dst := some 31, op := Op.buildSlice 32 1 #[(0, Operand.tmp 30)], type := 32, pos := "ssdp.go:12", after := #[{ on := 8, ground := Ground.data }], guard := none }) rfl (fun K hK => ?_) ?_
              ·
                go_simp
                refine hK _ _ ?_
                clear hK K
                try simp only [Act.put, List.setIfInBounds_toArray, List.set_cons_zero, List.set_cons_succ]
                refine wpAnyIn_ready (rs := [0]) (by kernel_rfl) (by simp) ?_
                refine AllReadyIn.cons (o := { dst := some 22, op := Op.load 32 (Operand.tmp 5), type := 32, pos := "ssdp.go:12", after := #[], guard := none }) rfl (fun K hK => ?_) ?_
                ·
                  have cO := cell_of_one (below_blk ((Below.refl _ z12).alloc (Nat.le_refl _) (.cells #[.slice (some ⟨g, 0, none⟩) m cap] 29)) (below_blk HB12.out HO.out (Nat.le_refl _)) (Nat.le_refl _))
                  go_simp
                  clear cO
                  refine hK _ _ ?_
                  clear hK K
                  try simp only [Act.put, List.setIfInBounds_toArray, List.set_cons_zero, List.set_cons_succ]
                  refine wpAnyIn_ready (rs := [10]) (by kernel_rfl) (by simp) ?_
                  refine AllReadyIn.cons (o := { dst := some 32, op := Op.call { callee := Callee.builtin Builtin.append, args := #[Operand.tmp 22, Operand.tmp 31], argTypes := #[32, 32] }, type := 32, pos := "ssdp.go:12", after := #[{ on := 0, ground := Ground.data }, { on := 9, ground := Ground.data }, { on := 8, ground := Ground.chain }], guard := none }) rfl (fun K hK => ?_) ?_
                  ·
                    rw [if_pos (by rfl)]
                    refine apIn_run _ _ _ _ rfl _ _ rfl rfl _ _ HRUN.out ?_
                    refine hK _ _ ?_
                    clear hK K
                    try simp only [Act.put, List.setIfInBounds_toArray, List.set_cons_zero, List.set_cons_succ]
                    refine wpAnyIn_ready (rs := [11]) (by kernel_rfl) (by simp) ?_
                    refine AllReadyIn.cons (o := { dst := none, op := Op.store 32 (Operand.tmp 5) (Operand.tmp 32), type := 0, pos := "ssdp.go:12", after := #[{ on := 10, ground := Ground.data }, { on := 10, ground := Ground.chain }, { on := 0, ground := Ground.phase }, { on := 1, ground := Ground.phase }, { on := 2, ground := Ground.phase }, { on := 3, ground := Ground.phase }, { on := 4, ground := Ground.phase }, { on := 5, ground := Ground.phase }, { on := 6, ground := Ground.phase }, { on := 7, ground := Ground.phase }, { on := 8, ground := Ground.phase }, { on := 9, ground := Ground.phase }, { on := 10, ground := Ground.phase }], guard := none }) rfl (fun K hK => ?_) ?_
                    ·
                      have cO := cell_of_one HO5.out
                      have fO := free_of_one HO5.out
                      go_simp
                      clear cO fO
                      refine hK _ _ ?_
                      clear hK K
                      try simp only [Act.put, List.setIfInBounds_toArray, List.set_cons_zero, List.set_cons_succ]
                      refine wpAnyIn_done (by kernel_rfl) ?_ _
                      exact ⟨HKO.out.from _, HKX.out, HAC.out⟩
                    exact AllReadyIn.nil
                  exact AllReadyIn.nil
                exact AllReadyIn.nil
              exact AllReadyIn.nil
            exact AllReadyIn.nil
          exact AllReadyIn.nil
        exact AllReadyIn.nil
      exact AllReadyIn.nil
    | false =>
    cases b2 with
    | true =>
      have HFX := hide (HFY.out HSEL.out)
      gi_wp2_with fail
      refine regionIn_round (by kernel_rfl) (by kernel_rfl) ?_
      have HB0 := hide (show Below W.heap.size W W.drew from (Below.refl _ _).drew)
      generalize W.drew = z0 at *
      refine wpAnyIn_take (i := 3) (oi := { dst := some 25, op := Op.move (Operand.tmp 7), type := 9, pos := "ssdp.go:12", after := #[], guard := none }) (v := ?_) hro rfl (by kernel_rfl) (by kernel_rfl) (by kernel_rfl) (fun _ _ _ h => h) ⟨Or.inl ⟨by rfl, ?_⟩, fun _ => rfl⟩ ?_
      rotate_left
      · intro w
        go_simp
        try with_reducible rfl
      try simp only [Act.put, List.setIfInBounds_toArray, List.set_cons_zero, List.set_cons_succ]
      refine wpAnyIn_take (i := 4) (oi := { dst := some 26, op := Op.binOp BinOp.add 9 (Operand.const (Value.string { data := #[83, 84, 58, 32] })) (Operand.tmp 25) 9, type := 9, pos := "ssdp.go:12", after := #[{ on := 3, ground := Ground.data }], guard := none }) (v := ?_) hro rfl (by kernel_rfl) (by kernel_rfl) (by kernel_rfl) (fun _ _ _ h => h) ⟨Or.inl ⟨by rfl, ?_⟩, fun _ => rfl⟩ ?_
      rotate_left
      · intro w
        go_simp
        try with_reducible rfl
      try simp only [Act.put, List.setIfInBounds_toArray, List.set_cons_zero, List.set_cons_succ]
      refine wpAnyIn_take (i := 5) (oi := { dst := some 27, op := Op.move (Operand.tmp 8), type := 9, pos := "ssdp.go:12", after := #[], guard := none }) (v := ?_) hro rfl (by kernel_rfl) (by kernel_rfl) (by kernel_rfl) (fun _ _ _ h => h) ⟨Or.inl ⟨by rfl, ?_⟩, fun _ => rfl⟩ ?_
      rotate_left
      · intro w
        go_simp
        try with_reducible rfl
      try simp only [Act.put, List.setIfInBounds_toArray, List.set_cons_zero, List.set_cons_succ]
      refine wpAnyIn_take (i := 6) (oi := { dst := some 28, op := Op.binOp BinOp.add 9 (Operand.const (Value.string { data := #[85, 83, 78, 58, 32] })) (Operand.tmp 27) 9, type := 9, pos := "ssdp.go:12", after := #[{ on := 5, ground := Ground.data }], guard := none }) (v := ?_) hro rfl (by kernel_rfl) (by kernel_rfl) (by kernel_rfl) (fun _ _ _ h => h) ⟨Or.inl ⟨by rfl, ?_⟩, fun _ => rfl⟩ ?_
      rotate_left
      · intro w
        go_simp
        try with_reducible rfl
      try simp only [Act.put, List.setIfInBounds_toArray, List.set_cons_zero, List.set_cons_succ]
      refine wpAnyIn_ready (rs := [0, 1]) (by kernel_rfl) (by simp) ?_
      refine AllReadyIn.cons (o := { dst := some 22, op := Op.load 32 (Operand.tmp 5), type := 32, pos := "ssdp.go:12", after := #[], guard := none }) rfl (fun K hK => ?_) ?_
      ·
        have cO := cell_of_one (below_blk HB0.out HO.out (Nat.le_refl _))
        go_simp
        clear cO
        refine hK _ _ ?_
        clear hK K
        try simp only [Act.put, List.setIfInBounds_toArray, List.set_cons_zero, List.set_cons_succ]
        refine wpAnyIn_ready (rs := [1]) (by kernel_rfl) (by simp) ?_
        refine AllReadyIn.cons (o := { dst := some 23, op := Op.load 28 (Operand.tmp 2), type := 28, pos := "ssdp.go:12", after := #[], guard := none }) rfl (fun K hK => ?_) ?_
        ·
          rw [if_pos (by rfl)]
          refine ldIn_cfg (.tmp 2) rfl KK rfl cs (below_blk HB0.out HC.out (Nat.le_refl _)) HSZ.out ?_
          refine hK _ _ ?_
          clear hK K
          try simp only [Act.put, List.setIfInBounds_toArray, List.set_cons_zero, List.set_cons_succ]
          refine wpAnyIn_ready (rs := [2]) (by kernel_rfl) (by simp) ?_
          refine AllReadyIn.cons (o := { dst := some 24, op := Op.call { callee := Callee.value (Operand.func 24), args := #[Operand.tmp 23], argTypes := #[28] }, type := 9, pos := "ssdp.go:12", after := #[{ on := 1, ground := Ground.data }], guard := none }) rfl (fun K hK => ?_) ?_
          ·
            go_simp
            refine ⟨trivial, ?_⟩
            refine (callsIn_wide.2 (HPL.out z0 HB0.out)).mono ?_
            rintro e z1 ⟨rfl, b9⟩
            have HB1 := hide (HB0.out.trans (b9.mono HB0.out.size))
            clear b9
            refine hK _ _ ?_
            clear hK K
            try simp only [Act.put, List.setIfInBounds_toArray, List.set_cons_zero, List.set_cons_succ]
            refine wpAnyIn_ready (rs := [7]) (by kernel_rfl) (by simp) ?_
            refine AllReadyIn.cons (o := { dst := some 29, op := Op.buildSlice 35 7 #[(0, Operand.const (Value.string { data := #[72, 84, 84, 80, 47, 49, 46, 49, 32, 50, 48, 48, 32, 79, 75] })), (1, Operand.const (Value.string { data := #[67, 65, 67, 72, 69, 45, 67, 79, 78, 84, 82, 79, 76, 58, 32, 109, 97, 120, 45, 97, 103, 101, 61, 49, 56, 48, 48] })), (2, Operand.const (Value.string { data := #[69, 88, 84, 58] })), (3, Operand.tmp 24), (4, Operand.const (Value.string { data := #[83, 69, 82, 86, 69, 82, 58, 32, 104, 101, 97, 114, 116, 104, 47, 49, 32, 85, 80, 110, 80, 47, 49, 46, 49, 32, 104, 101, 97, 114, 116, 104, 47, 49] })), (5, Operand.tmp 26), (6, Operand.tmp 28)], type := 35, pos := "ssdp.go:12", after := #[{ on := 2, ground := Ground.data }, { on := 4, ground := Ground.data }, { on := 6, ground := Ground.data }], guard := none }) rfl (fun K hK => ?_) ?_
            ·
              obtain ⟨z2, hz2, hr2, hb2⟩ : ∃ V, z1.alloc (.cells #[.string ⟨#[72, 84, 84, 80, 47, 49, 46, 49, 32, 50, 48, 48, 32, 79, 75]⟩, .string ⟨#[67, 65, 67, 72, 69, 45, 67, 79, 78, 84, 82, 79, 76, 58, 32, 109, 97, 120, 45, 97, 103, 101, 61, 49, 56, 48, 48]⟩, .string ⟨#[69, 88, 84, 58]⟩, .string BP, .string ⟨#[83, 69, 82, 86, 69, 82, 58, 32, 104, 101, 97, 114, 116, 104, 47, 49, 32, 85, 80, 110, 80, 47, 49, 46, 49, 32, 104, 101, 97, 114, 116, 104, 47, 49]⟩, .string B1, .string B2] 9) = V ∧ V.heap[z1.heap.size]? = some (.cells (strRow XS) 9 (0, 0)) ∧ Below z1.heap.size z1 V := ⟨_, rfl, HRW.out _, (Below.refl _ _).alloc (Nat.le_refl _) _⟩
              have HB2 := hide (HB1.out.trans (hb2.mono HB1.out.size))
              have HR2 := hide hr2
              clear hr2 hb2
              go_simp
              try rw [hz2]
              clear hz2
              obtain ⟨bk2, hbk2⟩ : ∃ b, z1.heap.size = b := ⟨_, rfl⟩
              rw [hbk2] at HR2 ⊢
              clear hbk2
              refine hK _ _ ?_
              clear hK K
              try simp only [Act.put, List.setIfInBounds_toArray, List.set_cons_zero, List.set_cons_succ]
              refine wpAnyIn_ready (rs := [8]) (by kernel_rfl) (by simp) ?_
              refine AllReadyIn.cons (o := { dst := some 30, op := Op.call { callee := Callee.value (Operand.func 23), args := #[Operand.tmp 29], argTypes := #[35] }, type := 29, pos := "ssdp.go:12", after := #[{ on := 7, ground := Ground.data }, { on := 2, ground := Ground.chain }], guard := none }) rfl (fun K hK => ?_) ?_
              ·
                go_simp
                refine ⟨trivial, ?_⟩
                refine (callsIn_wide.2 (HMS.out z2 _ HR2.out)).mono ?_
                rintro e z3 ⟨g, cap, m, hm, rfl, htx, hgz, b9⟩
                have htx := And.intro htx (Nat.le_trans HB2.out.size hgz)
                clear hgz
                have HB3 := hide (HB2.out.trans (b9.mono HB2.out.size))
                obtain ⟨a5, c5, w5, hrun, hO5, hacc, hkx, hko⟩ := acc_push HACC.out a n c HO.out HB3.out g m cap _ hm htx HN.out
                have HRUN := hide hrun
                have HO5 := hide hO5
                have HAC := hide (show SAcc w KK OO KK SB cs PP st (pre ++ [x]) _ from ⟨(by rw [HFX.out]; exact hacc), hkx.1 _ _ _ HSB.out⟩)
                have HKX := hide hkx
                have HKO := hide hko
                clear b9 hm htx hrun hO5 hacc hkx hko
                refine hK _ _ ?_
                clear hK K
                try simp only [Act.put, List.setIfInBounds_toArray, List.set_cons_zero, List.set_cons_succ]
                refine wpAnyIn_ready (rs := [9]) (by kernel_rfl) (by simp) ?_
                refine AllReadyIn.cons (o := { dst := some 31, op := Op.buildSlice 32 1 #[(0, Operand.tmp 30)], type := 32, pos := "ssdp.go:12", after := #[{ on := 8, ground := Ground.data }], guard := none }) rfl (fun K hK => ?_) ?_
                ·
                  go_simp
                  refine hK _ _ ?_
                  clear hK K
                  try simp only [Act.put, List.setIfInBounds_toArray, List.set_cons_zero, List.set_cons_succ]
                  refine wpAnyIn_ready (rs := [10]) (by kernel_rfl) (by simp) ?_
                  refine AllReadyIn.cons (o := { dst := some 32, op := Op.call { callee := Callee.builtin Builtin.append, args := #[Operand.tmp 22, Operand.tmp 31], argTypes := #[32, 32] }, type := 32, pos := "ssdp.go:12", after := #[{ on := 0, ground := Ground.data }, { on := 9, ground := Ground.data }, { on := 8, ground := Ground.chain }], guard := none }) rfl (fun K hK => ?_) ?_
                  ·
                    rw [if_pos (by rfl)]
                    refine apIn_run _ _ _ _ rfl _ _ rfl rfl _ _ HRUN.out ?_
                    refine hK _ _ ?_
                    clear hK K
                    try simp only [Act.put, List.setIfInBounds_toArray, List.set_cons_zero, List.set_cons_succ]
                    refine wpAnyIn_ready (rs := [11]) (by kernel_rfl) (by simp) ?_
                    refine AllReadyIn.cons (o := { dst := none, op := Op.store 32 (Operand.tmp 5) (Operand.tmp 32), type := 0, pos := "ssdp.go:12", after := #[{ on := 10, ground := Ground.data }, { on := 10, ground := Ground.chain }, { on := 0, ground := Ground.phase }, { on := 1, ground := Ground.phase }, { on := 2, ground := Ground.phase }, { on := 3, ground := Ground.phase }, { on := 4, ground := Ground.phase }, { on := 5, ground := Ground.phase }, { on := 6, ground := Ground.phase }, { on := 7, ground := Ground.phase }, { on := 8, ground := Ground.phase }, { on := 9, ground := Ground.phase }, { on := 10, ground := Ground.phase }], guard := none }) rfl (fun K hK => ?_) ?_
                    ·
                      have cO := cell_of_one HO5.out
                      have fO := free_of_one HO5.out
                      go_simp
                      clear cO fO
                      refine hK _ _ ?_
                      clear hK K
                      try simp only [Act.put, List.setIfInBounds_toArray, List.set_cons_zero, List.set_cons_succ]
                      refine wpAnyIn_done (by kernel_rfl) ?_ _
                      exact ⟨HKO.out.from _, HKX.out, HAC.out⟩
                    exact AllReadyIn.nil
                  exact AllReadyIn.nil
                exact AllReadyIn.nil
              exact AllReadyIn.nil
            exact AllReadyIn.nil
          exact AllReadyIn.nil
        exact AllReadyIn.nil
      refine AllReadyIn.cons (o := { dst := some 23, op := Op.load 28 (Operand.tmp 2), type := 28, pos := "ssdp.go:12", after := #[], guard := none }) rfl (fun K hK => ?_) ?_
      ·
        rw [if_pos (by rfl)]
        refine ldIn_cfg (.tmp 2) rfl KK rfl cs (below_blk HB0.out HC.out (Nat.le_refl _)) HSZ.out ?_
        refine hK _ _ ?_
        clear hK K
        try simp only [Act.put, List.setIfInBounds_toArray, List.set_cons_zero, List.set_cons_succ]
        refine wpAnyIn_ready (rs := [0, 2]) (by kernel_rfl) (by simp) ?_
        refine AllReadyIn.cons (o := { dst := some 22, op := Op.load 32 (Operand.tmp 5), type := 32, pos := "ssdp.go:12", after := #[], guard := none }) rfl (fun K hK => ?_) ?_
        ·
          have cO := cell_of_one (below_blk HB0.out HO.out (Nat.le_refl _))
          go_simp
          clear cO
          refine hK _ _ ?_
          clear hK K
          try simp only [Act.put, List.setIfInBounds_toArray, List.set_cons_zero, List.set_cons_succ]
          refine wpAnyIn_ready (rs := [2]) (by kernel_rfl) (by simp) ?_
          refine AllReadyIn.cons (o := { dst := some 24, op := Op.call { callee := Callee.value (Operand.func 24), args := #[Operand.tmp 23], argTypes := #[28] }, type := 9, pos := "ssdp.go:12", after := #[{ on := 1, ground := Ground.data }], guard := none }) rfl (fun K hK => ?_) ?_
          ·
            go_simp
            refine ⟨trivial, ?_⟩
            refine (callsIn_wide.2 (HPL.out z0 HB0.out)).mono ?_
            rintro e z4 ⟨rfl, b9⟩
            have HB4 := hide (HB0.out.trans (b9.mono HB0.out.size))
            clear b9
            refine hK _ _ ?_
            clear hK K
            try simp only [Act.put, List.setIfInBounds_toArray, List.set_cons_zero, List.set_cons_succ]
            refine wpAnyIn_ready (rs := [7]) (by kernel_rfl) (by simp) ?_
            refine AllReadyIn.cons (o := { dst := some 29, op := Op.buildSlice 35 7 #[(0, Operand.const (Value.string { data := #[72, 84, 84, 80, 47, 49, 46, 49, 32, 50, 48, 48, 32, 79, 75] })), (1, Operand.const (Value.string { data := #[67, 65, 67, 72, 69, 45, 67, 79, 78, 84, 82, 79, 76, 58, 32, 109, 97, 120, 45, 97, 103, 101, 61, 49, 56, 48, 48] })), (2, Operand.const (Value.string { data := #[69, 88, 84, 58] })), (3, Operand.tmp 24), (4, Operand.const (Value.string { data := #[83, 69, 82, 86, 69, 82, 58, 32, 104, 101, 97, 114, 116, 104, 47, 49, 32, 85, 80, 110, 80, 47, 49, 46, 49, 32, 104, 101, 97, 114, 116, 104, 47, 49] })), (5, Operand.tmp 26), (6, Operand.tmp 28)], type := 35, pos := "ssdp.go:12", after := #[{ on := 2, ground := Ground.data }, { on := 4, ground := Ground.data }, { on := 6, ground := Ground.data }], guard := none }) rfl (fun K hK => ?_) ?_
            ·
              obtain ⟨z5, hz5, hr5, hb5⟩ : ∃ V, z4.alloc (.cells #[.string ⟨#[72, 84, 84, 80, 47, 49, 46, 49, 32, 50, 48, 48, 32, 79, 75]⟩, .string ⟨#[67, 65, 67, 72, 69, 45, 67, 79, 78, 84, 82, 79, 76, 58, 32, 109, 97, 120, 45, 97, 103, 101, 61, 49, 56, 48, 48]⟩, .string ⟨#[69, 88, 84, 58]⟩, .string BP, .string ⟨#[83, 69, 82, 86, 69, 82, 58, 32, 104, 101, 97, 114, 116, 104, 47, 49, 32, 85, 80, 110, 80, 47, 49, 46, 49, 32, 104, 101, 97, 114, 116, 104, 47, 49]⟩, .string B1, .string B2] 9) = V ∧ V.heap[z4.heap.size]? = some (.cells (strRow XS) 9 (0, 0)) ∧ Below z4.heap.size z4 V := ⟨_, rfl, HRW.out _, (Below.refl _ _).alloc (Nat.le_refl _) _⟩
              have HB5 := hide (HB4.out.trans (hb5.mono HB4.out.size))
              have HR5 := hide hr5
              clear hr5 hb5
              go_simp
              try rw [hz5]
              clear hz5
              obtain ⟨bk5, hbk5⟩ : ∃ b, z4.heap.size = b := ⟨_, rfl⟩
              rw [hbk5] at HR5 ⊢
              clear hbk5
              refine hK _ _ ?_
              clear hK K
              try simp only [Act.put, List.setIfInBounds_toArray, List.set_cons_zero, List.set_cons_succ]
              refine wpAnyIn_ready (rs := [8]) (by kernel_rfl) (by simp) ?_
              refine AllReadyIn.cons (o := { dst := some 30, op := Op.call { callee := Callee.value (Operand.func 23), args := #[Operand.tmp 29], argTypes := #[35] }, type := 29, pos := "ssdp.go:12", after := #[{ on := 7, ground := Ground.data }, { on := 2, ground := Ground.chain }], guard := none }) rfl (fun K hK => ?_) ?_
              ·
                go_simp
                refine ⟨trivial, ?_⟩
                refine (callsIn_wide.2 (HMS.out z5 _ HR5.out)).mono ?_
                rintro e z6 ⟨g, cap, m, hm, rfl, htx, hgz, b9⟩
                have htx := And.intro htx (Nat.le_trans HB5.out.size hgz)
                clear hgz
                have HB6 := hide (HB5.out.trans (b9.mono HB5.out.size))
                obtain ⟨a5, c5, w5, hrun, hO5, hacc, hkx, hko⟩ := acc_push HACC.out a n c HO.out HB6.out g m cap _ hm htx HN.out
                have HRUN := hide hrun
                have HO5 := hide hO5
                have HAC := hide (show SAcc w KK OO KK SB cs PP st (pre ++ [x]) _ from ⟨(by rw [HFX.out]; exact hacc), hkx.1 _ _ _ HSB.out⟩)
                have HKX := hide hkx
                have HKO := hide hko
                clear b9 hm htx hrun hO5 hacc hkx hko
                refine hK _ _ ?_
                clear hK K
                try simp only [Act.put, List.setIfInBounds_toArray, List.set_cons_zero, List.set_cons_succ]
                refine wpAnyIn_ready (rs := [9]) (by kernel_rfl) (by simp) ?_
                refine AllReadyIn.cons (o := { dst := some 31, op := Op.buildSlice 32 1 #[(0, Operand.tmp 30)], type := 32, pos := "ssdp.go:12", after := #[{ on := 8, ground := Ground.data }], guard := none }) rfl (fun K hK => ?_) ?_
                ·
                  go_simp
                  refine hK _ _ ?_
                  clear hK K
                  try simp only [Act.put, List.setIfInBounds_toArray, List.set_cons_zero, List.set_cons_succ]
                  refine wpAnyIn_ready (rs := [10]) (by kernel_rfl) (by simp) ?_
                  refine AllReadyIn.cons (o := { dst := some 32, op := Op.call { callee := Callee.builtin Builtin.append, args := #[Operand.tmp 22, Operand.tmp 31], argTypes := #[32, 32] }, type := 32, pos := "ssdp.go:12", after := #[{ on := 0, ground := Ground.data }, { on := 9, ground := Ground.data }, { on := 8, ground := Ground.chain }], guard := none }) rfl (fun K hK => ?_) ?_
                  ·
                    rw [if_pos (by rfl)]
                    refine apIn_run _ _ _ _ rfl _ _ rfl rfl _ _ HRUN.out ?_
                    refine hK _ _ ?_
                    clear hK K
                    try simp only [Act.put, List.setIfInBounds_toArray, List.set_cons_zero, List.set_cons_succ]
                    refine wpAnyIn_ready (rs := [11]) (by kernel_rfl) (by simp) ?_
                    refine AllReadyIn.cons (o := { dst := none, op := Op.store 32 (Operand.tmp 5) (Operand.tmp 32), type := 0, pos := "ssdp.go:12", after := #[{ on := 10, ground := Ground.data }, { on := 10, ground := Ground.chain }, { on := 0, ground := Ground.phase }, { on := 1, ground := Ground.phase }, { on := 2, ground := Ground.phase }, { on := 3, ground := Ground.phase }, { on := 4, ground := Ground.phase }, { on := 5, ground := Ground.phase }, { on := 6, ground := Ground.phase }, { on := 7, ground := Ground.phase }, { on := 8, ground := Ground.phase }, { on := 9, ground := Ground.phase }, { on := 10, ground := Ground.phase }], guard := none }) rfl (fun K hK => ?_) ?_
                    ·
                      have cO := cell_of_one HO5.out
                      have fO := free_of_one HO5.out
                      go_simp
                      clear cO fO
                      refine hK _ _ ?_
                      clear hK K
                      try simp only [Act.put, List.setIfInBounds_toArray, List.set_cons_zero, List.set_cons_succ]
                      refine wpAnyIn_done (by kernel_rfl) ?_ _
                      exact ⟨HKO.out.from _, HKX.out, HAC.out⟩
                    exact AllReadyIn.nil
                  exact AllReadyIn.nil
                exact AllReadyIn.nil
              exact AllReadyIn.nil
            exact AllReadyIn.nil
          exact AllReadyIn.nil
        refine AllReadyIn.cons (o := { dst := some 24, op := Op.call { callee := Callee.value (Operand.func 24), args := #[Operand.tmp 23], argTypes := #[28] }, type := 9, pos := "ssdp.go:12", after := #[{ on := 1, ground := Ground.data }], guard := none }) rfl (fun K hK => ?_) ?_
        ·
          go_simp
          refine ⟨trivial, ?_⟩
          refine (callsIn_wide.2 (HPL.out z0 HB0.out)).mono ?_
          rintro e z7 ⟨rfl, b9⟩
          have HB7 := hide (HB0.out.trans (b9.mono HB0.out.size))
          clear b9
          refine hK _ _ ?_
          clear hK K
          try simp only [Act.put, List.setIfInBounds_toArray, List.set_cons_zero, List.set_cons_succ]
          refine wpAnyIn_ready (rs := [0, 7]) (by kernel_rfl) (by simp) ?_
          refine AllReadyIn.cons (o := { dst := some 22, op := Op.load 32 (Operand.tmp 5), type := 32, pos := "ssdp.go:12", after := #[], guard := none }) rfl (fun K hK => ?_) ?_
          ·
            have cO := cell_of_one (below_blk HB7.out HO.out (Nat.le_refl _))
            go_simp
            clear cO
            refine hK _ _ ?_
            clear hK K
            try simp only [Act.put, List.setIfInBounds_toArray, List.set_cons_zero, List.set_cons_succ]
            refine wpAnyIn_ready (rs := [7]) (by kernel_rfl) (by simp) ?_
            refine AllReadyIn.cons (o := { dst := some 29, op := Op.buildSlice 35 7 #[(0, Operand.const (Value.string { data := #[72, 84, 84, 80, 47, 49, 46, 49, 32, 50, 48, 48, 32, 79, 75] })), (1, Operand.const (Value.string { data := #[67, 65, 67, 72, 69, 45, 67, 79, 78, 84, 82, 79, 76, 58, 32, 109, 97, 120, 45, 97, 103, 101, 61, 49, 56, 48, 48] })), (2, Operand.const (Value.string { data := #[69, 88, 84, 58] })), (3, Operand.tmp 24), (4, Operand.const (Value.string { data := #[83, 69, 82, 86, 69, 82, 58, 32, 104, 101, 97, 114, 116, 104, 47, 49, 32, 85, 80, 110, 80, 47, 49, 46, 49, 32, 104, 101, 97, 114, 116, 104, 47, 49] })), (5, Operand.tmp 26), (6, Operand.tmp 28)], type := 35, pos := "ssdp.go:12", after := #[{ on := 2, ground := Ground.data }, { on := 4, ground := Ground.data }, { on := 6, ground := Ground.data }], guard := none }) rfl (fun K hK => ?_) ?_
            ·
              obtain ⟨z8, hz8, hr8, hb8⟩ : ∃ V, z7.alloc (.cells #[.string ⟨#[72, 84, 84, 80, 47, 49, 46, 49, 32, 50, 48, 48, 32, 79, 75]⟩, .string ⟨#[67, 65, 67, 72, 69, 45, 67, 79, 78, 84, 82, 79, 76, 58, 32, 109, 97, 120, 45, 97, 103, 101, 61, 49, 56, 48, 48]⟩, .string ⟨#[69, 88, 84, 58]⟩, .string BP, .string ⟨#[83, 69, 82, 86, 69, 82, 58, 32, 104, 101, 97, 114, 116, 104, 47, 49, 32, 85, 80, 110, 80, 47, 49, 46, 49, 32, 104, 101, 97, 114, 116, 104, 47, 49]⟩, .string B1, .string B2] 9) = V ∧ V.heap[z7.heap.size]? = some (.cells (strRow XS) 9 (0, 0)) ∧ Below z7.heap.size z7 V := ⟨_, rfl, HRW.out _, (Below.refl _ _).alloc (Nat.le_refl _) _⟩
              have HB8 := hide (HB7.out.trans (hb8.mono HB7.out.size))
              have HR8 := hide hr8
              clear hr8 hb8
              go_simp
              try rw [hz8]
              clear hz8
              obtain ⟨bk8, hbk8⟩ : ∃ b, z7.heap.size = b := ⟨_, rfl⟩
              rw [hbk8] at HR8 ⊢
              clear hbk8
              refine hK _ _ ?_
              clear hK K
              try simp only [Act.put, List.setIfInBounds_toArray, List.set_cons_zero, List.set_cons_succ]
              refine wpAnyIn_ready (rs := [8]) (by kernel_rfl) (by simp) ?_
              refine AllReadyIn.cons (o := { dst := some 30, op := Op.call { callee := Callee.value (Operand.func 23), args := #[Operand.tmp 29], argTypes := #[35] }, type := 29, pos := "ssdp.go:12", after := #[{ on := 7, ground := Ground.data }, { on := 2, ground := Ground.chain }], guard := none }) rfl (fun K hK => ?_) ?_
              ·
                go_simp
                refine ⟨trivial, ?_⟩
                refine (callsIn_wide.2 (HMS.out z8 _ HR8.out)).mono ?_
                rintro e z9 ⟨g, cap, m, hm, rfl, htx, hgz, b9⟩
                have htx := And.intro htx (Nat.le_trans HB8.out.size hgz)
                clear hgz
                have HB9 := hide (HB8.out.trans (b9.mono HB8.out.size))
                obtain ⟨a5, c5, w5, hrun, hO5, hacc, hkx, hko⟩ := acc_push HACC.out a n c HO.out HB9.out g m cap _ hm htx HN.out
                have HRUN := hide hrun
                have HO5 := hide hO5
                have HAC := hide (show SAcc w KK OO KK SB cs PP st (pre ++ [x]) _ from ⟨(by rw [HFX.out]; exact hacc), hkx.1 _ _ _ HSB.out⟩)
                have HKX := hide hkx
                have HKO := hide hko
                clear b9 hm htx hrun hO5 hacc hkx hko
                refine hK _ _ ?_
                clear hK K
                try simp only [Act.put, List.setIfInBounds_toArray, List.set_cons_zero, List.set_cons_succ]
                refine wpAnyIn_ready (rs := [9]) (by kernel_rfl) (by simp) ?_
                refine AllReadyIn.cons (o := { dst := some 31, op := Op.buildSlice 32 1 #[(0, Operand.tmp 30)], type := 32, pos := "ssdp.go:12", after := #[{ on := 8, ground := Ground.data }], guard := none }) rfl (fun K hK => ?_) ?_
                ·
                  go_simp
                  refine hK _ _ ?_
                  clear hK K
                  try simp only [Act.put, List.setIfInBounds_toArray, List.set_cons_zero, List.set_cons_succ]
                  refine wpAnyIn_ready (rs := [10]) (by kernel_rfl) (by simp) ?_
                  refine AllReadyIn.cons (o := { dst := some 32, op := Op.call { callee := Callee.builtin Builtin.append, args := #[Operand.tmp 22, Operand.tmp 31], argTypes := #[32, 32] }, type := 32, pos := "ssdp.go:12", after := #[{ on := 0, ground := Ground.data }, { on := 9, ground := Ground.data }, { on := 8, ground := Ground.chain }], guard := none }) rfl (fun K hK => ?_) ?_
                  ·
                    rw [if_pos (by rfl)]
                    refine apIn_run _ _ _ _ rfl _ _ rfl rfl _ _ HRUN.out ?_
                    refine hK _ _ ?_
                    clear hK K
                    try simp only [Act.put, List.setIfInBounds_toArray, List.set_cons_zero, List.set_cons_succ]
                    refine wpAnyIn_ready (rs := [11]) (by kernel_rfl) (by simp) ?_
                    refine AllReadyIn.cons (o := { dst := none, op := Op.store 32 (Operand.tmp 5) (Operand.tmp 32), type := 0, pos := "ssdp.go:12", after := #[{ on := 10, ground := Ground.data }, { on := 10, ground := Ground.chain }, { on := 0, ground := Ground.phase }, { on := 1, ground := Ground.phase }, { on := 2, ground := Ground.phase }, { on := 3, ground := Ground.phase }, { on := 4, ground := Ground.phase }, { on := 5, ground := Ground.phase }, { on := 6, ground := Ground.phase }, { on := 7, ground := Ground.phase }, { on := 8, ground := Ground.phase }, { on := 9, ground := Ground.phase }, { on := 10, ground := Ground.phase }], guard := none }) rfl (fun K hK => ?_) ?_
                    ·
                      have cO := cell_of_one HO5.out
                      have fO := free_of_one HO5.out
                      go_simp
                      clear cO fO
                      refine hK _ _ ?_
                      clear hK K
                      try simp only [Act.put, List.setIfInBounds_toArray, List.set_cons_zero, List.set_cons_succ]
                      refine wpAnyIn_done (by kernel_rfl) ?_ _
                      exact ⟨HKO.out.from _, HKX.out, HAC.out⟩
                    exact AllReadyIn.nil
                  exact AllReadyIn.nil
                exact AllReadyIn.nil
              exact AllReadyIn.nil
            exact AllReadyIn.nil
          refine AllReadyIn.cons (o := { dst := some 29, op := Op.buildSlice 35 7 #[(0, Operand.const (Value.string { data := #[72, 84, 84, 80, 47, 49, 46, 49, 32, 50, 48, 48, 32, 79, 75] })), (1, Operand.const (Value.string { data := #[67, 65, 67, 72, 69, 45, 67, 79, 78, 84, 82, 79, 76, 58, 32, 109, 97, 120, 45, 97, 103, 101, 61, 49, 56, 48, 48] })), (2, Operand.const (Value.string { data := #[69, 88, 84, 58] })), (3, Operand.tmp 24), (4, Operand.const (Value.string { data := #[83, 69, 82, 86, 69, 82, 58, 32, 104, 101, 97, 114, 116, 104, 47, 49, 32, 85, 80, 110, 80, 47, 49, 46, 49, 32, 104, 101, 97, 114, 116, 104, 47, 49] })), (5, Operand.tmp 26), (6, Operand.tmp 28)], type := 35, pos := "ssdp.go:12", after := #[{ on := 2, ground := Ground.data }, { on := 4, ground := Ground.data }, { on := 6, ground := Ground.data }], guard := none }) rfl (fun K hK => ?_) ?_
          ·
            obtain ⟨z10, hz10, hr10, hb10⟩ : ∃ V, z7.alloc (.cells #[.string ⟨#[72, 84, 84, 80, 47, 49, 46, 49, 32, 50, 48, 48, 32, 79, 75]⟩, .string ⟨#[67, 65, 67, 72, 69, 45, 67, 79, 78, 84, 82, 79, 76, 58, 32, 109, 97, 120, 45, 97, 103, 101, 61, 49, 56, 48, 48]⟩, .string ⟨#[69, 88, 84, 58]⟩, .string BP, .string ⟨#[83, 69, 82, 86, 69, 82, 58, 32, 104, 101, 97, 114, 116, 104, 47, 49, 32, 85, 80, 110, 80, 47, 49, 46, 49, 32, 104, 101, 97, 114, 116, 104, 47, 49]⟩, .string B1, .string B2] 9) = V ∧ V.heap[z7.heap.size]? = some (.cells (strRow XS) 9 (0, 0)) ∧ Below z7.heap.size z7 V := ⟨_, rfl, HRW.out _, (Below.refl _ _).alloc (Nat.le_refl _) _⟩
            have HB10 := hide (HB7.out.trans (hb10.mono HB7.out.size))
            have HR10 := hide hr10
            clear hr10 hb10
            go_simp
            try rw [hz10]
            clear hz10
            obtain ⟨bk10, hbk10⟩ : ∃ b, z7.heap.size = b := ⟨_, rfl⟩
            rw [hbk10] at HR10 ⊢
            clear hbk10
            refine hK _ _ ?_
            clear hK K
            try simp only [Act.put, List.setIfInBounds_toArray, List.set_cons_zero, List.set_cons_succ]
            refine wpAnyIn_ready (rs := [0, 8]) (by kernel_rfl) (by simp) ?_
            refine AllReadyIn.cons (o := { dst := some 22, op := Op.load 32 (Operand.tmp 5), type := 32, pos := "ssdp.go:12", after := #[], guard := none }) rfl (fun K hK => ?_) ?_
            ·
              have cO := cell_of_one (below_blk HB10.out HO.out (Nat.le_refl _))
              go_simp
              clear cO
              refine hK _ _ ?_
              clear hK K
              try simp only [Act.put, List.setIfInBounds_toArray, List.set_cons_zero, List.set_cons_succ]
              refine wpAnyIn_ready (rs := [8]) (by kernel_rfl) (by simp) ?_
              refine AllReadyIn.cons (o := { dst := some 30, op := Op.call { callee := Callee.value (Operand.func 23), args := #[Operand.tmp 29], argTypes := #[35] }, type := 29, pos := "ssdp.go:12", after := #[{ on := 7, ground := Ground.data }, { on := 2, ground := Ground.chain }], guard := none }) rfl (fun K hK => ?_) ?_
              ·
                go_simp
                refine ⟨trivial, ?_⟩
                refine (callsIn_wide.2 (HMS.out z10 _ HR10.out)).mono ?_
                rintro e z11 ⟨g, cap, m, hm, rfl, htx, hgz, b9⟩
                have htx := And.intro htx (Nat.le_trans HB10.out.size hgz)
                clear hgz
                have HB11 := hide (HB10.out.trans (b9.mono HB10.out.size))
                obtain ⟨a5, c5, w5, hrun, hO5, hacc, hkx, hko⟩ := acc_push HACC.out a n c HO.out HB11.out g m cap _ hm htx HN.out
                have HRUN := hide hrun
                have HO5 := hide hO5
                have HAC := hide (show SAcc w KK OO KK SB cs PP st (pre ++ [x]) _ from ⟨(by rw [HFX.out]; exact hacc), hkx.1 _ _ _ HSB.out⟩)
                have HKX := hide hkx
                have HKO := hide hko
                clear b9 hm htx hrun hO5 hacc hkx hko
                refine hK _ _ ?_
                clear hK K
                try simp only [Act.put, List.setIfInBounds_toArray, List.set_cons_zero, List.set_cons_succ]
                refine wpAnyIn_ready (rs := [9]) (by kernel_rfl) (by simp) ?_
                refine AllReadyIn.cons (o := { dst := some 31, op := Op.buildSlice 32 1 #[(0, Operand.tmp 30)], type := 32, pos := "ssdp.go:12", after := #[{ on := 8, ground := Ground.data }], guard := none }) rfl (fun K hK => ?_) ?_
                ·
                  go_simp
                  refine hK _ _ ?_
                  clear hK K
                  try simp only [Act.put, List.setIfInBounds_toArray, List.set_cons_zero, List.set_cons_succ]
                  refine wpAnyIn_ready (rs := [10]) (by kernel_rfl) (by simp) ?_
                  refine AllReadyIn.cons (o := { dst := some 32, op := Op.call { callee := Callee.builtin Builtin.append, args := #[Operand.tmp 22, Operand.tmp 31], argTypes := #[32, 32] }, type := 32, pos := "ssdp.go:12", after := #[{ on := 0, ground := Ground.data }, { on := 9, ground := Ground.data }, { on := 8, ground := Ground.chain }], guard := none }) rfl (fun K hK => ?_) ?_
                  ·
                    rw [if_pos (by rfl)]
                    refine apIn_run _ _ _ _ rfl _ _ rfl rfl _ _ HRUN.out ?_
                    refine hK _ _ ?_
                    clear hK K
                    try simp only [Act.put, List.setIfInBounds_toArray, List.set_cons_zero, List.set_cons_succ]
                    refine wpAnyIn_ready (rs := [11]) (by kernel_rfl) (by simp) ?_
                    refine AllReadyIn.cons (o := { dst := none, op := Op.store 32 (Operand.tmp 5) (Operand.tmp 32), type := 0, pos := "ssdp.go:12", after := #[{ on := 10, ground := Ground.data }, { on := 10, ground := Ground.chain }, { on := 0, ground := Ground.phase }, { on := 1, ground := Ground.phase }, { on := 2, ground := Ground.phase }, { on := 3, ground := Ground.phase }, { on := 4, ground := Ground.phase }, { on := 5, ground := Ground.phase }, { on := 6, ground := Ground.phase }, { on := 7, ground := Ground.phase }, { on := 8, ground := Ground.phase }, { on := 9, ground := Ground.phase }, { on := 10, ground := Ground.phase }], guard := none }) rfl (fun K hK => ?_) ?_
                    ·
                      have cO := cell_of_one HO5.out
                      have fO := free_of_one HO5.out
                      go_simp
                      clear cO fO
                      refine hK _ _ ?_
                      clear hK K
                      try simp only [Act.put, List.setIfInBounds_toArray, List.set_cons_zero, List.set_cons_succ]
                      refine wpAnyIn_done (by kernel_rfl) ?_ _
                      exact ⟨HKO.out.from _, HKX.out, HAC.out⟩
                    exact AllReadyIn.nil
                  exact AllReadyIn.nil
                exact AllReadyIn.nil
              exact AllReadyIn.nil
            refine AllReadyIn.cons (o := { dst := some 30, op := Op.call { callee := Callee.value (Operand.func 23), args := #[Operand.tmp 29], argTypes := #[35] }, type := 29, pos := "ssdp.go:12", after := #[{ on := 7, ground := Ground.data }, { on := 2, ground := Ground.chain }], guard := none }) rfl (fun K hK => ?_) ?_
            ·
              go_simp
              refine ⟨trivial, ?_⟩
              refine (callsIn_wide.2 (HMS.out z10 _ HR10.out)).mono ?_
              rintro e z12 ⟨g, cap, m, hm, rfl, htx, hgz, b9⟩
              have htx := And.intro htx (Nat.le_trans HB10.out.size hgz)
              clear hgz
              have HB12 := hide (HB10.out.trans (b9.mono HB10.out.size))
              obtain ⟨a5, c5, w5, hrun, hO5, hacc, hkx, hko⟩ := acc_push HACC.out a n c HO.out HB12.out g m cap _ hm htx HN.out
              have HRUN := hide hrun
              have HO5 := hide hO5
              have HAC := hide (show SAcc w KK OO KK SB cs PP st (pre ++ [x]) _ from ⟨(by rw [HFX.out]; exact hacc), hkx.1 _ _ _ HSB.out⟩)
              have HKX := hide hkx
              have HKO := hide hko
              clear b9 hm htx hrun hO5 hacc hkx hko
              refine hK _ _ ?_
              clear hK K
              try simp only [Act.put, List.setIfInBounds_toArray, List.set_cons_zero, List.set_cons_succ]
              refine wpAnyIn_ready (rs := [0, 9]) (by kernel_rfl) (by simp) ?_
              refine AllReadyIn.cons (o := { dst := some 22, op := Op.load 32 (Operand.tmp 5), type := 32, pos := "ssdp.go:12", after := #[], guard := none }) rfl (fun K hK => ?_) ?_
              ·
                have cO := cell_of_one (below_blk HB12.out HO.out (Nat.le_refl _))
                go_simp
                clear cO
                refine hK _ _ ?_
                clear hK K
                try simp only [Act.put, List.setIfInBounds_toArray, List.set_cons_zero, List.set_cons_succ]
                refine wpAnyIn_ready (rs := [9]) (by kernel_rfl) (by simp) ?_
                refine AllReadyIn.cons (o := { dst := some 31, op := Op.buildSlice 32 1 #[(0, Operand.tmp 30)], type := 32, pos := "ssdp.go:12", after := #[{ on := 8, ground := Ground.data }], guard := none }) rfl (fun K hK => ?_) ?_
                ·
                  go_simp
                  refine hK _ _ ?_
                  clear hK K
                  try simp only [Act.put, List.setIfInBounds_toArray, List.set_cons_zero, List.set_cons_succ]
                  refine wpAnyIn_ready (rs := [10]) (by kernel_rfl) (by simp) ?_
                  refine AllReadyIn.cons (o := { dst := some 32, op := Op.call { callee := Callee.builtin Builtin.append, args := #[Operand.tmp 22, Operand.tmp 31], argTypes := #[32, 32] }, type := 32, pos := "ssdp.go:12", after := #[{ on := 0, ground := Ground.data }, { on := 9, ground := Ground.data }, { on := 8, ground := Ground.chain }], guard := none }) rfl (fun K hK => ?_) ?_
                  ·
                    rw [if_pos (by rfl)]
                    refine apIn_run _ _ _ _ rfl _ _ rfl rfl _ _ HRUN.out ?_
                    refine hK _ _ ?_
                    clear hK K
                    try simp only [Act.put, List.setIfInBounds_toArray, List.set_cons_zero, List.set_cons_succ]
                    refine wpAnyIn_ready (rs := [11]) (by kernel_rfl) (by simp) ?_
                    refine AllReadyIn.cons (o := { dst := none, op := Op.store 32 (Operand.tmp 5) (Operand.tmp 32), type := 0, pos := "ssdp.go:12", after := #[{ on := 10, ground := Ground.data }, { on := 10, ground := Ground.chain }, { on := 0, ground := Ground.phase }, { on := 1, ground := Ground.phase }, { on := 2, ground := Ground.phase }, { on := 3, ground := Ground.phase }, { on := 4, ground := Ground.phase }, { on := 5, ground := Ground.phase }, { on := 6, ground := Ground.phase }, { on := 7, ground := Ground.phase }, { on := 8, ground := Ground.phase }, { on := 9, ground := Ground.phase }, { on := 10, ground := Ground.phase }], guard := none }) rfl (fun K hK => ?_) ?_
                    ·
                      have cO := cell_of_one HO5.out
                      have fO := free_of_one HO5.out
                      go_simp
                      clear cO fO
                      refine hK _ _ ?_
                      clear hK K
                      try simp only [Act.put, List.setIfInBounds_toArray, List.set_cons_zero, List.set_cons_succ]
                      refine wpAnyIn_done (by kernel_rfl) ?_ _
                      exact ⟨HKO.out.from _, HKX.out, HAC.out⟩
                    exact AllReadyIn.nil
                  exact AllReadyIn.nil
                exact AllReadyIn.nil
              refine AllReadyIn.cons (o := { dst := some 31, op := Op.buildSlice 32 1 #[(0, Operand.tmp 30)], type := 32, pos := "ssdp.go:12", after := #[{ on := 8, ground := Ground.data }], guard := none }) rfl (fun K hK => ?_) ?_
              ·
                go_simp
                refine hK _ _ ?_
                clear hK K
                try simp only [Act.put, List.setIfInBounds_toArray, List.set_cons_zero, List.set_cons_succ]
                refine wpAnyIn_ready (rs := [0]) (by kernel_rfl) (by simp) ?_
                refine AllReadyIn.cons (o := { dst := some 22, op := Op.load 32 (Operand.tmp 5), type := 32, pos := "ssdp.go:12", after := #[], guard := none }) rfl (fun K hK => ?_) ?_
                ·
                  have cO := cell_of_one (below_blk ((Below.refl _ z12).alloc (Nat.le_refl _) (.cells #[.slice (some ⟨g, 0, none⟩) m cap] 29)) (below_blk HB12.out HO.out (Nat.le_refl _)) (Nat.le_refl _))
                  go_simp
                  clear cO
                  refine hK _ _ ?_
                  clear hK K
                  try simp only [Act.put, List.setIfInBounds_toArray, List.set_cons_zero, List.set_cons_succ]
                  refine wpAnyIn_ready (rs := [10]) (by kernel_rfl) (by simp) ?_
                  refine AllReadyIn.cons (o := { dst := some 32, op := Op.call { callee := Callee.builtin Builtin.append, args := #[Operand.tmp 22, Operand.tmp 31], argTypes := #[32, 32] }, type := 32, pos := "ssdp.go:12", after := #[{ on := 0, ground := Ground.data }, { on := 9, ground := Ground.data }, { on := 8, ground := Ground.chain }], guard := none }) rfl (fun K hK => ?_) ?_
                  ·
                    rw [if_pos (by rfl)]
                    refine apIn_run _ _ _ _ rfl _ _ rfl rfl _ _ HRUN.out ?_
                    refine hK _ _ ?_
                    clear hK K
                    try simp only [Act.put, List.setIfInBounds_toArray, List.set_cons_zero, List.set_cons_succ]
                    refine wpAnyIn_ready (rs := [11]) (by kernel_rfl) (by simp) ?_
                    refine AllReadyIn.cons (o := { dst := none, op := Op.store 32 (Operand.tmp 5) (Operand.tmp 32), type := 0, pos := "ssdp.go:12", after := #[{ on := 10, ground := Ground.data }, { on := 10, ground := Ground.chain }, { on := 0, ground := Ground.phase }, { on := 1, ground := Ground.phase }, { on := 2, ground := Ground.phase }, { on := 3, ground := Ground.phase }, { on := 4, ground := Ground.phase }, { on := 5, ground := Ground.phase }, { on := 6, ground := Ground.phase }, { on := 7, ground := Ground.phase }, { on := 8, ground := Ground.phase }, { on := 9, ground := Ground.phase }, { on := 10, ground := Ground.phase }], guard := none }) rfl (fun K hK => ?_) ?_
                    ·
                      have cO := cell_of_one HO5.out
                      have fO := free_of_one HO5.out
                      go_simp
                      clear cO fO
                      refine hK _ _ ?_
                      clear hK K
                      try simp only [Act.put, List.setIfInBounds_toArray, List.set_cons_zero, List.set_cons_succ]
                      refine wpAnyIn_done (by kernel_rfl) ?_ _
                      exact ⟨HKO.out.from _, HKX.out, HAC.out⟩
                    exact AllReadyIn.nil
                  exact AllReadyIn.nil
                exact AllReadyIn.nil
              exact AllReadyIn.nil
            exact AllReadyIn.nil
          exact AllReadyIn.nil
        exact AllReadyIn.nil
      exact AllReadyIn.nil
    | false =>
      have HFX := hide (HFN.out HSEL.out)
      gi_wp2_with fail
      exact ⟨(KeepsOthers.refl _).from _, ⟨fun _ _ _ h => h, fun _ _ _ h => h, fun _ _ _ h => h⟩, ⟨by rw [HFX.out]; exact HACC.out, HSB.out⟩⟩
  case done =>
    rintro D ys W hD rfl hacc hKD
    obtain ⟨a, n, c, hO, han⟩ := hacc.acc.box
    have cO := cell_of_one hO
    have HAN := hide (show AnsAt W w.heap.size a n c (searchL PP o st) ∧ Below w.heap.size w W from by rw [HK0.out.1, ← selX_all PP o st HOL.out]; exact ⟨han, hacc.acc.below⟩)
    have HD := hide hD
    have HKD := hide hKD
    clear han hO hacc hD hKD
    gi_wp2
    refine ⟨by simp, .inl ⟨_, _, rfl, run_takeDeferred HKD.out, ?_⟩⟩
    exact ⟨_, results_tmp rfl _ _ _, _, _, _, rfl, HAN.out.1.kt (kt_b W D _ _ HKD.out rfl) (kt_b W D _ _ HKD.out rfl), HAN.out.2.trans (belowK_b (w := w2) HW2.out.size W D _ _ HD.out HKD.out rfl rfl)⟩
  case stop =>
    rintro D c pre W _ _ h _
    exact h.elim
end Go.Proofs.YtonoaopioifedaaGreatDoor
