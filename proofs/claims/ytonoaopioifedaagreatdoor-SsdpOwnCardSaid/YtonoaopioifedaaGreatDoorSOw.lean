/- Ssdp: a search for one of the device's names. -/
import Derived.Test.YtonoaopioifedaaGreatDoorSTe
import Derived.Test.YtonoaopioifedaaGreatDoorCCheckR
namespace Go.Proofs.YtonoaopioifedaaGreatDoor
open Go.RowKit Go.Shelf Go.Deep
set_option linter.unusedVariables false
set_option linter.unusedSimpArgs false
set_option maxRecDepth 100000
theorem hex_tgt (i : Nat) (b : UInt8) (h : okAt i b.toNat = true) : H.tgtB b = true := by
  unfold okAt at h
  unfold H.tgtB
  split at h
  · have := beq_iff_eq.1 h
    simp; omega
  · unfold hexB at h
    simp only [Bool.or_eq_true, Bool.and_eq_true, decide_eq_true_eq] at h
    simp; omega
theorem uuid_tgt (s : ByteArray) (h : uuidB s = true) : s.data.toList.length = 36 ∧ ∀ b ∈ s.data.toList, H.tgtB b = true := by
  unfold uuidB at h
  rw [Bool.and_eq_true] at h
  have hs : s.size = 36 := beq_iff_eq.1 h.1
  have hl : s.data.toList.length = 36 := (Lib.size_eq s).symm.trans hs
  refine ⟨hl, fun b hb => ?_⟩
  obtain ⟨i, hi, e⟩ := List.mem_iff_getElem.1 hb
  have h2 := List.all_eq_true.1 h.2 i (by rw [List.mem_range]; omega)
  have e2 : s.get! i = b := by
    rw [get_bang s i (by omega), ← e]
    simp [ByteArray.getElem_eq_getElem_data]
  rw [e2] at h2
  exact hex_tgt i b h2
theorem check_uuid (c : Cfg) (fs : List Fwd) (h : checkB c fs = true) : uuidB c.uuid = true := by
  unfold checkB at h
  rw [Bool.and_eq_true] at h
  exact h.2
theorem own_tgt (u : List UInt8) (hu : ∀ b ∈ u, H.tgtB b = true) : ∀ y ∈ nmsL (sUu ++ u), ∀ b ∈ y, H.tgtB b = true := by
  intro y hy
  unfold nmsL at hy
  simp only [List.mem_cons, List.not_mem_nil, or_false] at hy
  rcases hy with rfl | rfl | rfl | rfl | rfl | rfl
  · exact root_tgt
  · intro b hb
    rcases List.mem_append.1 hb with hb | hb
    · exact (by decide +kernel : ∀ b ∈ sUu, H.tgtB b = true) b hb
    · exact hu b hb
  all_goals decide +kernel
/-- How often a text is one of the names, or all of them are asked for. -/
def wantL (o st : List UInt8) : Nat := ((nmsL o).filter fun y => decide (st = y) || decide (st = sAll)).length
theorem search_len (p o st : List UInt8) : (searchL p o st).length = wantL o st := by
  unfold searchL wantL namesL
  rw [List.length_map]
  generalize nmsL o = xs
  induction xs with
  | nil => rfl
  | cons y r ih =>
    rw [List.map_cons, List.filter_cons, List.filter_cons]
    have e : sel st (y, unL o y) = (decide (st = y) || decide (st = sAll)) := rfl
    rw [e]
    cases (decide (st = y) || decide (st = sAll))
    · rw [if_neg (by decide), if_neg (by decide)]; exact ih
    · rw [if_pos rfl, if_pos rfl, List.length_cons, List.length_cons, ih]
theorem want_own (u : List UInt8) (k : Nat) (y : List UInt8) (h : (nmsL (sUu ++ u))[k]? = some y) : wantL (sUu ++ u) y = 1 := by
  have hk : k < 6 := (List.getElem?_eq_some_iff.1 h).1
  have hne : ∀ z : List UInt8, z.take 2 ≠ [117, 117] → (decide (z = sUu ++ u) = false ∧ decide (sUu ++ u = z) = false) := fun z hz => ⟨decide_eq_false fun e => hz (by rw [e]; rfl), decide_eq_false fun e => hz (by rw [← e]; rfl)⟩
  have r0 := hne sRoot (by decide)
  have r1 := hne sGw1 (by decide)
  have r2 := hne sGw2 (by decide)
  have r3 := hne sSv1 (by decide)
  have r4 := hne sSv2 (by decide)
  have r5 := hne sAll (by decide)
  unfold wantL nmsL at *
  match k, hk with
  | 0, _ | 1, _ | 2, _ | 3, _ | 4, _ | 5, _ =>
    injection h with h
    subst h
    simp only [List.filter_cons, List.filter_nil, r0.1, r0.2, r1.1, r1.2, r2.1, r2.2, r3.1, r3.2, r4.1, r4.2, r5.1, r5.2, decide_true, Bool.or_false, Bool.false_or, Bool.true_or, Bool.or_true]
    first | rfl | (simp; done) | decide
theorem and255i (n : Int) : bits .and .i64 n 255 = n % 256 := by
  have h8 : (BitVec.ofInt 64 255).toNat = 2 ^ 8 - 1 := by decide
  show IntKind.i64.wrap (((BitVec.ofInt 64 n &&& BitVec.ofInt 64 255).toNat : Nat) : Int) = n % 256
  rw [BitVec.toNat_and, BitVec.toNat_ofInt, h8, Nat.and_two_pow_sub_one_eq_mod, IntKind.wrap_i64]
  omega
def cntB (ot : List UInt8) (xs : List (List UInt8)) : Nat := (xs.filter fun y => decide (ot = y) || decide (ot = sAll)).length
theorem cnt_snoc (ot : List UInt8) (xs : List (List UInt8)) (y : List UInt8) : cntB ot (xs ++ [y]) = cntB ot xs + (if (decide (ot = y) || decide (ot = sAll)) = true then 1 else 0) := by
  unfold cntB
  rw [List.filter_append, List.length_append, List.filter_cons]
  cases (decide (ot = y) || decide (ot = sAll)) <;> rfl
set_option maxHeartbeats 8000000 in
theorem ssdpOwn_any (c : Cfg) (fa : Option Addr) (fn fc : Nat) (fs : List Fwd) (other : ByteArray) (which : Int) (w : World) (hp : PT w) (hE : H.Env w) (hco : CfOk c) (hfl : fs.length = fn) (hfw : FwAt w fa fs) (hff : ∀ f ∈ fs, FwOk f) (hfn : fn ≤ 9223372036854775807) (hfm : fn ≤ fc) (hos : other.size ≤ 9223372036854775807) :
    Calls Tryz.prog 5 #[.agg (c.cells fa fn fc), .string other, .int .i64 which] w fun e w' => e = .returned (.bool true) ∧ Below w.heap.size w w' := by
  have hcf := cfg_cfs c fa fn fc
  have hca := Cfg.cfA c fa fn fc
  obtain ⟨u, hu⟩ : ∃ u, c.uuid.data.toList = u := ⟨_, rfl⟩
  have huu : checkB c fs = true → u.length = 36 ∧ ∀ b ∈ u, H.tgtB b = true := fun h => hu ▸ uuid_tgt c.uuid (check_uuid c fs h)
  rw [hu] at hcf
  have hlan := hco.lan
  obtain ⟨ad, had⟩ : ∃ u, c.lan = u := ⟨_, rfl⟩
  rw [had] at hcf hlan
  obtain ⟨cs, hcs⟩ : ∃ cs, c.cells fa fn fc = cs := ⟨_, rfl⟩
  rw [hcs] at hcf hca ⊢
  have HCF := hide hcf
  have HSZ := hide hcf.size
  have HLA := hide hlan
  have HUU := hide huu
  have HPT := hide (And.intro hp hE)
  obtain ⟨W2, hW2⟩ : ∃ V, w.alloc (.cells cs 28) = V := ⟨_, rfl⟩
  have hb1 : Below w.heap.size w W2 := by rw [← hW2]; exact (Below.refl _ _).alloc (Nat.le_refl _) _
  obtain ⟨CC, hCC⟩ : ∃ g, w.heap.size = g := ⟨_, rfl⟩
  have HC2 := hide (show W2.heap[CC]? = some (.cells cs 28 (0, 0)) from by rw [← hW2, ← hCC]; exact heap_alloc_new _ _)
  have HE := hide hW2
  have HZ := hide hCC
  have HWW := hide hb1
  have HSP := hide (speaks_any W2 (hp.below HWW.out (Nat.le_refl _)) (hE.below HWW.out (Nat.le_refl _)))
  have HCK := hide (fun (V : World) (hV : Below w.heap.size w V) => checkR_any cs c fa fs fn fc V hca hco (hfw.below hV (Nat.le_refl _)) hfl hff hfn hfm)
  obtain ⟨ol, hol⟩ : ∃ l, other.data.toList = l := ⟨_, rfl⟩
  obtain ⟨on, hon⟩ : ∃ n, other.size = n := ⟨_, rfl⟩
  have hon2 : ol.length = on := by rw [← hol, ← hon]; exact (Lib.size_eq other).symm
  have hbo : other = bt ol := by rw [← hol, bt_back]
  have HO := hide (And.intro hbo hon2)
  have hon9 : on ≤ 9223372036854775807 := by omega
  have hon4 : (0 : Int) ≤ (on : Int) := by omega
  have hwk := and255i which
  obtain ⟨nk, hnk⟩ : ∃ k : Nat, (which % 256) % 6 = (k : Int) := ⟨((which % 256) % 6).toNat, by omega⟩
  have hnk6 : nk < 6 := by omega
  have hnk2 : (which % 256).tmod 6 = (nk : Int) := by rw [Int.tmod_eq_emod_of_nonneg (by omega)]; exact hnk
  have HNK := hide (And.intro hnk hnk6)
  clear hcf hca hu huu had hcs hW2 hb1 hCC hp hE hlan hco hfl hfw hff hfn hfm hos hol hbo hon2 hnk
  go_enter Tryz.func5, Tryz.ntmps5
  go_upto_region 1 with (fail)
  rw [HE.out]
  rw [HZ.out]
  go_wp2_with fail
  refine HSP.out.mono ?_
  rintro e w3 ⟨rfl, b3⟩
  have HC3 := hide (below_blk b3 HC2.out (Nat.le_refl _))
  have HW3 := hide (HWW.out.trans (b3.mono HWW.out.size))
  clear b3 HSP HC2 HWW HE
  obtain ⟨ck, hck⟩ : ∃ b, checkB c fs = b := ⟨_, rfl⟩
  have HCK3 := hide (HCK.out w3 HW3.out)
  rw [hck] at HCK3
  have HCB := hide hck
  clear hck HCK
  cases ck with
  | false =>
    have HCK3 := hide (show Calls Tryz.prog 18 #[.agg cs] w3 fun e w' => e = .returned (.int .i64 40) ∧ Below w3.heap.size w3 w' from HCK3.out)
    go_wp2_with ((refine ld_cfg (o := ⟨some 18, _, _, _, _, _⟩) (.tmp 3) rfl (by rfl) CC rfl cs HC3.out HSZ.out ?_; try simp only [Act.put, List.setIfInBounds_toArray, List.set_cons_zero, List.set_cons_succ]))
    refine HCK3.out.mono ?_
    rintro e w4 ⟨rfl, b4⟩
    have HW4 := hide (HW3.out.trans (b4.mono HW3.out.size))
    clear b4 HCK3
    go_wp2_with fail
    go_ret
    exact ⟨rfl, HW4.out⟩
  | true =>
  have HCK3 := hide (show Calls Tryz.prog 18 #[.agg cs] w3 fun e w' => e = .returned (.int .i64 0) ∧ Below w3.heap.size w3 w' from HCK3.out)
  go_wp2_with ((refine ld_cfg (o := ⟨some 18, _, _, _, _, _⟩) (.tmp 3) rfl (by rfl) CC rfl cs HC3.out HSZ.out ?_; try simp only [Act.put, List.setIfInBounds_toArray, List.set_cons_zero, List.set_cons_succ]))
  refine HCK3.out.mono ?_
  rintro e w4 ⟨rfl, b4⟩
  have HC4 := hide (below_blk b4 HC3.out (Nat.le_refl _))
  have HW4 := hide (HW3.out.trans (b4.mono HW3.out.size))
  clear b4 HCK3 HC3 HW3
  by_cases hlong : 300 < on
  · have d1 : decide ((300 : Int) < (on : Int)) = true := by simp; omega
    go_wp2_with fail
    go_ret
    exact ⟨rfl, HW4.out⟩
  have d1 : decide ((300 : Int) < (on : Int)) = false := by simp; omega
  have hon5 : (on : Int) ≤ 300 := by omega
  have hul : u.length ≤ 900 := by have := (HUU.out HCB.out).1; omega
  have HNM := hide (rnames_any cs ad u HCF.out w4 hul)
  have HUL := hide hul
  clear hul hlong
  go_wp2_with ((refine ld_cfg (o := ⟨some 27, _, _, _, _, _⟩) (.tmp 3) rfl (by rfl) CC rfl cs HC4.out HSZ.out ?_; try simp only [Act.put, List.setIfInBounds_toArray, List.set_cons_zero, List.set_cons_succ]))
  refine HNM.out.mono ?_
  rintro e w5 ⟨xa, xc, ya, yc, rfl, hx, hy, _, b5⟩
  have HX := hide hx
  have HC5 := hide (below_blk b5 HC4.out (Nat.le_refl _))
  have HW5 := hide (HW4.out.trans (b5.mono HW4.out.size))
  clear hx hy b5 HNM HC4 HW4 d1
  go_wp2_with fail
  have HLP := hide (show (∀ q b, q < 0 → ol[q]? = some b → H.tgtB b = true) ∧ Below w5.heap.size w5 w5 from ⟨fun q b h => by omega, Below.refl _ _⟩)
  have HHO := hide (show other.data.toList = ol from by rw [HO.out.1])
  go_loopw [9] (fun iv wz => ∃ i : Nat, i ≤ on ∧ iv = .int .i64 (i : Int) ∧ Hid ((∀ q b, q < i → ol[q]? = some b → H.tgtB b = true) ∧ Below w5.heap.size w5 wz)) (fun iv _ => on - (intOf iv).toNat)
  case atStart => exact ⟨0, Nat.zero_le _, rfl, HLP⟩
  case round =>
    clear HLP
    obtain ⟨i, hi, rfl, HI⟩ := hrel
    have hi4 : (0 : Int) ≤ (i : Int) := by omega
    have hi5 : (i : Int) ≤ 300 := by omega
    by_cases hlt : i < on
    · have d1 : decide (i < on) = true := by simp; omega
      have his : i < other.size := by omega
      obtain ⟨b, hb⟩ : ∃ b, other[i]'his = b := ⟨_, rfl⟩
      have hlb : ol[i]? = some b := by rw [← HHO.out, Lib.data_getElem? other i his, hb]
      obtain ⟨y, hy⟩ : ∃ y, b.toNat = y := ⟨_, rfl⟩
      have hcy : (((other[i]'his).toNat : Nat) : Int) = (y : Int) := by rw [hb, hy]
      have HBY := hide (And.intro hlb hy)
      have HBC := hide HI.out.2
      clear hb hy hlb
      by_cases hlo : y < 33
      · have d2 : decide ((y : Int) < 33) = true := by simp; omega
        clear HI
        go_wp2_with fail
        go_ret
        exact ⟨rfl, HW5.out.trans (HBC.out.mono HW5.out.size)⟩
      · have d2 : decide ((y : Int) < 33) = false := by simp; omega
        by_cases hgt : 126 < y
        · have d3 : decide ((126 : Int) < (y : Int)) = true := by simp; omega
          clear HI
          go_wp2_with fail
          go_ret
          exact ⟨rfl, HW5.out.trans (HBC.out.mono HW5.out.size)⟩
        · have d3 : decide ((126 : Int) < (y : Int)) = false := by simp; omega
          have HF := hide (show (∀ q b, q < i + 1 → ol[q]? = some b → H.tgtB b = true) ∧ Below w5.heap.size w5 wr from ⟨fun q b2 hq hb2 => by
            by_cases he : q = i
            · subst he
              rw [HBY.out.1] at hb2
              injection hb2 with hb2
              subst hb2
              unfold H.tgtB
              rw [HBY.out.2]
              simp; omega
            · exact HI.out.1 q b2 (by omega) hb2, HI.out.2⟩)
          clear HI hlo hgt
          go_wp2_with fail
          exact ⟨⟨i + 1, by omega, by go_num, HF⟩, by simp [intOf]; omega⟩
    · have d1 : decide (i < on) = false := by simp; omega
      have HTG := hide (show ∀ b ∈ ol, H.tgtB b = true from fun b hb => by
        obtain ⟨q, hq, e⟩ := List.mem_iff_getElem.1 hb
        exact HI.out.1 q b (by have := HO.out.2; omega) (by rw [List.getElem?_eq_getElem hq, e]))
      have HBC := hide HI.out.2
      have HCR := hide (below_blk HI.out.2 HC5.out (Nat.le_refl _))
      have HXR := hide (HX.out.below HI.out.2)
      have HWR := hide (HW5.out.trans (HI.out.2.mono HW5.out.size))
      clear HI hlt hi
      obtain ⟨nkT, hnkT⟩ : ∃ y, (nmsL (sUu ++ u))[nk]? = some y := ⟨_, List.getElem?_eq_getElem (by rw [nmsL_len]; exact HNK.out.2)⟩
      obtain ⟨ga, hga, cn1⟩ := HXR.out.2 nk nkT hnkT
      have hnl := nmsL_le (sUu ++ u) nkT (List.mem_of_getElem? hnkT) (by have := HUL.out; simp only [List.length_append, sUu, List.length_cons, List.length_nil]; omega)
      have HNT := hide (own_tgt u (HUU.out HCB.out).2 nkT (List.mem_of_getElem? hnkT))
      have HWO := hide (want_own u nk nkT hnkT)
      have hnlen : nkT.length ≤ 900 := by
        have hm := List.mem_of_getElem? hnkT
        have h36 := (HUU.out HCB.out).1
        unfold nmsL at hm
        simp only [List.mem_cons, List.not_mem_nil, or_false] at hm
        rcases hm with rfl | rfl | rfl | rfl | rfl | rfl
        · decide
        · simp only [List.length_append, sUu, List.length_cons, List.length_nil]; omega
        all_goals decide
      have HNL := hide hnlen
      subst hga
      have k4 : (0 : Int) ≤ (nk : Int) := by omega
      have k5 : (nk : Int) < 6 := by omega
      have k6 : decide (nk < 6) = true := by simp; omega
      have HPT7 := hide (fun (V : World) (hV : Below w.heap.size w V) => And.intro (HPT.out.1.below hV (Nat.le_refl _)) (HPT.out.2.below hV (Nat.le_refl _)))
      have HSE0 := hide (fun (l : List UInt8) (g c m : Nat) (V : World) (hV : Below w.heap.size w V) (hm : l.length = m) (h9 : l.length ≤ 100000) (hT : ∀ (j : Nat) (b : UInt8), l[j]? = some b → V.cell? ⟨g, j, none⟩ = some (H.byV b)) => search_any cs ad u HCF.out l g c m V (HPT7.out V hV).1 (HPT7.out V hV).2 HLA.out HUL.out hm (hm ▸ h9) hT)
      have HSS := hide (fun (V : World) (hV : Below wr.heap.size wr V) => cfg_range (below_blk hV HCR.out (Nat.le_refl _)))
      have HW07 := hide (below_drew wr)
      have HUP7 := hide (fun (V : World) (hV : Below wr.heap.size wr V) => (show Below w.heap.size w V from HWR.out.trans (hV.mono HWR.out.size)))
      have HL1 := hide (show (askL nkT).length ≤ 100000 from by rw [askL_len]; omega)
      have HL2 := hide (show (askL ol).length ≤ 100000 from by rw [askL_len]; have := HO.out.2; omega)
      have HAO := hide (show ∀ V, Calls Tryz.prog 19 #[.string other] V (AskTo V (askL ol)) from fun V => by rw [HO.out.1]; exact ask_any ol V (by have := HO.out.2; omega))
      clear hnkT hnl hnlen
      go_wp2_with fail
      refine wp_region_held_drew (S := fun w' => w'.rangeAt CC 0 cs.toList) (by kernel_rfl) (by exact HSS.out _ HW07.out) (fun hHeld => ?_)
      generalize wr.drew = z0 at *
      refine wpAnyH_take (i := 0) (oi := { dst := some 53, op := Op.load 28 (Operand.tmp 3), type := 28, pos := "law.go:87", after := #[], guard := none }) (v := .agg cs) rfl (by kernel_rfl) (by kernel_rfl) (by kernel_rfl) (fun _ _ _ h => h) (yl_cfg (by rfl) _ rfl CC rfl cs (fun w h => h) HSZ.out) (by assumption) ?_
      try simp only [Act.put, List.setIfInBounds_toArray, List.set_cons_zero, List.set_cons_succ]
      refine wpAnyH_take (i := 1) (oi := { dst := some 54, op := Op.move (Operand.tmp 10), type := 9, pos := "law.go:87", after := #[], guard := none }) (v := ?_) rfl (by kernel_rfl) (by kernel_rfl) (by kernel_rfl) (fun _ _ _ h => h) (Or.inl ⟨by rfl, ?_⟩) (by assumption) ?_
      rotate_left
      · intro wS hSw
        try dsimp only at hSw
        go_simp
        try with_reducible rfl
      try simp only [Act.put, List.setIfInBounds_toArray, List.set_cons_zero, List.set_cons_succ]
      refine wpAnyH_ready (rs := [2]) (by kernel_rfl) (by simp) ?_
      refine AllReadyH.cons (o := { dst := some 55, op := Op.call { callee := Callee.value (Operand.func 19), args := #[Operand.tmp 54], argTypes := #[9] }, type := 29, pos := "law.go:87", after := #[{ on := 1, ground := Ground.data }], guard := none }) rfl (fun K hK => ?_) ?_
      ·
        go_simp
        go_at_call 19
        refine (ask_any nkT z0 ((by have := HNL.out; omega))).mono ?_
        rintro e z1 ⟨g1, c1, m1, hm1, rfl, ht1, b9⟩
        have HB1 := hide (HW07.out.trans (b9.mono HW07.out.size))
        have HT1 := hide ht1
        have HM1 := hide hm1
        clear ht1 hm1
        clear b9
        refine hK.out _ _ (HSS.out _ HB1.out) (fun hHeld1 => ?_)
        clear hK K
        try simp only [Act.put, List.setIfInBounds_toArray, List.set_cons_zero, List.set_cons_succ]
        refine wpAnyH_ready (rs := [3]) (by kernel_rfl) (by simp) ?_
        refine AllReadyH.cons (o := { dst := some 56, op := Op.call { callee := Callee.value (Operand.func 9), args := #[Operand.tmp 53, Operand.tmp 55], argTypes := #[28, 29] }, type := 32, pos := "law.go:87", after := #[{ on := 0, ground := Ground.data }, { on := 2, ground := Ground.data }, { on := 2, ground := Ground.chain }], guard := none }) rfl (fun K hK => ?_) ?_
        ·
          go_simp
          go_at_call 9
          refine (HSE0.out (askL nkT) g1 c1 m1 z1 (HUP7.out _ HB1.out) HM1.out.symm HL1.out (HT1.out.cells)).mono ?_
          rintro e z2 ⟨a2, m2, c2, rfl, ha2, b9⟩
          have HB2 := hide (HB1.out.trans (b9.mono HB1.out.size))
          have HA2 := hide ha2
          clear ha2
          clear b9
          refine hK.out _ _ (HSS.out _ HB2.out) (fun hHeld2 => ?_)
          clear hK K
          try simp only [Act.put, List.setIfInBounds_toArray, List.set_cons_zero, List.set_cons_succ]
          refine wpAnyH_take (i := 4) (oi := { dst := some 11, op := Op.assign (Operand.tmp 56), type := 32, pos := "law.go:87", after := #[{ on := 3, ground := Ground.data }, { on := 3, ground := Ground.chain }, { on := 0, ground := Ground.phase }, { on := 1, ground := Ground.phase }, { on := 2, ground := Ground.phase }, { on := 3, ground := Ground.phase }], guard := none }) (v := ?_) rfl (by kernel_rfl) (by kernel_rfl) (by kernel_rfl) (fun _ _ _ h => h) (Or.inl ⟨by rfl, ?_⟩) (by assumption) ?_
          rotate_left
          · intro wS hSw
            try dsimp only at hSw
            go_simp
            try with_reducible rfl
          try simp only [Act.put, List.setIfInBounds_toArray, List.set_cons_zero, List.set_cons_succ]
          refine wpAnyH_done (by kernel_rfl) ?_ _
          have hm1 : m2 = 1 := by
            rw [← ans_len HA2.out, search_len, ask_sought nkT HNT.out HNL.out]
            exact HWO.out
          subst hm1
          have HD8 := hide (HB2.out.trans ((below_drew z2).mono HB2.out.size))
          clear cn1 HT1 HM1 HA2
          go_wp2_with fail
          refine wp_region_held_drew (S := fun w' => w'.rangeAt CC 0 cs.toList) (by kernel_rfl) (by exact HSS.out _ HD8.out) (fun hHeld => ?_)
          generalize z2.drew = z0 at *
          refine wpAnyH_take (i := 0) (oi := { dst := some 57, op := Op.load 28 (Operand.tmp 3), type := 28, pos := "law.go:88", after := #[], guard := none }) (v := .agg cs) rfl (by kernel_rfl) (by kernel_rfl) (by kernel_rfl) (fun _ _ _ h => h) (yl_cfg (by rfl) _ rfl CC rfl cs (fun w h => h) HSZ.out) (by assumption) ?_
          try simp only [Act.put, List.setIfInBounds_toArray, List.set_cons_zero, List.set_cons_succ]
          refine wpAnyH_take (i := 1) (oi := { dst := some 58, op := Op.move (Operand.tmp 1), type := 9, pos := "law.go:88", after := #[], guard := none }) (v := ?_) rfl (by kernel_rfl) (by kernel_rfl) (by kernel_rfl) (fun _ _ _ h => h) (Or.inl ⟨by rfl, ?_⟩) (by assumption) ?_
          rotate_left
          · intro wS hSw
            try dsimp only at hSw
            go_simp
            try with_reducible rfl
          try simp only [Act.put, List.setIfInBounds_toArray, List.set_cons_zero, List.set_cons_succ]
          refine wpAnyH_ready (rs := [2]) (by kernel_rfl) (by simp) ?_
          refine AllReadyH.cons (o := { dst := some 59, op := Op.call { callee := Callee.value (Operand.func 19), args := #[Operand.tmp 58], argTypes := #[9] }, type := 29, pos := "law.go:88", after := #[{ on := 1, ground := Ground.data }], guard := none }) rfl (fun K hK => ?_) ?_
          ·
            go_simp
            go_at_call 19
            refine (HAO.out z0).mono ?_
            rintro e z1 ⟨g1, c1, m1, hm1, rfl, ht1, b9⟩
            have HB1 := hide (HD8.out.trans (b9.mono HD8.out.size))
            have HT1 := hide ht1
            have HM1 := hide hm1
            clear ht1 hm1
            clear b9
            refine hK.out _ _ (HSS.out _ HB1.out) (fun hHeld1 => ?_)
            clear hK K
            try simp only [Act.put, List.setIfInBounds_toArray, List.set_cons_zero, List.set_cons_succ]
            refine wpAnyH_ready (rs := [3]) (by kernel_rfl) (by simp) ?_
            refine AllReadyH.cons (o := { dst := some 60, op := Op.call { callee := Callee.value (Operand.func 9), args := #[Operand.tmp 57, Operand.tmp 59], argTypes := #[28, 29] }, type := 32, pos := "law.go:88", after := #[{ on := 0, ground := Ground.data }, { on := 2, ground := Ground.data }, { on := 2, ground := Ground.chain }], guard := none }) rfl (fun K hK => ?_) ?_
            ·
              go_simp
              go_at_call 9
              refine (HSE0.out (askL ol) g1 c1 m1 z1 (HUP7.out _ HB1.out) HM1.out.symm HL2.out (HT1.out.cells)).mono ?_
              rintro e z2 ⟨a2, m2, c2, rfl, ha2, b9⟩
              have HB2 := hide (HB1.out.trans (b9.mono HB1.out.size))
              have HA2 := hide ha2
              clear ha2
              clear b9
              refine hK.out _ _ (HSS.out _ HB2.out) (fun hHeld2 => ?_)
              clear hK K
              try simp only [Act.put, List.setIfInBounds_toArray, List.set_cons_zero, List.set_cons_succ]
              refine wpAnyH_take (i := 4) (oi := { dst := some 12, op := Op.assign (Operand.tmp 60), type := 32, pos := "law.go:88", after := #[{ on := 3, ground := Ground.data }, { on := 3, ground := Ground.chain }, { on := 0, ground := Ground.phase }, { on := 1, ground := Ground.phase }, { on := 2, ground := Ground.phase }, { on := 3, ground := Ground.phase }], guard := none }) (v := ?_) rfl (by kernel_rfl) (by kernel_rfl) (by kernel_rfl) (fun _ _ _ h => h) (Or.inl ⟨by rfl, ?_⟩) (by assumption) ?_
              rotate_left
              · intro wS hSw
                try dsimp only at hSw
                go_simp
                try with_reducible rfl
              try simp only [Act.put, List.setIfInBounds_toArray, List.set_cons_zero, List.set_cons_succ]
              refine wpAnyH_done (by kernel_rfl) ?_ _
              have hmb : m2 = wantL (sUu ++ u) ol := by
                rw [← ans_len HA2.out, search_len, ask_sought ol HTG.out (by have := HO.out.2; omega)]
              have HMB := hide hmb
              have HXZ := hide (HXR.out.below HB2.out)
              have HBF := hide (HUP7.out _ HB2.out)
              clear hmb
              have HLC := hide (show (0 : Nat) = cntB ol ((nmsL (sUu ++ u)).take 0) ∧ Below z2.heap.size z2 z2 from ⟨rfl, Below.refl _ _⟩)
              obtain ⟨b2, hb2⟩ : ∃ b, decide (ol = sAll) = b := ⟨_, rfl⟩
              have q2 : (other.toList == [115, 115, 100, 112, 58, 97, 108, 108]) = b2 := by
                rw [← hb2, HO.out.1, bt_list]
                by_cases h : ol = sAll
                · rw [decide_eq_true h, h]; decide
                · rw [decide_eq_false h, beq_eq_false_iff_ne]; exact h
              have HQ2 := hide hb2
              clear hb2
              go_wp2_with fail
              go_loopw [13, 63] (fun cv iv wz => ∃ j k : Nat, j ≤ 6 ∧ iv = .int .i64 (j : Int) ∧ cv = .int .i64 (k : Int) ∧ Hid (k = cntB ol ((nmsL (sUu ++ u)).take j) ∧ Below z2.heap.size z2 wz)) (fun _ iv _ => 6 - (intOf iv).toNat)
              case atStart => exact ⟨0, 0, Nat.zero_le _, rfl, rfl, HLC⟩
              case round =>
                clear HLC
                obtain ⟨j, k, hj, rfl, rfl, HI⟩ := hrel
                have hj4 : (0 : Int) ≤ (j : Int) := by omega
                have hj5 : (j : Int) ≤ 6 := by omega
                have hk6 : k ≤ 6 := by
                  rw [HI.out.1]; unfold cntB
                  exact Nat.le_trans (List.length_filter_le _ _) (by rw [List.length_take, nmsL_len]; omega)
                have hk4 : (0 : Int) ≤ (k : Int) := by omega
                have hk5 : (k : Int) ≤ 6 := by omega
                by_cases hjl : j < 6
                · have d1 : decide (j < 6) = true := by simp; omega
                  have d2 : decide ((j : Int) < 6) = true := by simp; omega
                  have d3 : (j : Int) < 6 := by omega
                  obtain ⟨y, hy⟩ : ∃ y, (nmsL (sUu ++ u))[j]? = some y := ⟨_, List.getElem?_eq_getElem (by rw [nmsL_len]; exact hjl)⟩
                  obtain ⟨ga2, hga2, cy⟩ := (HXZ.out.below HI.out.2).2 j y hy
                  injection hga2 with hga2
                  injection hga2 with hga2
                  subst hga2
                  have hc := cnt_snoc ol ((nmsL (sUu ++ u)).take j) y
                  have htk : (nmsL (sUu ++ u)).take (j + 1) = (nmsL (sUu ++ u)).take j ++ [y] := by rw [List.take_add_one, hy]; rfl
                  rw [← htk, ← HI.out.1, HQ2.out] at hc
                  obtain ⟨b1, hb1⟩ : ∃ b, decide (ol = y) = b := ⟨_, rfl⟩
                  rw [hb1] at hc
                  have q1 : ((bt y).toList == other.toList) = b1 := by
                    rw [HO.out.1, bt_beq, ← hb1]
                    by_cases h : ol = y
                    · rw [decide_eq_true h, decide_eq_true h.symm]
                    · rw [decide_eq_false h, decide_eq_false (fun e => h e.symm)]
                  have HC := hide hc
                  have HBC := hide HI.out.2
                  generalize bt y = Y at *
                  clear hc htk hb1 hy HI hjl
                  cases b1 with
                  | true =>
                    have HF := hide (show k + 1 = cntB ol ((nmsL (sUu ++ u)).take (j + 1)) ∧ Below z2.heap.size z2 wr from ⟨by rw [HC.out]; rfl, HBC.out⟩)
                    clear HC HBC
                    go_wp2_with fail
                    exact ⟨⟨j + 1, k + 1, by omega, by go_num, by go_num, HF⟩, by simp [intOf]; omega⟩
                  | false =>
                    cases b2 with
                    | true =>
                      have HF := hide (show k + 1 = cntB ol ((nmsL (sUu ++ u)).take (j + 1)) ∧ Below z2.heap.size z2 wr from ⟨by rw [HC.out]; rfl, HBC.out⟩)
                      clear HC HBC
                      go_wp2_with fail
                      exact ⟨⟨j + 1, k + 1, by omega, by go_num, by go_num, HF⟩, by simp [intOf]; omega⟩
                    | false =>
                      have HF := hide (show k = cntB ol ((nmsL (sUu ++ u)).take (j + 1)) ∧ Below z2.heap.size z2 wr from ⟨by rw [HC.out]; rfl, HBC.out⟩)
                      clear HC HBC
                      go_wp2_with fail
                      exact ⟨⟨j + 1, k, by omega, by go_num, rfl, HF⟩, by simp [intOf]; omega⟩
                · have d1 : decide (j < 6) = false := by simp; omega
                  have d2 : decide ((j : Int) < 6) = false := by simp; omega
                  have hmk : k = m2 := by
                    rw [HMB.out, HI.out.1, List.take_of_length_le (by rw [nmsL_len]; omega)]; rfl
                  have HF := hide (HUP7.out _ (HB2.out.trans (HI.out.2.mono HB2.out.size)))
                  have e1 : ((m2 : Int) == (k : Int)) = true := by rw [hmk]; exact beq_self_eq_true _
                  clear HI hmk
                  go_wp2_with fail
                  go_ret
                  exact ⟨rfl, HF.out⟩
            exact AllReadyH.nil
          exact AllReadyH.nil
          
        exact AllReadyH.nil
      exact AllReadyH.nil
end Go.Proofs.YtonoaopioifedaaGreatDoor
