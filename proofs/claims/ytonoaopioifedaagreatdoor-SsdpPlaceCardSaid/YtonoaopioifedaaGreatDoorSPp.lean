/- Ssdp: the place that is told. -/
import Derived.Test.YtonoaopioifedaaGreatDoorSTe
namespace Go.Proofs.YtonoaopioifedaaGreatDoor
open Go.RowKit Go.Shelf Go.Deep
set_option linter.unusedVariables false
set_option linter.unusedSimpArgs false
set_option maxRecDepth 100000
/-- A row of rows is appended to one's own. -/
theorem pushMany (V : World) (K K2 : Nat) (a : Option Addr) (n c : Nat) (b : Option Addr) (m d : Nat) (ls ls2 : List (List UInt8)) (hA : AnsAt V K a n c ls) (hB : AnsAt V K2 b m d ls2) (hn : n ≤ 1000) (hm : 0 < m ∧ m ≤ 1000) (hK : K ≤ V.heap.size) :
    ∃ a' c' w', (Builtin.append_ #[32, 32] 32 #[.slice a n c, .slice b m d]).run Tryz.prog V = .ok (.slice a' (n + m) c') w' ∧ AnsAt w' K a' (n + m) c' (ls ++ ls2) ∧ Below K V w' := by
  obtain ⟨i0, hi, hz0, hz1, hz2⟩ := info_parts Tryz.infoBys
  obtain ⟨vs, h1, h2, h3⟩ := hA
  obtain ⟨us, k1, k2, k3⟩ := hB
  obtain ⟨gb, cap2, e2, hg, hlt⟩ := World.ownsRow.form k1 hm.1
  obtain ⟨rfl, rfl⟩ : b = some ⟨gb, 0, none⟩ ∧ d = cap2 := by injection e2 with e1 e2 e3; exact ⟨e1, e3⟩
  have hul : us.length = m := by have := k1.1; simpa using this
  have hvl : vs.length = n := by have := h1.1; simpa using this
  obtain ⟨v', w5, r1, r2, r3, _, r5⟩ := run_append_own_at (P := Tryz.prog) V K 32 32 29 i0 (.slice none 0 0) 1 24 Tryz.underlying32 hi hz0 hz1 hz2 rfl (by decide) (.slice a n c) n vs h1 ⟨gb, 0, none⟩ m d us (by omega) (fun j u hj => by
      have hj2 : j < m := by rw [← hul]; exact (List.getElem?_eq_some_iff.1 hj).1
      rw [H.add0, World.ownsRow.cellAt k1 j (by omega)]; exact hj) (fun u hu => by
      obtain ⟨j, hj, e⟩ := List.mem_iff_getElem.1 hu
      obtain ⟨l, hl⟩ : ∃ l, ls2[j]? = some l := ⟨_, List.getElem?_eq_getElem (by omega)⟩
      obtain ⟨g, cap, ee, _⟩ := k3 j u l (by rw [List.getElem?_eq_getElem hj, e]) hl
      rw [ee]; rfl) (by unfold maxLen; omega) (by omega) hK
  obtain ⟨a', c', rfl⟩ := slice_form r2
  have kt := fun T hT => kt_grown (T := T) r3 h1 hT
  refine ⟨a', c', w5, r1, ⟨vs ++ us, r2, by rw [List.length_append, h2, k2], fun i v l hv hl => ?_⟩, (Below.refl _ _).grown r3 hK (fun k e => (h1.lt k e).1)⟩
  rcases Nat.lt_or_ge i n with hi2 | hi2
  · rw [List.getElem?_append_left (by omega)] at hv hl
    obtain ⟨g, cap, e, ht⟩ := h3 i v l hv hl
    exact ⟨g, cap, e, ht.kt (kt _ (by decide))⟩
  · rw [List.getElem?_append_right (by omega), hvl] at hv
    rw [List.getElem?_append_right (by omega), h2] at hl
    obtain ⟨g, cap, e, ht⟩ := k3 (i - n) v l hv hl
    exact ⟨g, cap, e, ht.kt (kt _ (by decide))⟩
/-- A text in which the place is told, with an empty line at its end. -/
def Tells (w l : List UInt8) : Prop := (∃ a b, l = a ++ w ++ b) ∧ (∃ a, l = a ++ [13, 10, 13, 10]) ∧ l.length ≤ 100000
theorem ans_tells (p : List UInt8) (x : List UInt8 × List UInt8) (hp : p.length ≤ 300) (h1 : x.1.length ≤ 1000) (h2 : x.2.length ≤ 2002) : Tells (cr ++ p ++ cr) (ansL p x) := by
  refine ⟨⟨tOk ++ cr ++ tMax ++ cr ++ tExt, tSrv ++ cr ++ (tSt ++ x.1) ++ cr ++ (tUsn ++ x.2) ++ cr ++ cr, ?_⟩, ⟨Lib.join [tOk, tMax, tExt, p, tSrv, tSt ++ x.1, tUsn ++ x.2] cr, ?_⟩, ?_⟩
  · simp [ansL, msgL, Lib.join, List.intercalate, List.intersperse]
  · simp [ansL, msgL, cr]
  · simp only [ansL, msgL, Lib.join, List.intercalate, List.intersperse, List.flatten_cons, List.flatten_nil, List.length_append, tOk, tMax, tExt, tSrv, tSt, tUsn, cr, List.length_cons, List.length_nil]; omega
theorem alv_tells (p : List UInt8) (x : List UInt8 × List UInt8) (hp : p.length ≤ 300) (h1 : x.1.length ≤ 1000) (h2 : x.2.length ≤ 2002) : Tells (cr ++ p ++ cr) (alvL p x) := by
  refine ⟨⟨tNot ++ cr ++ tHost ++ cr ++ tMax, (tNt ++ x.1) ++ cr ++ tAlv ++ cr ++ tSrv ++ cr ++ (tUsn ++ x.2) ++ cr ++ cr, ?_⟩, ⟨Lib.join [tNot, tHost, tMax, p, tNt ++ x.1, tAlv, tSrv, tUsn ++ x.2] cr, ?_⟩, ?_⟩
  · simp [alvL, msgL, Lib.join, List.intercalate, List.intersperse]
  · simp [alvL, msgL, cr]
  · simp only [alvL, msgL, Lib.join, List.intercalate, List.intersperse, List.flatten_cons, List.flatten_nil, List.length_append, tNot, tHost, tMax, tNt, tAlv, tSrv, tUsn, cr, List.length_cons, List.length_nil]; omega
theorem names_bound (o : List UInt8) (ho : o.length ≤ 1000) (x : List UInt8 × List UInt8) (hx : x ∈ namesL o) : x.1.length ≤ 1000 ∧ x.2.length ≤ 2002 := by
  unfold namesL at hx
  obtain ⟨y, hy, rfl⟩ := List.mem_map.1 hx
  have h1 := nmsL_le o y hy ho
  exact ⟨h1, unL_le o y h1 ho⟩
theorem search_all (p o : List UInt8) : searchL p o sAll = (namesL o).map (ansL p) := by
  unfold searchL
  rw [List.filter_eq_self.2 (fun x _ => by unfold sel; rw [decide_eq_true (rfl : sAll = sAll), Bool.or_true])]
theorem ext_bt (l : List UInt8) (i n : Nat) : (bt l).extract i (i + n) = bt ((l.drop i).take n) := by
  have h := Lib.extract_data (bt l) i (i + n)
  have e : ((bt l).extract i (i + n)).data.toList = (l.drop i).take n := by rw [h]; simp
  rw [← bt_back ((bt l).extract i (i + n)), e]
theorem ext_hit (a w b : List UInt8) : (((a ++ w ++ b).drop a.length).take w.length) = w := by
  rw [List.append_assoc, List.drop_left' rfl, List.take_left' rfl]
set_option maxHeartbeats 8000000 in
theorem ssdpPlace_any (c : Cfg) (fa : Option Addr) (fn fc : Nat) (w : World) (hp : PT w) (hE : H.Env w) (hlan : c.lan ≤ 4294967295) (hus : c.uuid.size ≤ 9223372036854775807) (hfn : fn ≤ 9223372036854775807) :
    Calls Tryz.prog 6 #[.agg (c.cells fa fn fc)] w fun e w' => e = .returned (.bool true) ∧ Below w.heap.size w w' := by
  have hcf := cfg_cfs c fa fn fc
  have h25 : (c.cells fa fn fc)[25]? = some (.slice fa fn fc) := rfl
  obtain ⟨u, hu⟩ : ∃ u, c.uuid.data.toList = u := ⟨_, rfl⟩
  rw [hu] at hcf
  obtain ⟨ad, had⟩ : ∃ u, c.lan = u := ⟨_, rfl⟩
  rw [had] at hcf hlan
  obtain ⟨cs, hcs⟩ : ∃ cs, c.cells fa fn fc = cs := ⟨_, rfl⟩
  rw [hcs] at hcf h25 ⊢
  have HGR := hide (fun V => great_any cs u fa fn fc hcf.size hcf.uuid h25 V)
  have HCF := hide hcf
  have HSZ := hide hcf.size
  have HLA := hide hlan
  have HPT := hide (And.intro hp hE)
  obtain ⟨W2, hW2⟩ : ∃ V, w.alloc (.cells cs 28) = V := ⟨_, rfl⟩
  have hb1 : Below w.heap.size w W2 := by rw [← hW2]; exact (Below.refl _ _).alloc (Nat.le_refl _) _
  obtain ⟨CC, hCC⟩ : ∃ g, w.heap.size = g := ⟨_, rfl⟩
  have HC2 := hide (show W2.heap[CC]? = some (.cells cs 28 (0, 0)) from by rw [← hW2, ← hCC]; exact heap_alloc_new _ _)
  have HE := hide hW2
  have HZ := hide hCC
  have HWW := hide hb1
  have HSP := hide (speaks_any W2 (hp.below HWW.out (Nat.le_refl _)) (hE.below HWW.out (Nat.le_refl _)))
  have hsz := hcf.size
  clear hcf h25 hu had hcs hW2 hb1 hCC hp hE hlan hus hfn
  go_enter Tryz.func6, Tryz.ntmps6
  go_upto_region 1 with (fail)
  rw [HE.out]
  rw [HZ.out]
  go_wp2_with fail
  refine HSP.out.mono ?_
  rintro e w3 ⟨rfl, b3⟩
  have HC3 := hide (below_blk b3 HC2.out (Nat.le_refl _))
  have HW3 := hide (HWW.out.trans (b3.mono HWW.out.size))
  clear b3 HSP HC2 HWW HE
  go_wp2_with ((refine ld_cfg (o := ⟨some 12, _, _, _, _, _⟩) (.tmp 1) rfl (by rfl) CC rfl cs HC3.out HSZ.out ?_; try simp only [Act.put, List.setIfInBounds_toArray, List.set_cons_zero, List.set_cons_succ]))
  refine (HGR.out _).mono ?_
  rintro e w4 ⟨rfl, b4⟩
  have HC4 := hide (below_blk b4 HC3.out (Nat.le_refl _))
  have HW4 := hide (HW3.out.trans (b4.mono HW3.out.size))
  clear b4 HGR HC3 HW3
  obtain ⟨gr, hgr⟩ : ∃ b, (decide (300 < u.length) || decide (100 < fn)) = b := ⟨_, rfl⟩
  rw [hgr]
  cases gr with
  | true =>
    go_wp2_with fail
    go_ret
    exact ⟨rfl, HW4.out⟩
  | false =>
    have hul : u.length ≤ 900 := by
      rw [Bool.or_eq_false_iff] at hgr
      have := of_decide_eq_false hgr.1
      omega
    have hl := txt_len (qb ad) (fun i => by have : qb ad i < 256 := Nat.mod_lt _ (by decide); omega) 4 (Nat.le_refl _)
    have HTX := hide (rtext_any ad w4 HLA.out)
    have HPP := hide (show (plcL (txt (qb ad) 4)).length ≤ 300 from by unfold plcL tLoc; simp only [List.length_append, List.length_cons, List.length_nil]; omega)
    have hs1 : ∀ V : World, (Op.stringOp .add ⟨#[13, 10, 76, 79, 67, 65, 84, 73, 79, 78, 58, 32, 104, 116, 116, 112, 58, 47, 47]⟩ ⟨(txt (qb ad) 4).toArray⟩).run Tryz.prog V = .ok (.string (bt (cr ++ tLoc ++ txt (qb ad) 4))) V := fun V => run_string_add_lists V (cr ++ tLoc) (txt (qb ad) 4) (by decide) (by omega)
    have hs2 : ∀ V : World, (Op.stringOp .add (bt (cr ++ tLoc ++ txt (qb ad) 4)) ⟨#[58, 53, 48, 48, 48, 47, 100, 101, 115, 99, 46, 120, 109, 108, 13, 10]⟩).run Tryz.prog V = .ok (.string (bt (cr ++ plcL (txt (qb ad) 4) ++ cr))) V := fun V => by
      have := run_string_add_lists (P := Tryz.prog) V (cr ++ tLoc ++ txt (qb ad) 4) [58, 53, 48, 48, 48, 47, 100, 101, 115, 99, 46, 120, 109, 108, 13, 10] (by simp only [List.length_append, tLoc, cr, List.length_cons, List.length_nil]; omega) (by decide)
      rw [show cr ++ plcL (txt (qb ad) 4) ++ cr = (cr ++ tLoc ++ txt (qb ad) 4) ++ [58, 53, 48, 48, 48, 47, 100, 101, 115, 99, 46, 120, 109, 108, 13, 10] from by unfold plcL cr; simp]
      exact this
    have HOL := hide (show (sUu ++ u).length ≤ 1000 from by unfold sUu; simp only [List.length_append, List.length_cons, List.length_nil]; omega)
    have HUL := hide hul
    have HPT7 := hide (fun (V : World) (hV : Below w.heap.size w V) => And.intro (HPT.out.1.below hV (Nat.le_refl _)) (HPT.out.2.below hV (Nat.le_refl _)))
    have HAL0 := hide (fun (V : World) (hV : Below w.heap.size w V) => alive_any cs ad u HCF.out V (HPT7.out V hV).1 HLA.out HUL.out)
    have HSE0 := hide (fun (l : List UInt8) (g c m : Nat) (V : World) (hV : Below w.heap.size w V) (hm : l.length = m) (h9 : l.length ≤ 100000) (hT : ∀ (j : Nat) (b : UInt8), l[j]? = some b → V.cell? ⟨g, j, none⟩ = some (H.byV b)) => search_any cs ad u HCF.out l g c m V (HPT7.out V hV).1 (HPT7.out V hV).2 HLA.out HUL.out hm (hm ▸ h9) hT)
    obtain ⟨PP, hPP⟩ : ∃ l, plcL (txt (qb ad) 4) = l := ⟨_, rfl⟩
    have HSQ := hide (show ∀ (W : World) (K : Nat) (a : Option Addr) (n c : Nat), AnsAt W K a n c (searchL (plcL (txt (qb ad) 4)) (sUu ++ u) (H.soughtL (askL sAll))) → AnsAt W K a n c ((namesL (sUu ++ u)).map (ansL PP)) ∧ n = 6 from fun W K a n c h => by
      rw [ask_sought sAll all_tgt (by decide), search_all, hPP] at h
      exact ⟨h, (ans_len h).symm⟩)
    rw [hPP] at HPP hs2 HAL0
    obtain ⟨WL, hWL⟩ : ∃ l, cr ++ PP ++ cr = l := ⟨_, rfl⟩
    rw [hWL] at hs2
    have hwl : 1 ≤ WL.length ∧ WL.length ≤ 400 := by rw [← hWL]; have := HPP.out; simp only [List.length_append, cr, List.length_cons, List.length_nil]; omega
    obtain ⟨o, ho⟩ : ∃ o, sUu ++ u = o := ⟨_, rfl⟩
    rw [ho] at HOL HAL0 HSQ HSE0
    have HTL := hide (show ∀ (j : Nat) (l : List UInt8), ((namesL o).map (ansL PP) ++ (namesL o).map (alvL PP))[j]? = some l → Tells WL l from fun j l hl => by
      have hm := List.mem_of_getElem? hl
      rcases List.mem_append.1 hm with hm | hm
      · obtain ⟨x, hx, rfl⟩ := List.mem_map.1 hm
        have hb := names_bound o HOL.out x hx
        rw [← hWL]; exact ans_tells PP x HPP.out hb.1 hb.2
      · obtain ⟨x, hx, rfl⟩ := List.mem_map.1 hm
        have hb := names_bound o HOL.out x hx
        rw [← hWL]; exact alv_tells PP x HPP.out hb.1 hb.2)
    have HLS := hide (show ((namesL o).map (ansL PP) ++ (namesL o).map (alvL PP)).length = 12 from by rw [List.length_append, List.length_map, List.length_map, namesL_len])
    have HL2 := hide (show (askL sAll).length ≤ 100000 from by decide +kernel)
    generalize (namesL o).map (ansL PP) = L1 at *
    generalize (namesL o).map (alvL PP) = L2 at *
    obtain ⟨_, c18⟩ := Array.getElem?_eq_some_iff.1 HCF.out.lan
    have x18 : w4.cell? ⟨CC, 18, none⟩ = some (.int .u32 (ad : Int)) := by
      have h1 := HCF.out.lan
      rw [cell_of_row _ _ _ _ _ (0, 0) HC4.out]; exact h1
    generalize bt (cr ++ tLoc ++ txt (qb ad) 4) = S1 at *
    generalize (⟨(txt (qb ad) 4).toArray⟩ : ByteArray) = SA at *
    have HWL := hide hwl
    clear hgr hul hl hPP hWL ho hwl
    go_wp2_with fail
    refine HTX.out.mono ?_
    rintro e w5 ⟨rfl, b5⟩
    have HC5 := hide (below_blk b5 HC4.out (Nat.le_refl _))
    have HW5 := hide (HW4.out.trans (b5.mono HW4.out.size))
    clear b5 HTX HC4 HW4 x18 c18
    have HSS := hide (fun (V : World) (hV : Below w5.heap.size w5 V) => cfg_range (below_blk hV HC5.out (Nat.le_refl _)))
    have HW0 := hide (below_drew w5)
    have HUP := hide (fun (V : World) (hV : Below w5.heap.size w5 V) => (show Below w.heap.size w V from HW5.out.trans (hV.mono HW5.out.size)))
    obtain ⟨WT, hWT⟩ : ∃ b, bt WL = b := ⟨_, rfl⟩
    rw [hWT] at hs2
    have HWT := hide hWT
    go_wp2_with fail
    refine wp_region_held_drew (S := fun w' => w'.rangeAt CC 0 cs.toList) (by kernel_rfl) (by exact HSS.out _ HW0.out) (fun hHeld => ?_)
    generalize w5.drew = z0 at *
    refine wpAnyH_take (i := 0) (oi := { dst := some 19, op := Op.load 28 (Operand.tmp 1), type := 28, pos := "law.go:107", after := #[], guard := none }) (v := .agg cs) rfl (by kernel_rfl) (by kernel_rfl) (by kernel_rfl) (fun _ _ _ h => h) (yl_cfg (by rfl) _ rfl CC rfl cs (fun w h => h) HSZ.out) (by assumption) ?_
    try simp only [Act.put, List.setIfInBounds_toArray, List.set_cons_zero, List.set_cons_succ]
    refine wpAnyH_take (i := 3) (oi := { dst := some 22, op := Op.load 28 (Operand.tmp 1), type := 28, pos := "law.go:107", after := #[], guard := none }) (v := .agg cs) rfl (by kernel_rfl) (by kernel_rfl) (by kernel_rfl) (fun _ _ _ h => h) (yl_cfg (by rfl) _ rfl CC rfl cs (fun w h => h) HSZ.out) (by assumption) ?_
    try simp only [Act.put, List.setIfInBounds_toArray, List.set_cons_zero, List.set_cons_succ]
    refine wpAnyH_ready (rs := [1]) (by kernel_rfl) (by simp) ?_
    refine AllReadyH.cons (o := { dst := some 20, op := Op.call { callee := Callee.value (Operand.func 19), args := #[Operand.const (Value.string { data := #[115, 115, 100, 112, 58, 97, 108, 108] })], argTypes := #[9] }, type := 29, pos := "law.go:107", after := #[], guard := none }) rfl (fun K hK => ?_) ?_
    ·
      go_simp
      go_at_call 19
      refine (ask_any sAll z0 (by decide)).mono ?_
      rintro e z1 ⟨g1, c1, m1, hm1, rfl, ht1, b9⟩
      have HB1 := hide (HW0.out.trans (b9.mono HW0.out.size))
      have HT1 := hide ht1
      have HM1 := hide hm1
      clear ht1 hm1
      clear b9
      refine hK.out _ _ (HSS.out _ HB1.out) (fun hHeld1 => ?_)
      clear hK K
      try simp only [Act.put, List.setIfInBounds_toArray, List.set_cons_zero, List.set_cons_succ]
      refine wpAnyH_ready (rs := [2]) (by kernel_rfl) (by simp) ?_
      refine AllReadyH.cons (o := { dst := some 21, op := Op.call { callee := Callee.value (Operand.func 9), args := #[Operand.tmp 19, Operand.tmp 20], argTypes := #[28, 29] }, type := 32, pos := "law.go:107", after := #[{ on := 0, ground := Ground.data }, { on := 1, ground := Ground.data }, { on := 1, ground := Ground.chain }], guard := none }) rfl (fun K hK => ?_) ?_
      ·
        go_simp
        go_at_call 9
        refine (HSE0.out (askL sAll) g1 c1 m1 z1 (HUP.out _ HB1.out) HM1.out.symm HL2.out (HT1.out.cells)).mono ?_
        rintro e z2 ⟨a2, m2, c2, rfl, ha2, b9⟩
        have HB2 := hide (HB1.out.trans (b9.mono HB1.out.size))
        obtain ⟨hb2, rfl⟩ := HSQ.out _ _ _ _ _ ha2
        have HA2 := hide hb2
        have HZ1 := hide HB1.out.size
        have HZA := hide b9.size
        clear ha2 hb2
        clear b9
        refine hK.out _ _ (HSS.out _ HB2.out) (fun hHeld2 => ?_)
        clear hK K
        try simp only [Act.put, List.setIfInBounds_toArray, List.set_cons_zero, List.set_cons_succ]
        refine wpAnyH_ready (rs := [4]) (by kernel_rfl) (by simp) ?_
        refine AllReadyH.cons (o := { dst := some 23, op := Op.call { callee := Callee.value (Operand.func 15), args := #[Operand.tmp 22], argTypes := #[28] }, type := 32, pos := "law.go:107", after := #[{ on := 3, ground := Ground.data }, { on := 2, ground := Ground.chain }], guard := none }) rfl (fun K hK => ?_) ?_
        ·
          go_simp
          go_at_call 15
          refine (HAL0.out z2 (HUP.out _ HB2.out)).mono ?_
          rintro e z3 ⟨a3, c3, rfl, ha3, b9⟩
          have HB3 := hide (HB2.out.trans (b9.mono HB2.out.size))
          have HA3 := hide ha3
          have HA2 := hide (HA2.out.below b9)
          have HZ2 := hide (Nat.le_trans HZA.out b9.size)
          clear ha3
          clear b9
          refine hK.out _ _ (HSS.out _ HB3.out) (fun hHeld3 => ?_)
          clear hK K
          try simp only [Act.put, List.setIfInBounds_toArray, List.set_cons_zero, List.set_cons_succ]
          refine wpAnyH_ready (rs := [5]) (by kernel_rfl) (by simp) ?_
          refine AllReadyH.cons (o := { dst := some 24, op := Op.call { callee := Callee.builtin Builtin.append, args := #[Operand.tmp 21, Operand.tmp 23], argTypes := #[32, 32] }, type := 32, pos := "law.go:107", after := #[{ on := 2, ground := Ground.data }, { on := 4, ground := Ground.data }, { on := 4, ground := Ground.chain }], guard := none }) rfl (fun K hK => ?_) ?_
          ·
            obtain ⟨a9, c9, w9, hrun, hans, hbel⟩ := pushMany z3 _ _ a2 6 c2 a3 6 c3 _ _ HA2.out HA3.out (by decide) (by decide) HZ2.out
            have HRUN := hide (show (Builtin.append_ #[32, 32] 32 #[.slice a2 6 c2, .slice a3 6 c3]).run Tryz.prog z3 = .ok (.slice a9 12 c9) w9 from hrun)
            have HANS := hide (show AnsAt w9 _ a9 12 c9 _ from hans)
            have HB9 := hide (HB3.out.trans (hbel.mono HZ1.out))
            clear hrun hans hbel
            rw [if_pos (by rfl)]
            refine Lib.wp_append_run _ _ _ _ _ rfl _ _ rfl rfl _ _ HRUN.out ?_
            refine hK.out _ _ (HSS.out _ HB9.out) (fun hHeld4 => ?_)
            clear hK K
            try simp only [Act.put, List.setIfInBounds_toArray, List.set_cons_zero, List.set_cons_succ]
            refine wpAnyH_take (i := 6) (oi := { dst := some 4, op := Op.assign (Operand.tmp 24), type := 32, pos := "law.go:107", after := #[{ on := 5, ground := Ground.data }, { on := 5, ground := Ground.chain }, { on := 0, ground := Ground.phase }, { on := 1, ground := Ground.phase }, { on := 2, ground := Ground.phase }, { on := 3, ground := Ground.phase }, { on := 4, ground := Ground.phase }, { on := 5, ground := Ground.phase }], guard := none }) (v := ?_) rfl (by kernel_rfl) (by kernel_rfl) (by kernel_rfl) (fun _ _ _ h => h) (Or.inl ⟨by rfl, ?_⟩) (by assumption) ?_
            rotate_left
            · intro wS hSw
              try dsimp only at hSw
              go_simp
              try with_reducible rfl
            try simp only [Act.put, List.setIfInBounds_toArray, List.set_cons_zero, List.set_cons_succ]
            refine wpAnyH_done (by kernel_rfl) ?_ _
            go_wp2_with fail
            go_loopw [27] (fun i wz => ∃ j : Nat, j ≤ 12 ∧ i = .int .i64 (j : Int) ∧ Hid (Below w9.heap.size w9 wz)) (fun i _ => 12 - (intOf i).toNat)
            case atStart => exact ⟨0, Nat.zero_le _, rfl, hide (Below.refl _ _)⟩
            case round =>
              obtain ⟨j, hj, rfl, HI⟩ := hrel
              have hj4 : (0 : Int) ≤ (j : Int) := by omega
              have hj5 : (j : Int) ≤ 12 := by omega
              by_cases hlt : j < 12
              · have d1 : decide (j < 12) = true := by simp; omega
                have d2 : decide ((j : Int) < 12) = true := by simp; omega
                have d3 : (j : Int) < 12 := by omega
                obtain ⟨x, hx⟩ : ∃ x, (L1 ++ L2)[j]? = some x := ⟨_, List.getElem?_eq_getElem (by rw [HLS.out]; exact hlt)⟩
                obtain ⟨ga, g, cap, hae, hca, htx⟩ := (HANS.out.below HI.out).at hx
                obtain ⟨⟨pa, pb, hpab⟩, ⟨pe, hpe⟩, hxl⟩ := HTL.out j x hx
                obtain ⟨n, hn⟩ : ∃ n, x.length = n := ⟨_, rfl⟩
                rw [hn] at hca hxl
                have hcv0 := htx.conv n cap hn
                have hcv1 : ∀ k, (convert 29 9 (.slice (some ⟨g, 0, none⟩) n cap)).run Tryz.prog (wr.drewN k) = .ok (.string (bt x)) (wr.drewN k) := fun k => (htx.drewN k).conv n cap hn
                have hcv2 : (convert 29 9 (.slice (some ⟨g, 0, none⟩) n cap)).run Tryz.prog wr.drew = .ok (.string (bt x)) wr.drew := (htx.drewN 1).conv n cap hn
                obtain ⟨wl, hwl⟩ : ∃ n, WL.length = n := ⟨_, rfl⟩
                have hw1 := HWL.out
                rw [hwl] at hw1
                have hwz : WT.size = wl := by rw [← HWT.out, ← hwl]; simp [ByteArray.size]
                have hxz : (bt x).size = n := by rw [← hn]; simp [ByteArray.size]
                obtain ⟨hit, hhit⟩ : ∃ h, pa.length = h := ⟨_, rfl⟩
                have hroom : hit + wl ≤ n := by
                  have := congrArg List.length hpab
                  rw [List.length_append, List.length_append] at this
                  omega
                have HHIT := hide (show (((bt x).extract hit (hit + wl)).toList == WT.toList) = true from by
                  rw [ext_bt, ← hhit, ← hwl, hpab, ext_hit, HWT.out, beq_self_eq_true])
                have h4 : 4 ≤ n := by
                  have := congrArg List.length hpe
                  rw [List.length_append] at this
                  simp only [List.length_cons, List.length_nil] at this
                  omega
                have HEND := hide (show ((bt x).extract (n - 4) n).toList = [13, 10, 13, 10] from by
                  have e : (bt x).extract (n - 4) (n - 4 + 4) = bt ((x.drop (n - 4)).take 4) := ext_bt x (n - 4) 4
                  rw [show n - 4 + 4 = n by omega] at e
                  rw [e, bt_list]
                  have hl : pe.length = n - 4 := by
                    have := congrArg List.length hpe
                    rw [List.length_append] at this
                    simp only [List.length_cons, List.length_nil] at this
                    omega
                  rw [hpe, ← hl, List.drop_left' rfl]; rfl)
                have HNN := hide (show hit + wl ≤ n ∧ 1 ≤ wl ∧ wl ≤ 400 ∧ n ≤ 100000 ∧ 4 ≤ n from ⟨hroom, hw1.1, hw1.2, hxl, h4⟩)
                generalize bt x = X at *
                subst hae
                clear htx hn hx hpab hpe hwl hw1 hhit hroom hxl h4
                have HBB := hide HI.out
                clear HI
                go_wp2_with fail
                go_quiet (fail)
                all_goals
                  go_wp2_with fail
                  clear hcv0 hcv1 hcv2 hca
                  have HBC := hide (bdrewN HBB.out nq)
                  generalize wr.drewN nq = wq at *
                  go_loopw [7, 9] (fun nv iv wz => ∃ i k : Nat, iv = .int .i64 (i : Int) ∧ nv = .int .i64 (k : Int) ∧ i ≤ n + 1 ∧ k ≤ i ∧ Hid ((hit < i → 1 ≤ k) ∧ Below w9.heap.size w9 wz)) (fun _ i _ => n + 1 - (intOf i).toNat)
                  case atStart => exact ⟨0, 0, rfl, rfl, by omega, Nat.le_refl _, hide ⟨fun h => by omega, HBC.out⟩⟩
                  case round =>
                    obtain ⟨i, k, rfl, rfl, hin, hki, HK⟩ := hrel
                    have hn9 : n ≤ 100000 := HNN.out.2.2.2.1
                    have hw9 : wl ≤ 400 := HNN.out.2.2.1
                    have hw8 : 1 ≤ wl := HNN.out.2.1
                    have hi4 : (0 : Int) ≤ (i : Int) := by omega
                    have hi5 : (i : Int) ≤ 100001 := by omega
                    have hk4 : (0 : Int) ≤ (k : Int) := by omega
                    have hk5 : (k : Int) ≤ 100001 := by omega
                    by_cases hlt2 : i + wl ≤ n
                    · have e1 : decide ((i : Int) + (wl : Int) ≤ (n : Int)) = true := by simp; omega
                      have e2 : (i : Int) + (wl : Int) ≤ (n : Int) := by omega
                      have e3 : (i : Int) ≤ (i : Int) + (wl : Int) := by omega
                      have e4 : ((i : Int) + (wl : Int)).toNat = i + wl := by omega
                      have e5 : (0 : Int) ≤ (i : Int) + (wl : Int) := by omega
                      obtain ⟨q, hq⟩ : ∃ q, ((X.extract i (i + wl)).toList == WT.toList) = q := ⟨_, rfl⟩
                      cases q with
                      | true =>
                        have HF := hide (show (hit < i + 1 → 1 ≤ k + 1) ∧ Below w9.heap.size w9 wr from ⟨fun _ => by omega, HK.out.2⟩)
                        clear HK
                        go_wp2_with fail
                        exact ⟨⟨i + 1, k + 1, by go_num, by go_num, by omega, by omega, HF⟩, by simp [intOf]; omega⟩
                      | false =>
                        have HF := hide (show (hit < i + 1 → 1 ≤ k) ∧ Below w9.heap.size w9 wr from ⟨fun h => by
                          by_cases he : hit = i
                          · exfalso
                            have h2 := HHIT.out
                            rw [he, hq] at h2
                            cases h2
                          · exact HK.out.1 (by omega), HK.out.2⟩)
                        clear HK
                        go_wp2_with fail
                        exact ⟨⟨i + 1, k, by go_num, rfl, by omega, by omega, HF⟩, by simp [intOf]; omega⟩
                    · have e1 : decide ((i : Int) + (wl : Int) ≤ (n : Int)) = false := by simp; omega
                      have hk1 : 1 ≤ k := HK.out.1 (by have := HNN.out.1; omega)
                      have f1 : decide ((k : Int) < 1) = false := by simp; omega
                      have h4 : 4 ≤ n := HNN.out.2.2.2.2
                      have f2 : decide ((n : Int) < 4) = false := by simp; omega
                      have f3 : (0 : Int) ≤ (n : Int) - 4 := by omega
                      have f4 : ((n : Int) - 4).toNat = n - 4 := by omega
                      have f5 : (n : Int) - 4 ≤ (n : Int) := by omega
                      have f6 : (4 : Int) ≤ (n : Int) := by omega
                      have f7 := HEND.out
                      have HF := hide HK.out.2
                      clear HK
                      go_wp2_with fail
                      exact ⟨⟨j + 1, by omega, by go_num, HF⟩, by simp [intOf]; omega⟩
              · have d1 : decide (j < 12) = false := by simp; omega
                have d2 : decide ((j : Int) < 12) = false := by simp; omega
                have HF := hide HI.out
                clear HI
                go_wp2_with fail
                go_ret
                exact ⟨rfl, HUP.out _ (HB9.out.trans (HF.out.mono HB9.out.size))⟩
          exact AllReadyH.nil
        exact AllReadyH.nil
      exact AllReadyH.nil
    exact AllReadyH.nil
end Go.Proofs.YtonoaopioifedaaGreatDoor
