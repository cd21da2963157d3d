/- Ssdp: what the law lends, the bytes that came in, and the answers to a search against the document. -/
import Derived.Test.YtonoaopioifedaaGreatDoorSAk
import Derived.Deep.Upon
import Derived.Test.YtonoaopioifedaaGreatDoorRows
import Derived.LaidMore
import Derived.ProofKit
import Derived.OpenShut
import Derived.ChangeSlices
import Derived.Test.YtonoaopioifedaaGreatDoorSRs
import Derived.Test.YtonoaopioifedaaGreatDoorSTf
namespace Go.Proofs.YtonoaopioifedaaGreatDoor
open Go.RowKit Go.Shelf Go.Deep
set_option linter.unusedVariables false
set_option linter.unusedSimpArgs false
set_option maxRecDepth 100000
def LiesB (w : World) (a : Option Addr) (l : List UInt8) : Prop := l ≠ [] → ∃ g off, a = some ⟨g, off, none⟩ ∧ g < w.heap.size ∧ ∀ i c, l[i]? = some c → w.cell? ⟨g, off + i, none⟩ = some (.int .u8 (c.toNat : Int))
theorem LiesB.below {w w' : World} {a : Option Addr} {l : List UInt8} (h : LiesB w a l) (hb : Below w.heap.size w w') : LiesB w' a l := fun hne => by
  obtain ⟨g, off, e, hg, hc⟩ := h hne
  exact ⟨g, off, e, Nat.lt_of_lt_of_le hg hb.size, fun i c hi => (hb.cell (p := ⟨g, off + i, none⟩) hg).trans (hc i c hi)⟩
theorem Tryz.infoU8 : (Tryz.prog.info? 5).map (fun i => (i.zero, i.size, i.bytes)) = some (some (.int .u8 0), 1, 1) := by kernel_rfl
def LentB (W : World) (g : Nat) (l : List UInt8) : Prop := ∃ cs : Array Value, W.heap[g]? = some (.cells cs 5 (0, 0)) ∧ l.length ≤ cs.size ∧ ∀ (j : Nat) (b : UInt8), l[j]? = some b → cs[j]? = some (H.byV b)
theorem LentB.cell {W : World} {g : Nat} {l : List UInt8} (h : LentB W g l) (j : Nat) (b : UInt8) (hj : l[j]? = some b) : W.cell? ⟨g, j, none⟩ = some (H.byV b) := by
  obtain ⟨cs, h1, _, h3⟩ := h
  have := h3 j b hj
  simp only [World.cell?, h1]
  exact this
theorem app_in (V : World) (ta : Option Addr) (tn tc : Nat) (l : List UInt8) (hn : l.length = tn) (hm : tn ≤ tc) (hL : LiesB V ta l) (hs : tn ≤ 3000) :
    ∃ gi ci w', (Builtin.append_ #[29, 29] 29 #[.slice (some ⟨V.heap.size, 0, none⟩) 0 0, .slice ta tn tc]).run Tryz.prog (V.alloc (.cells #[] 5)) = .ok (.slice (some ⟨gi, 0, none⟩) tn ci) w' ∧ V.heap.size ≤ gi ∧ LentB w' gi l ∧ Below V.heap.size V w' := by
  obtain ⟨V1, hV1⟩ : ∃ W, V.alloc (.cells #[] 5) = W := ⟨_, rfl⟩
  have hal : Below V.heap.size V V1 := by rw [← hV1]; exact (Below.refl _ _).alloc (Nat.le_refl _) _
  have hr2 : V1.ownsRow V.heap.size 5 1 (.slice (some ⟨V.heap.size, 0, none⟩) 0 0) 0 [] := by rw [← hV1]; exact World.ownsRow_lit (base := V.heap.size) (e := 5) (size := 1) V #[] 0 (Nat.le_refl _) (by unfold maxLen; omega) rfl
  have hz : V1.heap[V.heap.size]? = some (.cells #[] 5 (0, 0)) := by rw [← hV1]; exact heap_alloc_new _ _
  rw [hV1]
  obtain ⟨i0, hi, hz0, hz1, hz2⟩ := info_parts Tryz.infoU8
  by_cases h0 : tn = 0
  · subst h0
    have hl0 : l = [] := List.length_eq_zero_iff.1 hn
    subst hl0
    have hsrc : Src Tryz.prog i0.size 29 (.slice ta 0 tc) 0 [] V1 := by
      cases ta with
      | none => exact Src.ofNil V1 Tryz.underlying29 tc
      | some a => exact Src.ofSlice V1 Tryz.underlying29 a 0 tc [] (by simp) (fun j u h => by simp at h) (fun u h => by cases h)
    exact ⟨V.heap.size, 0, V1, run_append_nothing V1 29 29 29 5 i0 Tryz.underlying29 hi _ 0 0 (Nat.le_refl _) _ hsrc, Nat.le_refl _, ⟨#[], hz, Nat.zero_le _, fun j b h => by simp at h⟩, hal⟩
  · obtain ⟨g, off, rfl, hg, hc⟩ := hL (by intro e; rw [e] at hn; simp at hn; omega)
    have hnl : (l.map H.byV).length = tn := by rw [List.length_map, hn]
    obtain ⟨v', w5, h1, h2, h3, _, h5⟩ := run_append_own_at (P := Tryz.prog) V1 V.heap.size 29 29 5 i0 (.int .u8 0) 1 1 Tryz.underlying29 hi hz0 hz1 hz2 rfl (by decide) (.slice (some ⟨V.heap.size, 0, none⟩) 0 0) 0 [] hr2 ⟨g, off, none⟩ tn tc (l.map H.byV) (by rw [hnl, Nat.mul_one]) (fun j u hj => by
      rw [List.getElem?_map] at hj
      obtain ⟨b, hb, rfl⟩ := Option.map_eq_some_iff.1 hj
      rw [Addr.add_lit]
      exact (hal.cell (p := ⟨g, off + j, none⟩) hg).trans (hc j b hb)) (by
      intro u hu
      obtain ⟨b, _, rfl⟩ := List.mem_map.1 hu
      rfl) (by unfold maxLen; omega) (by omega) hal.size
    obtain ⟨a', c', rfl⟩ := slice_form h2
    rw [Nat.zero_add] at h1 h2
    rw [List.nil_append] at h2
    rcases h2.2 with ⟨_, h⟩ | ⟨gi, ci, cur, hv, hgi, hh, hcur⟩
    · omega
    · obtain ⟨rfl, rfl⟩ : a' = some ⟨gi, 0, none⟩ ∧ c' = ci := by simpa using hv
      have hcl : ∀ (j : Nat) (b : UInt8), l[j]? = some b → cur[j]? = some (H.byV b) := fun j b hj => by
        have hj2 := (List.getElem?_eq_some_iff.1 hj).1
        have := World.ownsRow.cellAt h2 j (by omega)
        rw [List.getElem?_map, hj] at this
        simp only [World.cell?, hh] at this
        exact this
      refine ⟨gi, c', w5, h1, hgi, ⟨cur, hh, ?_, hcl⟩, hal.grown h3 hal.size (fun k e => (hr2.lt k e).1)⟩
      rcases Nat.lt_or_ge cur.size l.length with hlt | hge
      · have hx := hcl cur.size _ (List.getElem?_eq_getElem hlt)
        rw [Array.getElem?_eq_none (Nat.le_refl _)] at hx
        cases hx
      · exact hge
/-- What is lent is overwritten. -/
structure Spoil (w6 wz : World) (K gi n : Nat) : Prop where
  cells : ∃ cs : Array Value, wz.heap[gi]? = some (.cells cs 5 (0, 0)) ∧ n ≤ cs.size
  keep : ∀ k, k ≠ gi → wz.heap[k]? = w6.heap[k]?
  below : Below K w6 wz
  ge : K ≤ gi
theorem Spoil.open {w6 wz : World} {K gi n j : Nat} (h : Spoil w6 wz K gi n) (hj : j < n) : ∃ y, wz.cell? ⟨gi, j, none⟩ = some y ∧ wz.frozen? ⟨gi, j, none⟩ = false ∧ ∀ v : Value, Spoil w6 (wz.setCell ⟨gi, j, none⟩ v) K gi n := by
  obtain ⟨⟨cs, hc, hs⟩, hk, hb, hg⟩ := h
  refine ⟨cs[j]'(by omega), by simp only [World.cell?, hc]; exact Array.getElem?_eq_getElem (by omega), by simp [World.frozen?, hc], fun v => ⟨⟨_, heap_setCell_same wz gi j _ _ v hc, by simpa using hs⟩, fun k hk2 => (heap_setCell_other wz ⟨gi, j, none⟩ k v hk2).trans (hk k hk2), hb.setCell (p := ⟨gi, j, none⟩) hg v, hg⟩⟩
theorem AnsAt.off {W W' : World} {K : Nat} {a : Option Addr} {n c : Nat} {ls : List (List UInt8)} (h : AnsAt W K a n c ls) (hk : ∀ k, K ≤ k → W'.heap[k]? = W.heap[k]?) : AnsAt W' K a n c ls := by
  obtain ⟨vs, h1, h2, h3⟩ := h
  refine ⟨vs, ⟨h1.1, ?_⟩, h2, fun i v l hv hl => ?_⟩
  · rcases h1.2 with h | ⟨g, cap, cur, hv, hg, hh, r⟩
    · exact .inl h
    · exact .inr ⟨g, cap, cur, hv, hg, (hk g hg).trans hh, r⟩
  · obtain ⟨g, cap, e, ⟨cs, f, ht, hcs⟩, hg⟩ := h3 i v l hv hl
    exact ⟨g, cap, e, ⟨cs, f, (hk g hg).trans ht, hcs⟩, hg⟩
end Go.Proofs.YtonoaopioifedaaGreatDoor
namespace Go.Proofs.YtonoaopioifedaaGreatDoor
open Go.ChangeShapes Go.WideShapes Go.ChangeAt Go.RowKit
set_option linter.unusedVariables false
set_option maxRecDepth 100000
theorem bytes_open {H : Type} {enc : TypeId × Value → H} {W : World} {r : Reach} {b0 : Nat} {v : Value} {dd : DataW H} {p : List MemPlace} (hv : Value.okWide Tryz.prog W r b0 29 v) (h : DataW.Trod enc Tryz.prog W 0 (fun _ => true) true 29 v dd p) :
    ∃ (a : Option Addr) (n c : Nat) (l : List UInt8), v = .slice a n c ∧ l.length = n ∧ n ≤ c ∧ LiesB W a l := by
  obtain ⟨a, n, c, rfl⟩ := okWide_slice Tryz.underlying29 hv
  obtain ⟨fuel, hf⟩ := h
  rcases open_ints Tryz.underlying29 Tryz.underlying5 (by kernel_rfl) (by simpa [Value.cells] using hf) with ⟨hcs, _⟩ | ⟨x, l, c', zs, hcs, _, hl, hm, hz, _, hcell, hwz⟩
  · simp at hcs
    obtain ⟨rfl, rfl, rfl⟩ := hcs
    exact ⟨none, 0, 0, [], rfl, rfl, Nat.le_refl _, fun h => absurd rfl h⟩
  · simp at hcs
    obtain ⟨rfl, rfl, rfl⟩ := hcs
    have hz' : zs.length = c := by simpa using hz
    have hln : ((zs.take n).map fun z => UInt8.ofNat z.toNat).length = n := by rw [List.length_map, List.length_take]; omega
    refine ⟨some x, n, c, (zs.take n).map fun z => UInt8.ofNat z.toNat, rfl, hln, hl, fun hne => ?_⟩
    have hp : 0 < n := by
      rcases Nat.eq_zero_or_pos n with h | h
      · subst h; simp at hne
      · exact h
    obtain ⟨b, off, rfl, hc⟩ := ints_at hcell (by omega)
    refine ⟨b, off, rfl, World.block_lt_of_cell? W ⟨b, off + 0, none⟩ (hc 0 (by omega)), fun i u hi => ?_⟩
    have hin : i < n := by have := (List.getElem?_eq_some_iff.1 hi).1; omega
    rw [List.getElem?_map, List.getElem?_take_of_lt hin] at hi
    obtain ⟨z, hzi⟩ : ∃ z, zs[i]? = some z := ⟨_, List.getElem?_eq_getElem (by omega)⟩
    rw [hzi] at hi
    obtain rfl : UInt8.ofNat z.toNat = u := by simpa using hi
    rw [hc i (by omega), List.getD_eq_getElem?_getD, hzi]
    have hb := bounds_u8 (hwz z (List.mem_of_getElem? hzi))
    have : ((UInt8.ofNat z.toNat).toNat : Int) = z := by
      rw [UInt8.toNat_ofNat']
      omega
    rw [this]; rfl
end Go.Proofs.YtonoaopioifedaaGreatDoor
namespace Go.Proofs.YtonoaopioifedaaGreatDoor
open Go.RowKit Go.Shelf Go.Deep
set_option linter.unusedVariables false
set_option linter.unusedSimpArgs false
set_option maxRecDepth 100000
theorem cfg_cfs2 (c : Cfg) (a : Option Addr) (n cap : Nat) : CfS (c.cells a n cap) c.lan c.uuid.data.toList := ⟨rfl, rfl, by show some (Value.string c.uuid) = some (Value.string (bt c.uuid.data.toList)); rw [show bt c.uuid.data.toList = c.uuid from by cases c.uuid; simp [bt]]⟩
theorem conv_lies {w : World} {a : Option Addr} {l : List UInt8} (h : LiesB w a l) (n c : Nat) (hn : l.length = n) : (convert 29 9 (.slice a n c)).run Tryz.prog w = .ok (.string (bt l)) w := by
  rw [← hn]
  by_cases h0 : l = []
  · subst h0
    cases a with
    | none => simp [convert, run_underlying Tryz.underlying29, run_underlying Tryz.underlying5, run_underlying Tryz.underlying9]; rfl
    | some a => exact run_convert_bytes_back w 29 9 5 a c [] Tryz.underlying29 Tryz.underlying5 Tryz.underlying9 (fun j hj => by simp at hj)
  · obtain ⟨g, off, rfl, _, hc⟩ := h h0
    exact run_convert_bytes_back w 29 9 5 ⟨g, off, none⟩ c l Tryz.underlying29 Tryz.underlying5 Tryz.underlying9 (fun j hj => by
      rw [Addr.add_lit]
      exact hc j _ (List.getElem?_eq_getElem hj))
theorem searchL_len (p o st : List UInt8) : (searchL p o st).length ≤ 6 := by
  unfold searchL
  rw [List.length_map]
  exact Nat.le_trans (List.length_filter_le _ _) (by rw [namesL_len]; exact Nat.le_refl _)
set_option maxHeartbeats 8000000 in
theorem ssdpFinds_any (c : Cfg) (fa : Option Addr) (fn fc : Nat) (ta : Option Addr) (tn tc : Nat) (l : List UInt8) (w : World) (hp : PT w) (hE : H.Env w) (hlan : c.lan ≤ 4294967295) (htn : l.length = tn) (htc : tn ≤ tc) (hL : LiesB w ta l) :
    Calls Tryz.prog 3 #[.agg (c.cells fa fn fc), .slice ta tn tc] w fun e w' => e = .returned (.bool true) ∧ Below w.heap.size w w' := by
  have hcf := cfg_cfs2 c fa fn fc
  have h25 : (c.cells fa fn fc)[25]? = some (.slice fa fn fc) := rfl
  obtain ⟨u, hu⟩ : ∃ u, c.uuid.data.toList = u := ⟨_, rfl⟩
  rw [hu] at hcf
  obtain ⟨ad, had⟩ : ∃ u, c.lan = u := ⟨_, rfl⟩
  rw [had] at hcf hlan
  obtain ⟨cs, hcs⟩ : ∃ cs, c.cells fa fn fc = cs := ⟨_, rfl⟩
  rw [hcs] at hcf h25 ⊢
  have HGR := hide (fun V => great_any cs u fa fn fc hcf.size hcf.uuid h25 V)
  have HCF := hide hcf
  have HSZ := hide hcf.size
  have HLA := hide hlan
  have HPT := hide (And.intro hp hE)
  have HTX := hide (And.intro htn (And.intro htc hL))
  obtain ⟨W1, hW1⟩ : ∃ V, w.alloc (.cells cs 28) = V := ⟨_, rfl⟩
  have hb1 : Below w.heap.size w W1 := by rw [← hW1]; exact (Below.refl _ _).alloc (Nat.le_refl _) _
  obtain ⟨CC, hCC⟩ : ∃ g, w.heap.size = g := ⟨_, rfl⟩
  have HC2 := hide (show W1.heap[CC]? = some (.cells cs 28 (0, 0)) from by rw [← hW1, ← hCC]; exact heap_alloc_new _ _)
  have HE := hide (And.intro hW1 hCC)
  have HWW := hide hb1
  have HSP := hide (speaks_any W1 (hp.below HWW.out (Nat.le_refl _)) (hE.below HWW.out (Nat.le_refl _)))
  clear hcf h25 hu had hcs hW1 hb1 hCC hp hE hlan htn htc hL
  go_enter Tryz.func3, Tryz.ntmps3
  go_upto_region 1 with (fail)
  rw [HE.out.1]
  try rw [HE.out.2]
  go_wp2_with fail
  refine HSP.out.mono ?_
  rintro e w3 ⟨rfl, b3⟩
  have HC3 := hide (below_blk b3 HC2.out (Nat.le_refl _))
  have HW3 := hide (HWW.out.trans (b3.mono HWW.out.size))
  clear b3 HSP HC2 HWW
  go_wp2_with ((refine ld_cfg (o := ⟨some 10, _, _, _, _, _⟩) (.tmp 2) rfl (by rfl) CC rfl cs HC3.out HSZ.out ?_; try simp only [Act.put, List.setIfInBounds_toArray, List.set_cons_zero, List.set_cons_succ]))
  refine (HGR.out _).mono ?_
  rintro e w4 ⟨rfl, b4⟩
  have HC4 := hide (below_blk b4 HC3.out (Nat.le_refl _))
  have HW4 := hide (HW3.out.trans (b4.mono HW3.out.size))
  clear b4 HGR HC3 HW3
  obtain ⟨gr, hgr⟩ : ∃ b, (decide (300 < u.length) || decide (100 < fn)) = b := ⟨_, rfl⟩
  rw [hgr]
  cases gr with
  | true =>
    go_wp2_with fail
    go_ret
    exact ⟨rfl, HW4.out⟩
  | false =>
  by_cases hlong : 3000 < tn
  · have d1 : decide ((3000 : Int) < (tn : Int)) = true := by simp; omega
    go_wp2_with fail
    go_ret
    exact ⟨rfl, HW4.out⟩
  have d1 : decide ((3000 : Int) < (tn : Int)) = false := by simp; omega
  have hul : u.length ≤ 900 := by
    rw [Bool.or_eq_false_iff] at hgr
    have := of_decide_eq_false hgr.1
    omega
  have HUL := hide hul
  have ht3 : tn ≤ 3000 := by omega
  obtain ⟨gi, ci, w5, hrun, hgi, hlent, b5⟩ := app_in w4 ta tn tc l HTX.out.1 HTX.out.2.1 (HTX.out.2.2.below HW4.out) ht3
  have HRUN := hide hrun
  have HGI := hide (show w.heap.size ≤ gi ∧ gi < w5.heap.size from ⟨Nat.le_trans HW4.out.size hgi, by obtain ⟨_, h, _⟩ := hlent; exact lt_of_block h⟩)
  have HC5 := hide (below_blk b5 HC4.out (Nat.le_refl _))
  have HGC := hide (show CC ≠ gi from by have := lt_of_block HC4.out; omega)
  have HW5 := hide (HW4.out.trans (b5.mono HW4.out.size))
  have HLE := hide hlent
  have HSR := hide (search_any cs ad u HCF.out l gi ci tn w5 (HPT.out.1.below HW5.out (Nat.le_refl _)) (HPT.out.2.below HW5.out (Nat.le_refl _)) HLA.out hul HTX.out.1 (by omega) (fun j b hb => hlent.cell j b hb))
  have htn4 : (0 : Int) ≤ (tn : Int) := by omega
  have htn5 : (tn : Int) ≤ 3000 := by omega
  clear hrun hgi hlent b5 hul hgr hlong HC4 HW4
  go_upto_region 6 with (at_builtin; refine Lib.wpList_append_run _ rfl _ _ _ _ rfl _ _ rfl rfl _ _ HRUN.out ?_)
  go_wp2_with ((refine ld_cfg (o := ⟨some 20, _, _, _, _, _⟩) (.tmp 2) rfl (by rfl) CC rfl cs HC5.out HSZ.out ?_; try simp only [Act.put, List.setIfInBounds_toArray, List.set_cons_zero, List.set_cons_succ]))
  refine HSR.out.mono ?_
  rintro e w6 ⟨a, m, cp, rfl, hans, b6⟩
  have hm6 : m ≤ 6 := by have := ans_len hans; have h2 := searchL_len (plcL (txt (qb ad) 4)) (sUu ++ u) (H.soughtL l); omega
  have HM6 := hide hm6
  have HANS := hide hans
  have HC6 := hide (below_blk b6 HC5.out (Nat.le_refl _))
  have HW6 := hide (HW5.out.trans (b6.mono HW5.out.size))
  have HS := hide (show Spoil w6 w6 w.heap.size gi tn from by
    obtain ⟨ds, h1, h2, _⟩ := HLE.out
    exact ⟨⟨ds, below_blk b6 h1 (Nat.le_refl _), by have := HTX.out.1; omega⟩, fun _ _ => rfl, Below.refl _ _, HGI.out.1⟩)
  clear hans b6 hm6 HSR HLE HW5 HC5 HRUN
  go_wp2_with fail
  go_loopw [25] (fun i wz => ∃ j : Nat, j ≤ tn ∧ i = .int .i64 (j : Int) ∧ Hid (Spoil w6 wz w.heap.size gi tn)) (fun i _ => tn - (intOf i).toNat)
  case atStart => exact ⟨0, Nat.zero_le _, rfl, HS⟩
  case round =>
    clear HS
    obtain ⟨j, hj, rfl, HS⟩ := hrel
    have hj4 : (0 : Int) ≤ (j : Int) := by omega
    have hj5 : (j : Int) ≤ 3000 := by omega
    by_cases hlt : j < tn
    · obtain ⟨y, hcj, hfj, hnext⟩ := HS.out.open hlt
      have HNX := hide (hnext (.int .u8 238))
      have i1 : (j : Int) < (tn : Int) := by omega
      clear hnext
      go_wp2_with fail
      go_roundw
      case rel => exact ⟨j + 1, by omega, by go_num, HNX⟩
      case measure => simp [intOf]; omega
    have i1 : ¬ (j : Int) < (tn : Int) := by omega
    have HW7 := hide (HW6.out.trans HS.out.below)
    have HC7 := hide ((HS.out.keep CC HGC.out).trans HC6.out)
    have HA7 := hide (HANS.out.off (fun k hk => HS.out.keep k (by have := HGI.out.2; omega)))
    have hcv := conv_lies (HTX.out.2.2.below HW7.out) tn tc HTX.out.1
    have HRS := hide (rsearch_any cs ad u HCF.out l wr HLA.out HUL.out (by have := HTX.out.1; omega))
    obtain ⟨T, hT⟩ : ∃ T, bt l = T := ⟨_, rfl⟩
    rw [hT] at hcv HRS
    clear hT HS HANS HC6 HW6 HGI HGC hj hlt
    go_wp2_with ((refine ld_cfg (o := ⟨some 33, _, _, _, _, _⟩) (.tmp 2) rfl (by rfl) CC rfl cs HC7.out HSZ.out ?_; try simp only [Act.put, List.setIfInBounds_toArray, List.set_cons_zero, List.set_cons_succ]))
    refine HRS.out.mono ?_
    rintro e w8 ⟨a2, n2, c2, rfl, hrow, b8⟩
    have HA8 := hide (HA7.out.below b8)
    have HW8 := hide (HW7.out.trans (b8.mono HW7.out.size))
    have HR8 := hide hrow
    have hn2 : n2 ≤ 1000 := by have := hrow.1; have h2 := searchL_len (plcL (txt (qb ad) 4)) (sUu ++ u) (H.soughtL l); omega
    have HN2 := hide hn2
    clear b8 hrow hn2 HRS HW7 HA7 HC7 hcv
    go_wp2_with fail
    refine (alike_any w8 _ a a2 m cp n2 c2 _ _ HA8.out HR8.out (by have := HM6.out; omega) HN2.out).mono ?_
    rintro e w9 ⟨rfl, b9⟩
    have ht3 : decide (searchL (plcL (txt (qb ad) 4)) (sUu ++ u) (H.soughtL l) = searchL (plcL (txt (qb ad) 4)) (sUu ++ u) (H.soughtL l)) = true := decide_eq_true rfl
    rw [ht3]
    have HW9 := hide (HW8.out.trans (b9.mono HW8.out.size))
    clear b9 ht3
    go_wp2_with fail
    go_ret
    exact ⟨rfl, HW9.out⟩
end Go.Proofs.YtonoaopioifedaaGreatDoor
