/- Ssdp: what is told of the device, by the document. -/
import Derived.Test.YtonoaopioifedaaGreatDoorSRf
namespace Go.Proofs.YtonoaopioifedaaGreatDoor
open Go.RowKit Go.Shelf Go.Deep
set_option linter.unusedVariables false
set_option linter.unusedSimpArgs false
set_option maxRecDepth 100000
set_option maxHeartbeats 8000000 in
theorem rnotify_true (cs : Array Value) (ad : Nat) (u : List UInt8) (hc : CfS cs ad u) (w : World) (ha : ad ≤ 4294967295) (hu : u.length ≤ 900) :
    Calls Tryz.prog 16 #[.agg cs, .bool true] w fun e w' => ∃ a c, e = .returned (.slice a 6 c) ∧ RowS w' a 6 ((namesL (sUu ++ u)).map (alvL (plcL (txt (qb ad) 4)))) ∧ Below w.heap.size w w' := by
  have hl := txt_len (qb ad) (fun i => by have : qb ad i < 256 := Nat.mod_lt _ (by decide); omega) 4 (Nat.le_refl _)
  obtain ⟨W1, hW1⟩ : ∃ V, w.alloc (.cells cs 28) = V := ⟨_, rfl⟩
  obtain ⟨W2, hW2⟩ : ∃ V, W1.alloc (.cells #[] 9) = V := ⟨_, rfl⟩
  have hb1 : Below w.heap.size w W1 := by rw [← hW1]; exact (Below.refl _ _).alloc (Nat.le_refl _) _
  have hb2 : Below W1.heap.size W1 W2 := by rw [← hW2]; exact (Below.refl _ _).alloc (Nat.le_refl _) _
  obtain ⟨CC, hCC⟩ : ∃ g, w.heap.size = g := ⟨_, rfl⟩
  obtain ⟨r, hr⟩ : ∃ g, CC + 1 = g := ⟨_, rfl⟩
  have hz1 : W1.heap.size = r := by rw [← hW1, ← hr, ← hCC]; simp
  have hc2 : W2.heap[CC]? = some (.cells cs 28 (0, 0)) := below_blk hb2 (by rw [← hW1, ← hCC]; exact heap_alloc_new _ _) (Nat.le_refl _)
  have hl4 : H.OwnS W2 w.heap.size (some ⟨r, 0, none⟩) 0 0 [] := by rw [← hW2, ← hz1]; exact World.ownsRow_lit (base := w.heap.size) (e := 9) (size := 1) W1 #[] 0 hb1.size (by unfold maxLen; omega) rfl
  have HE := hide (show (w.alloc (.cells cs 28)).alloc (.cells #[] 9) = W2 from by rw [hW1]; exact hW2)
  have HZ := hide (And.intro hCC hr)
  have HNM := hide (rnames_any cs ad u hc W2 hu)
  have HPL := hide (fun V => rplace_any cs ad u hc V ha)
  have HPP := hide (show (plcL (txt (qb ad) 4)).length ≤ 300 from by unfold plcL tLoc; simp only [List.length_append, List.length_cons, List.length_nil]; omega)
  have HOL := hide (show (sUu ++ u).length ≤ 1000 from by unfold sUu; simp only [List.length_append, List.length_cons, List.length_nil]; omega)
  have HWW := hide (hb1.trans (hb2.mono hb1.size))
  have HL4 := hide (And.intro hl4 (show r < W2.heap.size ∧ CC < r from ⟨by rw [← hW2]; simp; omega, by omega⟩))
  have HC2 := hide hc2
  have HSZ := hide hc.size
  generalize plcL (txt (qb ad) 4) = PP at *
  generalize sUu ++ u = o at *
  clear hl hW1 hW2 hb1 hb2 hCC hr hz1 hc2 hl4 hc ha hu
  go_enter Tryz.func16, Tryz.ntmps16
  go_upto_region 2 with (fail)
  rw [HE.out]
  rw [HZ.out.1]
  rw [HZ.out.2]
  go_wp2_with ((refine ld_cfg (o := ⟨some 12, _, _, _, _, _⟩) (.tmp 2) rfl (by rfl) CC rfl cs HC2.out HSZ.out ?_; try simp only [Act.put, List.setIfInBounds_toArray, List.set_cons_zero, List.set_cons_succ]))
  refine HNM.out.mono ?_
  rintro e w2 ⟨xa, xc, ya, yc, rfl, hx, hy, hge, b2⟩
  have HX := hide hx
  have HY := hide hy
  have HGE := hide hge
  have HW2 := hide (HWW.out.trans (b2.mono HWW.out.size))
  have HC3 := hide (below_blk b2 HC2.out (Nat.le_refl _))
  have HLT := hide HL4.out.2
  have HI := hide (show RI w w2 w2 w.heap.size r (some ⟨r, 0, none⟩) 0 0 ((((namesL o).map (alvL PP)).take 0).map bt) from ⟨owns_below HL4.out.1 b2 (Nat.le_refl _), HW2.out, Nat.le_refl _, fun _ _ _ => rfl, Nat.le_refl _, fun g hg => by injection hg with hg; subst hg; exact .inl rfl⟩)
  clear hx hy hge b2 HNM HE HZ HWW HC2 HL4
  go_wp2_with fail
  go_loopw [5, 8] (fun bv i wz => ∃ (k : Nat) (a : Option Addr) (c : Nat), k ≤ 6 ∧ bv = .slice a k c ∧ i = .int .i64 (k : Int) ∧ Hid (RI w w2 wz w.heap.size r a k c ((((namesL o).map (alvL PP)).take k).map bt))) (fun _ i _ => 6 - (intOf i).toNat)
  case atStart => exact ⟨0, _, _, Nat.zero_le _, rfl, rfl, HI⟩
  case round =>
    clear HI
    obtain ⟨k, a, c, hk, rfl, rfl, HI⟩ := hrel
    have hk4 : (0 : Int) ≤ (k : Int) := by omega
    have hk5 : (k : Int) ≤ 6 := by omega
    by_cases hlt : k < 6
    · have d1 : decide ((k : Int) < 6) = true := by simp; omega
      obtain ⟨n1, hn1⟩ : ∃ y, (nmsL o)[k]? = some y := ⟨_, List.getElem?_eq_getElem (by rw [nmsL_len]; exact hlt)⟩
      have hl1 := nmsL_le o n1 (List.mem_of_getElem? hn1) HOL.out
      have hl2 := unL_le o n1 hl1 HOL.out
      obtain ⟨ga, hga, cn1⟩ := HX.out.2 k n1 hn1
      obtain ⟨n2, hn2⟩ : ∃ y, unL o n1 = y := ⟨_, rfl⟩
      obtain ⟨gb, hgb, cn2⟩ := HY.out.2 k n2 (by rw [List.getElem?_map, hn1]; exact congrArg some hn2)
      have g1 := HGE.out ⟨ga, 0, none⟩ (.inl hga)
      have g2 := HGE.out ⟨gb, 0, none⟩ (.inr hgb)
      have hr9 := HLT.out.1
      have cn1 := HI.out.cell cn1 (by intro e; simp only [e] at g1; omega)
      have cn2 := HI.out.cell cn2 (by intro e; simp only [e] at g2; omega)
      have HTK := hide (show ((namesL o).map (alvL PP)).take (k + 1) = ((namesL o).map (alvL PP)).take k ++ [alvL PP (n1, n2)] from by rw [List.take_add_one, List.getElem?_map]; unfold namesL; rw [List.getElem?_map, hn1, ← hn2]; rfl)
      rw [hn2] at hl2
      subst hga hgb
      clear hn1 hn2 g1 g2 hr9 hk
      have d2 : decide (k < 6) = true := by simp; omega
      have d3 : (k : Int) < 6 := by omega
      obtain ⟨e1, he1⟩ : ∃ l, [67, 65, 67, 72, 69, 45, 67, 79, 78, 84, 82, 79, 76, 58, 32, 109, 97, 120, 45, 97, 103, 101, 61, 49, 56, 48, 48, 13, 10] ++ (PP ++ cr) = l := ⟨_, rfl⟩
      obtain ⟨e2, he2⟩ : ∃ l, e1 ++ [78, 84, 58, 32] = l := ⟨_, rfl⟩
      obtain ⟨e3, he3⟩ : ∃ l, e2 ++ n1 = l := ⟨_, rfl⟩
      obtain ⟨e4, he4⟩ : ∃ l, e3 ++ [13, 10, 78, 84, 83, 58, 32, 115, 115, 100, 112, 58, 97, 108, 105, 118, 101, 13, 10] = l := ⟨_, rfl⟩
      obtain ⟨e5, he5⟩ : ∃ l, e4 ++ [83, 69, 82, 86, 69, 82, 58, 32, 104, 101, 97, 114, 116, 104, 47, 49, 32, 85, 80, 110, 80, 47, 49, 46, 49, 32, 104, 101, 97, 114, 116, 104, 47, 49, 13, 10] = l := ⟨_, rfl⟩
      obtain ⟨e6, he6⟩ : ∃ l, [78, 79, 84, 73, 70, 89, 32, 42, 32, 72, 84, 84, 80, 47, 49, 46, 49, 13, 10, 72, 79, 83, 84, 58, 32, 50, 51, 57, 46, 50, 53, 53, 46, 50, 53, 53, 46, 50, 53, 48, 58, 49, 57, 48, 48, 13, 10] ++ e5 = l := ⟨_, rfl⟩
      obtain ⟨e7, he7⟩ : ∃ l, e6 ++ [85, 83, 78, 58, 32] = l := ⟨_, rfl⟩
      obtain ⟨e8, he8⟩ : ∃ l, e7 ++ n2 = l := ⟨_, rfl⟩
      obtain ⟨e9, he9⟩ : ∃ l, e8 ++ [13, 10, 13, 10] = l := ⟨_, rfl⟩
      have HFX := hide (show alvL PP (n1, n2) = e9 from by rw [← he9, ← he8, ← he7, ← he6, ← he5, ← he4, ← he3, ← he2, ← he1]; simp [alvL, msgL, Lib.join, List.intercalate, List.intersperse, tNot, tHost, tMax, tNt, tAlv, tBye, tSrv, tUsn, cr])
      have le1 : e1.length ≤ 331 := by rw [← he1]; have := HPP.out; simp only [List.length_append, List.length_cons, List.length_nil, cr]; omega
      have le2 : e2.length ≤ 335 := by rw [← he2]; have := HPP.out; simp only [List.length_append, List.length_cons, List.length_nil, cr]; omega
      have le3 : e3.length ≤ 1335 := by rw [← he3]; have := HPP.out; simp only [List.length_append, List.length_cons, List.length_nil, cr]; omega
      have le4 : e4.length ≤ 1354 := by rw [← he4]; have := HPP.out; simp only [List.length_append, List.length_cons, List.length_nil, cr]; omega
      have le5 : e5.length ≤ 1390 := by rw [← he5]; have := HPP.out; simp only [List.length_append, List.length_cons, List.length_nil, cr]; omega
      have le6 : e6.length ≤ 1437 := by rw [← he6]; have := HPP.out; simp only [List.length_append, List.length_cons, List.length_nil, cr]; omega
      have le7 : e7.length ≤ 1442 := by rw [← he7]; have := HPP.out; simp only [List.length_append, List.length_cons, List.length_nil, cr]; omega
      have le8 : e8.length ≤ 3444 := by rw [← he8]; have := HPP.out; simp only [List.length_append, List.length_cons, List.length_nil, cr]; omega
      have le9 : e9.length ≤ 3448 := by rw [← he9]; have := HPP.out; simp only [List.length_append, List.length_cons, List.length_nil, cr]; omega
      have f10 : ∀ V : World, (Op.stringOp .add ⟨#[67, 65, 67, 72, 69, 45, 67, 79, 78, 84, 82, 79, 76, 58, 32, 109, 97, 120, 45, 97, 103, 101, 61, 49, 56, 48, 48, 13, 10]⟩ (bt (PP ++ cr))).run Tryz.prog V = .ok (.string (bt e1)) V := fun V => by rw [← he1]; exact run_string_add_lists V ([67, 65, 67, 72, 69, 45, 67, 79, 78, 84, 82, 79, 76, 58, 32, 109, 97, 120, 45, 97, 103, 101, 61, 49, 56, 48, 48, 13, 10]) ((PP ++ cr)) (by decide) (by have := HPP.out; simp only [List.length_append, cr, List.length_cons, List.length_nil]; omega)
      have f20 : ∀ V : World, (Op.stringOp .add (bt e1) ⟨#[78, 84, 58, 32]⟩).run Tryz.prog V = .ok (.string (bt e2)) V := fun V => by rw [← he2]; exact run_string_add_lists V (e1) ([78, 84, 58, 32]) (by omega) (by decide)
      have f30 : ∀ V : World, (Op.stringOp .add (bt e2) (bt n1)).run Tryz.prog V = .ok (.string (bt e3)) V := fun V => by rw [← he3]; exact run_string_add_lists V (e2) (n1) (by omega) (by omega)
      have f40 : ∀ V : World, (Op.stringOp .add (bt e3) ⟨#[13, 10, 78, 84, 83, 58, 32, 115, 115, 100, 112, 58, 97, 108, 105, 118, 101, 13, 10]⟩).run Tryz.prog V = .ok (.string (bt e4)) V := fun V => by rw [← he4]; exact run_string_add_lists V (e3) ([13, 10, 78, 84, 83, 58, 32, 115, 115, 100, 112, 58, 97, 108, 105, 118, 101, 13, 10]) (by omega) (by decide)
      have f50 : ∀ V : World, (Op.stringOp .add (bt e4) ⟨#[83, 69, 82, 86, 69, 82, 58, 32, 104, 101, 97, 114, 116, 104, 47, 49, 32, 85, 80, 110, 80, 47, 49, 46, 49, 32, 104, 101, 97, 114, 116, 104, 47, 49, 13, 10]⟩).run Tryz.prog V = .ok (.string (bt e5)) V := fun V => by rw [← he5]; exact run_string_add_lists V (e4) ([83, 69, 82, 86, 69, 82, 58, 32, 104, 101, 97, 114, 116, 104, 47, 49, 32, 85, 80, 110, 80, 47, 49, 46, 49, 32, 104, 101, 97, 114, 116, 104, 47, 49, 13, 10]) (by omega) (by decide)
      have f60 : ∀ V : World, (Op.stringOp .add ⟨#[78, 79, 84, 73, 70, 89, 32, 42, 32, 72, 84, 84, 80, 47, 49, 46, 49, 13, 10, 72, 79, 83, 84, 58, 32, 50, 51, 57, 46, 50, 53, 53, 46, 50, 53, 53, 46, 50, 53, 48, 58, 49, 57, 48, 48, 13, 10]⟩ (bt e5)).run Tryz.prog V = .ok (.string (bt e6)) V := fun V => by rw [← he6]; exact run_string_add_lists V ([78, 79, 84, 73, 70, 89, 32, 42, 32, 72, 84, 84, 80, 47, 49, 46, 49, 13, 10, 72, 79, 83, 84, 58, 32, 50, 51, 57, 46, 50, 53, 53, 46, 50, 53, 53, 46, 50, 53, 48, 58, 49, 57, 48, 48, 13, 10]) (e5) (by decide) (by omega)
      have f61 : ∀ V : World, (Op.stringOp .add ⟨(([78, 79, 84, 73, 70, 89, 32, 42, 32, 72, 84, 84, 80, 47, 49, 46, 49, 13, 10, 72, 79, 83, 84, 58, 32, 50, 51, 57, 46, 50, 53, 53, 46, 50, 53, 53, 46, 50, 53, 48] : List UInt8).append [58, 49, 57, 48, 48, 13, 10]).toArray⟩ (bt e5)).run Tryz.prog V = .ok (.string (bt e6)) V := fun V => by rw [← he6]; exact run_string_add_lists V ([78, 79, 84, 73, 70, 89, 32, 42, 32, 72, 84, 84, 80, 47, 49, 46, 49, 13, 10, 72, 79, 83, 84, 58, 32, 50, 51, 57, 46, 50, 53, 53, 46, 50, 53, 53, 46, 50, 53, 48, 58, 49, 57, 48, 48, 13, 10]) (e5) (by decide) (by omega)
      have f62 : ∀ V : World, (Op.stringOp .add ⟨(([78, 79, 84, 73, 70, 89, 32, 42, 32, 72, 84, 84, 80, 47, 49, 46, 49, 13, 10, 72, 79, 83, 84, 58, 32, 50, 51, 57, 46, 50, 53, 53, 46, 50, 53, 53, 46, 50, 53, 48] : List UInt8) ++ [58, 49, 57, 48, 48, 13, 10]).toArray⟩ (bt e5)).run Tryz.prog V = .ok (.string (bt e6)) V := fun V => by rw [← he6]; exact run_string_add_lists V ([78, 79, 84, 73, 70, 89, 32, 42, 32, 72, 84, 84, 80, 47, 49, 46, 49, 13, 10, 72, 79, 83, 84, 58, 32, 50, 51, 57, 46, 50, 53, 53, 46, 50, 53, 53, 46, 50, 53, 48, 58, 49, 57, 48, 48, 13, 10]) (e5) (by decide) (by omega)
      have f70 : ∀ V : World, (Op.stringOp .add (bt e6) ⟨#[85, 83, 78, 58, 32]⟩).run Tryz.prog V = .ok (.string (bt e7)) V := fun V => by rw [← he7]; exact run_string_add_lists V (e6) ([85, 83, 78, 58, 32]) (by omega) (by decide)
      have f80 : ∀ V : World, (Op.stringOp .add (bt e7) (bt n2)).run Tryz.prog V = .ok (.string (bt e8)) V := fun V => by rw [← he8]; exact run_string_add_lists V (e7) (n2) (by omega) (by omega)
      have f90 : ∀ V : World, (Op.stringOp .add (bt e8) ⟨#[13, 10, 13, 10]⟩).run Tryz.prog V = .ok (.string (bt e9)) V := fun V => by rw [← he9]; exact run_string_add_lists V (e8) ([13, 10, 13, 10]) (by omega) (by decide)
      have HE9 := hide (show bt (alvL PP (n1, n2)) = bt e9 from by rw [HFX.out])
      clear he1 he2 he3 he4 he5 he6 he7 he8 he9 le1 le2 le3 le4 le5 le6 le7 le8 le9
      generalize bt e1 = E1 at *
      generalize bt e2 = E2 at *
      generalize bt e3 = E3 at *
      generalize bt e4 = E4 at *
      generalize bt e5 = E5 at *
      generalize bt e6 = E6 at *
      generalize bt e7 = E7 at *
      generalize bt e8 = E8 at *
      generalize bt e9 = E9 at *
      generalize bt (PP ++ cr) = BP at *
      generalize bt n1 = N1 at *
      generalize bt n2 = N2 at *
      have HSS := hide (fun (V : World) (hV : Below wr.heap.size wr V) => And.intro (cfg_range (below_blk hV ((HI.out.keep CC (lt_of_block HC3.out) (by have := HLT.out.2; omega)).trans HC3.out) (Nat.le_refl _))) (And.intro ((hV.cell (p := ⟨ga, k, none⟩) (World.block_lt_of_cell? _ _ cn1)).trans cn1) ((hV.cell (p := ⟨gb, k, none⟩) (World.block_lt_of_cell? _ _ cn2)).trans cn2)))
      have HW0 := hide (below_drew wr)
      clear cn1 cn2
      go_wp2_with fail
      refine wp_region_held_drew (S := fun w' => w'.rangeAt CC 0 cs.toList ∧ (w'.cell? ⟨ga, k, none⟩ = some (.string N1) ∧ w'.cell? ⟨gb, k, none⟩ = some (.string N2))) (by kernel_rfl) (by exact HSS.out _ HW0.out) (fun hHeld => ?_)
      generalize wr.drew = z0 at *
      refine wpAnyH_take (i := 0) (oi := { dst := some 21, op := Op.move (Operand.tmp 9), type := 9, pos := "ref.go:98", after := #[], guard := none }) (v := ?_) rfl (by kernel_rfl) (by kernel_rfl) (by kernel_rfl) (fun _ _ _ h => h) (Or.inl ⟨by rfl, ?_⟩) (by assumption) ?_
      rotate_left
      · intro wS hSw
        try dsimp only at hSw
        go_simp
        try with_reducible rfl
      try simp only [Act.put, List.setIfInBounds_toArray, List.set_cons_zero, List.set_cons_succ]
      refine wpAnyH_take (i := 1) (oi := { dst := some 22, op := Op.load 28 (Operand.tmp 2), type := 28, pos := "ref.go:98", after := #[], guard := none }) (v := .agg cs) rfl (by kernel_rfl) (by kernel_rfl) (by kernel_rfl) (fun _ _ _ h => h) (yl_cfg (by rfl) _ rfl CC rfl cs (fun w h => h.1) HSZ.out) (by assumption) ?_
      try simp only [Act.put, List.setIfInBounds_toArray, List.set_cons_zero, List.set_cons_succ]
      refine wpAnyH_take (i := 5) (oi := { dst := some 26, op := Op.move (Operand.tmp 6), type := 35, pos := "ref.go:98", after := #[], guard := none }) (v := ?_) rfl (by kernel_rfl) (by kernel_rfl) (by kernel_rfl) (fun _ _ _ h => h) (Or.inl ⟨by rfl, ?_⟩) (by assumption) ?_
      rotate_left
      · intro wS hSw
        try dsimp only at hSw
        go_simp
        try with_reducible rfl
      try simp only [Act.put, List.setIfInBounds_toArray, List.set_cons_zero, List.set_cons_succ]
      refine wpAnyH_take (i := 6) (oi := { dst := some 27, op := Op.move (Operand.tmp 8), type := 3, pos := "ref.go:98", after := #[], guard := none }) (v := ?_) rfl (by kernel_rfl) (by kernel_rfl) (by kernel_rfl) (fun _ _ _ h => h) (Or.inl ⟨by rfl, ?_⟩) (by assumption) ?_
      rotate_left
      · intro wS hSw
        try dsimp only at hSw
        go_simp
        try with_reducible rfl
      try simp only [Act.put, List.setIfInBounds_toArray, List.set_cons_zero, List.set_cons_succ]
      refine wpAnyH_take (i := 7) (oi := { dst := some 28, op := Op.indexAddr 35 (Operand.tmp 26) (Operand.tmp 27), type := 0, pos := "ref.go:98", after := #[{ on := 5, ground := Ground.data }, { on := 6, ground := Ground.data }], guard := none }) (v := ?_) rfl (by kernel_rfl) (by kernel_rfl) (by kernel_rfl) (fun _ _ _ h => h) (Or.inl ⟨by rfl, ?_⟩) (by assumption) ?_
      rotate_left
      · intro wS hSw
        try dsimp only at hSw
        go_simp
        try with_reducible rfl
      try simp only [Act.put, List.setIfInBounds_toArray, List.set_cons_zero, List.set_cons_succ]
      refine wpAnyH_take (i := 8) (oi := { dst := some 29, op := Op.load 9 (Operand.tmp 28), type := 9, pos := "ref.go:98", after := #[{ on := 7, ground := Ground.data }], guard := none }) (v := ?_) rfl (by kernel_rfl) (by kernel_rfl) (by kernel_rfl) (fun _ _ _ h => h) (Or.inl ⟨by rfl, ?_⟩) (by assumption) ?_
      rotate_left
      · intro wS hSw
        try dsimp only at hSw
        go_simp
        try with_reducible rfl
      try simp only [Act.put, List.setIfInBounds_toArray, List.set_cons_zero, List.set_cons_succ]
      refine wpAnyH_ready (rs := [2]) (by kernel_rfl) (by simp) ?_
      refine AllReadyH.cons (o := { dst := some 23, op := Op.call { callee := Callee.value (Operand.func 30), args := #[Operand.tmp 22], argTypes := #[28] }, type := 9, pos := "ref.go:98", after := #[{ on := 1, ground := Ground.data }], guard := none }) rfl (fun K hK => ?_) ?_
      ·
        go_simp
        go_at_call 30
        refine (HPL.out z0).mono ?_
        rintro e z1 ⟨rfl, b9⟩
        have HB1 := hide (HW0.out.trans (b9.mono HW0.out.size))
        clear b9
        refine hK.out _ _ (HSS.out _ HB1.out) (fun hHeld1 => ?_)
        clear hK K
        try simp only [Act.put, List.setIfInBounds_toArray, List.set_cons_zero, List.set_cons_succ]
        refine wpAnyH_take (i := 3) (oi := { dst := some 24, op := Op.binOp BinOp.add 9 (Operand.const (Value.string { data := #[67, 65, 67, 72, 69, 45, 67, 79, 78, 84, 82, 79, 76, 58, 32, 109, 97, 120, 45, 97, 103, 101, 61, 49, 56, 48, 48, 13, 10] })) (Operand.tmp 23) 9, type := 9, pos := "ref.go:98", after := #[{ on := 2, ground := Ground.data }], guard := none }) (v := ?_) rfl (by kernel_rfl) (by kernel_rfl) (by kernel_rfl) (fun _ _ _ h => h) (Or.inl ⟨by rfl, ?_⟩) (by assumption) ?_
        rotate_left
        · intro wS hSw
          try dsimp only at hSw
          go_simp
          try with_reducible rfl
        try simp only [Act.put, List.setIfInBounds_toArray, List.set_cons_zero, List.set_cons_succ]
        refine wpAnyH_take (i := 4) (oi := { dst := some 25, op := Op.binOp BinOp.add 9 (Operand.tmp 24) (Operand.const (Value.string { data := #[78, 84, 58, 32] })) 9, type := 9, pos := "ref.go:98", after := #[{ on := 3, ground := Ground.data }], guard := none }) (v := ?_) rfl (by kernel_rfl) (by kernel_rfl) (by kernel_rfl) (fun _ _ _ h => h) (Or.inl ⟨by rfl, ?_⟩) (by assumption) ?_
        rotate_left
        · intro wS hSw
          try dsimp only at hSw
          go_simp
          try with_reducible rfl
        try simp only [Act.put, List.setIfInBounds_toArray, List.set_cons_zero, List.set_cons_succ]
        refine wpAnyH_take (i := 9) (oi := { dst := some 30, op := Op.binOp BinOp.add 9 (Operand.tmp 25) (Operand.tmp 29) 9, type := 9, pos := "ref.go:98", after := #[{ on := 4, ground := Ground.data }, { on := 8, ground := Ground.data }], guard := none }) (v := ?_) rfl (by kernel_rfl) (by kernel_rfl) (by kernel_rfl) (fun _ _ _ h => h) (Or.inl ⟨by rfl, ?_⟩) (by assumption) ?_
        rotate_left
        · intro wS hSw
          try dsimp only at hSw
          go_simp
          try with_reducible rfl
        try simp only [Act.put, List.setIfInBounds_toArray, List.set_cons_zero, List.set_cons_succ]
        refine wpAnyH_take (i := 10) (oi := { dst := some 31, op := Op.binOp BinOp.add 9 (Operand.tmp 30) (Operand.const (Value.string { data := #[13, 10, 78, 84, 83, 58, 32, 115, 115, 100, 112, 58, 97, 108, 105, 118, 101, 13, 10] })) 9, type := 9, pos := "ref.go:98", after := #[{ on := 9, ground := Ground.data }], guard := none }) (v := ?_) rfl (by kernel_rfl) (by kernel_rfl) (by kernel_rfl) (fun _ _ _ h => h) (Or.inl ⟨by rfl, ?_⟩) (by assumption) ?_
        rotate_left
        · intro wS hSw
          try dsimp only at hSw
          go_simp
          try with_reducible rfl
        try simp only [Act.put, List.setIfInBounds_toArray, List.set_cons_zero, List.set_cons_succ]
        refine wpAnyH_take (i := 11) (oi := { dst := some 32, op := Op.binOp BinOp.add 9 (Operand.tmp 31) (Operand.const (Value.string { data := #[83, 69, 82, 86, 69, 82, 58, 32, 104, 101, 97, 114, 116, 104, 47, 49, 32, 85, 80, 110, 80, 47, 49, 46, 49, 32, 104, 101, 97, 114, 116, 104, 47, 49, 13, 10] })) 9, type := 9, pos := "ref.go:98", after := #[{ on := 10, ground := Ground.data }], guard := none }) (v := ?_) rfl (by kernel_rfl) (by kernel_rfl) (by kernel_rfl) (fun _ _ _ h => h) (Or.inl ⟨by rfl, ?_⟩) (by assumption) ?_
        rotate_left
        · intro wS hSw
          try dsimp only at hSw
          go_simp
          try with_reducible rfl
        try simp only [Act.put, List.setIfInBounds_toArray, List.set_cons_zero, List.set_cons_succ]
        refine wpAnyH_take (i := 12) (oi := { dst := some 33, op := Op.binOp BinOp.add 9 (Operand.tmp 21) (Operand.tmp 32) 9, type := 9, pos := "ref.go:98", after := #[{ on := 0, ground := Ground.data }, { on := 11, ground := Ground.data }], guard := none }) (v := ?_) rfl (by kernel_rfl) (by kernel_rfl) (by kernel_rfl) (fun _ _ _ h => h) (Or.inl ⟨by rfl, ?_⟩) (by assumption) ?_
        rotate_left
        · intro wS hSw
          try dsimp only at hSw
          go_simp
          try with_reducible rfl
        try simp only [Act.put, List.setIfInBounds_toArray, List.set_cons_zero, List.set_cons_succ]
        refine wpAnyH_take (i := 13) (oi := { dst := some 9, op := Op.assign (Operand.tmp 33), type := 9, pos := "ref.go:98", after := #[{ on := 12, ground := Ground.data }, { on := 2, ground := Ground.chain }, { on := 0, ground := Ground.phase }, { on := 1, ground := Ground.phase }, { on := 2, ground := Ground.phase }, { on := 3, ground := Ground.phase }, { on := 4, ground := Ground.phase }, { on := 5, ground := Ground.phase }, { on := 6, ground := Ground.phase }, { on := 7, ground := Ground.phase }, { on := 8, ground := Ground.phase }, { on := 9, ground := Ground.phase }, { on := 10, ground := Ground.phase }, { on := 11, ground := Ground.phase }, { on := 12, ground := Ground.phase }], guard := none }) (v := ?_) rfl (by kernel_rfl) (by kernel_rfl) (by kernel_rfl) (fun _ _ _ h => h) (Or.inl ⟨by rfl, ?_⟩) (by assumption) ?_
        rotate_left
        · intro wS hSw
          try dsimp only at hSw
          go_simp
          try with_reducible rfl
        try simp only [Act.put, List.setIfInBounds_toArray, List.set_cons_zero, List.set_cons_succ]
        refine wpAnyH_done (by kernel_rfl) ?_ _
        obtain ⟨a5, c5, w5, hrun, o5⟩ := (HI.out.next HB1.out).push E9 (by omega)
        have HRUN := hide hrun
        have HF := hide (show RI w w2 w5 w.heap.size r a5 (k + 1) c5 ((((namesL o).map (alvL PP)).take (k + 1)).map bt) from by rw [HTK.out, List.map_append, List.map_singleton, HE9.out]; exact o5)
        have cu := (HSS.out _ HB1.out).2.2
        clear hrun o5
        go_wp2_with (at_builtin; refine Lib.wpList_append_run _ rfl _ _ _ _ rfl _ _ rfl rfl _ _ HRUN.out ?_)
        exact ⟨⟨k + 1, a5, c5, by omega, rfl, by go_num, HF⟩, by simp [intOf]; omega⟩
      exact AllReadyH.nil
    · have d1 : decide ((k : Int) < 6) = false := by simp; omega
      obtain rfl : k = 6 := by omega
      have HF := hide (show RowS wr a 6 ((namesL o).map (alvL PP)) ∧ Below w.heap.size w wr from ⟨rowS_of (by have h := HI.out.own; rwa [List.take_of_length_le (by rw [List.length_map, namesL_len]; omega)] at h), HI.out.below⟩)
      clear HI
      go_wp2_with fail
      go_ret
      exact ⟨_, _, rfl, HF.out.1, HF.out.2⟩
set_option maxHeartbeats 8000000 in
theorem rnotify_false (cs : Array Value) (ad : Nat) (u : List UInt8) (hc : CfS cs ad u) (w : World) (ha : ad ≤ 4294967295) (hu : u.length ≤ 900) :
    Calls Tryz.prog 16 #[.agg cs, .bool false] w fun e w' => ∃ a c, e = .returned (.slice a 6 c) ∧ RowS w' a 6 ((namesL (sUu ++ u)).map (byeL)) ∧ Below w.heap.size w w' := by
  have hl := txt_len (qb ad) (fun i => by have : qb ad i < 256 := Nat.mod_lt _ (by decide); omega) 4 (Nat.le_refl _)
  obtain ⟨W1, hW1⟩ : ∃ V, w.alloc (.cells cs 28) = V := ⟨_, rfl⟩
  obtain ⟨W2, hW2⟩ : ∃ V, W1.alloc (.cells #[] 9) = V := ⟨_, rfl⟩
  have hb1 : Below w.heap.size w W1 := by rw [← hW1]; exact (Below.refl _ _).alloc (Nat.le_refl _) _
  have hb2 : Below W1.heap.size W1 W2 := by rw [← hW2]; exact (Below.refl _ _).alloc (Nat.le_refl _) _
  obtain ⟨CC, hCC⟩ : ∃ g, w.heap.size = g := ⟨_, rfl⟩
  obtain ⟨r, hr⟩ : ∃ g, CC + 1 = g := ⟨_, rfl⟩
  have hz1 : W1.heap.size = r := by rw [← hW1, ← hr, ← hCC]; simp
  have hc2 : W2.heap[CC]? = some (.cells cs 28 (0, 0)) := below_blk hb2 (by rw [← hW1, ← hCC]; exact heap_alloc_new _ _) (Nat.le_refl _)
  have hl4 : H.OwnS W2 w.heap.size (some ⟨r, 0, none⟩) 0 0 [] := by rw [← hW2, ← hz1]; exact World.ownsRow_lit (base := w.heap.size) (e := 9) (size := 1) W1 #[] 0 hb1.size (by unfold maxLen; omega) rfl
  have HE := hide (show (w.alloc (.cells cs 28)).alloc (.cells #[] 9) = W2 from by rw [hW1]; exact hW2)
  have HZ := hide (And.intro hCC hr)
  have HNM := hide (rnames_any cs ad u hc W2 hu)
  have HPL := hide (fun V => rplace_any cs ad u hc V ha)
  have HPP := hide (show (plcL (txt (qb ad) 4)).length ≤ 300 from by unfold plcL tLoc; simp only [List.length_append, List.length_cons, List.length_nil]; omega)
  have HOL := hide (show (sUu ++ u).length ≤ 1000 from by unfold sUu; simp only [List.length_append, List.length_cons, List.length_nil]; omega)
  have HWW := hide (hb1.trans (hb2.mono hb1.size))
  have HL4 := hide (And.intro hl4 (show r < W2.heap.size ∧ CC < r from ⟨by rw [← hW2]; simp; omega, by omega⟩))
  have HC2 := hide hc2
  have HSZ := hide hc.size
  generalize plcL (txt (qb ad) 4) = PP at *
  generalize sUu ++ u = o at *
  clear hl hW1 hW2 hb1 hb2 hCC hr hz1 hc2 hl4 hc ha hu
  go_enter Tryz.func16, Tryz.ntmps16
  go_upto_region 2 with (fail)
  rw [HE.out]
  rw [HZ.out.1]
  rw [HZ.out.2]
  go_wp2_with ((refine ld_cfg (o := ⟨some 12, _, _, _, _, _⟩) (.tmp 2) rfl (by rfl) CC rfl cs HC2.out HSZ.out ?_; try simp only [Act.put, List.setIfInBounds_toArray, List.set_cons_zero, List.set_cons_succ]))
  refine HNM.out.mono ?_
  rintro e w2 ⟨xa, xc, ya, yc, rfl, hx, hy, hge, b2⟩
  have HX := hide hx
  have HY := hide hy
  have HGE := hide hge
  have HW2 := hide (HWW.out.trans (b2.mono HWW.out.size))
  have HC3 := hide (below_blk b2 HC2.out (Nat.le_refl _))
  have HLT := hide HL4.out.2
  have HI := hide (show RI w w2 w2 w.heap.size r (some ⟨r, 0, none⟩) 0 0 ((((namesL o).map (byeL)).take 0).map bt) from ⟨owns_below HL4.out.1 b2 (Nat.le_refl _), HW2.out, Nat.le_refl _, fun _ _ _ => rfl, Nat.le_refl _, fun g hg => by injection hg with hg; subst hg; exact .inl rfl⟩)
  clear hx hy hge b2 HNM HE HZ HWW HC2 HL4
  go_wp2_with fail
  go_loopw [5, 8] (fun bv i wz => ∃ (k : Nat) (a : Option Addr) (c : Nat), k ≤ 6 ∧ bv = .slice a k c ∧ i = .int .i64 (k : Int) ∧ Hid (RI w w2 wz w.heap.size r a k c ((((namesL o).map (byeL)).take k).map bt))) (fun _ i _ => 6 - (intOf i).toNat)
  case atStart => exact ⟨0, _, _, Nat.zero_le _, rfl, rfl, HI⟩
  case round =>
    clear HI
    obtain ⟨k, a, c, hk, rfl, rfl, HI⟩ := hrel
    have hk4 : (0 : Int) ≤ (k : Int) := by omega
    have hk5 : (k : Int) ≤ 6 := by omega
    by_cases hlt : k < 6
    · have d1 : decide ((k : Int) < 6) = true := by simp; omega
      obtain ⟨n1, hn1⟩ : ∃ y, (nmsL o)[k]? = some y := ⟨_, List.getElem?_eq_getElem (by rw [nmsL_len]; exact hlt)⟩
      have hl1 := nmsL_le o n1 (List.mem_of_getElem? hn1) HOL.out
      have hl2 := unL_le o n1 hl1 HOL.out
      obtain ⟨ga, hga, cn1⟩ := HX.out.2 k n1 hn1
      obtain ⟨n2, hn2⟩ : ∃ y, unL o n1 = y := ⟨_, rfl⟩
      obtain ⟨gb, hgb, cn2⟩ := HY.out.2 k n2 (by rw [List.getElem?_map, hn1]; exact congrArg some hn2)
      have g1 := HGE.out ⟨ga, 0, none⟩ (.inl hga)
      have g2 := HGE.out ⟨gb, 0, none⟩ (.inr hgb)
      have hr9 := HLT.out.1
      have cn1 := HI.out.cell cn1 (by intro e; simp only [e] at g1; omega)
      have cn2 := HI.out.cell cn2 (by intro e; simp only [e] at g2; omega)
      have HTK := hide (show ((namesL o).map (byeL)).take (k + 1) = ((namesL o).map (byeL)).take k ++ [byeL (n1, n2)] from by rw [List.take_add_one, List.getElem?_map]; unfold namesL; rw [List.getElem?_map, hn1, ← hn2]; rfl)
      rw [hn2] at hl2
      subst hga hgb
      clear hn1 hn2 g1 g2 hr9 hk
      have d2 : decide (k < 6) = true := by simp; omega
      have d3 : (k : Int) < 6 := by omega
      obtain ⟨e1, he1⟩ : ∃ l, [78, 84, 58, 32] ++ n1 = l := ⟨_, rfl⟩
      obtain ⟨e2, he2⟩ : ∃ l, e1 ++ [13, 10, 78, 84, 83, 58, 32, 115, 115, 100, 112, 58, 98, 121, 101, 98, 121, 101, 13, 10] = l := ⟨_, rfl⟩
      obtain ⟨e6, he6⟩ : ∃ l, [78, 79, 84, 73, 70, 89, 32, 42, 32, 72, 84, 84, 80, 47, 49, 46, 49, 13, 10, 72, 79, 83, 84, 58, 32, 50, 51, 57, 46, 50, 53, 53, 46, 50, 53, 53, 46, 50, 53, 48, 58, 49, 57, 48, 48, 13, 10] ++ e2 = l := ⟨_, rfl⟩
      obtain ⟨e7, he7⟩ : ∃ l, e6 ++ [85, 83, 78, 58, 32] = l := ⟨_, rfl⟩
      obtain ⟨e8, he8⟩ : ∃ l, e7 ++ n2 = l := ⟨_, rfl⟩
      obtain ⟨e9, he9⟩ : ∃ l, e8 ++ [13, 10, 13, 10] = l := ⟨_, rfl⟩
      have HFX := hide (show byeL (n1, n2) = e9 from by rw [← he9, ← he8, ← he7, ← he6, ← he2, ← he1]; simp [byeL, msgL, Lib.join, List.intercalate, List.intersperse, tNot, tHost, tMax, tNt, tAlv, tBye, tSrv, tUsn, cr])
      have le1 : e1.length ≤ 1004 := by rw [← he1]; have := HPP.out; simp only [List.length_append, List.length_cons, List.length_nil, cr]; omega
      have le2 : e2.length ≤ 1024 := by rw [← he2]; have := HPP.out; simp only [List.length_append, List.length_cons, List.length_nil, cr]; omega
      have le6 : e6.length ≤ 1071 := by rw [← he6]; have := HPP.out; simp only [List.length_append, List.length_cons, List.length_nil, cr]; omega
      have le7 : e7.length ≤ 1076 := by rw [← he7]; have := HPP.out; simp only [List.length_append, List.length_cons, List.length_nil, cr]; omega
      have le8 : e8.length ≤ 3078 := by rw [← he8]; have := HPP.out; simp only [List.length_append, List.length_cons, List.length_nil, cr]; omega
      have le9 : e9.length ≤ 3082 := by rw [← he9]; have := HPP.out; simp only [List.length_append, List.length_cons, List.length_nil, cr]; omega
      have f10 : ∀ V : World, (Op.stringOp .add ⟨#[78, 84, 58, 32]⟩ (bt n1)).run Tryz.prog V = .ok (.string (bt e1)) V := fun V => by rw [← he1]; exact run_string_add_lists V ([78, 84, 58, 32]) (n1) (by decide) (by omega)
      have f20 : ∀ V : World, (Op.stringOp .add (bt e1) ⟨#[13, 10, 78, 84, 83, 58, 32, 115, 115, 100, 112, 58, 98, 121, 101, 98, 121, 101, 13, 10]⟩).run Tryz.prog V = .ok (.string (bt e2)) V := fun V => by rw [← he2]; exact run_string_add_lists V (e1) ([13, 10, 78, 84, 83, 58, 32, 115, 115, 100, 112, 58, 98, 121, 101, 98, 121, 101, 13, 10]) (by omega) (by decide)
      have f60 : ∀ V : World, (Op.stringOp .add ⟨#[78, 79, 84, 73, 70, 89, 32, 42, 32, 72, 84, 84, 80, 47, 49, 46, 49, 13, 10, 72, 79, 83, 84, 58, 32, 50, 51, 57, 46, 50, 53, 53, 46, 50, 53, 53, 46, 50, 53, 48, 58, 49, 57, 48, 48, 13, 10]⟩ (bt e2)).run Tryz.prog V = .ok (.string (bt e6)) V := fun V => by rw [← he6]; exact run_string_add_lists V ([78, 79, 84, 73, 70, 89, 32, 42, 32, 72, 84, 84, 80, 47, 49, 46, 49, 13, 10, 72, 79, 83, 84, 58, 32, 50, 51, 57, 46, 50, 53, 53, 46, 50, 53, 53, 46, 50, 53, 48, 58, 49, 57, 48, 48, 13, 10]) (e2) (by decide) (by omega)
      have f61 : ∀ V : World, (Op.stringOp .add ⟨(([78, 79, 84, 73, 70, 89, 32, 42, 32, 72, 84, 84, 80, 47, 49, 46, 49, 13, 10, 72, 79, 83, 84, 58, 32, 50, 51, 57, 46, 50, 53, 53, 46, 50, 53, 53, 46, 50, 53, 48] : List UInt8).append [58, 49, 57, 48, 48, 13, 10]).toArray⟩ (bt e2)).run Tryz.prog V = .ok (.string (bt e6)) V := fun V => by rw [← he6]; exact run_string_add_lists V ([78, 79, 84, 73, 70, 89, 32, 42, 32, 72, 84, 84, 80, 47, 49, 46, 49, 13, 10, 72, 79, 83, 84, 58, 32, 50, 51, 57, 46, 50, 53, 53, 46, 50, 53, 53, 46, 50, 53, 48, 58, 49, 57, 48, 48, 13, 10]) (e2) (by decide) (by omega)
      have f62 : ∀ V : World, (Op.stringOp .add ⟨(([78, 79, 84, 73, 70, 89, 32, 42, 32, 72, 84, 84, 80, 47, 49, 46, 49, 13, 10, 72, 79, 83, 84, 58, 32, 50, 51, 57, 46, 50, 53, 53, 46, 50, 53, 53, 46, 50, 53, 48] : List UInt8) ++ [58, 49, 57, 48, 48, 13, 10]).toArray⟩ (bt e2)).run Tryz.prog V = .ok (.string (bt e6)) V := fun V => by rw [← he6]; exact run_string_add_lists V ([78, 79, 84, 73, 70, 89, 32, 42, 32, 72, 84, 84, 80, 47, 49, 46, 49, 13, 10, 72, 79, 83, 84, 58, 32, 50, 51, 57, 46, 50, 53, 53, 46, 50, 53, 53, 46, 50, 53, 48, 58, 49, 57, 48, 48, 13, 10]) (e2) (by decide) (by omega)
      have f70 : ∀ V : World, (Op.stringOp .add (bt e6) ⟨#[85, 83, 78, 58, 32]⟩).run Tryz.prog V = .ok (.string (bt e7)) V := fun V => by rw [← he7]; exact run_string_add_lists V (e6) ([85, 83, 78, 58, 32]) (by omega) (by decide)
      have f80 : ∀ V : World, (Op.stringOp .add (bt e7) (bt n2)).run Tryz.prog V = .ok (.string (bt e8)) V := fun V => by rw [← he8]; exact run_string_add_lists V (e7) (n2) (by omega) (by omega)
      have f90 : ∀ V : World, (Op.stringOp .add (bt e8) ⟨#[13, 10, 13, 10]⟩).run Tryz.prog V = .ok (.string (bt e9)) V := fun V => by rw [← he9]; exact run_string_add_lists V (e8) ([13, 10, 13, 10]) (by omega) (by decide)
      have HE9 := hide (show bt (byeL (n1, n2)) = bt e9 from by rw [HFX.out])
      clear he1 he2 he6 he7 he8 he9 le1 le2 le6 le7 le8 le9
      generalize bt e1 = E1 at *
      generalize bt e2 = E2 at *
      generalize bt e6 = E6 at *
      generalize bt e7 = E7 at *
      generalize bt e8 = E8 at *
      generalize bt e9 = E9 at *
      generalize bt (PP ++ cr) = BP at *
      generalize bt n1 = N1 at *
      generalize bt n2 = N2 at *
      obtain ⟨a5, c5, w5, hrun, o5⟩ := HI.out.push E9 (by omega)
      have HRUN := hide hrun
      have HF := hide (show RI w w2 w5 w.heap.size r a5 (k + 1) c5 ((((namesL o).map (byeL)).take (k + 1)).map bt) from by rw [HTK.out, List.map_append, List.map_singleton, HE9.out]; exact o5)
      clear hrun o5 HI
      go_wp2_with (at_builtin; refine Lib.wpList_append_run _ rfl _ _ _ _ rfl _ _ rfl rfl _ _ HRUN.out ?_)
      exact ⟨⟨k + 1, a5, c5, by omega, rfl, by go_num, HF⟩, by simp [intOf]; omega⟩
    · have d1 : decide ((k : Int) < 6) = false := by simp; omega
      obtain rfl : k = 6 := by omega
      have HF := hide (show RowS wr a 6 ((namesL o).map (byeL)) ∧ Below w.heap.size w wr from ⟨rowS_of (by have h := HI.out.own; rwa [List.take_of_length_le (by rw [List.length_map, namesL_len]; omega)] at h), HI.out.below⟩)
      clear HI
      go_wp2_with fail
      go_ret
      exact ⟨_, _, rfl, HF.out.1, HF.out.2⟩
end Go.Proofs.YtonoaopioifedaaGreatDoor
