/- Ssdp: the law's search, the example of the document. -/
import Derived.Test.YtonoaopioifedaaGreatDoorSSe
namespace Go.Proofs.YtonoaopioifedaaGreatDoor
open Go.RowKit Go.Shelf Go.Deep
set_option linter.unusedVariables false
set_option linter.unusedSimpArgs false
set_option maxRecDepth 100000
/-- A search's text. -/
def askA : List UInt8 := [77, 45, 83, 69, 65, 82, 67, 72, 32, 42, 32, 72, 84, 84, 80, 47, 49, 46, 49, 13, 10, 72, 79, 83, 84, 58, 32, 50, 51, 57, 46, 50, 53, 53, 46, 50, 53, 53, 46, 50, 53, 48, 58, 49, 57, 48, 48, 13, 10, 77, 65, 78, 58, 32, 34, 115, 115, 100, 112, 58, 100, 105, 115, 99, 111, 118, 101, 114, 34, 13, 10, 77, 88, 58, 32, 50, 13, 10, 83, 84, 58, 32]
def askL (x : List UInt8) : List UInt8 := askA ++ x ++ [13, 10, 13, 10]
theorem askL_len (x : List UInt8) : (askL x).length = 86 + x.length := by
  unfold askL
  rw [List.length_append, List.length_append, show askA.length = 82 from by decide +kernel]
  simp only [List.length_cons, List.length_nil]; omega
theorem TxB.cells {w : World} {g : Nat} {l : List UInt8} (h : TxB w g l) : ∀ (j : Nat) (b : UInt8), l[j]? = some b → w.cell? ⟨g, j, none⟩ = some (H.byV b) := fun j b hb => by
  obtain ⟨cs, f, h1, h2⟩ := h
  simp [World.cell?, h1, h2 j b hb]
theorem fold_plain : ∀ (x : List UInt8) (o : List (List UInt8)) (c : List UInt8), (∀ b ∈ x, b ≠ 10) → x.foldl lnStep (o, c) = (o, c ++ x)
  | [], o, c, _ => by simp
  | b :: r, o, c, h => by
    rw [List.foldl_cons, lnStep_miss _ _ _ (fun e => h b (by simp) e.1), fold_plain r o (c ++ [b]) (fun y hy => h y (by simp [hy]))]
    simp
def ln0 : List UInt8 := [77, 45, 83, 69, 65, 82, 67, 72, 32, 42, 32, 72, 84, 84, 80, 47, 49, 46, 49]
def ln1 : List UInt8 := [72, 79, 83, 84, 58, 32, 50, 51, 57, 46, 50, 53, 53, 46, 50, 53, 53, 46, 50, 53, 48, 58, 49, 57, 48, 48]
def ln2 : List UInt8 := [77, 65, 78, 58, 32, 34, 115, 115, 100, 112, 58, 100, 105, 115, 99, 111, 118, 101, 114, 34]
def ln3 : List UInt8 := [77, 88, 58, 32, 50]
def ln4 : List UInt8 := [83, 84, 58, 32]
theorem ask_fold : lnFold askA = ([ln0, ln1, ln2, ln3], ln4) := by decide +kernel
theorem ask_lines (x : List UInt8) (h : ∀ b ∈ x, H.tgtB b = true) : linesO (askL x) = some [ln0, ln1, ln2, ln3, ln4 ++ x] := by
  have hx : ∀ b ∈ x, b ≠ 10 := fun b hb e => by have := h b hb; rw [e] at this; revert this; decide
  unfold linesO
  have hs : Lib.hasSuffix (askL x) [13, 10, 13, 10] = true := (hasSuf_iff _).2 ⟨askA ++ x, rfl⟩
  have ht : Lib.trimSuffix (askL x) [13, 10, 13, 10] = askA ++ x := trimSuf _
  rw [if_pos hs, ht]
  unfold crl lnFold
  rw [List.foldl_append]
  have := ask_fold
  unfold lnFold at this
  rw [this, fold_plain x _ _ hx]
  rfl
theorem ask_head : H.headOK ln0 = true := by decide +kernel
theorem ask_l1 : H.lineL ln1 = some ([104, 111, 115, 116], [50, 51, 57, 46, 50, 53, 53, 46, 50, 53, 53, 46, 50, 53, 48, 58, 49, 57, 48, 48]) := by decide +kernel
theorem ask_l2 : H.lineL ln2 = some (H.sMan, H.sDisc) := by decide +kernel
theorem ask_l3 : H.lineL ln3 = some (H.sMx, [50]) := by decide +kernel
theorem ask_l4 (x : List UInt8) (h : ∀ b ∈ x, H.tgtB b = true) : H.lineL (ln4 ++ x) = some (H.sSt, x) := by
  have := H.made_line [83, 84] x [32] [] (by decide +kernel) (List.all_eq_true.2 h) (fun y hy => by rw [List.mem_singleton.1 hy]; decide) (fun y hy => by cases hy)
  rw [List.append_nil] at this
  have e : H.lowL [83, 84] = H.sSt := by decide +kernel
  rw [e] at this
  exact this
/-- What the law's search searches for. -/
theorem ask_sought (x : List UInt8) (h : ∀ b ∈ x, H.tgtB b = true) (hx : x.length ≤ 900) : H.soughtL (askL x) = x := by
  have hf : H.fieldsO (askL x) = some [([104, 111, 115, 116], [50, 51, 57, 46, 50, 53, 53, 46, 50, 53, 53, 46, 50, 53, 48, 58, 49, 57, 48, 48]), (H.sMan, H.sDisc), (H.sMx, [50]), (H.sSt, x)] := by
    unfold H.fieldsO
    rw [ask_lines x h]
    dsimp only
    rw [if_pos ask_head]
    simp only [H.fieldsL, ask_l1, ask_l2, ask_l3, ask_l4 x h, Option.bind_some, Option.map_some]
  unfold H.soughtL
  rw [if_neg (by rw [askL_len]; omega), hf]
  show H.soughtF [([104, 111, 115, 116], [50, 51, 57, 46, 50, 53, 53, 46, 50, 53, 53, 46, 50, 53, 48, 58, 49, 57, 48, 48]), (H.sMan, H.sDisc), (H.sMx, [50]), (H.sSt, x)] = x
  have o1 : H.onlyL [([104, 111, 115, 116], [50, 51, 57, 46, 50, 53, 53, 46, 50, 53, 53, 46, 50, 53, 48, 58, 49, 57, 48, 48]), (H.sMan, H.sDisc), (H.sMx, [50]), (H.sSt, x)] H.sMan = H.sDisc := rfl
  have o2 : H.onlyL [([104, 111, 115, 116], [50, 51, 57, 46, 50, 53, 53, 46, 50, 53, 53, 46, 50, 53, 48, 58, 49, 57, 48, 48]), (H.sMan, H.sDisc), (H.sMx, [50]), (H.sSt, x)] H.sMx = [50] := rfl
  have o3 : H.onlyL [([104, 111, 115, 116], [50, 51, 57, 46, 50, 53, 53, 46, 50, 53, 53, 46, 50, 53, 48, 58, 49, 57, 48, 48]), (H.sMan, H.sDisc), (H.sMx, [50]), (H.sSt, x)] H.sSt = x := rfl
  have o4 : (H.numberL [50] 10 9999999).getD 0 = 2 := by decide +kernel
  unfold H.soughtF
  rw [o1, o2, o3, o4, if_pos ⟨rfl, by decide⟩]
theorem below_drew (w : World) : Below w.heap.size w w.drew := (Below.refl _ _).drew
def AskTo (w : World) (l : List UInt8) (e : Ending) (w' : World) : Prop := ∃ g cap m, m = l.length ∧ e = .returned (.slice (some ⟨g, 0, none⟩) m cap) ∧ TxB w' g l ∧ Below w.heap.size w w'
set_option maxHeartbeats 1000000 in
theorem ask_any (x : List UInt8) (w : World) (hx : x.length ≤ 1000) :
    Calls Tryz.prog 19 #[.string (bt x)] w (AskTo w (askL x)) := by
  have hal : askA.length ≤ 200 := by decide +kernel
  have hs1 : ∀ V : World, (Op.stringOp .add ⟨(([77, 45, 83, 69, 65, 82, 67, 72, 32, 42, 32, 72, 84, 84, 80, 47, 49, 46, 49, 13, 10, 72, 79, 83, 84, 58, 32, 50, 51, 57, 46, 50, 53, 53, 46, 50, 53, 53, 46, 50] : List UInt8).append [53, 48, 58, 49, 57, 48, 48, 13, 10, 77, 65, 78, 58, 32, 34, 115, 115, 100, 112, 58, 100, 105, 115, 99, 111, 118, 101, 114, 34, 13, 10, 77, 88, 58, 32, 50, 13, 10, 83, 84, 58, 32]).toArray⟩ (bt x)).run Tryz.prog V = .ok (.string (bt (askA ++ x))) V := fun V => run_string_add_lists V askA x (by omega) (by omega)
  have hs2 : ∀ V : World, (Op.stringOp .add ⟨#[77, 45, 83, 69, 65, 82, 67, 72, 32, 42, 32, 72, 84, 84, 80, 47, 49, 46, 49, 13, 10, 72, 79, 83, 84, 58, 32, 50, 51, 57, 46, 50, 53, 53, 46, 50, 53, 53, 46, 50, 53, 48, 58, 49, 57, 48, 48, 13, 10, 77, 65, 78, 58, 32, 34, 115, 115, 100, 112, 58, 100, 105, 115, 99, 111, 118, 101, 114, 34, 13, 10, 77, 88, 58, 32, 50, 13, 10, 83, 84, 58, 32]⟩ (bt x)).run Tryz.prog V = .ok (.string (bt (askA ++ x))) V := fun V => run_string_add_lists V askA x (by omega) (by omega)
  have hs3 : ∀ V : World, (Op.stringOp .add ⟨(([77, 45, 83, 69, 65, 82, 67, 72, 32, 42, 32, 72, 84, 84, 80, 47, 49, 46, 49, 13, 10, 72, 79, 83, 84, 58, 32, 50, 51, 57, 46, 50, 53, 53, 46, 50, 53, 53, 46, 50] : List UInt8) ++ [53, 48, 58, 49, 57, 48, 48, 13, 10, 77, 65, 78, 58, 32, 34, 115, 115, 100, 112, 58, 100, 105, 115, 99, 111, 118, 101, 114, 34, 13, 10, 77, 88, 58, 32, 50, 13, 10, 83, 84, 58, 32]).toArray⟩ (bt x)).run Tryz.prog V = .ok (.string (bt (askA ++ x))) V := fun V => run_string_add_lists V askA x (by omega) (by omega)
  have hs4 : ∀ V : World, (Op.stringOp .add (bt (askA ++ x)) ⟨#[13, 10, 13, 10]⟩).run Tryz.prog V = .ok (.string (bt (askL x))) V := fun V => run_string_add_lists V (askA ++ x) [13, 10, 13, 10] (by rw [List.length_append]; omega) (by decide)
  have HC := hide (fun V : World => H.bytes8 V (bt (askL x)))
  have HZ := hide (show (bt (askL x)).size = (askL x).length from by simp [ByteArray.size])
  obtain ⟨m, hm⟩ : ∃ m, (askL x).length = m := ⟨_, rfl⟩
  have HM := hide hm
  have HD := hide (show (bt (askL x)).data.toList = askL x from by simp)
  generalize bt (askL x) = S2 at *
  generalize bt (askA ++ x) = S1 at *
  generalize bt x = S0 at *
  clear hx hal hm
  obtain ⟨cap, w2, hrun, ⟨cs, h1, h2, h3⟩, b2⟩ := HC.out w
  rw [HZ.out, HM.out] at hrun
  rw [HD.out] at h3
  have HF := hide (show TxB w2 w.heap.size (askL x) ∧ Below w.heap.size w w2 from ⟨⟨cs, _, h1, fun j b hb => by have := h3 j b hb; rw [if_neg (by omega)] at this; exact this⟩, b2⟩)
  clear h1 h2 h3 b2 HC
  go_enter Tryz.func19, Tryz.ntmps19
  go_wp2_with fail
  go_ret
  exact ⟨_, _, _, HM.out.symm, rfl, HF.out.1, HF.out.2⟩
theorem yl_cfg {ops : Array Oper} {S : World → Prop} {op : Oper} {a : Act} (hw : Region.wanted op (yielded ops a.tmps) = true) (x : Operand) (ho : op.op = .load 28 x) (b : Nat) (hx : a.eval x = .pointer (some ⟨b, 0, none⟩)) (cs : Array Value)
    (hS : ∀ w, S w → w.rangeAt b 0 cs.toList) (hs : cs.size = 28) : YieldsIf Tryz.prog ops S op (.agg cs) a := by
  have := yieldsIf_load_mid (P := Tryz.prog) (ops := ops) (S := S) (op := op) (a := a) hw 28 x ho b 0 hx cs.toList _ hS Tryz.underlying28 rfl (by rw [Array.length_toList, hs]; exact info_cfg)
  simpa using this
theorem cfg_range {w : World} {b : Nat} {cs : Array Value} (h : w.heap[b]? = some (.cells cs 28 (0, 0))) : w.rangeAt b 0 cs.toList := fun j v hv => by
  have h3 : cs[j]? = some v := by simpa using hv
  rw [cell_of_row _ _ _ _ _ (0, 0) h, Nat.zero_add]
  exact h3
theorem ans_len {W : World} {K n c : Nat} {a : Option Addr} {ls : List (List UInt8)} (h : AnsAt W K a n c ls) : ls.length = n := by obtain ⟨vs, _, h, _⟩ := h; exact h
theorem root_tgt : ∀ b ∈ sRoot, H.tgtB b = true := by decide +kernel
theorem all_tgt : ∀ b ∈ sAll, H.tgtB b = true := by decide +kernel
def plU : List UInt8 := pl.uuid.data.toList
theorem pl_cfs : CfS (pl.cells none 0 0) pl.lan plU := ⟨rfl, rfl, by show _ = some (Value.string (bt plU)); rfl⟩
theorem pl_one' : (searchL (plcL (txt (qb pl.lan) 4)) (sUu ++ plU) sRoot).length = 1 := by
  unfold searchL; rw [List.length_map]; decide +kernel
theorem pl_all : (searchL (plcL (txt (qb pl.lan) 4)) (sUu ++ plU) sAll).length = 6 := by
  unfold searchL; rw [List.length_map]; decide +kernel
set_option maxHeartbeats 2000000 in
theorem speaks_any (w : World) (hp : PT w) (hE : H.Env w) : Calls Tryz.prog 7 #[] w fun e w' => e = .returned (.bool true) ∧ Below w.heap.size w w' := by
  have HPL := hide (plain_any w)
  obtain ⟨cs, hcs⟩ : ∃ c, pl.cells none 0 0 = c := ⟨_, rfl⟩
  have hsz : cs.size = 28 := by rw [← hcs]; rfl
  have h1c : cs.all (·.oneCell') = true := by rw [← hcs]; exact pl_one
  have HCF := hide (show CfS cs pl.lan plU from hcs ▸ pl_cfs)
  rw [hcs] at HPL
  have HSZ := hide hsz
  have HPT := hide (And.intro hp hE)
  clear hcs hp hE
  go_enter Tryz.func7, Tryz.ntmps7
  go_wp2_with fail
  refine HPL.out.mono ?_
  rintro e w1 ⟨rfl, b1⟩
  have HZ1 := hide (heap_alloc_new w1 (.cells zeroCfg 28))
  have HZ2 := hide ((Below.refl w1.heap.size w1).alloc (Nat.le_refl _) (.cells zeroCfg 28))
  obtain ⟨CC, hB⟩ : ∃ b, w1.heap.size = b := ⟨_, rfl⟩
  rw [hB] at HZ1
  have HBE := hide hB
  have HB1 := hide b1
  clear b1 HPL
  go_upto_region 2 with ((refine st_cfg (o := ⟨none, _, _, _, _, _⟩) (.tmp 1) (.tmp 2) rfl (by rfl) CC rfl zeroCfg cs rfl HZ1.out rfl hsz h1c HZ2.out (Nat.le_of_eq HBE.out) ?_; rintro w2 hr2 hb2 ho2 hs2; have HR2 := hide hr2; have HB2 := hide hb2; clear hr2 hb2 ho2 hs2; try simp only [Act.put, List.setIfInBounds_toArray, List.set_cons_zero, List.set_cons_succ]))
  have HBW := hide (HB1.out.trans (HB2.out.mono HB1.out.size))
  have HSS := hide (fun (V : World) (hV : Below w2.heap.size w2 V) => cfg_range (below_blk hV HR2.out (Nat.le_refl _)))
  have HPTW := hide (fun (V : World) (hV : Below w2.heap.size w2 V) => And.intro ((HPT.out.1.below HBW.out (Nat.le_refl _)).below hV (Nat.le_refl _)) ((HPT.out.2.below HBW.out (Nat.le_refl _)).below hV (Nat.le_refl _)))
  have HSE := hide (fun (l : List UInt8) (g c m : Nat) (V : World) (hV : Below w2.heap.size w2 V) (hm : l.length = m) (h9 : l.length ≤ 100000) (hT : ∀ (j : Nat) (b : UInt8), l[j]? = some b → V.cell? ⟨g, j, none⟩ = some (H.byV b)) => search_any cs pl.lan plU HCF.out l g c m V (HPTW.out V hV).1 (HPTW.out V hV).2 (by decide) (by decide +kernel) hm (hm ▸ h9) hT)
  have HL1 := hide (show (askL sRoot).length ≤ 100000 from by decide +kernel)
  have HL2 := hide (show (askL sAll).length ≤ 100000 from by decide +kernel)
  have HC1 := hide (show ∀ (W : World) (k : Nat) (a : Option Addr) (n c : Nat), AnsAt W k a n c (searchL (plcL (txt (qb pl.lan) 4)) (sUu ++ plU) (H.soughtL (askL sRoot))) → n = 1 from fun W k a n c h => by rw [← ans_len h, ask_sought _ root_tgt (by decide)]; exact pl_one')
  have HC2 := hide (show ∀ (W : World) (k : Nat) (a : Option Addr) (n c : Nat), AnsAt W k a n c (searchL (plcL (txt (qb pl.lan) 4)) (sUu ++ plU) (H.soughtL (askL sAll))) → n = 6 from fun W k a n c h => by rw [← ans_len h, ask_sought _ all_tgt (by decide)]; exact pl_all)
  have HW0 := hide (below_drew w2)
  clear hB HZ1 HZ2 HBE hsz h1c
  refine wp_region_held_drew (S := fun w' => w'.rangeAt CC 0 cs.toList) (by kernel_rfl) (by exact HSS.out _ HW0.out) (fun hHeld => ?_)
  generalize w2.drew = z0 at *
  refine wpAnyH_take (i := 0) (oi := { dst := some 3, op := Op.load 28 (Operand.tmp 1), type := 28, pos := "law.go:20", after := #[], guard := none }) (v := .agg cs) rfl (by kernel_rfl) (by kernel_rfl) (by kernel_rfl) (fun _ _ _ h => h) (yl_cfg (by rfl) _ rfl CC rfl cs (fun w h => h) HSZ.out) (by assumption) ?_
  try simp only [Act.put, List.setIfInBounds_toArray, List.set_cons_zero, List.set_cons_succ]
  refine wpAnyH_ready (rs := [1]) (by kernel_rfl) (by simp) ?_
  refine AllReadyH.cons (o := { dst := some 4, op := Op.call { callee := Callee.value (Operand.func 19), args := #[Operand.const (Value.string { data := #[117, 112, 110, 112, 58, 114, 111, 111, 116, 100, 101, 118, 105, 99, 101] })], argTypes := #[9] }, type := 29, pos := "law.go:20", after := #[], guard := none }) rfl (fun K hK => ?_) ?_
  ·
    go_simp
    go_at_call 19
    refine (ask_any sRoot z0 (by decide)).mono ?_
    rintro e z1 ⟨g1, c1, m1, hm1, rfl, ht1, b9⟩
    have HB1 := hide (HW0.out.trans (b9.mono HW0.out.size))
    have HT1 := hide ht1
    have HM1 := hide hm1
    clear ht1 hm1
    clear b9
    refine hK.out _ _ (HSS.out _ HB1.out) (fun hHeld1 => ?_)
    clear hK K
    try simp only [Act.put, List.setIfInBounds_toArray, List.set_cons_zero, List.set_cons_succ]
    refine wpAnyH_ready (rs := [2]) (by kernel_rfl) (by simp) ?_
    refine AllReadyH.cons (o := { dst := some 5, op := Op.call { callee := Callee.value (Operand.func 9), args := #[Operand.tmp 3, Operand.tmp 4], argTypes := #[28, 29] }, type := 32, pos := "law.go:20", after := #[{ on := 0, ground := Ground.data }, { on := 1, ground := Ground.data }, { on := 1, ground := Ground.chain }], guard := none }) rfl (fun K hK => ?_) ?_
    ·
      go_simp
      go_at_call 9
      refine (HSE.out (askL sRoot) g1 c1 m1 z1 HB1.out HM1.out.symm HL1.out (HT1.out.cells)).mono ?_
      rintro e z2 ⟨a2, m2, c2, rfl, ha2, b9⟩
      have HB2 := hide (HB1.out.trans (b9.mono HB1.out.size))
      have e2 := HC1.out _ _ _ _ _ ha2
      have f2 : ((m2 : Int) == 1) = true := by rw [e2]; rfl
      clear ha2
      clear b9
      refine hK.out _ _ (HSS.out _ HB2.out) (fun hHeld2 => ?_)
      clear hK K
      try simp only [Act.put, List.setIfInBounds_toArray, List.set_cons_zero, List.set_cons_succ]
      refine wpAnyH_take (i := 3) (oi := { dst := some 6, op := Op.call { callee := Callee.builtin Builtin.len, args := #[Operand.tmp 5], argTypes := #[32] }, type := 3, pos := "law.go:20", after := #[{ on := 2, ground := Ground.data }], guard := none }) (v := ?_) rfl (by kernel_rfl) (by kernel_rfl) (by kernel_rfl) (fun _ _ _ h => h) (Or.inl ⟨by rfl, ?_⟩) (by assumption) ?_
      rotate_left
      · intro wS hSw
        try dsimp only at hSw
        go_simp
        try with_reducible rfl
      try simp only [Act.put, List.setIfInBounds_toArray, List.set_cons_zero, List.set_cons_succ]
      refine wpAnyH_take (i := 4) (oi := { dst := some 7, op := Op.binOp BinOp.eql 3 (Operand.tmp 6) (Operand.const (Value.int IntKind.i64 1)) 3, type := 4, pos := "law.go:20", after := #[{ on := 3, ground := Ground.data }], guard := none }) (v := ?_) rfl (by kernel_rfl) (by kernel_rfl) (by kernel_rfl) (fun _ _ _ h => h) (Or.inl ⟨by rfl, ?_⟩) (by assumption) ?_
      rotate_left
      · intro wS hSw
        try dsimp only at hSw
        go_simp
        try with_reducible rfl
      try simp only [Act.put, List.setIfInBounds_toArray, List.set_cons_zero, List.set_cons_succ]
      refine wpAnyH_take (i := 5) (oi := { dst := some 8, op := Op.move (Operand.tmp 7), type := 4, pos := "law.go:20", after := #[{ on := 4, ground := Ground.data }, { on := 2, ground := Ground.chain }], guard := none }) (v := ?_) rfl (by kernel_rfl) (by kernel_rfl) (by kernel_rfl) (fun _ _ _ h => h) (Or.inl ⟨by rfl, ?_⟩) (by assumption) ?_
      rotate_left
      · intro wS hSw
        try dsimp only at hSw
        go_simp
        try with_reducible rfl
      try simp only [Act.put, List.setIfInBounds_toArray, List.set_cons_zero, List.set_cons_succ]
      refine wpAnyH_take (i := 6) (oi := { dst := some 9, op := Op.load 28 (Operand.tmp 1), type := 28, pos := "law.go:20", after := #[{ on := 5, ground := Ground.guard }], guard := some (5, true) }) (v := .agg cs) rfl (by kernel_rfl) (by kernel_rfl) (by kernel_rfl) (fun _ _ _ h => h) (yl_cfg (by rfl) _ rfl CC rfl cs (fun w h => h) HSZ.out) (by assumption) ?_
      try simp only [Act.put, List.setIfInBounds_toArray, List.set_cons_zero, List.set_cons_succ]
      refine wpAnyH_ready (rs := [7]) (by kernel_rfl) (by simp) ?_
      refine AllReadyH.cons (o := { dst := some 10, op := Op.call { callee := Callee.value (Operand.func 19), args := #[Operand.const (Value.string { data := #[115, 115, 100, 112, 58, 97, 108, 108] })], argTypes := #[9] }, type := 29, pos := "law.go:20", after := #[{ on := 5, ground := Ground.chain }, { on := 5, ground := Ground.guard }], guard := some (5, true) }) rfl (fun K hK => ?_) ?_
      ·
        go_simp
        go_at_call 19
        refine (ask_any sAll z2 (by decide)).mono ?_
        rintro e z3 ⟨g3, c3, m3, hm3, rfl, ht3, b9⟩
        have HB3 := hide (HB2.out.trans (b9.mono HB2.out.size))
        have HT3 := hide ht3
        have HM3 := hide hm3
        clear ht3 hm3
        clear b9
        refine hK.out _ _ (HSS.out _ HB3.out) (fun hHeld3 => ?_)
        clear hK K
        try simp only [Act.put, List.setIfInBounds_toArray, List.set_cons_zero, List.set_cons_succ]
        refine wpAnyH_ready (rs := [8]) (by kernel_rfl) (by simp) ?_
        refine AllReadyH.cons (o := { dst := some 11, op := Op.call { callee := Callee.value (Operand.func 9), args := #[Operand.tmp 9, Operand.tmp 10], argTypes := #[28, 29] }, type := 32, pos := "law.go:20", after := #[{ on := 6, ground := Ground.data }, { on := 7, ground := Ground.data }, { on := 7, ground := Ground.chain }, { on := 5, ground := Ground.guard }], guard := some (5, true) }) rfl (fun K hK => ?_) ?_
        ·
          go_simp
          go_at_call 9
          refine (HSE.out (askL sAll) g3 c3 m3 z3 HB3.out HM3.out.symm HL2.out (HT3.out.cells)).mono ?_
          rintro e z4 ⟨a4, m4, c4, rfl, ha4, b9⟩
          have HB4 := hide (HB3.out.trans (b9.mono HB3.out.size))
          have e4 := HC2.out _ _ _ _ _ ha4
          have f4 : ((m4 : Int) == 6) = true := by rw [e4]; rfl
          clear ha4
          clear b9
          refine hK.out _ _ (HSS.out _ HB4.out) (fun hHeld4 => ?_)
          clear hK K
          try simp only [Act.put, List.setIfInBounds_toArray, List.set_cons_zero, List.set_cons_succ]
          refine wpAnyH_take (i := 9) (oi := { dst := some 12, op := Op.call { callee := Callee.builtin Builtin.len, args := #[Operand.tmp 11], argTypes := #[32] }, type := 3, pos := "law.go:20", after := #[{ on := 8, ground := Ground.data }, { on := 5, ground := Ground.guard }], guard := some (5, true) }) (v := ?_) rfl (by kernel_rfl) (by kernel_rfl) (by kernel_rfl) (fun _ _ _ h => h) (Or.inl ⟨by rfl, ?_⟩) (by assumption) ?_
          rotate_left
          · intro wS hSw
            try dsimp only at hSw
            go_simp
            try with_reducible rfl
          try simp only [Act.put, List.setIfInBounds_toArray, List.set_cons_zero, List.set_cons_succ]
          refine wpAnyH_take (i := 10) (oi := { dst := some 13, op := Op.binOp BinOp.eql 3 (Operand.tmp 12) (Operand.const (Value.int IntKind.i64 6)) 3, type := 4, pos := "law.go:20", after := #[{ on := 9, ground := Ground.data }, { on := 5, ground := Ground.guard }], guard := some (5, true) }) (v := ?_) rfl (by kernel_rfl) (by kernel_rfl) (by kernel_rfl) (fun _ _ _ h => h) (Or.inl ⟨by rfl, ?_⟩) (by assumption) ?_
          rotate_left
          · intro wS hSw
            try dsimp only at hSw
            go_simp
            try with_reducible rfl
          try simp only [Act.put, List.setIfInBounds_toArray, List.set_cons_zero, List.set_cons_succ]
          refine wpAnyH_take (i := 11) (oi := { dst := some 14, op := Op.pick (Operand.tmp 8) (Operand.tmp 13) (Operand.const (Value.bool false)), type := 4, pos := "law.go:20", after := #[{ on := 5, ground := Ground.data }, { on := 10, ground := Ground.data }], guard := none }) (v := ?_) rfl (by kernel_rfl) (by kernel_rfl) (by kernel_rfl) (fun _ _ _ h => h) (Or.inl ⟨by rfl, ?_⟩) (by assumption) ?_
          rotate_left
          · intro wS hSw
            try dsimp only at hSw
            go_simp
            try with_reducible rfl
          try simp only [Act.put, List.setIfInBounds_toArray, List.set_cons_zero, List.set_cons_succ]
          refine wpAnyH_take (i := 12) (oi := { dst := some 0, op := Op.assign (Operand.tmp 14), type := 4, pos := "law.go:20", after := #[{ on := 11, ground := Ground.data }, { on := 8, ground := Ground.chain }, { on := 0, ground := Ground.phase }, { on := 1, ground := Ground.phase }, { on := 2, ground := Ground.phase }, { on := 3, ground := Ground.phase }, { on := 4, ground := Ground.phase }, { on := 5, ground := Ground.phase }, { on := 6, ground := Ground.phase }, { on := 7, ground := Ground.phase }, { on := 8, ground := Ground.phase }, { on := 9, ground := Ground.phase }, { on := 10, ground := Ground.phase }, { on := 11, ground := Ground.phase }], guard := none }) (v := ?_) rfl (by kernel_rfl) (by kernel_rfl) (by kernel_rfl) (fun _ _ _ h => h) (Or.inl ⟨by rfl, ?_⟩) (by assumption) ?_
          rotate_left
          · intro wS hSw
            try dsimp only at hSw
            go_simp
            try with_reducible rfl
          try simp only [Act.put, List.setIfInBounds_toArray, List.set_cons_zero, List.set_cons_succ]
          refine wpAnyH_done (by kernel_rfl) ?_ _
          go_wp2_with fail
          go_ret
          exact ⟨rfl, HBW.out.trans (HB4.out.mono HBW.out.size)⟩
        exact AllReadyH.nil
      exact AllReadyH.nil
    exact AllReadyH.nil
  exact AllReadyH.nil
end Go.Proofs.YtonoaopioifedaaGreatDoor
