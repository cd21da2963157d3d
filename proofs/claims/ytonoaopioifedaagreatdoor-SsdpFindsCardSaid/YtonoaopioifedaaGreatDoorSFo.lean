/- Ssdp: the fields of a search. -/
import Derived.Test.YtonoaopioifedaaGreatDoorSPl
import Derived.Test.YtonoaopioifedaaGreatDoorHVals
import Derived.Test.YtonoaopioifedaaGreatDoorHStart
import Derived.Lib.SplitLaws
import Derived.Deep.AppendLies
namespace Go.Proofs.YtonoaopioifedaaGreatDoor.H
open Go.RowKit Go.Deep
set_option linter.unusedVariables false
set_option linter.unusedSimpArgs false
set_option maxRecDepth 100000
theorem bs_len (l : List UInt8) : (bs l).size = l.length := by show (List.toArray l).size = _; simp
def fieldsL : List (List UInt8) → Option (List (List UInt8 × List UInt8))
  | [] => some []
  | x :: r => (lineL x).bind fun f => (fieldsL r).map fun t => f :: t
def mkF (f : List UInt8 × List UInt8) : fldRec := ⟨bs f.1, bs f.2⟩
/-- Fields that lie in memory. -/
def FV (w : World) (v : Value) (fs : List (List UInt8 × List UInt8)) : Prop := ∃ a c, v = .slice a fs.length c ∧ fldAt w a (fs.map mkF)
theorem FV.nil (w : World) : FV w (.slice none 0 0) [] := ⟨none, 0, rfl, fun h => absurd rfl h⟩
theorem FV.below {w w' : World} {v : Value} {fs : List (List UInt8 × List UInt8)} (h : FV w v fs) (hb : Below w.heap.size w w') : FV w' v fs := by
  obtain ⟨a, c, e, hf⟩ := h
  exact ⟨a, c, e, hf.below hb⟩
theorem eqb (m X : List UInt8) : ((bs m).toList == X) = decide (m = X) := by
  rw [Lib.toList_data, data_bs]
  by_cases h : m = X
  · subst h; simp
  · rw [decide_eq_false h, beq_eq_false_iff_ne]; exact h
theorem fields_snoc (x : List UInt8) : ∀ xs, fieldsL (xs ++ [x]) = (fieldsL xs).bind fun t => (lineL x).map fun f => t ++ [f]
  | [] => by simp only [List.nil_append, fieldsL]; cases lineL x <;> rfl
  | y :: r => by
    rw [List.cons_append, fieldsL, fields_snoc x r, fieldsL]
    cases lineL y with
    | none => rfl
    | some f =>
      cases fieldsL r with
      | none => rfl
      | some t => cases lineL x <;> rfl
theorem fields_stop : ∀ (xs ys : List (List UInt8)), fieldsL xs = none → fieldsL (xs ++ ys) = none
  | [], _, h => by cases h
  | x :: r, ys, h => by
    rw [fieldsL] at h
    rw [List.cons_append, fieldsL]
    cases hx : lineL x with
    | none => rfl
    | some f =>
      rw [hx, Option.bind_some] at h
      rw [Option.bind_some, fields_stop r ys (by cases hr : fieldsL r with | none => rfl | some t => rw [hr] at h; cases h)]; rfl
theorem fields_len : ∀ (xs : List (List UInt8)) (fs), fieldsL xs = some fs → fs.length = xs.length
  | [], fs, h => by cases h; rfl
  | x :: r, fs, h => by
    rw [fieldsL] at h
    cases hx : lineL x with
    | none => rw [hx] at h; cases h
    | some f =>
      rw [hx, Option.bind_some] at h
      cases hr : fieldsL r with
      | none => rw [hr] at h; cases h
      | some t => rw [hr] at h; cases h; rw [List.length_cons, List.length_cons, fields_len r t hr]
def fcells (fs : List (List UInt8 × List UInt8)) : List Value := fs.flatMap fun f => [.string (bs f.1), .string (bs f.2)]
theorem fcells_len (fs : List (List UInt8 × List UInt8)) : (fcells fs).length = fs.length * 2 := by
  induction fs with
  | nil => rfl
  | cons f r ih => unfold fcells at ih ⊢; rw [List.flatMap_cons, List.length_append, ih]; simp; omega
theorem fcells_at : ∀ (fs : List (List UInt8 × List UInt8)) (i : Nat) (f), fs[i]? = some f → (fcells fs)[i * 2]? = some (.string (bs f.1)) ∧ (fcells fs)[i * 2 + 1]? = some (.string (bs f.2))
  | [], i, f, h => by simp at h
  | g :: r, 0, f, h => by cases h; exact ⟨rfl, rfl⟩
  | g :: r, i + 1, f, h => by
    have := fcells_at r i f (by simpa using h)
    unfold fcells at this ⊢
    rw [List.flatMap_cons, show (i + 1) * 2 = i * 2 + 2 by omega]
    exact ⟨by simpa using this.1, by simpa using this.2⟩
def OwnF (w : World) (K : Nat) (v : Value) (fs : List (List UInt8 × List UInt8)) : Prop := w.ownsRow K 60 2 v fs.length (fcells fs)
theorem Tryz.infoFld : (Tryz.prog.info? 60).map (fun i => (i.zero, i.size, i.bytes)) = some (some (.agg #[.string ⟨#[]⟩, .string ⟨#[]⟩]), 2, 32) := by kernel_rfl
theorem OwnF.fv {w : World} {K : Nat} {v : Value} {fs : List (List UInt8 × List UInt8)} (h : OwnF w K v fs) : FV w v fs ∧ ∀ k, v.ownBlock = some k → K ≤ k ∧ k < w.heap.size := by
  refine ⟨?_, World.ownsRow.lt h⟩
  obtain ⟨a, c, rfl⟩ := slice_form h
  refine ⟨a, c, rfl, fun hne => ?_⟩
  obtain ⟨g, cap, e, hg, hlt⟩ := World.ownsRow.form h (by cases fs with | nil => exact absurd rfl hne | cons f r => simp)
  obtain ⟨rfl, -, rfl⟩ : a = some ⟨g, 0, none⟩ ∧ fs.length = fs.length ∧ c = cap := by injection e with e1 e2 e3; exact ⟨e1, e2, e3⟩
  refine ⟨g, 0, rfl, hlt, fun i o ho => ?_⟩
  rw [List.getElem?_map] at ho
  cases hf : fs[i]? with
  | none => rw [hf] at ho; cases ho
  | some f =>
    rw [hf] at ho
    cases ho
    have hi := (List.getElem?_eq_some_iff.1 hf).1
    have h2 := fcells_at fs i f hf
    rw [Nat.zero_add]
    exact ⟨(World.ownsRow.cellAt h (i * 2) (by omega)).trans h2.1, (World.ownsRow.cellAt h (i * 2 + 1) (by omega)).trans h2.2⟩
/-- A field is appended. -/
theorem pushF (V : World) (K : Nat) (a : Option Addr) (n c : Nat) (fs : List (List UInt8 × List UInt8)) (hV : OwnF V K (.slice a n c) fs) (hn : fs.length = n) (f : List UInt8 × List UInt8) (hs : n ≤ 100000) (hK : K ≤ V.heap.size) :
    ∃ a' c' w', (Builtin.append_ #[58, 58] 58 #[.slice a n c, .slice (some ⟨V.heap.size, 0, none⟩) 1 1]).run Tryz.prog (V.alloc (.cells #[.string (bs f.1), .string (bs f.2)] 60)) = .ok (.slice a' (n + 1) c') w' ∧ OwnF w' K (.slice a' (n + 1) c') (fs ++ [f]) ∧ Below K V w' := by
  have hal : Below V.heap.size V (V.alloc (.cells #[.string (bs f.1), .string (bs f.2)] 60)) := (Below.refl _ _).alloc (Nat.le_refl _) _
  have hr2 : (V.alloc (.cells #[.string (bs f.1), .string (bs f.2)] 60)).ownsRow K 60 2 (.slice a n c) n (fcells fs) := by
    have h := World.ownsRow.alloc hV (.cells #[.string (bs f.1), .string (bs f.2)] 60)
    rwa [hn] at h
  have hc : (V.alloc (.cells #[.string (bs f.1), .string (bs f.2)] 60)).heap[V.heap.size]? = some (.cells #[.string (bs f.1), .string (bs f.2)] 60 (0, 0)) := heap_alloc_new _ _
  obtain ⟨i0, hi, hz0, hz1, hz2⟩ := info_parts Tryz.infoFld
  obtain ⟨v', w', h1, h2, h3, _, h5⟩ := run_append_own_at (P := Tryz.prog) (V.alloc (.cells #[.string (bs f.1), .string (bs f.2)] 60)) K 58 58 60 i0 (.agg #[.string ⟨#[]⟩, .string ⟨#[]⟩]) 2 32 Tryz.underlying58 hi hz0 hz1 hz2 (by rfl) (by omega) (.slice a n c) n (fcells fs) hr2 ⟨V.heap.size, 0, none⟩ 1 1 [.string (bs f.1), .string (bs f.2)] rfl (by
    intro j u hj
    match j with
    | 0 => cases hj; show (V.alloc (.cells #[.string (bs f.1), .string (bs f.2)] 60)).cell? ⟨V.heap.size, 0, none⟩ = _; simp only [World.cell?, hc]; rfl
    | 1 => cases hj; show (V.alloc (.cells #[.string (bs f.1), .string (bs f.2)] 60)).cell? ⟨V.heap.size, 1, none⟩ = _; simp only [World.cell?, hc]; rfl
    | j + 2 => simp at hj) (by intro u hu; rcases List.mem_cons.1 hu with h | h; (rw [h]; rfl); rw [List.mem_singleton.1 h]; rfl) (by unfold maxLen; omega) (by omega) (by have := hal.size; omega)
  obtain ⟨a', c', rfl⟩ := slice_form h2
  refine ⟨a', c', w', h1, ?_, (hal.mono hK).grown h3 (by have := hal.size; omega) (fun z e => (hr2.lt z e).1)⟩
  unfold OwnF fcells
  rw [List.length_append, List.length_singleton, hn, List.flatMap_append]
  exact h2
theorem pieces (t : List UInt8) : (Lib.splitB ⟨#[13, 10]⟩ 0 (Lib.countB (bs t) ⟨#[13, 10]⟩) (bs t)) = (crl t).map bs := by
  have h := Lib.splitB_data ⟨#[13, 10]⟩ 0 (Lib.countB (bs t) ⟨#[13, 10]⟩) (bs t)
  have h2 : Lib.splitK [13, 10] 0 (Lib.countB (bs t) ⟨#[13, 10]⟩) (bs t).data.toList = crl t := by
    have := split_crl t.length t (Nat.le_refl _)
    rw [← this, data_bs]
    unfold Lib.split
    rw [show Lib.countB (bs t) ⟨#[13, 10]⟩ = Lib.count t [13, 10] from by show Lib.count (bs t).data.toList _ = _; rw [data_bs]]
  have h3 := h.trans h2
  rw [← h3, List.map_map]
  exact (List.map_id _).symm.trans (List.map_congr_left fun p _ => (bs_back p).symm)
theorem crl_count (t : List UInt8) : Lib.countB (bs t) ⟨#[13, 10]⟩ + 1 = (crl t).length := by
  have := Lib.splitB_all ⟨#[13, 10]⟩ (by decide) 0 _ (bs t) rfl
  rw [pieces, List.length_map] at this
  exact this.symm
def headOK (p : List UInt8) : Bool := match startL p with
  | some (m, t, n) => decide (m = [77, 45, 83, 69, 65, 82, 67, 72]) && decide (t = [42]) && decide (n = 1)
  | none => false
/-- The fields of a text that may be a search. -/
def fieldsO (l : List UInt8) : Option (List (List UInt8 × List UInt8)) := match linesO l with
  | some (p :: ps) => if headOK p then fieldsL ps else none
  | _ => none
theorem crl_len (t : List UInt8) (h : t.length ≤ 4000) : ∀ x ∈ crl t, x.length ≤ 4000 := by
  have hf := crl_flat t
  intro x hx
  have key : ∀ (ps : List (List UInt8)) (y), y ∈ ps → y.length ≤ (flatP ps).length := by
    intro ps
    induction ps with
    | nil => intro y hy; cases hy
    | cons p r ih =>
      intro y hy
      unfold flatP at ih ⊢
      rw [List.map_cons, List.flatten_cons, List.length_append, List.length_append]
      rcases List.mem_cons.1 hy with rfl | hy
      · omega
      · have := ih y hy; omega
  have hl := congrArg List.length hf
  rw [List.length_append] at hl
  unfold crl at hx
  rcases List.mem_append.1 hx with hx | hx
  · have := key _ x hx; omega
  · rw [List.mem_singleton.1 hx]; omega
theorem trimSuf_le (l s : List UInt8) : (Lib.trimSuffix l s).length ≤ l.length := by
  unfold Lib.trimSuffix
  split
  · rw [List.length_take]; omega
  · omega
set_option maxHeartbeats 4000000 in
theorem fieldsOf_any (l : List UInt8) (w : World) (hE : Env w) (hl : l.length ≤ 1024) :
    Calls Tryz.prog 37 #[.string (bs l)] w fun e w' => ∃ fv, e = .returned fv ∧ FV w' fv ((fieldsO l).getD []) ∧ Below w.heap.size w w' := by
  obtain ⟨t, ht⟩ : ∃ t, Lib.trimSuffix l [13, 10, 13, 10] = t := ⟨_, rfl⟩
  have htl : t.length ≤ 1024 := ht ▸ Nat.le_trans (trimSuf_le _ _) hl
  obtain ⟨hw, hhw⟩ : ∃ b, Lib.hasSuffix l [13, 10, 13, 10] = b := ⟨_, rfl⟩
  have HCS := hide (show Calls Tryz.prog 47 #[.string (bs l), .string ⟨#[13, 10, 13, 10]⟩] w fun e w' => e = .returned (.tuple #[.string (bs t), .bool hw]) ∧ w' = w from by
    have := Tryz.strings_CutSuffix (bs l) ⟨#[13, 10, 13, 10]⟩ w (by rw [bs_len]; omega)
    rw [data_bs] at this
    rw [← ht, ← hhw]
    exact this)
  obtain ⟨p, ps, hps⟩ := crl_cons t
  obtain ⟨m, hm⟩ := hE.m
  obtain ⟨n, hn⟩ : ∃ n, ps.length = n := ⟨_, rfl⟩
  have hcn : Lib.countB (bs t) ⟨#[13, 10]⟩ = n := by have := crl_count t; rw [hps, List.length_cons, hn] at this; omega
  have hnl : n ≤ 1025 := by rw [← hcn]; have := Lib.countB_le ⟨#[13, 10]⟩ (by decide) (bs t).size (bs t) (Nat.le_refl _); rw [bs_len] at this; omega
  obtain ⟨row, hrow⟩ : ∃ r : Array Value, ((crl t).map fun x => Value.string (bs x)).toArray = r := ⟨_, rfl⟩
  obtain ⟨W, hW⟩ : ∃ V, w.alloc (.cells row 9) = V := ⟨_, rfl⟩
  have HSP := hide (show Calls Tryz.prog 48 #[.string (bs t), .string ⟨#[13, 10]⟩] w fun e w' => e = .returned (.slice (some ⟨w.heap.size, 0, none⟩) (n + 1) (n + 1)) ∧ w' = W from by
    have := Tryz.strings_Split (bs t) ⟨#[13, 10]⟩ m w (by rw [bs_len]; omega) hm (by decide)
    rw [pieces, hcn, List.map_map] at this
    rw [← hW, ← hrow]
    exact this)
  obtain ⟨R, hR⟩ : ∃ R, w.heap.size = R := ⟨_, rfl⟩
  rw [hR] at HSP
  have hb : Below w.heap.size w W := by rw [← hW]; exact (Below.refl _ _).alloc (Nat.le_refl _) _
  have hrw : W.heap[R]? = some (.cells row 9 (0, 0)) := by rw [← hW, ← hR]; exact heap_alloc_new _ _
  have hcell : ∀ (i : Nat) (x : List UInt8), (crl t)[i]? = some x → W.cell? ⟨R, i, none⟩ = some (.string (bs x)) := fun i x hx => by
    have : row[i]? = some (.string (bs x)) := by rw [← hrow]; simp [hx]
    simp [World.cell?, hrw, this]
  have c0 := hcell 0 p (by rw [hps]; rfl)
  have HX := hide (show ∀ (i : Nat) (x : List UInt8), ps[i]? = some x → W.cell? ⟨R, 1 + i, none⟩ = some (.string (bs x)) from fun i x hx => hcell (1 + i) x (by rw [hps, Nat.add_comm]; exact hx))
  have hsz := crl_len t (by omega)
  rw [hps] at hsz
  have HST := hide (show Calls Tryz.prog 49 #[.string (bs p)] W fun e w' => e = .returned (startV (startL p)) ∧ Below W.heap.size W w' from by
    have := start_any (bs p) W (by rw [bs_len]; have := hsz p (by simp); omega) (hE.below hb (Nat.le_refl _))
    rwa [data_bs] at this)
  have HN := hide (show ps.length = n ∧ n ≤ 1025 ∧ R < W.heap.size ∧ (∀ x ∈ ps, x.length ≤ 4000) from ⟨hn, hnl, lt_of_block hrw, fun x hx => hsz x (by simp [hx])⟩)
  have HEW := hide (hE.below hb (Nat.le_refl _))
  have HBW := hide hb
  have hfo : fieldsO l = if hw && headOK p then fieldsL ps else none := by
    unfold fieldsO linesO
    rw [hhw, ht, hps]
    cases hw <;> simp
  have hho : headOK p = match startL p with
    | some (m, t, n) => decide (m = [77, 45, 83, 69, 65, 82, 67, 72]) && decide (t = [42]) && decide (n = 1)
    | none => false := rfl
  obtain ⟨vm, vt, vn, vb, b1, b2, b3, hsv, e1, e2, e3, hvn0, hvn1, hho2⟩ : ∃ (vm vt : ByteArray) (vn : Int) (vb b1 b2 b3 : Bool), startV (startL p) = .tuple #[.string vm, .string vt, .int .i64 vn, .bool vb] ∧ (vm.toList == [77, 45, 83, 69, 65, 82, 67, 72]) = b1 ∧ (vt.toList == [42]) = b2 ∧ (vn == 1) = b3 ∧ 0 ≤ vn ∧ vn ≤ 1 ∧ headOK p = (b1 && b2 && b3) := by
    cases hs : startL p with
    | none => exact ⟨⟨#[]⟩, ⟨#[]⟩, 0, false, false, false, false, rfl, (eqb [] _).trans (by decide), (eqb [] _).trans (by decide), by decide, by decide, by decide, by rw [hho, hs]; rfl⟩
    | some r =>
      obtain ⟨m, t, n⟩ := r
      have hn1 : n ≤ 1 := by
        unfold startL at hs
        split at hs
        · rename_i k hk
          have := minor_le _ _ hk
          split at hs
          · injection hs with hs; injection hs with _ hs; injection hs with _ hs; omega
          · cases hs
        · cases hs
      refine ⟨bs m, bs t, n, true, _, _, _, rfl, eqb m _, eqb t _, rfl, by omega, by omega, ?_⟩
      rw [hho, hs]
      have : ((n : Int) == 1) = decide (n = 1) := by
        by_cases h : n = 1
        · subst h; rfl
        · rw [decide_eq_false h, beq_eq_false_iff_ne]; omega
      rw [this]
  rw [hsv] at HST
  rw [hho2] at hfo
  have HFO := hide hfo
  have E3 := hide (show (vn != 1) = !b3 from by rw [← e3]; rfl)
  generalize bs p = BP at *
  generalize bs t = BT at *
  generalize bs l = BL at *
  have hn4 : (0 : Int) ≤ (n : Int) := by omega
  have hn5 : (n : Int) ≤ 1025 := by omega
  have HRR := hide hR
  clear hm hcn hrow hW hb hrw hcell hsz hfo hho hho2 hsv hps htl ht hhw hn hE hl hnl
  go_enter Tryz.func37, Tryz.ntmps37
  go_wp2_with fail
  refine HCS.out.mono ?_
  rintro e w1 ⟨rfl, rfl⟩
  go_wp2_with fail
  refine HSP.out.mono ?_
  rintro e w1 ⟨rfl, rfl⟩
  go_wp2_with fail
  refine HST.out.mono ?_
  rintro e w2 ⟨rfl, b2w⟩
  have HB2 := hide (HBW.out.trans (b2w.mono HBW.out.size))
  have HX2 := hide (fun (i : Nat) (x : List UInt8) (hx : ps[i]? = some x) => (b2w.cell (p := ⟨R, 1 + i, none⟩) HN.out.2.2.1).trans (HX.out i x hx))
  have HE2 := hide (HEW.out.below b2w (Nat.le_refl _))
  have HR2 := hide (show R < w2.heap.size from Nat.lt_of_lt_of_le HN.out.2.2.1 b2w.size)
  clear b2w HST HSP HCS c0 HEW HBW HX
  cases hw with
  | false =>
    go_wp2_with fail
    all_goals
      go_ret
      exact ⟨_, rfl, by rw [HFO.out]; exact FV.nil _, HB2.out⟩
  | true =>
  cases b1 with
  | false =>
    go_wp2_with fail
    all_goals
      go_ret
      exact ⟨_, rfl, by rw [HFO.out]; exact FV.nil _, HB2.out⟩
  | true =>
  cases b2 with
  | false =>
    go_wp2_with fail
    all_goals
      go_ret
      exact ⟨_, rfl, by rw [HFO.out]; exact FV.nil _, HB2.out⟩
  | true =>
  cases b3 with
  | false =>
    go_wp2_with fail
    all_goals
      go_ret
      exact ⟨_, rfl, by rw [HFO.out]; exact FV.nil _, HB2.out⟩
  | true =>
  have e3m : (vn != 1) = false := E3.out
  have HI := hide (show OwnF w2 w2.heap.size (.slice none 0 0) [] ∧ fieldsL (ps.take 0) = some [] ∧ Below w2.heap.size w2 w2 from ⟨World.ownsRow_nil w2 _ _ _, rfl, Below.refl _ _⟩)
  have HFO := hide (show fieldsO l = fieldsL ps from HFO.out)
  by_cases hn0 : n = 0
  · subst hn0
    have HF := hide (show fieldsO l = some [] from by
      have h0 : ps = [] := List.length_eq_zero_iff.1 HN.out.1
      rw [HFO.out, h0]; rfl)
    clear HFO HI
    go_wp2_with fail
    go_loopw [9, 47] (fun ov i wz => i = .int .i64 0 ∧ ov = .slice none 0 0 ∧ Hid (wz = w2)) (fun _ _ _ => 0)
    case atStart => exact ⟨rfl, rfl, hide rfl⟩
    case round =>
      obtain ⟨rfl, rfl, HW⟩ := hrel
      go_wp2_with fail
      go_ret
      exact ⟨_, rfl, by rw [HF.out]; exact FV.nil _, by rw [HW.out]; exact HB2.out⟩
  have hn6 : decide (n = 0) = false := by simpa using hn0
  have hn7 : ¬ n = 0 := hn0
  go_wp2_with fail
  go_loopw [9, 47] (fun ov i wz => ∃ (j : Nat) (a : Option Addr) (c : Nat) (fs : List (List UInt8 × List UInt8)), j ≤ n ∧ i = .int .i64 j ∧ ov = .slice a j c ∧ fs.length = j ∧ Hid (OwnF wz w2.heap.size (.slice a j c) fs ∧ fieldsL (ps.take j) = some fs ∧ Below w2.heap.size w2 wz)) (fun _ i _ => n - (Lib.intOf i).toNat)
  case atStart => exact ⟨0, none, 0, [], Nat.zero_le _, rfl, rfl, rfl, HI⟩
  case round =>
    clear HI
    obtain ⟨j, a, c, fs, hj, rfl, rfl, hfl, HI⟩ := hrel
    have hj4 : (0 : Int) ≤ (j : Int) := by omega
    have hj5 : (j : Int) ≤ 1025 := by omega
    by_cases hlt : j < n
    · have d1 : decide (j < n) = true := by simp; omega
      obtain ⟨x, hxj⟩ : ∃ x, ps[j]? = some x := ⟨_, List.getElem?_eq_getElem (by have := HN.out.1; omega)⟩
      have hz : wr.cell? ⟨R, 1 + j, none⟩ = some (.string (bs x)) := (HI.out.2.2.cell (p := ⟨R, 1 + j, none⟩) HR2.out).trans (HX2.out j x hxj)
      have hL := line_any (bs x) wr (by rw [bs_len]; have := HN.out.2.2.2 x (List.mem_of_getElem? hxj); omega) (HE2.out.below HI.out.2.2 (Nat.le_refl _))
      rw [data_bs] at hL
      have hsucc : fieldsL (ps.take (j + 1)) = (lineL x).map fun f => fs ++ [f] := by rw [List.take_add_one, hxj, Option.toList_some, fields_snoc, HI.out.2.1]; rfl
      have hstop : lineL x = none → fieldsL ps = none := fun h => by
        rw [← List.take_append_drop (j + 1) ps]
        exact fields_stop _ _ (by rw [hsucc, h]; rfl)
      obtain ⟨s, hs⟩ : ∃ s, bs x = s := ⟨_, rfl⟩
      rw [hs] at hz hL
      have HL := hide hL
      cases hlx : lineL x with
      | none =>
        rw [hlx] at HL
        have HF := hide (show fieldsO l = none from HFO.out.trans (hstop hlx))
        have HB := hide (HB2.out.trans (HI.out.2.2.mono HB2.out.size))
        unfold lineV at HL
        clear hL hsucc hstop hs hxj hlx HI
        go_wp2_with fail
        refine HL.out.mono ?_
        rintro e w3 ⟨rfl, b1⟩
        have HB3 := hide (HB.out.trans (b1.mono HB.out.size))
        clear b1 HL
        go_wp2_with fail
        go_ret
        exact ⟨_, rfl, by rw [HF.out]; exact FV.nil _, HB3.out.alloc HB3.out.size _⟩
      | some f =>
        rw [hlx] at HL hsucc
        obtain ⟨f1, f2⟩ := f
        unfold lineV at HL
        have HI2 := hide HI.out
        have HS := hide (show fieldsL (ps.take (j + 1)) = some (fs ++ [(f1, f2)]) from hsucc)
        clear hL hsucc hstop hs hxj hlx HI
        go_wp2_with fail
        refine HL.out.mono ?_
        rintro e w1 ⟨rfl, b1⟩
        have hC1 := HI2.out.2.2.trans (b1.mono HI2.out.2.2.size)
        have hC2 := hC1.alloc hC1.size (.cells #[.string (bs f1), .string (bs f2)] 60)
        have hO2 : OwnF (w1.alloc (.cells #[.string (bs f1), .string (bs f2)] 60)) w2.heap.size (.slice a j c) fs := World.ownsRow.alloc (owns_below HI2.out.1 b1 (Nat.le_refl _)) _
        obtain ⟨a', c', w5, hrun, o5, b5⟩ := pushF (w1.alloc (.cells #[.string (bs f1), .string (bs f2)] 60)) w2.heap.size a j c fs hO2 hfl (f1, f2) (by omega) hC2.size
        rw [show (w1.alloc (.cells #[.string (bs f1), .string (bs f2)] 60)).heap.size = w1.heap.size + 1 by simp] at hrun
        have HRUN := hide hrun
        have HG := hide (show OwnF w5 w2.heap.size (.slice a' (j + 1) c') (fs ++ [(f1, f2)]) ∧ fieldsL (ps.take (j + 1)) = some (fs ++ [(f1, f2)]) ∧ Below w2.heap.size w2 w5 from ⟨o5, HS.out, hC2.trans b5⟩)
        have hfl2 : (fs ++ [(f1, f2)]).length = j + 1 := by rw [List.length_append, hfl]; rfl
        have HFL := hide hfl2
        clear b1 HL hC1 hC2 hO2 hrun o5 b5 hfl hfl2
        go_wp2_with (at_builtin; refine Lib.wpList_append_run _ rfl _ _ _ _ rfl _ _ rfl rfl _ _ HRUN.out ?_)
        exact ⟨⟨j + 1, a', c', _, by omega, by go_num, rfl, HFL.out, HG⟩, by simp [Lib.intOf]; omega⟩
    · have d1 : decide (j < n) = false := by simp; omega
      have h := HI.out
      rw [List.take_of_length_le (by have := HN.out.1; omega)] at h
      have HF := hide (show fieldsO l = some fs from HFO.out.trans h.2.1)
      have HO := hide (OwnF.fv h.1)
      have HB := hide (HB2.out.trans (h.2.2.mono HB2.out.size))
      clear h HI hlt hj
      go_wp2_with fail
      go_ret
      exact ⟨_, rfl, by rw [HF.out]; exact HO.out.1, HB.out⟩
end Go.Proofs.YtonoaopioifedaaGreatDoor.H
