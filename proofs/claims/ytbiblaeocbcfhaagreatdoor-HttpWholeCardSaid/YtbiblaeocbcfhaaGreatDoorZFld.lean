/- http: the fields of lines. -/
import Derived.Test.YtbiblaeocbcfhaaGreatDoorZTxt
import Derived.Test.YtbiblaeocbcfhaaGreatDoorHLine
namespace Go.Proofs.YtbiblaeocbcfhaaGreatDoor
open Go.RowKit Go.Deep
set_option linter.unusedVariables false
set_option linter.unusedSimpArgs false
set_option maxRecDepth 100000
theorem fields_snoc (x : List UInt8) : ∀ xs, fieldsL (xs ++ [x]) = (fieldsL xs).bind fun t => (lineL x).map fun f => t ++ [f]
  | [] => by simp only [List.nil_append, fieldsL]; cases lineL x <;> rfl
  | y :: r => by
    rw [List.cons_append, fieldsL, fields_snoc x r, fieldsL]
    cases lineL y with
    | none => rfl
    | some f =>
      cases fieldsL r with
      | none => rfl
      | some t => cases lineL x <;> rfl
theorem fields_stop : ∀ (xs ys : List (List UInt8)), fieldsL xs = none → fieldsL (xs ++ ys) = none
  | [], _, h => by cases h
  | x :: r, ys, h => by
    rw [fieldsL] at h
    rw [List.cons_append, fieldsL]
    cases hx : lineL x with
    | none => rfl
    | some f =>
      rw [hx, Option.bind_some] at h
      rw [Option.bind_some, fields_stop r ys (by cases hr : fieldsL r with | none => rfl | some t => rw [hr] at h; cases h)]; rfl
theorem fields_len : ∀ (xs : List (List UInt8)) (fs), fieldsL xs = some fs → fs.length = xs.length
  | [], fs, h => by cases h; rfl
  | x :: r, fs, h => by
    rw [fieldsL] at h
    cases hx : lineL x with
    | none => rw [hx] at h; cases h
    | some f =>
      rw [hx, Option.bind_some] at h
      cases hr : fieldsL r with
      | none => rw [hr] at h; cases h
      | some t => rw [hr] at h; cases h; rw [List.length_cons, List.length_cons, fields_len r t hr]
def fcells (fs : List (List UInt8 × List UInt8)) : List Value := fs.flatMap fun f => [.string (bs f.1), .string (bs f.2)]
theorem fcells_len (fs : List (List UInt8 × List UInt8)) : (fcells fs).length = fs.length * 2 := by
  induction fs with
  | nil => rfl
  | cons f r ih => unfold fcells at ih ⊢; rw [List.flatMap_cons, List.length_append, ih]; simp; omega
theorem fcells_at : ∀ (fs : List (List UInt8 × List UInt8)) (i : Nat) (f), fs[i]? = some f → (fcells fs)[i * 2]? = some (.string (bs f.1)) ∧ (fcells fs)[i * 2 + 1]? = some (.string (bs f.2))
  | [], i, f, h => by simp at h
  | g :: r, 0, f, h => by cases h; exact ⟨rfl, rfl⟩
  | g :: r, i + 1, f, h => by
    have := fcells_at r i f (by simpa using h)
    unfold fcells at this ⊢
    rw [List.flatMap_cons, show (i + 1) * 2 = i * 2 + 2 by omega]
    exact ⟨by simpa using this.1, by simpa using this.2⟩
def OwnF (w : World) (K : Nat) (v : Value) (fs : List (List UInt8 × List UInt8)) : Prop := w.ownsRow K 43 2 v fs.length (fcells fs)
theorem Tryz.infoFld : (Tryz.prog.info? 43).map (fun i => (i.zero, i.size, i.bytes)) = some (some (.agg #[.string ⟨#[]⟩, .string ⟨#[]⟩]), 2, 32) := by kernel_rfl
theorem OwnF.fv {w : World} {K : Nat} {v : Value} {fs : List (List UInt8 × List UInt8)} (h : OwnF w K v fs) : FV w v fs ∧ ∀ k, v.ownBlock = some k → K ≤ k ∧ k < w.heap.size := by
  refine ⟨?_, World.ownsRow.lt h⟩
  obtain ⟨a, c, rfl⟩ := slice_form h
  refine ⟨a, c, rfl, fun hne => ?_⟩
  obtain ⟨g, cap, e, hg, hlt⟩ := World.ownsRow.form h (by cases fs with | nil => exact absurd rfl hne | cons f r => simp)
  obtain ⟨rfl, -, rfl⟩ : a = some ⟨g, 0, none⟩ ∧ fs.length = fs.length ∧ c = cap := by injection e with e1 e2 e3; exact ⟨e1, e2, e3⟩
  refine ⟨g, 0, rfl, hlt, fun i o ho => ?_⟩
  rw [List.getElem?_map] at ho
  cases hf : fs[i]? with
  | none => rw [hf] at ho; cases ho
  | some f =>
    rw [hf] at ho
    cases ho
    have hi := (List.getElem?_eq_some_iff.1 hf).1
    have h2 := fcells_at fs i f hf
    rw [Nat.zero_add]
    exact ⟨(World.ownsRow.cellAt h (i * 2) (by omega)).trans h2.1, (World.ownsRow.cellAt h (i * 2 + 1) (by omega)).trans h2.2⟩
/-- A field is appended. -/
theorem pushF (V : World) (K : Nat) (a : Option Addr) (n c : Nat) (fs : List (List UInt8 × List UInt8)) (hV : OwnF V K (.slice a n c) fs) (hn : fs.length = n) (f : List UInt8 × List UInt8) (hs : n ≤ 100000) (hK : K ≤ V.heap.size) :
    ∃ a' c' w', (Builtin.append_ #[29, 29] 29 #[.slice a n c, .slice (some ⟨V.heap.size, 0, none⟩) 1 1]).run Tryz.prog (V.alloc (.cells #[.string (bs f.1), .string (bs f.2)] 43)) = .ok (.slice a' (n + 1) c') w' ∧ OwnF w' K (.slice a' (n + 1) c') (fs ++ [f]) ∧ Below K V w' := by
  have hal : Below V.heap.size V (V.alloc (.cells #[.string (bs f.1), .string (bs f.2)] 43)) := (Below.refl _ _).alloc (Nat.le_refl _) _
  have hr2 : (V.alloc (.cells #[.string (bs f.1), .string (bs f.2)] 43)).ownsRow K 43 2 (.slice a n c) n (fcells fs) := by
    have h := World.ownsRow.alloc hV (.cells #[.string (bs f.1), .string (bs f.2)] 43)
    rwa [hn] at h
  have hc : (V.alloc (.cells #[.string (bs f.1), .string (bs f.2)] 43)).heap[V.heap.size]? = some (.cells #[.string (bs f.1), .string (bs f.2)] 43 (0, 0)) := heap_alloc_new _ _
  obtain ⟨i0, hi, hz0, hz1, hz2⟩ := info_parts Tryz.infoFld
  obtain ⟨v', w', h1, h2, h3, _, h5⟩ := run_append_own_at (P := Tryz.prog) (V.alloc (.cells #[.string (bs f.1), .string (bs f.2)] 43)) K 29 29 43 i0 (.agg #[.string ⟨#[]⟩, .string ⟨#[]⟩]) 2 32 Tryz.underlying29 hi hz0 hz1 hz2 (by rfl) (by omega) (.slice a n c) n (fcells fs) hr2 ⟨V.heap.size, 0, none⟩ 1 1 [.string (bs f.1), .string (bs f.2)] rfl (by
    intro j u hj
    match j with
    | 0 => cases hj; show (V.alloc (.cells #[.string (bs f.1), .string (bs f.2)] 43)).cell? ⟨V.heap.size, 0, none⟩ = _; simp only [World.cell?, hc]; rfl
    | 1 => cases hj; show (V.alloc (.cells #[.string (bs f.1), .string (bs f.2)] 43)).cell? ⟨V.heap.size, 1, none⟩ = _; simp only [World.cell?, hc]; rfl
    | j + 2 => simp at hj) (by intro u hu; rcases List.mem_cons.1 hu with h | h; (rw [h]; rfl); rw [List.mem_singleton.1 h]; rfl) (by unfold maxLen; omega) (by omega) (by have := hal.size; omega)
  obtain ⟨a', c', rfl⟩ := slice_form h2
  refine ⟨a', c', w', h1, ?_, (hal.mono hK).grown h3 (by have := hal.size; omega) (fun z e => (hr2.lt z e).1)⟩
  unfold OwnF fcells
  rw [List.length_append, List.length_singleton, hn, List.flatMap_append]
  exact h2
set_option maxHeartbeats 2000000 in
theorem fields_any (xs : List (List UInt8)) (R off n cap : Nat) (w : World) (hE : Env w) (hx : ∀ i x, xs[i]? = some x → w.cell? ⟨R, off + i, none⟩ = some (.string (bs x))) (hR : R < w.heap.size) (hn : xs.length = n) (hn2 : n ≤ 5002) (hs : ∀ x ∈ xs, x.length ≤ 5000) :
    Calls Tryz.prog 29 #[.slice (some ⟨R, off, none⟩) n cap] w fun e w' => ∃ fv, e = .returned (.tuple #[fv, .bool (fieldsL xs).isSome]) ∧ FV w' fv ((fieldsL xs).getD []) ∧ (∀ k, fv.ownBlock = some k → w.heap.size ≤ k ∧ k < w'.heap.size) ∧ Below w.heap.size w w' := by
  have HX := hide hx
  have HN := hide (And.intro hn (And.intro hn2 (And.intro hR hs)))
  have HE := hide hE
  have HI := hide (show OwnF w w.heap.size (.slice none 0 0) [] ∧ fieldsL (xs.take 0) = some [] ∧ Below w.heap.size w w from ⟨World.ownsRow_nil w _ _ _, rfl, Below.refl _ _⟩)
  clear hx hn hn2 hR hs hE
  go_enter Tryz.func29, Tryz.ntmps29
  go_wp2_with fail
  go_loopw [4, 11] (fun ov i wz => ∃ (j : Nat) (a : Option Addr) (c : Nat) (fs : List (List UInt8 × List UInt8)), j ≤ n ∧ i = .int .i64 j ∧ ov = .slice a j c ∧ fs.length = j ∧ Hid (OwnF wz w.heap.size (.slice a j c) fs ∧ fieldsL (xs.take j) = some fs ∧ Below w.heap.size w wz)) (fun _ i _ => n - (Lib.intOf i).toNat)
  case atStart => exact ⟨0, none, 0, [], Nat.zero_le _, rfl, rfl, rfl, HI⟩
  case round =>
    clear HI
    obtain ⟨j, a, c, fs, hj, rfl, rfl, hfl, HI⟩ := hrel
    have hj4 : (0 : Int) ≤ (j : Int) := by omega
    have hj5 : (j : Int) ≤ 5002 := by have := HN.out; omega
    by_cases hlt : j < n
    · have d1 : decide (j < n) = true := by simp; omega
      obtain ⟨x, hxj⟩ : ∃ x, xs[j]? = some x := ⟨_, List.getElem?_eq_getElem (by have := HN.out.1; omega)⟩
      have hz : wr.cell? ⟨R, off + j, none⟩ = some (.string (bs x)) := (HI.out.2.2.cell (p := ⟨R, off + j, none⟩) HN.out.2.2.1).trans (HX.out j x hxj)
      have hL := line_any (bs x) wr (by rw [bs_len]; have := HN.out.2.2.2 x (List.mem_of_getElem? hxj); omega) (HE.out.below HI.out.2.2 (Nat.le_refl _))
      rw [bs_data] at hL
      have hsucc : fieldsL (xs.take (j + 1)) = (lineL x).map fun f => fs ++ [f] := by rw [List.take_add_one, hxj, Option.toList_some, fields_snoc, HI.out.2.1]; rfl
      have hstop : lineL x = none → fieldsL xs = none := fun h => by
        rw [← List.take_append_drop (j + 1) xs]
        exact fields_stop _ _ (by rw [hsucc, h]; rfl)
      obtain ⟨s, hs⟩ : ∃ s, bs x = s := ⟨_, rfl⟩
      rw [hs] at hz hL
      have HL := hide hL
      cases hlx : lineL x with
      | none =>
        rw [hlx] at HL
        have HF := hide (hstop hlx)
        have HB := hide HI.out.2.2
        unfold lineV at HL
        clear hL hsucc hstop hs hxj hlx HI
        go_wp2_with fail
        refine HL.out.mono ?_
        rintro e w1 ⟨rfl, b1⟩
        have HB2 := hide (HB.out.trans (b1.mono HB.out.size))
        clear b1 HL
        go_wp2_with fail
        go_ret2
        exact ⟨_, by rw [HF.out]; rfl, by rw [HF.out]; exact FV.nil _, fun k h => (by cases h), HB2.out.alloc HB2.out.size _⟩
      | some f =>
        rw [hlx] at HL hsucc
        obtain ⟨f1, f2⟩ := f
        unfold lineV at HL
        have HI2 := hide HI.out
        have HS := hide (show fieldsL (xs.take (j + 1)) = some (fs ++ [(f1, f2)]) from hsucc)
        clear hL hsucc hstop hs hxj hlx HI
        go_wp2_with fail
        refine HL.out.mono ?_
        rintro e w1 ⟨rfl, b1⟩
        have hB1 := HI2.out.2.2.trans (b1.mono HI2.out.2.2.size)
        have hB2 := hB1.alloc hB1.size (.cells #[.string (bs f1), .string (bs f2)] 43)
        have hO2 : OwnF (w1.alloc (.cells #[.string (bs f1), .string (bs f2)] 43)) w.heap.size (.slice a j c) fs := World.ownsRow.alloc (owns_below HI2.out.1 b1 (Nat.le_refl _)) _
        obtain ⟨a', c', w5, hrun, o5, b5⟩ := pushF (w1.alloc (.cells #[.string (bs f1), .string (bs f2)] 43)) w.heap.size a j c fs hO2 hfl (f1, f2) (by omega) hB2.size
        rw [show (w1.alloc (.cells #[.string (bs f1), .string (bs f2)] 43)).heap.size = w1.heap.size + 1 by simp] at hrun
        have HRUN := hide hrun
        have HG := hide (show OwnF w5 w.heap.size (.slice a' (j + 1) c') (fs ++ [(f1, f2)]) ∧ fieldsL (xs.take (j + 1)) = some (fs ++ [(f1, f2)]) ∧ Below w.heap.size w w5 from ⟨o5, HS.out, hB2.trans b5⟩)
        have hfl2 : (fs ++ [(f1, f2)]).length = j + 1 := by rw [List.length_append, hfl]; rfl
        have HFL := hide hfl2
        clear b1 HL hB1 hB2 hO2 hrun o5 b5 hfl hfl2
        go_wp2_with (at_builtin; refine Lib.wpList_append_run _ rfl _ _ _ _ rfl _ _ rfl rfl _ _ HRUN.out ?_)
        exact ⟨⟨j + 1, a', c', _, by omega, by go_num, rfl, HFL.out, HG⟩, by simp [Lib.intOf]; omega⟩
    · have d1 : decide (j < n) = false := by simp; omega
      have h := HI.out
      rw [List.take_of_length_le (by have := HN.out.1; omega)] at h
      have HF := hide (show fieldsL xs = some fs from h.2.1)
      have HO := hide (OwnF.fv h.1)
      have HB := hide h.2.2
      clear h HI hlt hj
      go_wp2_with fail
      go_ret2
      exact ⟨_, by rw [HF.out]; rfl, by rw [HF.out]; exact HO.out.1, HO.out.2, HB.out⟩
end Go.Proofs.YtbiblaeocbcfhaaGreatDoor
