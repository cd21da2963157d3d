/- The document's Eye: Bytes and Num, at every size. -/
import Derived.Test.YtlipckpacdioiaaDoorEyeBytes
import Derived.Test.YtlipckpacdioiaaDoorRefNum
import Derived.Deep.RegionHeld3
namespace Go.Proofs.YtlipckpacdioiaaDoor
open Go.RowKit
set_option linter.unusedVariables false
set_option linter.unusedSimpArgs false
set_option maxRecDepth 100000
/-- The document's Eye at block E: all bytes, the next one's place, whether too much was read. -/
def REye (w : World) (E : Nat) (a : Option Addr) (n cap I : Nat) (bad : Bool) : Prop := w.heap[E]? = some (.cells #[.slice a n cap, .int .i64 (I : Int), .bool bad] 63 (0, 0))
theorem tri_cell0 {w : World} {b : Nat} {u v x : Value} {t : TypeId} (h : w.heap[b]? = some (.cells #[u, v, x] t (0, 0))) : w.cell? ⟨b, 0, none⟩ = some u := by simp [World.cell?, h]
theorem tri_cell1 {w : World} {b : Nat} {u v x : Value} {t : TypeId} (h : w.heap[b]? = some (.cells #[u, v, x] t (0, 0))) : w.cell? ⟨b, 1, none⟩ = some v := by simp [World.cell?, h]
theorem tri_cell2 {w : World} {b : Nat} {u v x : Value} {t : TypeId} (h : w.heap[b]? = some (.cells #[u, v, x] t (0, 0))) : w.cell? ⟨b, 2, none⟩ = some x := by simp [World.cell?, h]
theorem tri_free {w : World} {b : Nat} {u v x : Value} {t : TypeId} (h : w.heap[b]? = some (.cells #[u, v, x] t (0, 0))) (i : Nat) : w.frozen? ⟨b, i, none⟩ = false := by simp [World.frozen?, h]
theorem tri_set1 {w : World} {b : Nat} {u v x y : Value} {t : TypeId} (h : w.heap[b]? = some (.cells #[u, v, x] t (0, 0))) : (w.setCell ⟨b, 1, none⟩ y).heap[b]? = some (.cells #[u, y, x] t (0, 0)) := by
  have hlt := lt_of_block h
  have h' : w.heap[b] = .cells #[u, v, x] t (0, 0) := by simpa [Array.getElem?_eq_getElem hlt] using h
  show (w.heap.modify b _)[b]? = _
  rw [Array.getElem?_eq_getElem (by simpa using hlt), Array.getElem_modify_self, h']
  rfl
theorem tri_set2 {w : World} {b : Nat} {u v x y : Value} {t : TypeId} (h : w.heap[b]? = some (.cells #[u, v, x] t (0, 0))) : (w.setCell ⟨b, 2, none⟩ y).heap[b]? = some (.cells #[u, v, y] t (0, 0)) := by
  have hlt := lt_of_block h
  have h' : w.heap[b] = .cells #[u, v, x] t (0, 0) := by simpa [Array.getElem?_eq_getElem hlt] using h
  show (w.heap.modify b _)[b]? = _
  rw [Array.getElem?_eq_getElem (by simpa using hlt), Array.getElem_modify_self, h']
  rfl

set_option maxHeartbeats 1000000 in
theorem refBytes_more (E : Nat) (a : Option Addr) (n cap I : Nat) (bad : Bool) (s : Int) (w : World) (h : REye w E a n cap I bad) (hI : I ≤ n) (hn : n ≤ 5000) (hs0 : 0 ≤ s) (hs : (n : Int) - (I : Int) < s) (hs1 : s ≤ 9223372036854775807) :
    Calls Tryd.prog 45 #[.pointer (some ⟨E, 0, none⟩), .int .i64 s] w fun e w' => ∃ g, e = .returned (.slice (some ⟨g, 0, none⟩) 0 0) ∧ REye w' E a n cap n true ∧ w.grownBy w' (some E) := by
  have h' := h
  unfold REye at h'
  have c0 := tri_cell0 h'
  have c1 := tri_cell1 h'
  have c2 := tri_cell2 h'
  have f1 := tri_free h' 1
  have f2 := tri_free h' 2
  have hw1 : IntKind.i64.wrap ((n : Int) - (I : Int)) = (n : Int) - (I : Int) := IntWalk.i64_in _ (by omega)
  have hne : ¬ s < 0 := by omega
  have HH := hide h'
  clear h h'
  go_enter Tryd.func45, Tryd.ntmps45
  go_wp2_with fail
  go_quiet (fail)
  go_wp2
  go_ret
  have h1 := tri_set2 (y := .bool true) (tri_set1 (y := .int .i64 (n : Int)) HH.out)
  refine ⟨_, rfl, ?_, ?_⟩
  · exact (Below.heap_alloc _ _ E (lt_of_block h1)).trans h1
  · exact gb_trans (gb_trans (gb_trans (gb_drewN w nq _) (gb_set _ _ _ _)) (gb_set _ _ _ _)) (World.grownBy_alloc _ _ _)
theorem refBytes_neg (E : Nat) (a : Option Addr) (n cap I : Nat) (bad : Bool) (s : Int) (w : World) (h : REye w E a n cap I bad) (hs : s < 0) :
    Calls Tryd.prog 45 #[.pointer (some ⟨E, 0, none⟩), .int .i64 s] w fun e w' => ∃ g, e = .returned (.slice (some ⟨g, 0, none⟩) 0 0) ∧ REye w' E a n cap I bad ∧ w.grownBy w' (some E) := by
  have HH := hide h
  clear h
  go_enter Tryd.func45, Tryd.ntmps45
  go_wp2
  go_ret
  exact ⟨_, rfl, (Below.heap_alloc _ _ E (lt_of_block HH.out)).trans HH.out, World.grownBy_alloc _ _ _⟩

/-- An append whose run is known, in a region that draws its order. -/
theorem step_append_run {P : Program} {ops : Array Oper} {o : Oper} {a : Act} {w : World} {K : Act → World → Prop} {Q : Exit → Act → World → Prop} {E : Prop} (hgd : o.guard = none) (d s : Operand) (dT sT : TypeId)
    (ho : o.op = .call { callee := .builtin .append, args := #[d, s], argTypes := #[dT, sT] }) (vs vx : Value) (hd : a.eval d = vs) (hs : a.eval s = vx) (v' : Value) (w' : World)
    (hr : (Builtin.append_ #[dT, sT] o.type #[vs, vx]).run P w = .ok v' w') (h : K (a.put o.dst v') w') :
    if Region.wanted o (yielded ops a.tmps) = true then Oper.wp P o a w K Q else E := by
  have hw : Region.wanted o (yielded ops a.tmps) = true := by simp [Region.wanted, hgd]
  rw [if_pos hw]
  unfold Oper.wp
  simp [execOp, ho, resolve, invoke, builtin, hd, hs, hr, Result.andThen]
  exact h

/-- An append whose run is known to end in some way, in a region that draws its order. -/
theorem step_append_ex {P : Program} {ops : Array Oper} {o : Oper} {a : Act} {w : World} {K : Act → World → Prop} {Q : Exit → Act → World → Prop} {E : Prop} (hgd : o.guard = none) (d s : Operand) (dT sT : TypeId)
    (ho : o.op = .call { callee := .builtin .append, args := #[d, s], argTypes := #[dT, sT] }) (vs vx : Value) (hd : a.eval d = vs) (hs : a.eval s = vx) (R : Value → World → Prop)
    (hr : ∃ v' w', (Builtin.append_ #[dT, sT] o.type #[vs, vx]).run P w = .ok v' w' ∧ R v' w') (h : ∀ v' w', R v' w' → K (a.put o.dst v') w') :
    if Region.wanted o (yielded ops a.tmps) = true then Oper.wp P o a w K Q else E := by
  obtain ⟨v', w', hrun, hR⟩ := hr
  have hw : Region.wanted o (yielded ops a.tmps) = true := by simp [Region.wanted, hgd]
  rw [if_pos hw]
  unfold Oper.wp
  simp [execOp, ho, resolve, invoke, builtin, hd, hs, hrun, Result.andThen]
  exact h v' w' hR

/-- A part of a row: where it lies. -/
theorem cut_run (a : Option Addr) (xs : List Int) (n cap I m : Nat) (w : World) (hr : Row .u8 w a xs) (hxn : xs.length = n) (hnc : n ≤ cap) (hnil : a = none → cap = 0) (hm : I + m ≤ n) :
    ∃ A, (∀ W, (Instr.slice 25 (.slice a n cap) (some (.int .i64 (I : Int))) (some (.int .i64 ((I : Int) + (m : Int)))) none).run Tryd.prog W = .ok (.slice A m (cap - I)) W) ∧ Row .u8 w A ((xs.drop I).take m) ∧ (A = none → cap - I = 0) := by
  have hz : ∀ W, (sizeOf 5).run Tryd.prog W = .ok 1 W := fun W => by
    obtain ⟨i0, hi, _, hs, _⟩ := info_parts Tryd.info5
    simp [sizeOf, typeInfo, hi, hs]
  have he : Tryd.prog.elem 25 = 5 := by kernel_rfl
  refine ⟨if cap = I then a else a.map (·.add I), fun W => ?_, ?_, ?_⟩
  · rw [run_slice_lh (P := Tryd.prog) W 25 _ n cap (by rw [he]; exact Tryd.underlying25) .i64 .i64 (I : Int) ((I : Int) + (m : Int)) (by omega) (by omega) (by omega), he, hz]
    have h1 : ((I : Int) + (m : Int)).toNat = I + m := by omega
    simp [sliced, Result.andThen, h1]
  · intro hne
    have hmp : 0 < m := by
      rcases Nat.eq_zero_or_pos m with h | h
      · subst h; simp at hne
      · exact h
    obtain ⟨b, off, rfl, hlt, hc⟩ := hr.at (i := 0) (by omega)
    rw [if_neg (by omega)]
    refine ⟨b, off + I, by simp [Addr.add_lit], hlt, fun i hi => ?_⟩
    have hi2 : i < m := by have := hi; rw [List.length_take] at this; omega
    rw [Nat.add_assoc, hc (I + i) (by omega), List.getElem?_take_of_lt hi2, List.getElem?_drop]
  · intro h
    cases a with
    | none => have := hnil rfl; omega
    | some ad =>
      by_cases hc : cap = I
      · omega
      · rw [if_neg hc] at h; simp at h

theorem row_eye {w : World} {E : Nat} {a a' : Option Addr} {xs : List Int} {n cap : Nat} {I : Int} {bad : Bool} (h : Row .u8 w a xs) (hE : w.heap[E]? = some (.cells #[.slice a' n cap, .int .i64 I, .bool bad] 63 (0, 0))) (v : Value) : Row .u8 (w.setCell ⟨E, 1, none⟩ v) a xs := by
  intro hne
  obtain ⟨b, off, rfl, hlt, hc⟩ := h hne
  have hbE : b ≠ E := by
    intro e; subst e
    have h0 := hc 0 (by cases xs with | nil => exact absurd rfl hne | cons x r => simp)
    simp only [World.cell?, hE, Nat.add_zero] at h0
    match off, h0 with
    | 0, h0 => simp at h0
    | 1, h0 => simp at h0
    | 2, h0 => simp at h0
    | k + 3, h0 => simp at h0
  exact ⟨b, off, rfl, by simpa using hlt, fun i hi => by rw [cell_set_ne _ _ _ _ hbE]; exact hc i hi⟩

set_option maxHeartbeats 600000 in
theorem refBytes_some (E : Nat) (a : Option Addr) (xs : List Int) (n cap I m : Nat) (bad : Bool) (w : World) (h : REye w E a n cap I bad) (hr : Row .u8 w a xs) (hxn : xs.length = n) (hnc : n ≤ cap) (hcm : cap ≤ 9223372036854775807) (hnil : a = none → cap = 0) (hm : I + m ≤ n) (hn : n ≤ 5000) :
    Calls Tryd.prog 45 #[.pointer (some ⟨E, 0, none⟩), .int .i64 (m : Int)] w fun e w' => ∃ a' c, e = .returned (.slice a' m c) ∧ Row .u8 w' a' ((xs.drop I).take m) ∧
      REye w' E a n cap (I + m) bad ∧ w.grownBy w' (some E) := by
  have h' := h
  unfold REye at h'
  obtain ⟨i0, hi, hz0, hz1, hz2⟩ := info_parts Tryd.info5
  obtain ⟨A, hsl, hrA, hAn⟩ := cut_run a xs n cap I m w hr hxn hnc hnil hm
  have hzl : ((xs.drop I).take m).length = m := by rw [List.length_take, List.length_drop]; omega
  generalize (xs.drop I).take m = zs at *
  have hap : ∀ V : World, V.ownsRow w.heap.size 5 1 (.slice (some ⟨w.heap.size, 0, none⟩) 0 0) 0 [] → Below w.heap.size w V →
      ∃ v' w', (Builtin.append_ #[25, 25] 25 #[.slice (some ⟨w.heap.size, 0, none⟩) 0 0, .slice A m (cap - I)]).run Tryd.prog V = .ok v' w' ∧
        (∃ a' c, v' = .slice a' m c ∧ Hid (Row .u8 w' a' zs) ∧ Below w.heap.size w w') := fun V hV hb => by
    cases A with
    | none =>
      have hz : zs = [] := row_none hrA
      have hm0 : m = 0 := by rw [← hzl, hz]; rfl
      have hrun := run_append_owned_none (P := Tryd.prog) (w := V) w.heap.size 25 25 5 i0 1 Tryd.underlying25 hi _ 0 [] hV
      rw [hAn rfl, hm0]
      exact ⟨_, _, hrun, _, _, rfl, (by rw [hz]; exact fun h => absurd rfl h), hb⟩
    | some ad =>
      obtain ⟨v', w', h1, h2, h3, _⟩ := run_append_own (P := Tryd.prog) V w.heap.size 25 25 5 i0 (.int .u8 0) 1 1 Tryd.underlying25 hi hz0 hz1 hz2 rfl (by decide) _ 0 [] hV ad m (cap - I) (zs.map (Value.int .u8)) (by simp [hzl]) (row_cells (hrA.below hb (Nat.le_refl _))) (ints_one _ _) (by unfold maxLen; omega) (by omega) hb.size
      rw [Nat.zero_add, List.nil_append] at h2
      obtain ⟨a', c, rfl⟩ := slice_form h2
      exact ⟨_, _, h1, a', c, rfl, Row.of_owns h2, hb.grown h3 hb.size (fun k e => by cases e; exact Nat.le_refl _)⟩
  have c0 := tri_cell0 h'
  have c1 := tri_cell1 h'
  have f1 := tri_free h' 1
  have hEl := lt_of_block h'
  have hw1 : IntKind.i64.wrap ((n : Int) - (I : Int)) = (n : Int) - (I : Int) := IntWalk.i64_in _ (by omega)
  have hw2 : IntKind.i64.wrap ((I : Int) + (m : Int)) = (I : Int) + (m : Int) := IntWalk.i64_in _ (by omega)
  have hne : ¬ ((m : Int) < 0) := by omega
  have hgt : ¬ ((n : Int) - (I : Int) < (m : Int)) := by omega
  have HH := hide h'
  have HAP := hide hap
  clear h h' hr hxn hrA hAn hap hnil hzl
  go_enter Tryd.func45, Tryd.ntmps45
  go_wp2_with fail
  go_quiet (fail)
  go_wp2_with fail
  obtain ⟨W, hW, hWb, hWs, hW0, hW1, hWf⟩ : ∃ W, w.drewN nq = W ∧ Below w.heap.size w W ∧ Hid (W.heap.size = w.heap.size) ∧ W.cell? ⟨E, 0, none⟩ = some (.slice a n cap) ∧ W.cell? ⟨E, 1, none⟩ = some (.int .i64 (I : Int)) ∧ W.frozen? ⟨E, 1, none⟩ = false := ⟨_, rfl, bdrewN (Below.refl _ _) _, rfl, c0, c1, f1⟩
  rw [hW]
  clear hW c0 c1 f1
  have hap1 : ∃ v' w', (Builtin.append_ #[25, 25] 25 #[.slice (some ⟨W.heap.size, 0, none⟩) 0 0, .slice A m (cap - I)]).run Tryd.prog (W.alloc (.cells #[] 5)).drew = .ok v' w' ∧ (∃ a' c, v' = .slice a' m c ∧ Hid (Row .u8 w' a' zs) ∧ Below w.heap.size w w') := by
    rw [hWs.out]
    have hown : (W.alloc (.cells #[] 5)).ownsRow w.heap.size 5 1 (.slice (some ⟨W.heap.size, 0, none⟩) 0 0) 0 [] := World.ownsRow_lit W #[] 0 (by rw [hWs.out]; exact Nat.le_refl _) (by unfold maxLen; omega) rfl
    rw [hWs.out] at hown
    exact HAP.out _ hown.drew ((hWb.alloc hWb.size _).drew)
  have HAP1 := hide hap1
  clear hap1
  go_region_held3 (fun w' => w'.cell? ⟨E, 0, none⟩ = some (.slice a n cap) ∧ w'.cell? ⟨E, 1, none⟩ = some (.int .i64 (I : Int))) (go_keep) (first | (refine step_append_ex rfl (.tmp 33) (.tmp 48) 25 25 rfl _ _ rfl rfl _ HAP1.out ?_; rintro v' w4 ⟨a4, c4, rfl, HR4, hb4⟩; have hk4 := (hb4.block E hEl).trans HH.out; have k0 := tri_cell0 hk4; have k1 := tri_cell1 hk4; have kf := tri_free hk4 1; have HK4 := hide hk4; clear hk4))
  all_goals
    clear hsl hw1 hW0 hW1 hWf
    go_wp2
    go_ret
    have hk := tri_set1 (y := .int .i64 ((I : Int) + (m : Int))) HK4.out
    refine ⟨a4, c4, rfl, ?_, ?_, ?_⟩
    · exact row_eye HR4.out HK4.out _
    · unfold REye; rw [Int.natCast_add]; exact hk
    · exact gb_trans ⟨hb4.os, hb4.tape, hb4.output, hb4.size, fun k hk _ => hb4.block k hk⟩ (gb_set _ _ _ _)

/-- The document's 'Bytes', at every size. -/
theorem refBytes_any (E : Nat) (a : Option Addr) (xs : List Int) (n cap I : Nat) (bad : Bool) (s : Int) (w : World) (h : REye w E a n cap I bad) (hr : Row .u8 w a xs) (hxn : xs.length = n) (hnc : n ≤ cap) (hcm : cap ≤ 9223372036854775807) (hnil : a = none → cap = 0) (hI : I ≤ n) (hn : n ≤ 5000) (hs : s ≤ 9223372036854775807) :
    Calls Tryd.prog 45 #[.pointer (some ⟨E, 0, none⟩), .int .i64 s] w fun e w' => ∃ a' c, e = .returned (.slice a' (if s.toNat ≤ n - I then s.toNat else 0) c) ∧ Row .u8 w' a' (if s.toNat ≤ n - I then (xs.drop I).take s.toNat else []) ∧
      REye w' E a n cap (if s.toNat ≤ n - I then I + s.toNat else n) (bad || decide (n - I < s.toNat)) ∧ w.grownBy w' (some E) := by
  by_cases h1 : s.toNat ≤ n - I
  · rw [if_pos h1, if_pos h1, if_pos h1, show decide (n - I < s.toNat) = false from by simp; omega, Bool.or_false]
    by_cases h0 : s < 0
    · have hk : s.toNat = 0 := by omega
      rw [hk]
      refine (refBytes_neg E a n cap I bad s w h h0).mono ?_
      rintro e w' ⟨g, rfl, h2, h3⟩
      exact ⟨_, _, rfl, fun hh => absurd (by simp) hh, h2, h3⟩
    · obtain ⟨m, rfl⟩ := Int.eq_ofNat_of_zero_le (show 0 ≤ s by omega)
      simp only [Int.toNat_natCast] at h1 ⊢
      exact refBytes_some E a xs n cap I m bad w h hr hxn hnc hcm hnil (by omega) hn
  · rw [if_neg h1, if_neg h1, if_neg h1, show decide (n - I < s.toNat) = true from by simp; omega, Bool.or_true]
    refine (refBytes_more E a n cap I bad s w h hI hn (by omega) (by omega) hs).mono ?_
    rintro e w' ⟨g, rfl, h2, h3⟩
    exact ⟨_, _, rfl, fun hh => absurd rfl hh, h2, h3⟩

set_option maxHeartbeats 800000 in
/-- The document's 'Num' of an Eye. -/
theorem refEyeNum_any (E : Nat) (a : Option Addr) (xs : List Int) (n cap I : Nat) (bad : Bool) (s : Int) (w : World) (h : REye w E a n cap I bad) (hr : Row .u8 w a xs) (hb : ∀ x ∈ xs, 0 ≤ x ∧ x ≤ 255) (hxn : xs.length = n) (hnc : n ≤ cap) (hcm : cap ≤ 9223372036854775807) (hnil : a = none → cap = 0) (hI : I ≤ n) (hn : n ≤ 5000) :
    Calls Tryd.prog 30 #[.pointer (some ⟨E, 0, none⟩), .int .i64 s] w fun e w' => e = .returned (.int .u64 (valB (if sz s ≤ n - I then (xs.drop I).take (sz s) else []))) ∧
      REye w' E a n cap (if sz s ≤ n - I then I + sz s else n) (bad || decide (n - I < sz s)) ∧ w.grownBy w' (some E) := by
  have hs8 := sz_le s
  have ht := refBytes_any E a xs n cap I bad (sz s : Nat) w h hr hxn hnc hcm hnil hI hn (by omega)
  simp only [Int.toNat_natCast] at ht
  have hbd := refSize_any s w
  have hxb : ∀ x ∈ (if sz s ≤ n - I then (xs.drop I).take (sz s) else []), 0 ≤ x ∧ x ≤ 255 := by
    split
    · exact fun x hx => hb x (List.mem_of_mem_drop (List.mem_of_mem_take hx))
    · simp
  have hxl : (if sz s ≤ n - I then (xs.drop I).take (sz s) else []).length = (if sz s ≤ n - I then sz s else 0) := by
    split
    · rw [List.length_take, List.length_drop]; omega
    · rfl
  have hx8 : (if sz s ≤ n - I then sz s else 0) ≤ 8 := by split <;> omega
  generalize (if sz s ≤ n - I then (xs.drop I).take (sz s) else []) = zs at *
  generalize (if sz s ≤ n - I then sz s else 0) = m at *
  generalize (if sz s ≤ n - I then I + sz s else n) = I' at *
  generalize (bad || decide (n - I < sz s)) = bad' at *
  generalize sz s = S at *
  have HT := hide ht
  have HBD := hide hbd
  have HXB := hide hxb
  have HXL := hide hxl
  clear ht hbd hxb hxl h hr hb hs8 hxn hnc hcm hnil hI hn
  go_enter Tryd.func30, Tryd.ntmps30
  go_wp2_with fail
  refine HBD.out.mono ?_
  rintro e w1 ⟨rfl, rfl⟩
  go_wp2_with fail
  refine HT.out.mono ?_
  rintro e w2 ⟨a2, c2, rfl, hrow, heye, hgr⟩
  have HR := hide hrow
  have HE := hide heye
  have HG := hide hgr
  clear hrow heye hgr
  go_wp2
  go_loop [6, 7] (fun v i => ∃ k : Nat, k ≤ m ∧ i = .int .i64 k ∧ v = .int .u64 (valB (zs.take k))) (fun _ i => m - (intOf i).toNat)
  case atStart => exact ⟨0, Nat.zero_le _, rfl, rfl⟩
  case round =>
    obtain ⟨k, hk, rfl, rfl⟩ := hrel
    have HX := HXL.out
    by_cases hlt : k < m
    · obtain ⟨b, off, rfl, hbl, hc⟩ := HR.out.at (i := k) (by omega)
      have cx := hc k (by omega)
      have hv := valB_snoc zs k (by omega)
      have hr1 := valB_rng zs HXB.out k
      have hr2 := byte_at HXB.out k
      have hp : (256 : Int) ^ k ≤ 72057594037927936 := by
        have : k ≤ 7 := by omega
        have := Nat.pow_le_pow_right (show 0 < 256 by decide) this
        have h2 : ((256 ^ k : Nat) : Int) ≤ ((256 ^ 7 : Nat) : Int) := by exact_mod_cast this
        simpa using h2
      generalize zs[k]?.getD 0 = y at *
      generalize valB (zs.take k) = x at *
      have hx1 : 0 ≤ x := hr1.1
      have hx2 : x ≤ 72057594037927935 := by omega
      have hy1 := hr2.1
      have hy2 := hr2.2
      have HV := hide hv
      clear hv hr1 hr2 hp hc HX
      go_wp2
      go_round
      case rel => exact ⟨k + 1, by omega, by go_num, by rw [HV.out]⟩
      case measure => simp [intOf]; omega
    · have hkm : k = m := by omega
      subst hkm
      rw [List.take_of_length_le (by omega)]
      clear HX
      go_wp2
      go_ret
      exact ⟨rfl, HE.out, HG.out⟩
end Go.Proofs.YtlipckpacdioiaaDoor
