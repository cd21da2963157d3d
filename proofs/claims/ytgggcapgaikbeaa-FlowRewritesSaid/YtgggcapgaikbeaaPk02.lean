/- The document's Eye: Bytes and Num, at every size. -/
import Derived.Test.YtgggcapgaikbeaaPk01
import Derived.Deep.RegionHeld3
import Derived.Laws.CopyOwn
import Derived.Deep.RegionWith
import Derived.Deep.RegionLaw
import Derived.RangeFuncBox
import Derived.RangeFuncWrites
import Derived.RangeFuncLeaves
import Derived.Shelf.Abstract
import Derived.OwnWalkIn
import Derived.TacticsInMore
import Derived.LoopNIn
import Derived.LoopIn
namespace Go.Proofs.Ytgggcapgaikbeaa
open Go.RowKit
set_option linter.unusedVariables false
set_option linter.unusedSimpArgs false
set_option maxRecDepth 100000
/-- The document's Eye at block E: all bytes, the next one's place, whether too much was read. -/
def REye (w : World) (E : Nat) (a : Option Addr) (n cap I : Nat) (bad : Bool) : Prop := w.heap[E]? = some (.cells #[.slice a n cap, .int .i64 (I : Int), .bool bad] 93 (0, 0))
theorem tri_cell0 {w : World} {b : Nat} {u v x : Value} {t : TypeId} (h : w.heap[b]? = some (.cells #[u, v, x] t (0, 0))) : w.cell? ⟨b, 0, none⟩ = some u := by simp [World.cell?, h]
theorem tri_cell1 {w : World} {b : Nat} {u v x : Value} {t : TypeId} (h : w.heap[b]? = some (.cells #[u, v, x] t (0, 0))) : w.cell? ⟨b, 1, none⟩ = some v := by simp [World.cell?, h]
theorem tri_cell2 {w : World} {b : Nat} {u v x : Value} {t : TypeId} (h : w.heap[b]? = some (.cells #[u, v, x] t (0, 0))) : w.cell? ⟨b, 2, none⟩ = some x := by simp [World.cell?, h]
theorem tri_free {w : World} {b : Nat} {u v x : Value} {t : TypeId} (h : w.heap[b]? = some (.cells #[u, v, x] t (0, 0))) (i : Nat) : w.frozen? ⟨b, i, none⟩ = false := by simp [World.frozen?, h]
theorem tri_set1 {w : World} {b : Nat} {u v x y : Value} {t : TypeId} (h : w.heap[b]? = some (.cells #[u, v, x] t (0, 0))) : (w.setCell ⟨b, 1, none⟩ y).heap[b]? = some (.cells #[u, y, x] t (0, 0)) := by
  have hlt := lt_of_block h
  have h' : w.heap[b] = .cells #[u, v, x] t (0, 0) := by simpa [Array.getElem?_eq_getElem hlt] using h
  show (w.heap.modify b _)[b]? = _
  rw [Array.getElem?_eq_getElem (by simpa using hlt), Array.getElem_modify_self, h']
  rfl
theorem tri_set2 {w : World} {b : Nat} {u v x y : Value} {t : TypeId} (h : w.heap[b]? = some (.cells #[u, v, x] t (0, 0))) : (w.setCell ⟨b, 2, none⟩ y).heap[b]? = some (.cells #[u, v, y] t (0, 0)) := by
  have hlt := lt_of_block h
  have h' : w.heap[b] = .cells #[u, v, x] t (0, 0) := by simpa [Array.getElem?_eq_getElem hlt] using h
  show (w.heap.modify b _)[b]? = _
  rw [Array.getElem?_eq_getElem (by simpa using hlt), Array.getElem_modify_self, h']
  rfl

set_option maxHeartbeats 1000000 in
theorem refBytes_more (E : Nat) (a : Option Addr) (n cap I : Nat) (bad : Bool) (s : Int) (w : World) (h : REye w E a n cap I bad) (hI : I ≤ n) (hn : n ≤ 5000) (hs0 : 0 ≤ s) (hs : (n : Int) - (I : Int) < s) (hs1 : s ≤ 9223372036854775807) :
    Calls Try.prog 80 #[.pointer (some ⟨E, 0, none⟩), .int .i64 s] w fun e w' => ∃ g, e = .returned (.slice (some ⟨g, 0, none⟩) 0 0) ∧ REye w' E a n cap n true ∧ w.grownBy w' (some E) := by
  have h' := h
  unfold REye at h'
  have c0 := tri_cell0 h'
  have c1 := tri_cell1 h'
  have c2 := tri_cell2 h'
  have f1 := tri_free h' 1
  have f2 := tri_free h' 2
  have hw1 : IntKind.i64.wrap ((n : Int) - (I : Int)) = (n : Int) - (I : Int) := IntWalk.i64_in _ (by omega)
  have hne : ¬ s < 0 := by omega
  have HH := hide h'
  clear h h'
  go_enter Try.func80, Try.ntmps80
  go_wp2_with fail
  go_quiet (fail)
  go_wp2
  go_ret
  have h1 := tri_set2 (y := .bool true) (tri_set1 (y := .int .i64 (n : Int)) HH.out)
  refine ⟨_, rfl, ?_, ?_⟩
  · exact (Below.heap_alloc _ _ E (lt_of_block h1)).trans h1
  · exact gb_trans (gb_trans (gb_trans (gb_drewN w nq _) (gb_set _ _ _ _)) (gb_set _ _ _ _)) (World.grownBy_alloc _ _ _)
theorem refBytes_neg (E : Nat) (a : Option Addr) (n cap I : Nat) (bad : Bool) (s : Int) (w : World) (h : REye w E a n cap I bad) (hs : s < 0) :
    Calls Try.prog 80 #[.pointer (some ⟨E, 0, none⟩), .int .i64 s] w fun e w' => ∃ g, e = .returned (.slice (some ⟨g, 0, none⟩) 0 0) ∧ REye w' E a n cap I bad ∧ w.grownBy w' (some E) := by
  have HH := hide h
  clear h
  go_enter Try.func80, Try.ntmps80
  go_wp2
  go_ret
  exact ⟨_, rfl, (Below.heap_alloc _ _ E (lt_of_block HH.out)).trans HH.out, World.grownBy_alloc _ _ _⟩

/-- An append whose run is known to end in some way, in a region that draws its order. -/
theorem step_append_ex {P : Program} {ops : Array Oper} {o : Oper} {a : Act} {w : World} {K : Act → World → Prop} {Q : Exit → Act → World → Prop} {E : Prop} (hgd : o.guard = none) (d s : Operand) (dT sT : TypeId)
    (ho : o.op = .call { callee := .builtin .append, args := #[d, s], argTypes := #[dT, sT] }) (vs vx : Value) (hd : a.eval d = vs) (hs : a.eval s = vx) (R : Value → World → Prop)
    (hr : ∃ v' w', (Builtin.append_ #[dT, sT] o.type #[vs, vx]).run P w = .ok v' w' ∧ R v' w') (h : ∀ v' w', R v' w' → K (a.put o.dst v') w') :
    if Region.wanted o (yielded ops a.tmps) = true then Oper.wp P o a w K Q else E := by
  obtain ⟨v', w', hrun, hR⟩ := hr
  have hw : Region.wanted o (yielded ops a.tmps) = true := by simp [Region.wanted, hgd]
  rw [if_pos hw]
  unfold Oper.wp
  simp [execOp, ho, resolve, invoke, builtin, hd, hs, hrun, Result.andThen]
  exact h v' w' hR

/-- A part of a row: where it lies. -/
theorem cut_run (a : Option Addr) (xs : List Int) (n cap I m : Nat) (w : World) (hr : Row .u8 w a xs) (hxn : xs.length = n) (hnc : n ≤ cap) (hnil : a = none → cap = 0) (hm : I + m ≤ n) :
    ∃ A, (∀ W, (Instr.slice 25 (.slice a n cap) (some (.int .i64 (I : Int))) (some (.int .i64 ((I : Int) + (m : Int)))) none).run Try.prog W = .ok (.slice A m (cap - I)) W) ∧ Row .u8 w A ((xs.drop I).take m) ∧ (A = none → cap - I = 0) := by
  have hz : ∀ W, (sizeOf 5).run Try.prog W = .ok 1 W := fun W => by
    obtain ⟨i0, hi, _, hs, _⟩ := info_parts Try.info5
    simp [sizeOf, typeInfo, hi, hs]
  have he : Try.prog.elem 25 = 5 := by kernel_rfl
  refine ⟨if cap = I then a else a.map (·.add I), fun W => ?_, ?_, ?_⟩
  · rw [run_slice_lh (P := Try.prog) W 25 _ n cap (by rw [he]; exact Try.underlying25) .i64 .i64 (I : Int) ((I : Int) + (m : Int)) (by omega) (by omega) (by omega), he, hz]
    have h1 : ((I : Int) + (m : Int)).toNat = I + m := by omega
    simp [sliced, Result.andThen, h1]
  · intro hne
    have hmp : 0 < m := by
      rcases Nat.eq_zero_or_pos m with h | h
      · subst h; simp at hne
      · exact h
    obtain ⟨b, off, rfl, hlt, hc⟩ := hr.at (i := 0) (by omega)
    rw [if_neg (by omega)]
    refine ⟨b, off + I, by simp [Addr.add_lit], hlt, fun i hi => ?_⟩
    have hi2 : i < m := by have := hi; rw [List.length_take] at this; omega
    rw [Nat.add_assoc, hc (I + i) (by omega), List.getElem?_take_of_lt hi2, List.getElem?_drop]
  · intro h
    cases a with
    | none => have := hnil rfl; omega
    | some ad =>
      by_cases hc : cap = I
      · omega
      · rw [if_neg hc] at h; simp at h

theorem row_eye {w : World} {E : Nat} {a a' : Option Addr} {xs : List Int} {n cap : Nat} {I : Int} {bad : Bool} (h : Row .u8 w a xs) (hE : w.heap[E]? = some (.cells #[.slice a' n cap, .int .i64 I, .bool bad] 93 (0, 0))) (v : Value) : Row .u8 (w.setCell ⟨E, 1, none⟩ v) a xs := by
  intro hne
  obtain ⟨b, off, rfl, hlt, hc⟩ := h hne
  have hbE : b ≠ E := by
    intro e; subst e
    have h0 := hc 0 (by cases xs with | nil => exact absurd rfl hne | cons x r => simp)
    simp only [World.cell?, hE, Nat.add_zero] at h0
    match off, h0 with
    | 0, h0 => simp at h0
    | 1, h0 => simp at h0
    | 2, h0 => simp at h0
    | k + 3, h0 => simp at h0
  exact ⟨b, off, rfl, by simpa using hlt, fun i hi => by rw [cell_set_ne _ _ _ _ hbE]; exact hc i hi⟩

set_option maxHeartbeats 600000 in
theorem refBytes_some (E : Nat) (a : Option Addr) (xs : List Int) (n cap I m : Nat) (bad : Bool) (w : World) (h : REye w E a n cap I bad) (hr : Row .u8 w a xs) (hxn : xs.length = n) (hnc : n ≤ cap) (hcm : cap ≤ 9223372036854775807) (hnil : a = none → cap = 0) (hm : I + m ≤ n) (hn : n ≤ 5000) :
    Calls Try.prog 80 #[.pointer (some ⟨E, 0, none⟩), .int .i64 (m : Int)] w fun e w' => ∃ a' c, e = .returned (.slice a' m c) ∧ Row .u8 w' a' ((xs.drop I).take m) ∧
      REye w' E a n cap (I + m) bad ∧ w.grownBy w' (some E) := by
  have h' := h
  unfold REye at h'
  obtain ⟨i0, hi, hz0, hz1, hz2⟩ := info_parts Try.info5
  obtain ⟨A, hsl, hrA, hAn⟩ := cut_run a xs n cap I m w hr hxn hnc hnil hm
  have hzl : ((xs.drop I).take m).length = m := by rw [List.length_take, List.length_drop]; omega
  generalize (xs.drop I).take m = zs at *
  have hap : ∀ V : World, V.ownsRow w.heap.size 5 1 (.slice (some ⟨w.heap.size, 0, none⟩) 0 0) 0 [] → Below w.heap.size w V →
      ∃ v' w', (Builtin.append_ #[25, 25] 25 #[.slice (some ⟨w.heap.size, 0, none⟩) 0 0, .slice A m (cap - I)]).run Try.prog V = .ok v' w' ∧
        (∃ a' c, v' = .slice a' m c ∧ Hid (Row .u8 w' a' zs) ∧ Below w.heap.size w w') := fun V hV hb => by
    cases A with
    | none =>
      have hz : zs = [] := row_none hrA
      have hm0 : m = 0 := by rw [← hzl, hz]; rfl
      have hrun := run_append_owned_none (P := Try.prog) (w := V) w.heap.size 25 25 5 i0 1 Try.underlying25 hi _ 0 [] hV
      rw [hAn rfl, hm0]
      exact ⟨_, _, hrun, _, _, rfl, (by rw [hz]; exact fun h => absurd rfl h), hb⟩
    | some ad =>
      obtain ⟨v', w', h1, h2, h3, _⟩ := run_append_own (P := Try.prog) V w.heap.size 25 25 5 i0 (.int .u8 0) 1 1 Try.underlying25 hi hz0 hz1 hz2 rfl (by decide) _ 0 [] hV ad m (cap - I) (zs.map (Value.int .u8)) (by simp [hzl]) (row_cells (hrA.below hb (Nat.le_refl _))) (ints_one _ _) (by unfold maxLen; omega) (by omega) hb.size
      rw [Nat.zero_add, List.nil_append] at h2
      obtain ⟨a', c, rfl⟩ := slice_form h2
      exact ⟨_, _, h1, a', c, rfl, Row.of_owns h2, hb.grown h3 hb.size (fun k e => by cases e; exact Nat.le_refl _)⟩
  have c0 := tri_cell0 h'
  have c1 := tri_cell1 h'
  have f1 := tri_free h' 1
  have hEl := lt_of_block h'
  have hw1 : IntKind.i64.wrap ((n : Int) - (I : Int)) = (n : Int) - (I : Int) := IntWalk.i64_in _ (by omega)
  have hw2 : IntKind.i64.wrap ((I : Int) + (m : Int)) = (I : Int) + (m : Int) := IntWalk.i64_in _ (by omega)
  have hne : ¬ ((m : Int) < 0) := by omega
  have hgt : ¬ ((n : Int) - (I : Int) < (m : Int)) := by omega
  have HH := hide h'
  have HAP := hide hap
  clear h h' hr hxn hrA hAn hap hnil hzl
  go_enter Try.func80, Try.ntmps80
  go_wp2_with fail
  go_quiet (fail)
  go_wp2_with fail
  obtain ⟨W, hW, hWb, hWs, hW0, hW1, hWf⟩ : ∃ W, w.drewN nq = W ∧ Below w.heap.size w W ∧ Hid (W.heap.size = w.heap.size) ∧ W.cell? ⟨E, 0, none⟩ = some (.slice a n cap) ∧ W.cell? ⟨E, 1, none⟩ = some (.int .i64 (I : Int)) ∧ W.frozen? ⟨E, 1, none⟩ = false := ⟨_, rfl, bdrewN (Below.refl _ _) _, rfl, c0, c1, f1⟩
  rw [hW]
  clear hW c0 c1 f1
  have hap1 : ∃ v' w', (Builtin.append_ #[25, 25] 25 #[.slice (some ⟨W.heap.size, 0, none⟩) 0 0, .slice A m (cap - I)]).run Try.prog (W.alloc (.cells #[] 5)).drew = .ok v' w' ∧ (∃ a' c, v' = .slice a' m c ∧ Hid (Row .u8 w' a' zs) ∧ Below w.heap.size w w') := by
    rw [hWs.out]
    have hown : (W.alloc (.cells #[] 5)).ownsRow w.heap.size 5 1 (.slice (some ⟨W.heap.size, 0, none⟩) 0 0) 0 [] := World.ownsRow_lit W #[] 0 (by rw [hWs.out]; exact Nat.le_refl _) (by unfold maxLen; omega) rfl
    rw [hWs.out] at hown
    exact HAP.out _ hown.drew ((hWb.alloc hWb.size _).drew)
  have HAP1 := hide hap1
  clear hap1
  go_region_held3 (fun w' => w'.cell? ⟨E, 0, none⟩ = some (.slice a n cap) ∧ w'.cell? ⟨E, 1, none⟩ = some (.int .i64 (I : Int))) (go_keep) (first | (refine step_append_ex rfl (.tmp 33) (.tmp 48) 25 25 rfl _ _ rfl rfl _ HAP1.out ?_; rintro v' w4 ⟨a4, c4, rfl, HR4, hb4⟩; have hk4 := (hb4.block E hEl).trans HH.out; have k0 := tri_cell0 hk4; have k1 := tri_cell1 hk4; have kf := tri_free hk4 1; have HK4 := hide hk4; clear hk4))
  all_goals
    clear hsl hw1 hW0 hW1 hWf
    go_wp2
    go_ret
    have hk := tri_set1 (y := .int .i64 ((I : Int) + (m : Int))) HK4.out
    refine ⟨a4, c4, rfl, ?_, ?_, ?_⟩
    · exact row_eye HR4.out HK4.out _
    · unfold REye; rw [Int.natCast_add]; exact hk
    · exact gb_trans ⟨hb4.os, hb4.tape, hb4.output, hb4.size, fun k hk _ => hb4.block k hk⟩ (gb_set _ _ _ _)

/-- The document's 'Bytes', at every size. -/
theorem refBytes_any (E : Nat) (a : Option Addr) (xs : List Int) (n cap I : Nat) (bad : Bool) (s : Int) (w : World) (h : REye w E a n cap I bad) (hr : Row .u8 w a xs) (hxn : xs.length = n) (hnc : n ≤ cap) (hcm : cap ≤ 9223372036854775807) (hnil : a = none → cap = 0) (hI : I ≤ n) (hn : n ≤ 5000) (hs : s ≤ 9223372036854775807) :
    Calls Try.prog 80 #[.pointer (some ⟨E, 0, none⟩), .int .i64 s] w fun e w' => ∃ a' c, e = .returned (.slice a' (if s.toNat ≤ n - I then s.toNat else 0) c) ∧ Row .u8 w' a' (if s.toNat ≤ n - I then (xs.drop I).take s.toNat else []) ∧
      REye w' E a n cap (if s.toNat ≤ n - I then I + s.toNat else n) (bad || decide (n - I < s.toNat)) ∧ w.grownBy w' (some E) := by
  by_cases h1 : s.toNat ≤ n - I
  · rw [if_pos h1, if_pos h1, if_pos h1, show decide (n - I < s.toNat) = false from by simp; omega, Bool.or_false]
    by_cases h0 : s < 0
    · have hk : s.toNat = 0 := by omega
      rw [hk]
      refine (refBytes_neg E a n cap I bad s w h h0).mono ?_
      rintro e w' ⟨g, rfl, h2, h3⟩
      exact ⟨_, _, rfl, fun hh => absurd (by simp) hh, h2, h3⟩
    · obtain ⟨m, rfl⟩ := Int.eq_ofNat_of_zero_le (show 0 ≤ s by omega)
      simp only [Int.toNat_natCast] at h1 ⊢
      exact refBytes_some E a xs n cap I m bad w h hr hxn hnc hcm hnil (by omega) hn
  · rw [if_neg h1, if_neg h1, if_neg h1, show decide (n - I < s.toNat) = true from by simp; omega, Bool.or_true]
    refine (refBytes_more E a n cap I bad s w h hI hn (by omega) (by omega) hs).mono ?_
    rintro e w' ⟨g, rfl, h2, h3⟩
    exact ⟨_, _, rfl, fun hh => absurd rfl hh, h2, h3⟩

set_option maxHeartbeats 800000 in
/-- The document's 'Num' of an Eye. -/
theorem refEyeNum_any (E : Nat) (a : Option Addr) (xs : List Int) (n cap I : Nat) (bad : Bool) (s : Int) (w : World) (h : REye w E a n cap I bad) (hr : Row .u8 w a xs) (hb : ∀ x ∈ xs, 0 ≤ x ∧ x ≤ 255) (hxn : xs.length = n) (hnc : n ≤ cap) (hcm : cap ≤ 9223372036854775807) (hnil : a = none → cap = 0) (hI : I ≤ n) (hn : n ≤ 5000) :
    Calls Try.prog 51 #[.pointer (some ⟨E, 0, none⟩), .int .i64 s] w fun e w' => e = .returned (.int .u64 (valB (if sz s ≤ n - I then (xs.drop I).take (sz s) else []))) ∧
      REye w' E a n cap (if sz s ≤ n - I then I + sz s else n) (bad || decide (n - I < sz s)) ∧ w.grownBy w' (some E) := by
  have hs8 := sz_le s
  have ht := refBytes_any E a xs n cap I bad (sz s : Nat) w h hr hxn hnc hcm hnil hI hn (by omega)
  simp only [Int.toNat_natCast] at ht
  have hbd := refSize_any s w
  have hxb : ∀ x ∈ (if sz s ≤ n - I then (xs.drop I).take (sz s) else []), 0 ≤ x ∧ x ≤ 255 := by
    split
    · exact fun x hx => hb x (List.mem_of_mem_drop (List.mem_of_mem_take hx))
    · simp
  have hxl : (if sz s ≤ n - I then (xs.drop I).take (sz s) else []).length = (if sz s ≤ n - I then sz s else 0) := by
    split
    · rw [List.length_take, List.length_drop]; omega
    · rfl
  have hx8 : (if sz s ≤ n - I then sz s else 0) ≤ 8 := by split <;> omega
  generalize (if sz s ≤ n - I then (xs.drop I).take (sz s) else []) = zs at *
  generalize (if sz s ≤ n - I then sz s else 0) = m at *
  generalize (if sz s ≤ n - I then I + sz s else n) = I' at *
  generalize (bad || decide (n - I < sz s)) = bad' at *
  generalize sz s = S at *
  have HT := hide ht
  have HBD := hide hbd
  have HXB := hide hxb
  have HXL := hide hxl
  clear ht hbd hxb hxl h hr hb hs8 hxn hnc hcm hnil hI hn
  go_enter Try.func51, Try.ntmps51
  go_wp2_with fail
  refine HBD.out.mono ?_
  rintro e w1 ⟨rfl, rfl⟩
  go_wp2_with fail
  refine HT.out.mono ?_
  rintro e w2 ⟨a2, c2, rfl, hrow, heye, hgr⟩
  have HR := hide hrow
  have HE := hide heye
  have HG := hide hgr
  clear hrow heye hgr
  go_wp2
  go_loop [6, 7] (fun v i => ∃ k : Nat, k ≤ m ∧ i = .int .i64 k ∧ v = .int .u64 (valB (zs.take k))) (fun _ i => m - (intOf i).toNat)
  case atStart => exact ⟨0, Nat.zero_le _, rfl, rfl⟩
  case round =>
    obtain ⟨k, hk, rfl, rfl⟩ := hrel
    have HX := HXL.out
    by_cases hlt : k < m
    · obtain ⟨b, off, rfl, hbl, hc⟩ := HR.out.at (i := k) (by omega)
      have cx := hc k (by omega)
      have hv := valB_snoc zs k (by omega)
      have hr1 := valB_rng zs HXB.out k
      have hr2 := byte_at HXB.out k
      have hp : (256 : Int) ^ k ≤ 72057594037927936 := by
        have : k ≤ 7 := by omega
        have := Nat.pow_le_pow_right (show 0 < 256 by decide) this
        have h2 : ((256 ^ k : Nat) : Int) ≤ ((256 ^ 7 : Nat) : Int) := by exact_mod_cast this
        simpa using h2
      generalize zs[k]?.getD 0 = y at *
      generalize valB (zs.take k) = x at *
      have hx1 : 0 ≤ x := hr1.1
      have hx2 : x ≤ 72057594037927935 := by omega
      have hy1 := hr2.1
      have hy2 := hr2.2
      have HV := hide hv
      clear hv hr1 hr2 hp hc HX
      go_wp2
      go_round
      case rel => exact ⟨k + 1, by omega, by go_num, by rw [HV.out]⟩
      case measure => simp [intOf]; omega
    · have hkm : k = m := by omega
      subst hkm
      rw [List.take_of_length_le (by omega)]
      clear HX
      go_wp2
      go_ret
      exact ⟨rfl, HE.out, HG.out⟩
end Go.Proofs.Ytgggcapgaikbeaa

/- The Internet's check sums: plain facts on numbers and lists. -/
namespace Go.Proofs.Ytgggcapgaikbeaa
/-- What goes beyond two bytes added to the rest, until nothing does. -/
def f16 (n : Int) : Int := if n ≤ 0 then 0 else (n - 1) % 65535 + 1
theorem f16_rng (n : Int) : 0 ≤ f16 n ∧ f16 n ≤ 65535 := by unfold f16; split <;> omega
theorem f16_small (n : Int) (h0 : 0 ≤ n) (h : n ≤ 65535) : f16 n = n := by unfold f16; split <;> omega
theorem f16_step (n : Int) (h0 : 0 ≤ n) : f16 (n / 65536 + n % 65536) = f16 n := by unfold f16; split <;> split <;> omega
theorem f16_add (a b : Int) (ha : 0 ≤ a) (hb : 0 ≤ b) : f16 (f16 a + b) = f16 (a + b) := by unfold f16; split <;> split <;> split <;> omega
theorem f16_two (a b : Int) (h1 : 0 ≤ a) (h2 : a ≤ 65535) (h3 : 0 ≤ b) (h4 : b ≤ 65535) : (if 65535 < a + b then a + b - 65535 else a + b) = f16 (a + b) := by unfold f16; split <;> split <;> omega
theorem xor_nat (b : Nat) (hb : b < 65536) : 65535 ^^^ b = 65535 - b := by
  have h : (BitVec.allOnes 16 ^^^ BitVec.ofNat 16 b).toNat = (~~~ BitVec.ofNat 16 b).toNat := by rw [BitVec.allOnes_xor]
  rw [BitVec.toNat_xor, BitVec.toNat_not, BitVec.toNat_allOnes, BitVec.toNat_ofNat, Nat.mod_eq_of_lt (by omega)] at h
  exact h
theorem xor16 (x : Int) (h1 : 0 ≤ x) (h2 : x ≤ 65535) : bits .xor .u16 IntKind.u16.max x = 65535 - x := by
  obtain ⟨b, rfl⟩ := Int.eq_ofNat_of_zero_le h1
  have h := u16_xor_nat 65535 b (by decide) (by omega)
  rw [xor_nat b (by omega)] at h
  have e : IntKind.u16.max = ((65535 : Nat) : Int) := rfl
  rw [e, h]
  omega
/-- The sum of the numbers of two bytes each; the check sum. -/
def psum (xs : List Int) : Int := (prs xs).sum
def csum (xs : List Int) : Int := 65535 - f16 (psum xs)
theorem csum_rng (xs : List Int) : 0 ≤ csum xs ∧ csum xs ≤ 65535 := by have := f16_rng (psum xs); unfold csum; omega
theorem prs_rng (xs : List Int) (h : ∀ x ∈ xs, 0 ≤ x ∧ x ≤ 255) : ∀ y ∈ prs xs, 0 ≤ y ∧ y ≤ 65535 := by
  intro y hy
  simp only [prs, List.mem_map] at hy
  obtain ⟨k, _, rfl⟩ := hy
  have h1 := byte_at h (2 * k)
  have h2 := byte_at h (2 * k + 1)
  omega
theorem sum_rng (ys : List Int) (h : ∀ y ∈ ys, 0 ≤ y ∧ y ≤ 65535) : 0 ≤ ys.sum ∧ ys.sum ≤ 65535 * ys.length := by
  induction ys with
  | nil => simp
  | cons y r ih =>
    have h1 := h y (by simp)
    have h2 := ih (fun z hz => h z (by simp [hz]))
    rw [List.sum_cons, List.length_cons]
    push_cast
    omega
theorem psum_rng (xs : List Int) (h : ∀ x ∈ xs, 0 ≤ x ∧ x ≤ 255) : 0 ≤ psum xs ∧ psum xs ≤ 65535 * xs.length := by
  have := sum_rng (prs xs) (prs_rng xs h)
  rw [prs_len] at this
  unfold psum
  omega
end Go.Proofs.Ytgggcapgaikbeaa

/- Sums of texts that are put one behind the other, or changed at one place: plain facts on lists. -/
namespace Go.Proofs.Ytgggcapgaikbeaa
theorem prs_cons2 (a b : Int) (r : List Int) : prs (a :: b :: r) = (256 * a + b) :: prs r := by
  unfold prs
  have h : ((a :: b :: r).length + 1) / 2 = (r.length + 1) / 2 + 1 := by simp; omega
  rw [h, List.range_succ_eq_map]
  simp [Nat.mul_add]
theorem prs_append : ∀ (xs ys : List Int), xs.length % 2 = 0 → prs (xs ++ ys) = prs xs ++ prs ys
  | [], ys, _ => by simp [prs]
  | [a], ys, h => by simp at h
  | a :: b :: r, ys, h => by
    have := prs_append r ys (by simp at h; omega)
    rw [List.cons_append, List.cons_append, prs_cons2, prs_cons2, this, List.cons_append]
theorem prs_pair (a b : Int) : prs [a, b] = [256 * a + b] := by rw [prs_cons2]; rfl
theorem psum_append (xs ys : List Int) (h : xs.length % 2 = 0) : psum (xs ++ ys) = psum xs + psum ys := by
  unfold psum; rw [prs_append xs ys h, List.sum_append]
theorem psum_pair (a b : Int) : psum [a, b] = 256 * a + b := by unfold psum; rw [prs_pair]; simp
theorem right_good (P n : Int) (_hP : 0 ≤ P) (h : n = 65535 - f16 P) : 65535 - f16 (P + n) = 0 := by
  unfold f16 at *; split at h <;> split <;> omega
end Go.Proofs.Ytgggcapgaikbeaa

/- A text of which one number of two bytes becomes another: plain facts on its sum. -/
namespace Go.Proofs.Ytgggcapgaikbeaa
/-- The text with other bytes at a place. -/
def spl (xs : List Int) (o : Nat) (ys : List Int) : List Int := xs.take o ++ ys ++ xs.drop (o + ys.length)
theorem spl_len (xs : List Int) (o : Nat) (ys : List Int) (h : o + ys.length ≤ xs.length) : (spl xs o ys).length = xs.length := by
  simp [spl]; omega
theorem spl_rng (xs ys : List Int) (o : Nat) (h1 : ∀ x ∈ xs, 0 ≤ x ∧ x ≤ 255) (h2 : ∀ x ∈ ys, 0 ≤ x ∧ x ≤ 255) : ∀ x ∈ spl xs o ys, 0 ≤ x ∧ x ≤ 255 := by
  intro x hx
  rw [spl, List.mem_append, List.mem_append] at hx
  rcases hx with (h | h) | h
  · exact h1 x (List.mem_of_mem_take h)
  · exact h2 x h
  · exact h1 x (List.mem_of_mem_drop h)
end Go.Proofs.Ytgggcapgaikbeaa

/- A copy of two bytes into a row; a slice's tail. -/
namespace Go.Proofs.Ytgggcapgaikbeaa
open Go.RowKit
set_option linter.unusedVariables false
set_option linter.unusedSimpArgs false
set_option maxRecDepth 100000
theorem copy2_run (w : World) (base g n c o L C : Nat) (xs ys : List Int) (ad : Addr) (c3 : Nat) (ty : TypeId) (hown : w.ownsRow base 5 1 (.slice (some ⟨g, 0, none⟩) n c) n (xs.map (Value.int .u8))) (hr : Row .u8 w (some ad) ys) (hy : ys.length = 2) (ho : o + 2 ≤ n) (hL : 2 ≤ L) :
    ∃ w', (Builtin.copy_ #[25, 25] ty #[.slice (some ⟨g, o, none⟩) L C, .slice (some ad) 2 c3]).run Try.prog w = .ok (.int .i64 2) w' ∧
      w'.ownsRow base 5 1 (.slice (some ⟨g, 0, none⟩) n c) n ((spl xs o ys).map (Value.int .u8)) ∧ w.grownBy w' (some g) := by
  have hxl : xs.length = n := by have := hown.1; simpa using this
  rcases hown.2 with ⟨h, _⟩ | ⟨g', cap, cur, hv, hg, hh, hnc, hcm, hcs, htk⟩
  · cases h
  · obtain ⟨rfl, rfl⟩ : g = g' ∧ c = cap := by simpa using hv
    have hrun := run_copy_row (P := Try.prog) w 25 25 ty 5 g o L C ad 2 c3 cur 5 (ys.map (Value.int .u8)) Try.underlying25 (by kernel_rfl) hh (by rw [List.length_map, hy]; exact (Nat.min_eq_left hL).symm)
      (row_cells hr) (by rw [List.length_map, hy]; omega) (ints_one _ _)
    rw [List.length_map, hy] at hrun
    refine ⟨w.setRow g (cur.toList.take o ++ ys.map (Value.int .u8) ++ cur.toList.drop (o + 2)).toArray, hrun, ?_, ⟨rfl, rfl, rfl, by simp [World.setRow], fun k hk hne => setRow_other w g k _ (by intro e; exact hne (by rw [e]))⟩⟩
    have hlt := lt_of_block hh
    have hcl : cur.toList.length = c := by simp; omega
    have hsame : (w.setRow g (cur.toList.take o ++ ys.map (Value.int .u8) ++ cur.toList.drop (o + 2)).toArray).heap[g]? = some (.cells (cur.toList.take o ++ ys.map (Value.int .u8) ++ cur.toList.drop (o + 2)).toArray 5 (0, 0)) := by
      have h' : w.heap[g] = .cells cur 5 (0, 0) := by simpa [Array.getElem?_eq_getElem hlt] using hh
      show (w.heap.modify g _)[g]? = _
      rw [Array.getElem?_eq_getElem (by simpa using hlt), Array.getElem_modify_self, h']
    refine ⟨by rw [List.length_map, spl_len _ _ _ (by omega), hxl, Nat.mul_one], .inr ⟨g, c, _, rfl, hg, hsame, hnc, hcm, ?_, ?_⟩⟩
    · simp [hy]; omega
    · have h1 : (spl xs o ys).map (Value.int .u8) = (xs.map (Value.int .u8)).take o ++ ys.map (Value.int .u8) ++ (xs.map (Value.int .u8)).drop (o + 2) := by
        rw [spl, List.map_append, List.map_append, List.map_take, List.map_drop, hy]
      rw [h1, ← htk, Nat.mul_one, List.take_take, Nat.min_eq_left (by omega), List.drop_take]
      rw [List.take_append, List.take_of_length_le (by simp [hy]; omega)]
      congr 2
      simp [hy]; omega

/-- A copy whose run is known, in a region that draws its order. -/
theorem step_copy_run {P : Program} {ops : Array Oper} {o : Oper} {a : Act} {w : World} {K : Act → World → Prop} {Q : Exit → Act → World → Prop} {E : Prop} (hgd : o.guard = none) (d s : Operand) (dT sT : TypeId)
    (ho : o.op = .call { callee := .builtin .copy, args := #[d, s], argTypes := #[dT, sT] }) (vs vx : Value) (hd : a.eval d = vs) (hs : a.eval s = vx) (v' : Value) (w' : World)
    (hr : (Builtin.copy_ #[dT, sT] o.type #[vs, vx]).run P w = .ok v' w') (h : K (a.put o.dst v') w') :
    if Region.wanted o (yielded ops a.tmps) = true then Oper.wp P o a w K Q else E := by
  have hw : Region.wanted o (yielded ops a.tmps) = true := by simp [Region.wanted, hgd]
  rw [if_pos hw]
  unfold Oper.wp
  simp [execOp, ho, resolve, invoke, builtin, hd, hs, hr, Result.andThen]
  exact h

theorem slice_tail_run (g n c o : Nat) (l : Int) (hl : l = (o : Int)) (h1 : o ≤ n) (h2 : o < c) (W : World) :
    (Instr.slice 25 (.slice (some ⟨g, 0, none⟩) n c) (some (.int .i64 l)) none none).run Try.prog W = .ok (.slice (some ⟨g, o, none⟩) (n - o) (c - o)) W := by
  subst hl
  have hz : ∀ W, (sizeOf 5).run Try.prog W = .ok 1 W := fun W => by
    obtain ⟨i0, hi, _, hs, _⟩ := info_parts Try.info5
    simp [sizeOf, typeInfo, hi, hs]
  have he : Try.prog.elem 25 = 5 := by kernel_rfl
  rw [run_slice_l (P := Try.prog) W 25 _ n c (by rw [he]; exact Try.underlying25) .i64 (o : Int) (by omega) (by omega), he, hz]
  have hne : ¬ c = o := by omega
  simp [sliced, Result.andThen, hne, Addr.add_lit]

end Go.Proofs.Ytgggcapgaikbeaa

/- What octet.Pairs answers: a closure over a box that holds a copy. -/
namespace Go.Proofs.Ytgggcapgaikbeaa
open Go.RowKit
set_option linter.unusedVariables false
set_option linter.unusedSimpArgs false
/-- 'Pairs(b)': a closure over a box that holds a copy. -/
theorem pairs_make (a : Option Addr) (xs : List Int) (cap : Nat) (w : World) (hr : Row .u8 w a xs) (hlen : xs.length ≤ 140737488351232) :
    Calls Try.prog 96 #[.slice a xs.length cap] w fun e w' => ∃ a' cap' B, e = .returned (.func (.func 102) #[] #[.pointer (some ⟨B, 0, none⟩)]) ∧
      w.heap.size ≤ B ∧ w'.heap[B]? = some (.cells #[.slice a' xs.length cap'] 25 (0, 0)) ∧ w'.ownsRow w.heap.size 5 1 (.slice a' xs.length cap') xs.length (xs.map (Value.int .u8)) ∧ Below w.heap.size w w' := by
  have hmf : ∀ (fn : Fn) (first cap : Array Value) (w : World), (Instr.makeFunc fn first cap).run Try.prog w = .ok (.func fn first cap) w := fun _ _ _ _ => rfl
  go_enter Try.func96, Try.ntmps96
  go_wp2_with (go_at_call 92; refine (clone_any a xs cap _ hr hlen).mono ?_; rintro e w1 ⟨a', cap', rfl, hown, hbel⟩)
  go_ret
  exact ⟨a', cap', _, rfl, hbel.size, heap_alloc_new _ _, hown.alloc _, hbel.alloc hbel.size _⟩
end Go.Proofs.Ytgggcapgaikbeaa

/- Blocks of other types stay. -/
namespace Go.Proofs.Ytgggcapgaikbeaa
open Go.RowKit
set_option linter.unusedVariables false
set_option linter.unusedSimpArgs false
theorem Try.info22 : (Try.prog.info? 22).map (fun i => (i.zero, i.size, i.bytes)) = some (some (.int .u16 0), 1, 2) := by kernel_rfl

/-- Blocks of other types stay. -/
def Keep (w w' : World) : Prop := ∀ (B : Nat) (cs : Array Value) (t : TypeId), w.heap[B]? = some (.cells cs t (0, 0)) → t = 25 ∨ t = 5 → w'.heap[B]? = some (.cells cs t (0, 0))
theorem Keep.trans {a b c : World} (h : Keep a b) (k : Keep b c) : Keep a c := fun B cs t hB ht => k B cs t (h B cs t hB ht) ht
theorem Keep.owns {w w' : World} {base : Nat} {v : Value} {n : Nat} {xs : List Value} (h : Keep w w') (ho : w.ownsRow base 5 1 v n xs) : w'.ownsRow base 5 1 v n xs := by
  refine ⟨ho.1, ?_⟩
  rcases ho.2 with h1 | ⟨g, cap, cur, hv, hg, hh, r⟩
  · exact .inl h1
  · exact .inr ⟨g, cap, cur, hv, hg, h g cur 5 hh (.inr rfl), r⟩
end Go.Proofs.Ytgggcapgaikbeaa

/- What the function that octet.Pairs gives does for the body of a loop: it tells the numbers of two bytes each, in order. -/
namespace Go.Proofs.Ytgggcapgaikbeaa
open Go.RowKit Go.Shelf
set_option linter.unusedVariables false
set_option linter.unusedSimpArgs false
set_option maxRecDepth 100000
attribute [local go_sem] Oper.semAt_some

/-- What has come when k rounds are over: f 0, .., f (k - 1). -/
def upto {α : Type} (f : Nat → α) (k : Nat) : List α := (List.range k).map f
theorem upto_succ {α : Type} (f : Nat → α) (k : Nat) : upto f (k + 1) = upto f k ++ [f k] := by simp [upto, List.range_succ]
theorem upto_length {α : Type} (f : Nat → α) (k : Nat) : (upto f k).length = k := by simp [upto]
/-- The k-th pair as it is told. -/
def item (xs : List Int) (k : Nat) : Nat × Int := (k, 256 * xs[2 * k]?.getD 0 + xs[2 * k + 1]?.getD 0)

set_option maxRecDepth 100000 in
set_option maxHeartbeats 2000000 in
theorem iter_in (F : Fence) (n : Nat) (h43 : F.fn 102) (hro : F.round = none) (hn : 1 ≤ n) (l K base : Nat) (a : Option Addr) (xs : List Int) (cap : Nat) (hb : ∀ x ∈ xs, 0 ≤ x ∧ x ≤ 255) (hlen : xs.length < 1000000000) (J Jx : List (Nat × Int) → World → Prop)
    (hY : ∀ pre x W, J pre W → pre.length < (xs.length + 1) / 2 → YieldAt F (n - 1) Try.prog l #[.int .i64 (x.1 : Int), .int .u16 x.2] W fun e W' =>
      (e = .returned (.bool true) ∧ J (pre ++ [x]) W' ∧ Keep W W') ∨ (e = .returned (.bool false) ∧ Jx (pre ++ [x]) W'))
    (W : World) (hK : W.heap[K]? = some (.cells #[.slice a xs.length cap] 25 (0, 0))) (ho : W.ownsRow base 5 1 (.slice a xs.length cap) xs.length (xs.map (Value.int .u8))) (h0 : J [] W) :
    CallsIn F n Try.prog 102 #[.func (.yield l) #[] #[], .pointer (some ⟨K, 0, none⟩)] W fun e W' => (∃ v, e = .returned v) ∧
      ((∃ ys, ys = upto (item xs) ((xs.length + 1) / 2) ∧ J ys W') ∨ (∃ pre, (∃ k, k ≤ (xs.length + 1) / 2 ∧ pre = upto (item xs) k) ∧ Jx pre W')) := by
  refine callsIn_of_wp Try.func102 rfl h43 ?_ hro
  simp only [Try.ntmps102, List.size_toArray, List.length_cons, List.length_nil, Nat.reduceAdd, Nat.reduceSub, Array.replicate_succ, Array.replicate_zero, List.push_toArray, List.append_toArray, List.nil_append, List.cons_append]
  gi_wp2
  gi_loopw [3] (fun i wr => ∃ k : Nat, k ≤ (xs.length + 1) / 2 ∧ i = .int .i64 ((2 * k : Nat) : Int) ∧ J (upto (item xs) k) wr ∧ wr.heap[K]? = some (.cells #[.slice a xs.length cap] 25 (0, 0)) ∧
      wr.ownsRow base 5 1 (.slice a xs.length cap) xs.length (xs.map (Value.int .u8)))
    (fun i _ => xs.length + 1 - (intOf i).toNat)
  case atStart => exact ⟨0, Nat.zero_le _, rfl, h0, hK, ho⟩
  case round =>
    clear h0 hK ho
    obtain ⟨k, hk, rfl, hJs, hK, ho⟩ := hrel
    have cK := cell_of_one hK
    by_cases hlt : 2 * k < xs.length
    · obtain ⟨b, off, rfl, hbl, hc⟩ := (Row.of_owns ho).at hlt
      obtain ⟨fn, tmps, assign, body, hy, hR⟩ := hY _ (item xs k) wr hJs (by rw [upto_length]; omega)
      dsimp only [item] at hy
      have cx := hc (2 * k) hlt
      have cx2 := hc (2 * k + 1)
      have hx := byte_at hb (2 * k)
      have hy2 := byte_at hb (2 * k + 1)
      have hy0 : ¬ 2 * k + 1 < xs.length → xs[2 * k + 1]?.getD 0 = 0 := fun h => by rw [List.getElem?_eq_none (by omega)]; rfl
      generalize hxx : xs[2 * k]?.getD 0 = x at *
      generalize hyy : xs[2 * k + 1]?.getD 0 = y at *
      have HX := hide hxx
      have HY := hide hyy
      have HO := hide ho
      have HK := hide hK
      clear ho hK hc hxx hyy
      by_cases hlt2 : 2 * k + 1 < xs.length
      · replace cx2 := cx2 hlt2
        have hor := or16 x y hx.1 hx.2 hy2.1 hy2.2
        clear hy0
        gi_wp2
        refine hR.mono ?_
        rintro e W3 (⟨rfl, hJ3, hk3⟩ | ⟨rfl, hJx3⟩)
        · gi_wp2
          go_roundw
          case rel => exact ⟨k + 1, by omega, by go_num, by rw [upto_succ]; exact hJ3, hk3 _ _ _ HK.out (.inl rfl), hk3.owns HO.out⟩
          case measure => simp [intOf]; omega
        · gi_wp2
          refine bodyPost_ret (results_none rfl _ _ _) rfl ?_
          exact ⟨⟨_, rfl⟩, .inr ⟨_, ⟨k + 1, by omega, (upto_succ _ _).symm⟩, hJx3⟩⟩
      · rw [show 256 * x + y = x * 256 by rw [hy0 hlt2]; omega] at hy
        clear hy0 cx2
        gi_wp2
        refine hR.mono ?_
        rintro e W3 (⟨rfl, hJ3, hk3⟩ | ⟨rfl, hJx3⟩)
        · gi_wp2
          go_roundw
          case rel => exact ⟨k + 1, by omega, by go_num, by rw [upto_succ]; exact hJ3, hk3 _ _ _ HK.out (.inl rfl), hk3.owns HO.out⟩
          case measure => simp [intOf]; omega
        · gi_wp2
          refine bodyPost_ret (results_none rfl _ _ _) rfl ?_
          exact ⟨⟨_, rfl⟩, .inr ⟨_, ⟨k + 1, by omega, (upto_succ _ _).symm⟩, hJx3⟩⟩
    · obtain rfl : k = (xs.length + 1) / 2 := by omega
      gi_wp2
      go_end0
      exact ⟨⟨_, rfl⟩, .inl ⟨_, rfl, hJs⟩⟩

theorem keep_t {A B C : World} (h : Keep A B) (k : Keep B C) : Keep A C := h.trans k
theorem keep_b {w : World} (W : World) (l : Nat) (o o' : Obj) (_ : w.heap.size ≤ l) (h : W.heap[l]? = some o) (ho : o.isCells = false) (_ : o.isWalk = false) : Keep W (W.putObj l o') := fun B cs t hB ht => by
  have hne : B ≠ l := by
    intro e; subst e
    rw [h] at hB; cases hB; cases ho
  exact (World.putObj_heap_other hne).trans hB
theorem keep_set {w : World} {b : Nat} {v u : Value} {t : TypeId} (h : w.heap[b]? = some (.cells #[v] t (0, 0))) (h1 : t ≠ 25) (h2 : t ≠ 5) : Keep w (w.setCell ⟨b, 0, none⟩ u) := fun B cs t' hB ht => by
  have hne : B ≠ b := by
    intro e; subst e
    rw [h] at hB; simp at hB
    rcases ht with rfl | rfl
    · exact h1 hB.2
    · exact h2 hB.2
  exact (Below.heap_setCell _ _ _ _ hne).trans hB

theorem iter_stops (F : Fence) (n : Nat) (h43 : F.fn 102) (hro : F.round = none) (hn : 1 ≤ n) (K base : Nat) (a : Option Addr) (xs : List Int) (cap : Nat) (hb : ∀ x ∈ xs, 0 ≤ x ∧ x ≤ 255) (hlen : xs.length < 1000000000) (w : World)
    (hK : w.heap[K]? = some (.cells #[.slice a xs.length cap] 25 (0, 0))) (ho : w.ownsRow base 5 1 (.slice a xs.length cap) xs.length (xs.map (Value.int .u8))) :
    SeqStopsK F n Try.prog 102 #[.pointer (some ⟨K, 0, none⟩)] (fun x : Nat × Int => #[Value.int .i64 (x.1 : Int), Value.int .u16 x.2]) Keep (fun ys => ys = upto (item xs) ((xs.length + 1) / 2))
      (fun pre => ∃ k, k ≤ (xs.length + 1) / 2 ∧ pre = upto (item xs) k) ((xs.length + 1) / 2) w := fun l J Jx W hW _ _ hY h0 =>
  iter_in F n h43 hro hn l K base a xs cap hb hlen J Jx hY W ((hW.block K (lt_of_block hK)).trans hK) (owns_below ho hW (Nat.le_refl _)) h0
end Go.Proofs.Ytgggcapgaikbeaa

/- What sum.fold and sum.Sum answer: the check sum of texts, one behind the other. -/
namespace Go.Proofs.Ytgggcapgaikbeaa
open Go.RowKit Go.Shelf
set_option linter.unusedVariables false
set_option linter.unusedSimpArgs false
attribute [local go_sem] Oper.semAt_some

theorem fold_any (n : Int) (w : World) (h0 : 0 ≤ n) (hn : n ≤ 1152921504606846975) :
    Calls Try.prog 97 #[.int .u64 n] w fun e w' => e = .returned (.int .u16 (f16 n)) ∧ w = w' := by
  go_enter Try.func97, Try.ntmps97
  go_wp2
  go_loop [0] (fun v => ∃ m : Int, 0 ≤ m ∧ m ≤ 1152921504606846975 ∧ v = .int .u64 m ∧ f16 m = f16 n) (fun v => (intOf v).toNat)
  case atStart => exact ⟨n, h0, hn, rfl, rfl⟩
  case round =>
    obtain ⟨m, hm0, hm1, rfl, hf⟩ := hrel
    have HF := hide hf
    clear hf
    have hst := hide (f16_step m hm0)
    by_cases hlt : 65535 < m
    · have ha : bits .and .u64 m 65535 = m % 65536 := by
        have := bits_mask .u64 64 (by decide) wraps_u64 16 (by decide) m hm0 (by omega)
        simpa using this
      go_wp2
      go_round
      case rel => exact ⟨_, by omega, by omega, rfl, by rw [hst.out, HF.out]⟩
      case measure => simp only [intOf]; omega
    · have hs := hide (f16_small m hm0 (by omega))
      go_wp2
      go_ret
      exact ⟨by rw [← HF.out, hs.out]; rfl, rfl⟩

/-- What the loop of 'Sum' has when some numbers have come. -/
def totW (ys : List (Nat × Int)) : Int := ys.foldl (fun s v => IntKind.u64.wrap (s + IntKind.u64.wrap v.2)) 0
theorem totW_snoc (pre : List (Nat × Int)) (x : Nat × Int) : totW (pre ++ [x]) = IntKind.u64.wrap (totW pre + IntKind.u64.wrap x.2) := by simp [totW]
theorem upto_item (xs : List Int) (hb : ∀ x ∈ xs, 0 ≤ x ∧ x ≤ 255) (hl : xs.length < 1000000000) (k : Nat) (hk : k ≤ (xs.length + 1) / 2) : totW (upto (item xs) k) = ((prs xs).take k).sum := by
  induction k with
  | zero => simp [upto, totW]
  | succ k ih =>
    have h1 := prs_take xs k (by omega)
    have h2 := sum_rng ((prs xs).take k) (fun y hy => prs_rng xs hb y (List.mem_of_mem_take hy))
    have h3 : ((prs xs).take k).length ≤ 500000000 := by rw [List.length_take, prs_len]; omega
    have h4 := byte_at hb (2 * k)
    have h5 := byte_at hb (2 * k + 1)
    rw [upto_succ, totW_snoc, ih (by omega), h1, List.sum_append]
    show IntKind.u64.wrap (_ + IntKind.u64.wrap (256 * xs[2 * k]?.getD 0 + xs[2 * k + 1]?.getD 0)) = _
    rw [wraps_u64 (256 * _ + _) (by omega) (by omega), wraps_u64 _ (by omega) (by omega)]
    simp

theorem upto_all (xs : List Int) (hb : ∀ x ∈ xs, 0 ≤ x ∧ x ≤ 255) (hl : xs.length < 1000000000) : totW (upto (item xs) ((xs.length + 1) / 2)) = psum xs := by
  rw [upto_item xs hb hl _ (Nat.le_refl _), List.take_of_length_le (by rw [prs_len]; omega)]; rfl

set_option maxRecDepth 100000 in
set_option maxHeartbeats 2000000 in
theorem sum_any (a : Option Addr) (L : List Part) (cap : Nat) (w : World) (hp : Parts w a L) (hlen : (flat L).length < 1000000000) (hL : L.length ≤ 1099511627776) (hb : ∀ x ∈ flat L, 0 ≤ x ∧ x ≤ 255) :
    Calls Try.prog 75 #[.slice a L.length cap] w fun e w' => e = .returned (.int .u16 (csum (flat L))) ∧ Below w.heap.size w w' := by
  refine (callsIn_wide (n := 3)).1 ?_
  have hro : Fence.wide.round = none := rfl
  refine callsIn_of_wp_marks Try.func75 rfl trivial ?_ hro
  simp only [Try.ntmps75, List.size_toArray, List.length_cons, List.length_nil, Nat.reduceAdd, Nat.reduceSub, Array.replicate_succ, Array.replicate_zero, List.push_toArray, List.append_toArray, List.nil_append, List.cons_append]
  have hB0 : Below w.heap.size w (w.alloc (.cells #[.int .u64 0] 88)) := (Below.refl _ w).alloc (Nat.le_refl _) _
  have hj := join_any a L cap _ (hp.below hB0 (Nat.le_refl _)) (by omega) hL
  have HJ := hide hj
  clear hj
  generalize flat L = xs at *
  gi_wp2_with fail
  refine ⟨trivial, ?_⟩
  refine (callsIn_wide.2 HJ.out).mono ?_
  rintro e w1 ⟨a1, c1, rfl, hown, hbel⟩
  have hpm := pairs_make a1 xs c1 w1 (Row.of_owns hown) (by omega)
  have HP := hide hpm
  clear hpm hown
  gi_wp2_with fail
  refine ⟨trivial, ?_⟩
  refine (callsIn_wide.2 HP.out).mono ?_
  rintro e w2 ⟨a2, c2, K, rfl, hK1, hK, hown, hbel2⟩
  have hT0 : (w.alloc (.cells #[.int .u64 0] 88)).heap[w.heap.size]? = some (.cells #[.int .u64 0] 88 (0, 0)) := heap_alloc_new w _
  have hT1 := (hbel.block w.heap.size (by simp)).trans hT0
  have hT2 := (hbel2.block w.heap.size (lt_of_block hT1)).trans hT1
  have hB2 : Below w.heap.size w w2 := (hB0.trans (hbel.mono (by simp))).trans (hbel2.mono (by have := hbel.size; simp at this; omega))
  have hsz : w.heap.size + 1 ≤ w2.heap.size := by have := lt_of_block hT2; omega
  clear hT0 hT1 hbel hbel2
  gi_wp2_with fail
  refine wpIn_rangeFunc_ownG hro (by omega) (gf := 102) (lb := #[.pointer (some ⟨K, 0, none⟩)]) rfl trivial (enters_of Try.func102 (by kernel_rfl) rfl)
    (iter_stops Fence.wide 2 trivial hro (by omega) K _ a2 xs c2 hb hlen w2 hK hown) keep_t keep_b (Below.refl _ _) (fun _ => rfl)
    (fun pre W => W.heap[w.heap.size]? = some (.cells #[.int .u64 (totW pre)] 88 (0, 0)) ∧ Below w.heap.size w W)
    (fun _ _ _ => False)
    (OwnFrom.and (Own.from (fun s A B row hs hg hr => ?own1) _) (ownFrom_below (Nat.le_refl _) hB2.size))
    (fun _ _ _ _ _ hs _ _ => hs)
    ⟨hT2, hB2⟩
    (fun x => { tmps := #[.slice a L.length cap, undef, .int .u16 0, .pointer (some ⟨w.heap.size, 0, none⟩), undef, .int .u16 x.2, .slice a L.length cap, .slice a1 xs.length c1, .func (.func 102) #[] #[.pointer (some ⟨K, 0, none⟩)], .int .i64 (x.1 : Int), .int .u16 x.2, undef, undef, undef, undef, undef, undef, undef], defers := [] }) ?assign ?body ?done ?stop
  case own1 =>
    exact (grownBy_keeps_cells hg hr hs rfl).trans hs
  case assign =>
    intro l x W K hK
    gi_wp2
    exact hK
  case body =>
    rintro l pre x W ⟨hT, hB⟩ _
    have cT := cell_of_one hT
    have fT := free_of_one hT
    have HT := hide hT
    clear hT
    gi_wp2
    have hnew := one_setCell (u := .int .u64 (totW (pre ++ [x]))) HT.out
    rw [totW_snoc] at hnew
    exact ⟨(KeepsOthers.setCell _ _ _).from _, keep_set HT.out (by decide) (by decide), by rw [totW_snoc]; exact hnew, hB.setCell (p := ⟨w.heap.size, 0, none⟩) (Nat.le_refl _) _⟩
  case done =>
    rintro D ys W hD rfl ⟨hT, hB⟩ hKD
    rw [upto_all xs hb hlen] at hT
    have cT := cell_of_one hT
    have hfo := fold_any (psum xs) W (psum_rng xs hb).1 (by have := (psum_rng xs hb).2; omega)
    have HF := hide hfo
    clear hfo hT
    gi_wp2_with fail
    refine ⟨trivial, ?_⟩
    refine (callsIn_wide.2 HF.out).mono ?_
    rintro e w3 ⟨rfl, rfl⟩
    gi_wp2
    rw [xor16 _ (f16_rng _).1 (f16_rng _).2]
    refine ⟨by simp, .inl ⟨_, _, rfl, run_takeDeferred hKD, ?_⟩⟩
    exact ⟨_, results_tmp rfl _ _ _, rfl, hB.trans (belowK_b (w := w) (Nat.le_refl _) W D _ _ (by omega) hKD rfl rfl)⟩
  case stop =>
    rintro D c pre W _ _ h _
    exact h.elim
end Go.Proofs.Ytgggcapgaikbeaa

/- The document's pairs. -/
namespace Go.Proofs.Ytgggcapgaikbeaa
open Go.RowKit
set_option linter.unusedVariables false
set_option linter.unusedSimpArgs false
set_option maxRecDepth 100000
set_option maxHeartbeats 800000 in
theorem refPairs_any (a : Option Addr) (xs : List Int) (cap : Nat) (w : World) (hr : Row .u8 w a xs) (hb : ∀ x ∈ xs, 0 ≤ x ∧ x ≤ 255) (hlen : xs.length < 1000000000) :
    Calls Try.prog 78 #[.slice a xs.length cap] w fun e w' => ∃ a' c', e = .returned (.slice a' (prs xs).length c') ∧
      Row .u16 w' a' (prs xs) ∧ Below w.heap.size w w' := by
  obtain ⟨i0, hi, hz0, hz1, hz2⟩ := info_parts Try.info22
  have hpl := prs_len xs
  have hown0 : (w.alloc (.cells #[] 22)).ownsRow w.heap.size 22 1 (.slice (some ⟨w.heap.size, 0, none⟩) 0 0) 0 [] := World.ownsRow_lit w #[] 0 (Nat.le_refl _) (by unfold maxLen; omega) rfl
  have HR := hide hr
  clear hr
  go_enter Try.func78, Try.ntmps78
  go_wp2
  go_loopw [3, 4] (fun v i wr => ∃ k : Nat, ∃ a' c', k ≤ (prs xs).length ∧ i = .int .i64 ((2 * k : Nat) : Int) ∧ v = .slice a' k c' ∧
      wr.ownsRow w.heap.size 22 1 (.slice a' k c') k (((prs xs).take k).map (Value.int .u16)) ∧ Below w.heap.size w wr)
    (fun _ i _ => xs.length + 1 - (intOf i).toNat)
  case atStart => exact ⟨0, some ⟨w.heap.size, 0, none⟩, 0, Nat.zero_le _, rfl, rfl, hown0, (Below.refl _ _).alloc (Nat.le_refl _) _⟩
  case round =>
    have HP := hide hpl
    clear hpl hown0
    obtain ⟨k, a', c', hk, rfl, rfl, hown, hbel⟩ := hrel
    by_cases hlt : 2 * k < xs.length
    · obtain ⟨b, off, rfl, hbl, hc0⟩ := HR.out.at hlt
      have cx : wr.cell? ⟨b, off + 2 * k, none⟩ = _ := (hbel.cell (p := ⟨b, off + 2 * k, none⟩) hbl).trans (hc0 (2 * k) hlt)
      have cx2 : 2 * k + 1 < xs.length → wr.cell? ⟨b, off + (2 * k + 1), none⟩ = _ := fun h => (hbel.cell (p := ⟨b, off + (2 * k + 1), none⟩) hbl).trans (hc0 (2 * k + 1) h)
      have hx := byte_at hb (2 * k)
      have hy := byte_at hb (2 * k + 1)
      have hpt := prs_take xs k hlt
      have hy0 : ¬ 2 * k + 1 < xs.length → xs[2 * k + 1]?.getD 0 = 0 := fun h => by rw [List.getElem?_eq_none (by omega)]; rfl
      generalize xs[2 * k]?.getD 0 = x at *
      generalize xs[2 * k + 1]?.getD 0 = y at *
      have HPT := hide hpt
      have HO := hide hown
      clear hc0 hpt hown
      by_cases hlt2 : 2 * k + 1 < xs.length
      · skip
        replace cx2 := cx2 hlt2
        clear hy0
        go_wp2_with (at_builtin; refine wpList_append_own _ rfl _ _ 109 rfl w.heap.size 22 i0 (.int .u16 0) 1 2 Try.underlying109 hi hz0 hz1 hz2 rfl (by decide) _ _ _ rfl (HO.out.alloc _) ⟨wr.heap.size, 0, none⟩ 1 1 [.int .u16 (256 * x + y)] rfl rfl (new_cell _ _ _) (one_int _ _) (by unfold maxLen; omega) (by omega) (by have := hbel.size; simp; omega) ?_)
        intro v' w1 hown1 hgrow _
        obtain ⟨a1, c1, rfl⟩ := slice_form hown1
        have hbel1 : Below w.heap.size w w1 := (hbel.alloc hbel.size _).grown hgrow (by have := hbel.size; simp; omega) (fun j e => (HO.out.lt j e).1)
        have O1 := hide hown1
        have B1 := hide hbel1
        clear hown1 hbel1 hgrow
        go_wp2
        go_roundw
        case rel => exact ⟨k + 1, a1, c1, by rw [HP.out]; omega, by go_num, rfl, by rw [HPT.out]; simpa using O1.out, B1.out⟩
        case measure => simp [intOf]; omega
      · skip
        have hyy := hide (hy0 hlt2)
        clear hy0 cx2
        go_wp2_with (at_builtin; refine wpList_append_own _ rfl _ _ 109 rfl w.heap.size 22 i0 (.int .u16 0) 1 2 Try.underlying109 hi hz0 hz1 hz2 rfl (by decide) _ _ _ rfl (HO.out.alloc _) ⟨wr.heap.size, 0, none⟩ 1 1 [.int .u16 (256 * x)] rfl rfl (new_cell _ _ _) (one_int _ _) (by unfold maxLen; omega) (by omega) (by have := hbel.size; simp; omega) ?_)
        intro v' w1 hown1 hgrow _
        rw [show (256 * x : Int) = 256 * x + y by rw [hyy.out]; omega] at hown1
        obtain ⟨a1, c1, rfl⟩ := slice_form hown1
        have hbel1 : Below w.heap.size w w1 := (hbel.alloc hbel.size _).grown hgrow (by have := hbel.size; simp; omega) (fun j e => (HO.out.lt j e).1)
        have O1 := hide hown1
        have B1 := hide hbel1
        clear hown1 hbel1 hgrow
        go_wp2
        go_roundw
        case rel => exact ⟨k + 1, a1, c1, by rw [HP.out]; omega, by go_num, rfl, by rw [HPT.out]; simpa using O1.out, B1.out⟩
        case measure => simp [intOf]; omega
    · have hkk : k = (prs xs).length := by rw [HP.out] at hk ⊢; omega
      have KK := hide hkk
      clear hkk
      go_wp2
      go_ret
      have hk0 := KK.out
      rw [List.take_of_length_le (by omega), hk0] at hown
      rw [hk0]
      exact ⟨a', c', rfl, Row.of_owns hown, hbel⟩

end Go.Proofs.Ytgggcapgaikbeaa

/- What sum.Sum answers of one text and of two, sum.Right, the document's sum. -/
namespace Go.Proofs.Ytgggcapgaikbeaa
open Go.RowKit
set_option linter.unusedVariables false
set_option linter.unusedSimpArgs false
set_option maxRecDepth 100000

theorem right_any (a : Option Addr) (L : List Part) (cap : Nat) (w : World) (hp : Parts w a L) (hlen : (flat L).length < 1000000000) (hL : L.length ≤ 1099511627776) (hb : ∀ x ∈ flat L, 0 ≤ x ∧ x ≤ 255) :
    Calls Try.prog 67 #[.slice a L.length cap] w fun e w' => e = .returned (.bool (csum (flat L) == 0)) ∧ Below w.heap.size w w' := by
  have hs := sum_any a L cap w hp hlen hL hb
  have HS := hide hs
  clear hs hp
  go_enter Try.func67, Try.ntmps67
  go_wp2_with fail
  refine HS.out.mono ?_
  rintro e w1 ⟨rfl, hbel⟩
  go_wp2
  go_ret
  exact ⟨rfl, hbel⟩
theorem refAdd_any (a b : Int) (w : World) (h1 : 0 ≤ a) (h2 : a ≤ 65535) (h3 : 0 ≤ b) (h4 : b ≤ 65535) :
    Calls Try.prog 79 #[.int .u16 a, .int .u16 b] w fun e w' => e = .returned (.int .u16 (f16 (a + b))) ∧ w = w' := by
  have hf := hide (f16_two a b h1 h2 h3 h4)
  by_cases h : 65535 < a + b
  · go_enter Try.func79, Try.ntmps79
    go_wp2
    go_ret
    exact ⟨by rw [← hf.out, if_pos h]; rfl, rfl⟩
  · go_enter Try.func79, Try.ntmps79
    go_wp2
    go_ret
    exact ⟨by rw [← hf.out, if_neg (by omega)]; rfl, rfl⟩

set_option maxHeartbeats 800000 in
theorem refSum_any (a : Option Addr) (xs : List Int) (cap : Nat) (w : World) (hr : Row .u8 w a xs) (hb : ∀ x ∈ xs, 0 ≤ x ∧ x ≤ 255) (hlen : xs.length < 1000000000) :
    Calls Try.prog 50 #[.slice a xs.length cap] w fun e w' => e = .returned (.int .u16 (csum xs)) ∧ Below w.heap.size w w' := by
  have hp := refPairs_any a xs cap w hr hb hlen
  have hpl := prs_len xs
  have hpr := prs_rng xs hb
  have hcs : csum xs = 65535 - f16 (prs xs).sum := rfl
  rw [hcs]
  clear hcs hr hb
  generalize prs xs = ys at *
  have HP := hide hp
  have HR := hide hpr
  have HPL := hide hpl
  have hyl : ys.length ≤ 500000001 := by omega
  clear hp hpr hpl
  go_enter Try.func50, Try.ntmps50
  go_wp2_with fail
  refine HP.out.mono ?_
  rintro e w1 ⟨a1, c1, rfl, hrow, hbel⟩
  have RO := hide hrow
  clear hrow
  go_wp2
  go_loop [4, 5] (fun v i => ∃ k : Nat, k ≤ ys.length ∧ i = .int .i64 k ∧ v = .int .u16 (f16 (ys.take k).sum)) (fun _ i => ys.length - (intOf i).toNat)
  case atStart => exact ⟨0, Nat.zero_le _, rfl, rfl⟩
  case round =>
    obtain ⟨k, hk, rfl, rfl⟩ := hrel
    by_cases hlt : k < ys.length
    · obtain ⟨b, off, rfl, _, hc⟩ := RO.out.at hlt
      have cx := hc k hlt
      have hs1 := sum_rng (ys.take k) (fun y hy => HR.out y (List.mem_of_mem_take hy))
      have hf1 := f16_rng (ys.take k).sum
      have hy : 0 ≤ ys[k]?.getD 0 ∧ ys[k]?.getD 0 ≤ 65535 := by rw [List.getElem?_eq_getElem hlt]; exact HR.out _ (List.getElem_mem hlt)
      have hst : f16 (f16 (ys.take k).sum + ys[k]?.getD 0) = f16 (ys.take (k + 1)).sum := by
        rw [f16_add _ _ hs1.1 hy.1, List.take_add_one, List.sum_append, List.getElem?_eq_getElem hlt]
        simp
      generalize ys[k]?.getD 0 = y at *
      generalize f16 (ys.take k).sum = t at *
      have HST := hide hst
      have hy1 := hy.1
      have hy2 := hy.2
      have ht1 := hf1.1
      have ht2 := hf1.2
      clear hst hc hs1 hf1 hy
      go_wp2_with fail
      refine (refAdd_any t y _ ht1 ht2 hy1 hy2).mono ?_
      rintro e w2 ⟨rfl, rfl⟩
      rw [HST.out]
      go_wp2
      go_round
      case rel => exact ⟨k + 1, by omega, by go_num, rfl⟩
      case measure => simp [intOf]; omega
    · obtain rfl : k = ys.length := by omega
      rw [List.take_length]
      have hf1 := f16_rng ys.sum
      have ht1 := hf1.1
      have ht2 := hf1.2
      clear hf1
      go_wp2
      go_ret
      exact ⟨rfl, hbel⟩
end Go.Proofs.Ytgggcapgaikbeaa
