/- Parts of the law that a check sum is changed as its bytes are: the closure 'zero', the copy, the cut. -/
import Derived.Test.YtpchmajgeanflaaPlainSame
import Derived.Test.YtpchmajgeanflaaEye
import Derived.Laws.CopyOwn
import Derived.Deep.RegionWith
import Derived.Deep.RegionLaw
namespace Go.Proofs.Ytpchmajgeanflaa
open Go.RowKit
set_option linter.unusedVariables false
set_option linter.unusedSimpArgs false

set_option maxHeartbeats 800000 in
theorem zero_any (a : Option Addr) (xs : List Int) (cap : Nat) (w : World) (hr : Row .u8 w a xs) (hl : xs.length < 9223372036854775807) :
    Calls Try.prog 33 #[.slice a xs.length cap] w fun e w' => e = .returned (.bool (xs.all (· == 0))) ∧ w = w' := by
  have HR := hide hr
  clear hr
  go_enter Try.func33, Try.ntmps33
  go_wp2
  go_loop [7] (fun i => ∃ k : Nat, k ≤ xs.length ∧ i = .int .i64 k ∧ Hid (∀ i, i < k → xs[i]?.getD 0 = 0)) (fun i => xs.length - (intOf i).toNat)
  case atStart => exact ⟨0, Nat.zero_le _, rfl, hide (fun i h => by omega)⟩
  case round =>
    obtain ⟨k, hk, rfl, HZ⟩ := hrel
    by_cases hlt : k < xs.length
    · obtain ⟨b, off, rfl, _, hc⟩ := HR.out.at hlt
      have cx := hc k hlt
      by_cases h0 : xs[k]?.getD 0 = 0
      · have hz : ∀ i, i < k + 1 → xs[i]?.getD 0 = 0 := fun i hi => by
          rcases Nat.lt_or_ge i k with h | h
          · exact HZ.out i h
          · have : i = k := by omega
            rw [this]; exact h0
        have HZ2 := hide hz
        rw [h0] at cx
        clear hz h0 hc
        go_wp2
        go_round
        case rel => exact ⟨k + 1, by omega, by go_num, HZ2⟩
        case measure => simp [intOf]; omega
      · have hall : (xs.all (· == 0)) = false := by
          rw [List.all_eq_false]
          refine ⟨xs[k], List.getElem_mem hlt, ?_⟩
          rw [List.getElem?_eq_getElem hlt] at h0
          simpa using h0
        have HA := hide hall
        generalize xs[k]?.getD 0 = x at *
        have hx : (x != 0) = true := ne_true h0
        clear hall hc h0
        go_wp2
        go_ret
        exact ⟨by rw [HA.out]; rfl, rfl⟩
    · have hall : (xs.all (· == 0)) = true := by
        rw [List.all_eq_true]
        intro x hx
        obtain ⟨i, hi, rfl⟩ := List.getElem_of_mem hx
        have := HZ.out i (by omega)
        rw [List.getElem?_eq_getElem hi] at this
        simpa using this
      have HA := hide hall
      clear hall
      go_wp2
      go_ret
      exact ⟨by rw [HA.out]; rfl, rfl⟩

theorem copy2_run (w : World) (base g n c o L C : Nat) (xs ys : List Int) (ad : Addr) (c3 : Nat) (ty : TypeId) (hown : w.ownsRow base 5 1 (.slice (some ⟨g, 0, none⟩) n c) n (xs.map (Value.int .u8))) (hr : Row .u8 w (some ad) ys) (hy : ys.length = 2) (ho : o + 2 ≤ n) (hL : 2 ≤ L) :
    ∃ w', (Builtin.copy_ #[24, 24] ty #[.slice (some ⟨g, o, none⟩) L C, .slice (some ad) 2 c3]).run Try.prog w = .ok (.int .i64 2) w' ∧
      w'.ownsRow base 5 1 (.slice (some ⟨g, 0, none⟩) n c) n ((spl xs o ys).map (Value.int .u8)) ∧ w.grownBy w' (some g) := by
  have hxl : xs.length = n := by have := hown.1; simpa using this
  rcases hown.2 with ⟨h, _⟩ | ⟨g', cap, cur, hv, hg, hh, hnc, hcm, hcs, htk⟩
  · cases h
  · obtain ⟨rfl, rfl⟩ : g = g' ∧ c = cap := by simpa using hv
    have hrun := run_copy_row (P := Try.prog) w 24 24 ty 5 g o L C ad 2 c3 cur 5 (ys.map (Value.int .u8)) Try.underlying24 (by kernel_rfl) hh (by rw [List.length_map, hy]; exact (Nat.min_eq_left hL).symm)
      (row_cells hr) (by rw [List.length_map, hy]; omega) (ints_one _ _)
    rw [List.length_map, hy] at hrun
    refine ⟨w.setRow g (cur.toList.take o ++ ys.map (Value.int .u8) ++ cur.toList.drop (o + 2)).toArray, hrun, ?_, ⟨rfl, rfl, rfl, by simp [World.setRow], fun k hk hne => setRow_other w g k _ (by intro e; exact hne (by rw [e]))⟩⟩
    have hlt := lt_of_block hh
    have hcl : cur.toList.length = c := by simp; omega
    have hsame : (w.setRow g (cur.toList.take o ++ ys.map (Value.int .u8) ++ cur.toList.drop (o + 2)).toArray).heap[g]? = some (.cells (cur.toList.take o ++ ys.map (Value.int .u8) ++ cur.toList.drop (o + 2)).toArray 5 (0, 0)) := by
      have h' : w.heap[g] = .cells cur 5 (0, 0) := by simpa [Array.getElem?_eq_getElem hlt] using hh
      show (w.heap.modify g _)[g]? = _
      rw [Array.getElem?_eq_getElem (by simpa using hlt), Array.getElem_modify_self, h']
    refine ⟨by rw [List.length_map, spl_len _ _ _ (by omega), hxl, Nat.mul_one], .inr ⟨g, c, _, rfl, hg, hsame, hnc, hcm, ?_, ?_⟩⟩
    · simp [hy]; omega
    · have h1 : (spl xs o ys).map (Value.int .u8) = (xs.map (Value.int .u8)).take o ++ ys.map (Value.int .u8) ++ (xs.map (Value.int .u8)).drop (o + 2) := by
        rw [spl, List.map_append, List.map_append, List.map_take, List.map_drop, hy]
      rw [h1, ← htk, Nat.mul_one, List.take_take, Nat.min_eq_left (by omega), List.drop_take]
      rw [List.take_append, List.take_of_length_le (by simp [hy]; omega)]
      congr 2
      simp [hy]; omega

/-- A copy whose run is known, in a region that draws its order. -/
theorem step_copy_run {P : Program} {ops : Array Oper} {o : Oper} {a : Act} {w : World} {K : Act → World → Prop} {Q : Exit → Act → World → Prop} {E : Prop} (hgd : o.guard = none) (d s : Operand) (dT sT : TypeId)
    (ho : o.op = .call { callee := .builtin .copy, args := #[d, s], argTypes := #[dT, sT] }) (vs vx : Value) (hd : a.eval d = vs) (hs : a.eval s = vx) (v' : Value) (w' : World)
    (hr : (Builtin.copy_ #[dT, sT] o.type #[vs, vx]).run P w = .ok v' w') (h : K (a.put o.dst v') w') :
    if Region.wanted o (yielded ops a.tmps) = true then Oper.wp P o a w K Q else E := by
  have hw : Region.wanted o (yielded ops a.tmps) = true := by simp [Region.wanted, hgd]
  rw [if_pos hw]
  unfold Oper.wp
  simp [execOp, ho, resolve, invoke, builtin, hd, hs, hr, Result.andThen]
  exact h

theorem slice_tail_run (g n c o : Nat) (l : Int) (hl : l = (o : Int)) (h1 : o ≤ n) (h2 : o < c) (W : World) :
    (Instr.slice 24 (.slice (some ⟨g, 0, none⟩) n c) (some (.int .i64 l)) none none).run Try.prog W = .ok (.slice (some ⟨g, o, none⟩) (n - o) (c - o)) W := by
  subst hl
  have hz : ∀ W, (sizeOf 5).run Try.prog W = .ok 1 W := fun W => by
    obtain ⟨i0, hi, _, hs, _⟩ := info_parts Try.info5
    simp [sizeOf, typeInfo, hi, hs]
  have he : Try.prog.elem 24 = 5 := by kernel_rfl
  rw [run_slice_l (P := Try.prog) W 24 _ n c (by rw [he]; exact Try.underlying24) .i64 (o : Int) (by omega) (by omega), he, hz]
  have hne : ¬ c = o := by omega
  simp [sliced, Result.andThen, hne, Addr.add_lit]

end Go.Proofs.Ytpchmajgeanflaa
