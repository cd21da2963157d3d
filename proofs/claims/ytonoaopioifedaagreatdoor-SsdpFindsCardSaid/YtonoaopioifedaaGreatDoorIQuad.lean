/- inet: an address as its four bytes. -/
import Derived.Test.YtonoaopioifedaaGreatDoorNum
import Derived.Laws.CopyOwn
import Derived.Deep.RegionWith
import Derived.Deep.RegionLaw
namespace Go.Proofs.YtonoaopioifedaaGreatDoor
open Go.RowKit
set_option linter.unusedVariables false
set_option linter.unusedSimpArgs false
set_option maxRecDepth 100000
theorem step_copy_run {P : Program} {ops : Array Oper} {o : Oper} {a : Act} {w : World} {K : Act → World → Prop} {Q : Exit → Act → World → Prop} {E : Prop} (hgd : o.guard = none) (d s : Operand) (dT sT : TypeId)
    (ho : o.op = .call { callee := .builtin .copy, args := #[d, s], argTypes := #[dT, sT] }) (vs vx : Value) (hd : a.eval d = vs) (hs : a.eval s = vx) (v' : Value) (w' : World)
    (hr : (Builtin.copy_ #[dT, sT] o.type #[vs, vx]).run P w = .ok v' w') (h : K (a.put o.dst v') w') :
    if Region.wanted o (yielded ops a.tmps) = true then Oper.wp P o a w K Q else E := by
  have hw : Region.wanted o (yielded ops a.tmps) = true := by simp [Region.wanted, hgd]
  rw [if_pos hw]
  unfold Oper.wp
  simp [execOp, ho, resolve, invoke, builtin, hd, hs, hr, Result.andThen]
  exact h
theorem setRow_self {w : World} {g : Nat} {cs ds : Array Value} {t : TypeId} (h : w.heap[g]? = some (.cells cs t (0, 0))) : (w.setRow g ds).heap[g]? = some (.cells ds t (0, 0)) := by
  have hlt := lt_of_block h
  have h' : w.heap[g] = .cells cs t (0, 0) := by simpa [Array.getElem?_eq_getElem hlt] using h
  show (w.heap.modify g _)[g]? = _
  rw [Array.getElem?_eq_getElem (by simpa using hlt), Array.getElem_modify_self, h']
theorem rowCells {w : World} {b off : Nat} {xs : List Int} (h : Row .u8 w (some ⟨b, off, none⟩) xs) : ∀ (j : Nat) (v : Value), (xs.map (Value.int .u8))[j]? = some v → w.cell? ((⟨b, off, none⟩ : Addr).add j) = some v := by
  intro j v hj
  rw [List.getElem?_map] at hj
  obtain ⟨x, hx, rfl⟩ := Option.map_eq_some_iff.1 hj
  have hl : j < xs.length := (List.getElem?_eq_some_iff.1 hx).1
  obtain ⟨b', off', e, _, hc⟩ := h.at (i := j) hl
  cases e
  have := hc j hl
  rw [hx] at this
  by_cases h0 : j = 0
  · subst h0; simpa [Addr.add] using this
  · simpa [Addr.add, h0] using this
def qb (a i : Nat) : Nat := a / 256 ^ (3 - i) % 256
theorem qb_num (a : Nat) : numB 4 a = [(qb a 0 : Int), (qb a 1 : Int), (qb a 2 : Int), (qb a 3 : Int)] := by
  unfold numB qb byteAt
  simp [List.range, List.range.loop]
set_option maxHeartbeats 1600000 in
theorem quad_any (a : Nat) (w : World) (ha : a ≤ 4294967295) :
    Calls Tryz.prog 56 #[.int .u32 (a : Int)] w fun e w' => e = .returned (.agg #[.int .u8 (qb a 0 : Int), .int .u8 (qb a 1 : Int), .int .u8 (qb a 2 : Int), .int .u8 (qb a 3 : Int)]) ∧ Below w.heap.size w w' := by
  have HN := hide (fun (W : World) => num_any 4 a W (by omega))
  have hs4 : sz 4 = 4 := rfl
  rw [hs4, qb_num] at HN
  generalize qb a 0 = b0 at *
  generalize qb a 1 = b1 at *
  generalize qb a 2 = b2 at *
  generalize qb a 3 = b3 at *
  have hw1 : IntKind.u64.wrap (a : Int) = (a : Int) := by rw [IntKind.wrap_u64]; omega
  clear hs4
  obtain ⟨R, Q, wq, hR, hQ, hq, hbel, hRh, hQh⟩ : ∃ R Q wq, w.heap.size = R ∧ w.heap.size + 1 = Q ∧ (w.alloc (.cells #[.int .u8 0, .int .u8 0, .int .u8 0, .int .u8 0] 96)).alloc (.cells #[.int .u8 0, .int .u8 0, .int .u8 0, .int .u8 0] 96) = wq ∧ Below w.heap.size w wq ∧
      wq.heap[R]? = some (.cells #[.int .u8 0, .int .u8 0, .int .u8 0, .int .u8 0] 96 (0, 0)) ∧ wq.heap[Q]? = some (.cells #[.int .u8 0, .int .u8 0, .int .u8 0, .int .u8 0] 96 (0, 0)) :=
    ⟨_, _, _, rfl, rfl, rfl, ((Below.refl _ _).alloc (Nat.le_refl _) _).alloc (by simp) _, (Below.heap_alloc _ _ _ (by simp)).trans (heap_alloc_new w _), by
      have := heap_alloc_new (w.alloc (.cells #[.int .u8 0, .int .u8 0, .int .u8 0, .int .u8 0] 96)) (.cells #[.int .u8 0, .int .u8 0, .int .u8 0, .int .u8 0] 96)
      simpa using this⟩
  have hRQ : R < Q := by omega
  have hwR : w.heap.size ≤ R := by omega
  have HQE := hide (And.intro hq (And.intro hQ hR))
  have HRh := hide hRh
  have HQh := hide hQh
  have HBL := hide hbel
  have hst : ∀ V, Below wq.heap.size wq V → Calls Tryz.prog 74 #[.int .i64 4, .int .u64 (a : Int)] V fun e w' => ∃ ad w4, e = .returned (.slice ad 4 4) ∧
      (Builtin.copy_ #[29, 29] 3 #[.slice (some ⟨Q, 0, none⟩) 4 4, .slice ad 4 4]).run Tryz.prog w' = .ok (.int .i64 4) w4 ∧ Hid (w4.heap[Q]? = some (.cells #[.int .u8 (b0 : Int), .int .u8 (b1 : Int), .int .u8 (b2 : Int), .int .u8 (b3 : Int)] 96 (0, 0)) ∧ w4.heap[R]? = some (.cells #[.int .u8 0, .int .u8 0, .int .u8 0, .int .u8 0] 96 (0, 0)) ∧ Below w.heap.size w w4) := fun V hV => by
    refine (HN.out V).mono ?_
    rintro e w' ⟨rfl, hown, hb⟩
    have hr := Row.of_owns hown
    have hQl := lt_of_block HQh.out
    have hRl := lt_of_block HRh.out
    have hq' := (hb.block Q (Nat.lt_of_lt_of_le hQl hV.size)).trans ((hV.block Q hQl).trans HQh.out)
    have hr' := (hb.block R (Nat.lt_of_lt_of_le hRl hV.size)).trans ((hV.block R hRl).trans HRh.out)
    have hrun := run_copy_row (P := Tryz.prog) w' 29 29 3 5 Q 0 4 4 ⟨V.heap.size, 0, none⟩ 4 4 _ 96 [.int .u8 (b0 : Int), .int .u8 (b1 : Int), .int .u8 (b2 : Int), .int .u8 (b3 : Int)] Tryz.underlying29 (by kernel_rfl) hq' rfl
      (rowCells hr) (by simp) (fun v hv => by simp at hv; rcases hv with rfl | rfl | rfl | rfl <;> rfl)
    have hbb : Below w.heap.size w w' := HBL.out.trans ((hV.trans (hb.mono hV.size)).mono HBL.out.size)
    refine ⟨_, _, rfl, hrun, hide ⟨?_, (setRow_other w' Q R _ (by omega)).trans hr', ⟨hbb.os, hbb.tape, hbb.output, by simpa [World.setRow] using hbb.size, fun i hi => (setRow_other w' Q i _ (by omega)).trans (hbb.block i hi)⟩⟩⟩
    rw [setRow_self hq']
    simp
  have HST := hide hst
  clear hst hq hQ hR hbel hRh hQh HN
  go_enter Tryz.func56, Tryz.ntmps56
  go_wp2_with fail
  rw [HQE.out.1]
  try rw [HQE.out.2.1]
  try rw [HQE.out.2.2]
  go_region_law (first | (refine step_copy_run rfl (.tmp 4) (.tmp 7) 29 29 rfl _ _ rfl rfl _ _ hrn.out ?_) | (go_simp; go_at_call 74; with_reducible refine (HST.out _ ?_).mono ?_; (first | exact Below.refl _ _ | exact (Below.refl _ _).drew); rintro e w3 ⟨a3, w4, rfl, hrun, H4⟩; have hrn := hide hrun; clear hrun))
  obtain ⟨hm4, hr4, hb4⟩ := H4.out
  obtain ⟨m0, m1, m2, m3⟩ : w4.cell? ⟨Q, 0, none⟩ = some (.int .u8 (b0 : Int)) ∧ w4.cell? ⟨Q, 1, none⟩ = some (.int .u8 (b1 : Int)) ∧ w4.cell? ⟨Q, 2, none⟩ = some (.int .u8 (b2 : Int)) ∧ w4.cell? ⟨Q, 3, none⟩ = some (.int .u8 (b3 : Int)) := by simp [World.cell?, hm4]
  obtain ⟨n0, n1, n2, n3⟩ : w4.cell? ⟨R, 0, none⟩ = some (.int .u8 0) ∧ w4.cell? ⟨R, 1, none⟩ = some (.int .u8 0) ∧ w4.cell? ⟨R, 2, none⟩ = some (.int .u8 0) ∧ w4.cell? ⟨R, 3, none⟩ = some (.int .u8 0) := by simp [World.cell?, hr4]
  have nf : ∀ i, w4.frozen? ⟨R, i, none⟩ = false := fun i => by simp [World.frozen?, hr4]
  have HB4 := hide hb4
  clear hrn H4 hm4 hr4 hb4
  go_wp2
  refine bodyPost_ret (v := .agg #[.int .u8 (b0 : Int), .int .u8 (b1 : Int), .int .u8 (b2 : Int), .int .u8 (b3 : Int)]) (by simp [results, Tryz.results56, go_sem, n0, n1, n2, n3]) rfl ⟨rfl, ?_⟩
  exact (((HB4.out.setCell hwR _).setCell hwR _).setCell hwR _).setCell hwR _
end Go.Proofs.YtonoaopioifedaaGreatDoor
