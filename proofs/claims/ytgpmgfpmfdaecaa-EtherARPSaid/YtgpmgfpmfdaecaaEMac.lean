/- What ether.readMAC answers. -/
import Derived.Test.YtgpmgfpmfdaecaaEyeBytes
import Derived.Test.YtgpmgfpmfdaecaaESame
import Derived.Laws.CopyOwn
import Derived.Deep.RegionWith
import Derived.Deep.RegionLaw
namespace Go.Proofs.Ytgpmgfpmfdaecaa
open Go.RowKit
set_option linter.unusedVariables false
set_option linter.unusedSimpArgs false
/-- A copy whose run is known, in a region that draws its order. -/
theorem step_copy_run {P : Program} {ops : Array Oper} {o : Oper} {a : Act} {w : World} {K : Act → World → Prop} {Q : Exit → Act → World → Prop} {E : Prop} (hgd : o.guard = none) (d s : Operand) (dT sT : TypeId)
    (ho : o.op = .call { callee := .builtin .copy, args := #[d, s], argTypes := #[dT, sT] }) (vs vx : Value) (hd : a.eval d = vs) (hs : a.eval s = vx) (v' : Value) (w' : World)
    (hr : (Builtin.copy_ #[dT, sT] o.type #[vs, vx]).run P w = .ok v' w') (h : K (a.put o.dst v') w') :
    if Region.wanted o (yielded ops a.tmps) = true then Oper.wp P o a w K Q else E := by
  have hw : Region.wanted o (yielded ops a.tmps) = true := by simp [Region.wanted, hgd]
  rw [if_pos hw]
  unfold Oper.wp
  simp [execOp, ho, resolve, invoke, builtin, hd, hs, hr, Result.andThen]
  exact h
theorem EyeAt.lt {w : World} {E B : Nat} {rest : List Int} {bad : Bool} (h : EyeAt w E B rest bad) : E < w.heap.size := by
  obtain ⟨_, v, hE, _⟩ := h
  exact lt_of_block hE
theorem EyeAt.below {w w' : World} {E B D : Nat} {rest : List Int} {bad : Bool} (h : EyeAt w E B rest bad) (hb : Below D w w') (hB : w.heap.size ≤ D) : EyeAt w' E B rest bad := by
  have hE := h.lt
  obtain ⟨hBs, v, hv, hL⟩ := h
  refine ⟨Nat.le_trans hBs hb.size, v, (hb.block E (by omega)).trans hv, ?_⟩
  rcases hL with hL | ⟨b, off, c, h1, h2, h3, h4, h5, h6⟩
  · exact .inl hL
  · exact .inr ⟨b, off, c, h1, h2, h3, h4, h5, fun i hi => (hb.cell (p := ⟨b, off + i, none⟩) (show b < D by omega)).trans (h6 i hi)⟩
theorem EyeAt.setRow {w : World} {E B g : Nat} {rest : List Int} {bad : Bool} {cs : Array Value} (h : EyeAt w E B rest bad) (h1 : B ≤ g) (h2 : E ≠ g) : EyeAt (w.setRow g cs) E B rest bad := by
  obtain ⟨hBs, v, hv, hL⟩ := h
  refine ⟨by simpa [World.setRow] using hBs, v, (setRow_other w g E cs h2).trans hv, ?_⟩
  rcases hL with hL | ⟨b, off, c, h1', h2', h3, h4, h5, h6⟩
  · exact .inl hL
  · exact .inr ⟨b, off, c, h1', h2', h3, h4, h5, fun i hi => (World.cell?_of_block (setRow_other w g b cs (by omega))).trans (h6 i hi)⟩
theorem EyeAt.setCell {w : World} {E B g i : Nat} {rest : List Int} {bad : Bool} {v : Value} (h : EyeAt w E B rest bad) (h1 : B ≤ g) (h2 : E ≠ g) : EyeAt (w.setCell ⟨g, i, none⟩ v) E B rest bad := by
  obtain ⟨hBs, u, hv, hL⟩ := h
  have hk : ∀ b, b ≠ g → (w.setCell ⟨g, i, none⟩ v).heap[b]? = w.heap[b]? := fun b hb => Below.heap_setCell _ _ _ _ (by simpa using hb)
  refine ⟨by simpa using hBs, u, (hk E h2).trans hv, ?_⟩
  rcases hL with hL | ⟨b, off, c, h1', h2', h3, h4, h5, h6⟩
  · exact .inl hL
  · exact .inr ⟨b, off, c, h1', h2', h3, h4, h5, fun i hi => (World.cell?_of_block (hk b (by omega))).trans (h6 i hi)⟩
theorem grown_set {w v : World} {r : Option Nat} (h : w.grownBy v r) {g i : Nat} {u : Value} (hg : w.heap.size ≤ g) : w.grownBy (v.setCell ⟨g, i, none⟩ u) r :=
  ⟨h.os, h.tape, h.output, by simpa using h.size, fun k hk hne => (Below.heap_setCell _ _ _ _ (by intro e; simp at e; omega)).trans (h.block k hk hne)⟩
/-- 'Bytes' of as many bytes as there are. -/
theorem bytesOk_any (E B : Nat) (rest : List Int) (bad : Bool) (k : Nat) (w : World) (h : EyeAt w E B rest bad) (hl : rest.length ≤ 1099511627776) (hk : k ≤ rest.length) :
    Calls Try.prog 29 #[.pointer (some ⟨E, 0, none⟩), .int .i64 (k : Int)] w fun e w' => ∃ a c, e = .returned (.slice a k c) ∧ w'.ownsRow w.heap.size 5 1 (.slice a k c) k ((rest.take k).map (Value.int .u8)) ∧ EyeAt w' E B (rest.drop k) bad ∧ w.grownBy w' (some E) := by
  have hh := eyeBytes_any E B rest bad (k : Int) w h hl (by omega)
  rw [Int.toNat_natCast, if_pos hk, if_pos hk, if_pos hk, show decide (rest.length < k) = false from by simp; omega, Bool.or_false] at hh
  refine hh.mono ?_
  rintro e w' ⟨w1, a, c, rfl, hown, heye, hg, hb⟩
  exact ⟨a, c, rfl, owns_mono hown hg.size, heye.below hb (Nat.le_refl _), gb_trans hg ⟨hb.os, hb.tape, hb.output, hb.size, fun i hi _ => hb.block i hi⟩⟩
theorem setRow_self {w : World} {g : Nat} {cs ds : Array Value} {t : TypeId} (h : w.heap[g]? = some (.cells cs t (0, 0))) : (w.setRow g ds).heap[g]? = some (.cells ds t (0, 0)) := by
  have hlt := lt_of_block h
  have h' : w.heap[g] = .cells cs t (0, 0) := by simpa [Array.getElem?_eq_getElem hlt] using h
  show (w.heap.modify g _)[g]? = _
  rw [Array.getElem?_eq_getElem (by simpa using hlt), Array.getElem_modify_self, h']
set_option maxRecDepth 100000 in
set_option maxHeartbeats 1600000 in
theorem readMAC_any (E B : Nat) (rest : List Int) (bad : Bool) (w : World) (g : Nat → UInt8) (h : EyeAt w E B rest bad) (hl : rest.length ≤ 1099511627776) (h6 : 6 ≤ rest.length) (hg : rest.take 6 = [((g 0).toNat : Int), ((g 1).toNat : Int), ((g 2).toNat : Int), ((g 3).toNat : Int), ((g 4).toNat : Int), ((g 5).toNat : Int)]) :
    Calls Try.prog 27 #[.pointer (some ⟨E, 0, none⟩)] w fun e w' => e = .returned (.agg #[.int .u8 ((g 0).toNat : Int), .int .u8 ((g 1).toNat : Int), .int .u8 ((g 2).toNat : Int), .int .u8 ((g 3).toNat : Int), .int .u8 ((g 4).toNat : Int), .int .u8 ((g 5).toNat : Int)]) ∧ EyeAt w' E B (rest.drop 6) bad ∧ w.grownBy w' (some E) := by
  have hE := h.lt
  have hBw := h.1
  have H := hide h
  have HG := hide hg
  clear h hg
  go_enter Try.func27, Try.ntmps27
  go_wp2_with fail
  obtain ⟨R, Mb, wq, hR, hMb, hq, hbel, hRh, hMh, hEq⟩ : ∃ R Mb wq, w.heap.size = R ∧ w.heap.size + 1 = Mb ∧ (w.alloc (.cells #[.int .u8 0, .int .u8 0, .int .u8 0, .int .u8 0, .int .u8 0, .int .u8 0] 25)).alloc (.cells #[.int .u8 0, .int .u8 0, .int .u8 0, .int .u8 0, .int .u8 0, .int .u8 0] 25) = wq ∧ Below w.heap.size w wq ∧
      wq.heap[R]? = some (.cells #[.int .u8 0, .int .u8 0, .int .u8 0, .int .u8 0, .int .u8 0, .int .u8 0] 25 (0, 0)) ∧ wq.heap[Mb]? = some (.cells #[.int .u8 0, .int .u8 0, .int .u8 0, .int .u8 0, .int .u8 0, .int .u8 0] 25 (0, 0)) ∧ EyeAt wq E B rest bad :=
    ⟨_, _, _, rfl, rfl, rfl, ((Below.refl _ _).alloc (Nat.le_refl _) _).alloc (by simp) _, (Below.heap_alloc _ _ _ (by simp)).trans (heap_alloc_new w _), by
      have := heap_alloc_new (w.alloc (.cells #[.int .u8 0, .int .u8 0, .int .u8 0, .int .u8 0, .int .u8 0, .int .u8 0] 25)) (.cells #[.int .u8 0, .int .u8 0, .int .u8 0, .int .u8 0, .int .u8 0, .int .u8 0] 25)
      simpa using this, H.out.below (((Below.refl _ _).alloc (Nat.le_refl _) _).alloc (by simp) _) (Nat.le_refl _)⟩
  rw [hq, hMb, hR]
  have hER : E < R := by omega
  have hRM : R < Mb := by omega
  have hBR : B ≤ R := by omega
  have HR := hide hR
  have HRh := hide hRh
  have HMh := hide hMh
  have HE := hide hEq
  clear hq hR hMb hRh hMh hEq
  have hby : ∀ V, Below wq.heap.size wq V → Calls Try.prog 29 #[.pointer (some ⟨E, 0, none⟩), .int .i64 6] V fun e w' => ∃ a c w4, e = .returned (.slice a 6 c) ∧
      (Builtin.copy_ #[22, 22] 3 #[.slice (some ⟨Mb, 0, none⟩) 6 6, .slice a 6 c]).run Try.prog w' = .ok (.int .i64 6) w4 ∧ Hid (w4.heap[Mb]? = some (.cells #[.int .u8 ((g 0).toNat : Int), .int .u8 ((g 1).toNat : Int), .int .u8 ((g 2).toNat : Int), .int .u8 ((g 3).toNat : Int), .int .u8 ((g 4).toNat : Int), .int .u8 ((g 5).toNat : Int)] 25 (0, 0)) ∧ w4.heap[R]? = some (.cells #[.int .u8 0, .int .u8 0, .int .u8 0, .int .u8 0, .int .u8 0, .int .u8 0] 25 (0, 0)) ∧ EyeAt w4 E B (rest.drop 6) bad ∧ w.grownBy w4 (some E)) := fun V hV => by
    refine (bytesOk_any E B rest bad 6 V (HE.out.below hV (Nat.le_refl _)) hl h6).mono ?_
    rintro e w' ⟨a, c, rfl, hown, heye, hgb⟩
    have hr := Row.of_owns hown
    rw [HG.out] at hr
    obtain ⟨b, off, rfl, hbl, hc⟩ := hr.at (i := 0) (by simp)
    have hMl := lt_of_block HMh.out
    have hm' : w'.heap[Mb]? = some (.cells #[.int .u8 0, .int .u8 0, .int .u8 0, .int .u8 0, .int .u8 0, .int .u8 0] 25 (0, 0)) :=
      (hgb.block Mb (Nat.lt_of_lt_of_le hMl hV.size) (by intro h; injection h with h; omega)).trans ((hV.block Mb hMl).trans HMh.out)
    have hRl := lt_of_block HRh.out
    have hr' : w'.heap[R]? = some (.cells #[.int .u8 0, .int .u8 0, .int .u8 0, .int .u8 0, .int .u8 0, .int .u8 0] 25 (0, 0)) :=
      (hgb.block R (Nat.lt_of_lt_of_le hRl hV.size) (by intro h; injection h with h; omega)).trans ((hV.block R hRl).trans HRh.out)
    have hrun := run_copy_row (P := Try.prog) w' 22 22 3 5 Mb 0 6 6 ⟨b, off, none⟩ 6 c _ 25 [.int .u8 ((g 0).toNat : Int), .int .u8 ((g 1).toNat : Int), .int .u8 ((g 2).toNat : Int), .int .u8 ((g 3).toNat : Int), .int .u8 ((g 4).toNat : Int), .int .u8 ((g 5).toNat : Int)] Try.underlying22 (by kernel_rfl) hm' rfl
      (row_cells hr) (by simp) (fun v hv => by simp at hv; rcases hv with rfl | rfl | rfl | rfl | rfl | rfl <;> rfl)
    refine ⟨_, _, _, rfl, hrun, ?_⟩
    have hgw : w.grownBy w' (some E) := gb_trans ⟨hbel.os, hbel.tape, hbel.output, hbel.size, fun i hi _ => hbel.block i hi⟩ (gb_trans ⟨hV.os, hV.tape, hV.output, hV.size, fun i hi _ => hV.block i hi⟩ hgb)
    refine ⟨?_, (setRow_other w' Mb R _ (by omega)).trans hr', heye.setRow (by omega) (by omega), ⟨hgw.os, hgw.tape, hgw.output, by simpa [World.setRow] using hgw.size, fun i hi hne => (setRow_other w' Mb i _ (by have := HR.out; omega)).trans (hgw.block i hi hne)⟩⟩
    rw [setRow_self hm']
    simp
  have HBY := hide hby
  clear hby
  go_region_law (first | (refine step_copy_run rfl (.tmp 4) (.tmp 6) 22 22 rfl _ _ rfl rfl _ _ hrn.out ?_) | (go_simp; go_at_call 29; with_reducible refine (HBY.out _ ?_).mono ?_; (first | exact Below.refl _ _ | exact (Below.refl _ _).drew); rintro e w3 ⟨a3, c3, w4, rfl, hrun, H4⟩; have hrn := hide hrun; clear hrun))
  obtain ⟨hm4, hr4, he4, hg4⟩ := H4.out
  obtain ⟨m0, m1, m2, m3, m4, m5⟩ : w4.cell? ⟨Mb, 0, none⟩ = some (.int .u8 ((g 0).toNat : Int)) ∧ w4.cell? ⟨Mb, 1, none⟩ = some (.int .u8 ((g 1).toNat : Int)) ∧ w4.cell? ⟨Mb, 2, none⟩ = some (.int .u8 ((g 2).toNat : Int)) ∧ w4.cell? ⟨Mb, 3, none⟩ = some (.int .u8 ((g 3).toNat : Int)) ∧ w4.cell? ⟨Mb, 4, none⟩ = some (.int .u8 ((g 4).toNat : Int)) ∧ w4.cell? ⟨Mb, 5, none⟩ = some (.int .u8 ((g 5).toNat : Int)) := by simp [World.cell?, hm4]
  obtain ⟨n0, n1, n2, n3, n4, n5⟩ : w4.cell? ⟨R, 0, none⟩ = some (.int .u8 0) ∧ w4.cell? ⟨R, 1, none⟩ = some (.int .u8 0) ∧ w4.cell? ⟨R, 2, none⟩ = some (.int .u8 0) ∧ w4.cell? ⟨R, 3, none⟩ = some (.int .u8 0) ∧ w4.cell? ⟨R, 4, none⟩ = some (.int .u8 0) ∧ w4.cell? ⟨R, 5, none⟩ = some (.int .u8 0) := by simp [World.cell?, hr4]
  have nf : ∀ i, w4.frozen? ⟨R, i, none⟩ = false := fun i => by simp [World.frozen?, hr4]
  have HM4 := hide hm4
  have HR4 := hide hr4
  have HE4 := hide he4
  have HG4 := hide hg4
  clear hrn H4 hm4 hr4 he4 hg4
  go_wp2
  refine bodyPost_ret (v := .agg #[.int .u8 ((g 0).toNat : Int), .int .u8 ((g 1).toNat : Int), .int .u8 ((g 2).toNat : Int), .int .u8 ((g 3).toNat : Int), .int .u8 ((g 4).toNat : Int), .int .u8 ((g 5).toNat : Int)]) (by simp [results, Try.results27, go_sem, n0, n1, n2, n3, n4, n5]) rfl ⟨rfl, ?_, ?_⟩
  · exact (((((HE4.out.setCell hBR (by omega)).setCell hBR (by omega)).setCell hBR (by omega)).setCell hBR (by omega)).setCell hBR (by omega)).setCell hBR (by omega)
  · have hh := HR.out
    exact grown_set (grown_set (grown_set (grown_set (grown_set (grown_set HG4.out (by omega)) (by omega)) (by omega)) (by omega)) (by omega)) (by omega)
end Go.Proofs.Ytgpmgfpmfdaecaa
