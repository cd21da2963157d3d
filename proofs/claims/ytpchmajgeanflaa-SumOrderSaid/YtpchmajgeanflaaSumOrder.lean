/- The law that two numbers in each other's place make no difference to a check sum, walked where the text has an even number of bytes, two at least. -/
import Derived.Test.YtpchmajgeanflaaSameParts
import Derived.Test.YtpchmajgeanflaaPlainOrder
import Derived.BigRegion
import Derived.RegionTactic
import Derived.Deep.DeepCutAuto
import Derived.Deep.RegionHeld3
namespace Go.Proofs.Ytpchmajgeanflaa
open Go.RowKit
set_option linter.unusedVariables false
set_option linter.unusedSimpArgs false

theorem tail_run (b off n c o : Nat) (l : Int) (hl : l = (o : Int)) (h1 : o ≤ n) (h2 : o < c) (W : World) :
    (Instr.slice 24 (.slice (some ⟨b, off, none⟩) n c) (some (.int .i64 l)) none none).run Try.prog W = .ok (.slice (some ⟨b, off + o, none⟩) (n - o) (c - o)) W := by
  subst hl
  have hz : ∀ W, (sizeOf 5).run Try.prog W = .ok 1 W := fun W => by
    obtain ⟨i0, hi, _, hs, _⟩ := info_parts Try.info5
    simp [sizeOf, typeInfo, hi, hs]
  have he : Try.prog.elem 24 = 5 := by kernel_rfl
  rw [run_slice_l (P := Try.prog) W 24 _ n c (by rw [he]; exact Try.underlying24) .i64 (o : Int) (by omega) (by omega), he, hz]
  have hne : ¬ c = o := by omega
  simp [sliced, Result.andThen, hne, Addr.add_lit]
theorem head_run (b off n c o : Nat) (l : Int) (hl : l = (o : Int)) (h1 : o ≤ n) (h2 : n ≤ c) (W : World) :
    (Instr.slice 24 (.slice (some ⟨b, off, none⟩) n c) none (some (.int .i64 l)) none).run Try.prog W = .ok (.slice (some ⟨b, off, none⟩) o c) W := by
  subst hl
  have hz : ∀ W, (sizeOf 5).run Try.prog W = .ok 1 W := fun W => by
    obtain ⟨i0, hi, _, hs, _⟩ := info_parts Try.info5
    simp [sizeOf, typeInfo, hi, hs]
  have he : Try.prog.elem 24 = 5 := by kernel_rfl
  rw [run_slice_h (P := Try.prog) W 24 _ n c (by rw [he]; exact Try.underlying24) .i64 (o : Int) (by omega) (by omega), he, hz]
  simp [sliced, Result.andThen, Addr.add_lit]
theorem row_take {k : IntKind} {w : World} {b off : Nat} {xs : List Int} (h : Row k w (some ⟨b, off, none⟩) xs) (m : Nat) : Row k w (some ⟨b, off, none⟩) (xs.take m) := by
  intro hne
  obtain ⟨b', off', he, hl, hc⟩ := h (by intro e; subst e; simp at hne)
  exact ⟨b', off', he, hl, fun i hi => by rw [List.length_take] at hi; rw [hc i (by omega), List.getElem?_take_of_lt (by omega)]⟩
theorem row_drop {k : IntKind} {w : World} {b off : Nat} {xs : List Int} (h : Row k w (some ⟨b, off, none⟩) xs) (m : Nat) : Row k w (some ⟨b, off + m, none⟩) (xs.drop m) := by
  intro hne
  obtain ⟨b', off', he, hl, hc⟩ := h (by intro e; subst e; simp at hne)
  cases he
  refine ⟨b, off + m, rfl, hl, fun i hi => ?_⟩
  rw [List.length_drop] at hi
  rw [List.getElem?_drop, Nat.add_assoc]
  exact hc (m + i) (by omega)
theorem cell_drew (w : World) (a : Addr) : w.drew.cell? a = w.cell? a := rfl
theorem cell_new1 (w : World) (cs : Array Value) (t : TypeId) (i n : Nat) (h : i < cs.size) (hn : n = w.heap.size) : (w.alloc (.cells cs t)).cell? ⟨n, i, none⟩ = some cs[i] := by
  subst hn; rw [World.cell?_alloc_at _ _ _ _ rfl]; simp [h]
theorem cell_new2 {w : World} {cs : Array Value} {t : TypeId} {i n : Nat} {v : Value} (hn : n = w.heap.size) (h : cs[i]? = some v) : (w.alloc (.cells cs t)).cell? ⟨n, i, none⟩ = some v := by
  subst hn
  obtain ⟨hi, hv⟩ := Array.getElem?_eq_some_iff.1 h
  rw [cell_new1 w cs t i _ hi rfl, hv]
theorem cell_old (w : World) (o : Obj) (b i : Nat) (h : b < w.heap.size) : (w.alloc o).cell? ⟨b, i, none⟩ = w.cell? ⟨b, i, none⟩ := World.cell?_alloc_past _ _ _ h
/-- The world has only grown. -/
def Good (z V : World) : Prop := Below z.heap.size z V
theorem Good.refl (z : World) : Good z z := Below.refl _ _
theorem Good.drew {z V : World} (h : Good z V) : Good z V.drew := Below.drew h
theorem Good.alloc {z V : World} (h : Good z V) (o : Obj) : Good z (V.alloc o) := Below.alloc h (Below.size h) o
theorem Good.size {z V : World} (h : Good z V) : z.heap.size ≤ V.heap.size := Below.size h

theorem sumAt_any (z V : World) (P : Nat) (a : Option Addr) (xs : List Int) (m c : Nat) (hg : Good z V) (hc : V.cell? ⟨P, 0, none⟩ = some (.slice a m c)) (hm : xs.length = m) (h : Row .u8 V a xs) (hn : a = none → c = 0) (hb : ∀ x ∈ xs, 0 ≤ x ∧ x ≤ 255) (hl : m < 1000000000) :
    Calls Try.prog 29 #[.slice (some ⟨P, 0, none⟩) 1 1] V fun e w' => e = .returned (.int .u16 (csum xs)) ∧ Good z w' ∧ V.heap.size ≤ w'.heap.size ∧ ∀ b o, b < V.heap.size → w'.cell? ⟨b, o, none⟩ = V.cell? ⟨b, o, none⟩ := by
  have hf : flat [(a, xs, c)] = xs := by simp [flat]
  have hp : Parts V (some ⟨P, 0, none⟩) [(a, xs, c)] := by
    refine ⟨fun _ => ⟨P, 0, rfl, World.block_lt_of_cell? V ⟨P, 0, none⟩ hc, ?_⟩, ?_⟩
    · intro i p hi
      match i, hi with
      | 0, hi => simp at hi; subst hi; unfold Part.v; simp only; rw [hm]; exact hc
    · intro p hp
      simp at hp; subst hp
      exact ⟨h, hn⟩
  have h := sum_any (some ⟨P, 0, none⟩) [(a, xs, c)] 1 V hp (by rw [hf]; omega) (by simp) (by rw [hf]; exact hb)
  rw [hf] at h
  refine h.mono ?_
  rintro e w' ⟨rfl, hbel⟩
  exact ⟨rfl, Below.trans hg (hbel.mono hg.size), hbel.size, fun b o h => hbel.cell (p := ⟨b, o, none⟩) h⟩
theorem sumTwo_any (z V : World) (P : Nat) (a1 a2 : Option Addr) (xs ys : List Int) (m1 m2 c1 c2 : Nat) (hg : Good z V) (hc1 : V.cell? ⟨P, 0, none⟩ = some (.slice a1 m1 c1)) (hc2 : V.cell? ⟨P, 1, none⟩ = some (.slice a2 m2 c2)) (l1 : xs.length = m1) (l2 : ys.length = m2) (h1 : Row .u8 V a1 xs) (n1 : a1 = none → c1 = 0) (h2 : Row .u8 V a2 ys) (n2 : a2 = none → c2 = 0)
    (hb : ∀ x ∈ xs ++ ys, 0 ≤ x ∧ x ≤ 255) (hl : m1 + m2 < 1000000000) :
    Calls Try.prog 29 #[.slice (some ⟨P, 0, none⟩) 2 2] V fun e w' => e = .returned (.int .u16 (csum (xs ++ ys))) ∧ Good z w' ∧ V.heap.size ≤ w'.heap.size ∧ ∀ b o, b < V.heap.size → w'.cell? ⟨b, o, none⟩ = V.cell? ⟨b, o, none⟩ := by
  have hf : flat [(a1, xs, c1), (a2, ys, c2)] = xs ++ ys := by simp [flat]
  have hp : Parts V (some ⟨P, 0, none⟩) [(a1, xs, c1), (a2, ys, c2)] := by
    refine ⟨fun _ => ⟨P, 0, rfl, World.block_lt_of_cell? V ⟨P, 0, none⟩ hc1, ?_⟩, ?_⟩
    · intro i p hi
      match i, hi with
      | 0, hi => simp at hi; subst hi; unfold Part.v; simp only; rw [l1]; exact hc1
      | 1, hi => simp at hi; subst hi; unfold Part.v; simp only; rw [l2]; exact hc2
    · intro p hp
      simp at hp
      rcases hp with rfl | rfl
      · exact ⟨h1, n1⟩
      · exact ⟨h2, n2⟩
  have h := sum_any (some ⟨P, 0, none⟩) [(a1, xs, c1), (a2, ys, c2)] 2 V hp (by rw [hf, List.length_append]; omega) (by simp) (by rw [hf]; exact hb)
  rw [hf] at h
  refine h.mono ?_
  rintro e w' ⟨rfl, hbel⟩
  exact ⟨rfl, Below.trans hg (hbel.mono hg.size), hbel.size, fun b o h => hbel.cell (p := ⟨b, o, none⟩) h⟩

set_option maxRecDepth 100000 in
set_option maxHeartbeats 20000000 in
theorem sumOrder_main (a : Option Addr) (xs : List Int) (h : Nat) (cap : Nat) (i k : Int) (w : World) (hr : Row .u8 w a xs) (hb : ∀ x ∈ xs, 0 ≤ x ∧ x ≤ 255) (hlen : xs.length = 2 * h) (hnc : 2 * h ≤ cap) (hcm : cap ≤ 9223372036854775807) (h1 : 1 ≤ h) (h2 : 2 * h ≤ 3000) :
    Calls Try.prog 12 #[.slice a (2 * h) cap, .int .i64 i, .int .i64 k] w fun e w' => e = .returned (.bool true) ∧ Below w.heap.size w w' := by
  obtain ⟨i0, hi, hz0, hz1, hz2⟩ := info_parts Try.info5
  have hand : bits .and .i64 (2 * (h : Int)) 1 = 0 := by
    have := and_one (2 * h) (by omega)
    rw [show 2 * h % 2 = 0 by omega] at this
    exact this
  obtain ⟨ii, hi5, hii⟩ := and_ffff i
  obtain ⟨kk, hk5, hkk⟩ := and_ffff k
  have hqm : ((ii : Int) % (h : Int)) = ((ii % h : Nat) : Int) := (Int.natCast_emod ii h).symm
  have hqt : Int.tmod (ii : Int) (h : Int) = ((ii % h : Nat) : Int) := by rw [Int.tmod_eq_emod_of_nonneg (by omega)]; exact hqm
  have hql : ii % h < h := Nat.mod_lt _ (by omega)
  have hpm : ((kk : Int) % (h : Int)) = ((kk % h : Nat) : Int) := (Int.natCast_emod kk h).symm
  have hpt : Int.tmod (kk : Int) (h : Int) = ((kk % h : Nat) : Int) := by rw [Int.tmod_eq_emod_of_nonneg (by omega)]; exact hpm
  have hpl : kk % h < h := Nat.mod_lt _ (by omega)
  generalize ii % h = q at *
  generalize kk % h = p at *
  obtain ⟨b, off, rfl, hbl, hc⟩ := hr.at (i := 0) (by omega)
  have HR := hide hr
  have HB := hide hb
  have HL := hide hlen
  clear hr hb hlen hc
  have hw1 : IntKind.i64.wrap (2 * (q : Int)) = 2 * (q : Int) := IntWalk.i64_in _ (by omega)
  have hw2 : IntKind.i64.wrap (2 * (p : Int)) = 2 * (p : Int) := IntWalk.i64_in _ (by omega)
  go_enter Try.func12, Try.ntmps12
  go_wp2_with fail
  refine (speaks2_any _).mono ?_
  rintro e w1 ⟨rfl, hbel⟩
  have hown0 : (w1.alloc (.cells #[] 5)).ownsRow w.heap.size 5 1 (.slice (some ⟨w1.heap.size, 0, none⟩) 0 0) 0 [] := World.ownsRow_lit w1 #[] 0 hbel.size (by unfold maxLen; omega) rfl
  have hba := hbel.alloc hbel.size (.cells #[] 5)
  have HCL := hide (row_cells (HR.out.below hba (Nat.le_refl _)))
  have HO0 := hide hown0
  have hxm : (xs.map (Value.int .u8)).length = 2 * h * 1 := by rw [List.length_map, HL.out]; omega
  have HXM := hide hxm
  clear hown0 hxm
  go_wp2_with (at_builtin; refine wpList_append_own _ rfl _ _ 24 rfl w.heap.size 5 i0 (.int .u8 0) 1 1 Try.underlying24 hi hz0 hz1 hz2 rfl (by decide) _ _ _ rfl HO0.out ⟨b, off, none⟩ (2 * h) cap (xs.map (Value.int .u8)) rfl HXM.out HCL.out (ints_one _ _) (by unfold maxLen; omega) (by omega) hba.size ?_)
  intro v' w2 hown2 hgrow hnn
  replace hown2 : w2.ownsRow w.heap.size 5 1 v' (2 * h) (xs.map (Value.int .u8)) := by simpa using hown2
  have hv' : v' ≠ .slice none 0 0 := by
    intro e; subst e
    have := hown2.1
    rcases hown2.2 with ⟨_, h0⟩ | ⟨g, c, cur, hv, _⟩
    · omega
    · cases hv
  obtain ⟨g, c, rfl, hgb, hgc, hcm2⟩ : ∃ g c, v' = .slice (some ⟨g, 0, none⟩) (2 * h) c ∧ w.heap.size ≤ g ∧ 2 * h ≤ c ∧ c ≤ 9223372036854775807 := by
    rcases hown2.2 with ⟨h0, _⟩ | ⟨g, c, cur, hv, hg, _, h3, h4, _⟩
    · exact absurd h0 hv'
    · exact ⟨g, c, hv, hg, h3, by unfold maxLen at h4; omega⟩
  have hb2 : Below w.heap.size w w2 := hba.grown hgrow hba.size (fun j e => (HO0.out.lt j e).1)
  have O2 := hide hown2
  clear hown2 hgrow hv' hnn hba
  go_wp2
  go_quiet (fail)
  go_wp2_with fail
  obtain ⟨wq, hwq, B2q, BWq⟩ : ∃ wq, w2.drewN nq = wq ∧ Below w2.heap.size w2 wq ∧ Below w.heap.size w wq := ⟨_, rfl, bdrewN (Below.refl _ _) _, bdrewN hb2 _⟩
  rw [hwq]
  have OQ := hide (owns_below O2.out B2q (Nat.le_refl _))
  clear hwq B2q hii hkk hqm hqt hpm hpt hand hi5 hk5 O2
  have hcb := row_cells (HR.out.below BWq (Nat.le_refl _))
  have bcell : ∀ j, j < 2 * h → wq.cell? ⟨b, off + j, none⟩ = some (.int .u8 (xs[j]?.getD 0)) := fun j hj => by
    obtain ⟨b', off', he, _, hcc⟩ := (HR.out.below BWq (Nat.le_refl _)).at (i := 0) (by rw [HL.out]; omega)
    cases he
    exact hcc j (by rw [HL.out]; exact hj)
  have ccell : ∀ j, j < 2 * h → wq.cell? ⟨g, j, none⟩ = some (.int .u8 (xs[j]?.getD 0)) := fun j hj => by
    rw [OQ.out.cellAt j (by omega)]
    simp [List.getElem?_map, List.getElem?_eq_getElem (show j < xs.length by rw [HL.out]; exact hj)]
  have hfr : ∀ j, wq.frozen? ⟨g, j, none⟩ = false := fun j => OQ.out.frozenAt j
  have b1 := bcell (2 * q) (by omega)
  have b2 := bcell (2 * q + 1) (by omega)
  have b3 := bcell (2 * p) (by omega)
  have b4 := bcell (2 * p + 1) (by omega)
  have c1 := ccell (2 * q) (by omega)
  have c2 := ccell (2 * q + 1) (by omega)
  have c3 := ccell (2 * p) (by omega)
  have c4 := ccell (2 * p + 1) (by omega)
  have f1 := hfr (2 * q)
  have f2 := hfr (2 * q + 1)
  have f3 := hfr (2 * p)
  have f4 := hfr (2 * p + 1)
  have hw3 : IntKind.i64.wrap (2 * (q : Int) + 1) = 2 * (q : Int) + 1 := IntWalk.i64_in _ (by omega)
  have hw4 : IntKind.i64.wrap (2 * (p : Int) + 1) = 2 * (p : Int) + 1 := IntWalk.i64_in _ (by omega)
  have hgne : b < g := by omega
  have HSW := hide (show ∀ V : World, V.ownsRow w.heap.size 5 1 (.slice (some ⟨g, 0, none⟩) (2 * h) c) (2 * h) (xs.map (Value.int .u8)) →
      ((((V.setCell ⟨g, 2 * q, none⟩ (.int .u8 (xs[2 * p]?.getD 0))).setCell ⟨g, 2 * q + 1, none⟩ (.int .u8 (xs[2 * p + 1]?.getD 0))).setCell ⟨g, 2 * p, none⟩ (.int .u8 (xs[2 * q]?.getD 0))).setCell ⟨g, 2 * p + 1, none⟩ (.int .u8 (xs[2 * q + 1]?.getD 0))).ownsRow w.heap.size 5 1 (.slice (some ⟨g, 0, none⟩) (2 * h) c) (2 * h) ((swp xs q p).map (Value.int .u8)) from fun V hV => by
    have h := ((((hV.stored (2 * q) (.int .u8 (xs[2 * p]?.getD 0))).1.stored (2 * q + 1) (.int .u8 (xs[2 * p + 1]?.getD 0))).1.stored (2 * p) (.int .u8 (xs[2 * q]?.getD 0))).1.stored (2 * p + 1) (.int .u8 (xs[2 * q + 1]?.getD 0))).1
    rw [← List.map_set, ← List.map_set, ← List.map_set, ← List.map_set] at h
    exact h)
  have hcase : q < p ∨ q = p ∨ p < q := by omega
  have hsc := swp_csum xs q p (by rw [HL.out]; omega) (by rw [HL.out]; omega)
  have hsl := swp_len xs q p
  have hsr := swp_rng xs q p HB.out (byte_at HB.out)
  generalize swp xs q p = ys at *
  have HSC := hide hsc
  have HSL := hide hsl
  have HSR := hide hsr
  clear bcell ccell hfr hcb hsc hsl hsr
  go_cut [] (fun wx => Hid (wx.ownsRow w.heap.size 5 1 (.slice (some ⟨g, 0, none⟩) (2 * h) c) (2 * h) (ys.map (Value.int .u8))) ∧ Below w.heap.size w wx)
  case first =>
    rcases hcase with hlt | rfl | hlt
    · generalize xs[2 * q]?.getD 0 = x1 at *
      generalize xs[2 * q + 1]?.getD 0 = x2 at *
      generalize xs[2 * p]?.getD 0 = x3 at *
      generalize xs[2 * p + 1]?.getD 0 = x4 at *
      go_region
      go_wp2_with fail
      go_meet
      exact ⟨hide (HSW.out wq OQ.out).drew, ((((((BWq.setCell (p := ⟨g, 2 * q, none⟩) hgb (.int .u8 x3)).setCell (p := ⟨g, 2 * q + 1, none⟩) hgb (.int .u8 x4)).setCell (p := ⟨g, 2 * p, none⟩) hgb (.int .u8 x1)).setCell (p := ⟨g, 2 * p + 1, none⟩) hgb (.int .u8 x2)).drew))⟩
    · clear b3 b4 c3 c4 f3 f4 hw4 hpl
      generalize xs[2 * q]?.getD 0 = x1 at *
      generalize xs[2 * q + 1]?.getD 0 = x2 at *
      go_region
      go_wp2_with fail
      go_meet
      exact ⟨hide (HSW.out wq OQ.out).drew, ((((((BWq.setCell (p := ⟨g, 2 * q, none⟩) hgb (.int .u8 x1)).setCell (p := ⟨g, 2 * q + 1, none⟩) hgb (.int .u8 x2)).setCell (p := ⟨g, 2 * q, none⟩) hgb (.int .u8 x1)).setCell (p := ⟨g, 2 * q + 1, none⟩) hgb (.int .u8 x2)).drew))⟩
    · generalize xs[2 * q]?.getD 0 = x1 at *
      generalize xs[2 * q + 1]?.getD 0 = x2 at *
      generalize xs[2 * p]?.getD 0 = x3 at *
      generalize xs[2 * p + 1]?.getD 0 = x4 at *
      go_region
      go_wp2_with fail
      go_meet
      exact ⟨hide (HSW.out wq OQ.out).drew, ((((((BWq.setCell (p := ⟨g, 2 * q, none⟩) hgb (.int .u8 x3)).setCell (p := ⟨g, 2 * q + 1, none⟩) hgb (.int .u8 x4)).setCell (p := ⟨g, 2 * p, none⟩) hgb (.int .u8 x1)).setCell (p := ⟨g, 2 * p + 1, none⟩) hgb (.int .u8 x2)).drew))⟩
  case rest =>
    obtain ⟨OZ, BZ⟩ := hcut
    obtain ⟨wz, rfl⟩ : ∃ wz, wz = wc := ⟨_, rfl⟩
    clear b1 b2 b3 b4 c1 c2 c3 c4 f1 f2 f3 f4 hw3 hw4 hcase HSW
    go_wp2_with fail
    have hbs : ∀ W, (Instr.slice 24 (.slice (some ⟨b, off, none⟩) (2 * h) cap) (some (.int .i64 (2 * (q : Int)))) none none).run Try.prog W = .ok (.slice (some ⟨b, off + 2 * q, none⟩) (2 * h - 2 * q) (cap - 2 * q)) W := fun W => tail_run b off (2 * h) cap (2 * q) (2 * (q : Int)) (by omega) (by omega) (by omega) W
    have hbh := head_run b off (2 * h) cap (2 * q) (2 * (q : Int)) (by omega) (by omega) (by omega)
    have G1 := hide (fun (V : World) (P : Nat) (hg : Good wz V) (hc : V.cell? ⟨P, 0, none⟩ = some (.slice (some ⟨b, off, none⟩) (2 * h) cap)) => sumAt_any wz V P _ xs (2 * h) cap hg hc HL.out ((HR.out.below BZ (Nat.le_refl _)).below hg (Nat.le_refl _)) (fun hh => by cases hh) HB.out (by omega))
    have G2 := hide (fun (V : World) (P : Nat) (hg : Good wz V) (hc : V.cell? ⟨P, 0, none⟩ = some (.slice (some ⟨g, 0, none⟩) (2 * h) c)) => by
      have h := sumAt_any wz V P _ ys (2 * h) c hg hc (by rw [HSL.out, HL.out]) ((Row.of_owns OZ.out).below hg (Nat.le_refl _)) (fun hh => by cases hh) HSR.out (by omega)
      rw [HSC.out] at h
      exact h)
    have G3 := hide (fun (V : World) (P : Nat) (hg : Good wz V) (hc1 : V.cell? ⟨P, 0, none⟩ = some (.slice (some ⟨b, off, none⟩) (2 * q) cap)) (hc2 : V.cell? ⟨P, 1, none⟩ = some (.slice (some ⟨b, off + 2 * q, none⟩) (2 * h - 2 * q) (cap - 2 * q))) => by
      have hrw := (HR.out.below BZ (Nat.le_refl _)).below hg (Nat.le_refl _)
      have h := sumTwo_any wz V P _ _ (xs.take (2 * q)) (xs.drop (2 * q)) (2 * q) (2 * h - 2 * q) cap (cap - 2 * q) hg hc1 hc2 (by rw [List.length_take, HL.out]; omega) (by rw [List.length_drop, HL.out]) (row_take hrw _) (fun hh => by cases hh) (row_drop hrw _) (fun hh => by cases hh) (by rw [List.take_append_drop]; exact HB.out) (by omega)
      rw [List.take_append_drop] at h
      exact h)
    have hee : (csum xs == csum xs) = true := by simp
    generalize csum xs = s at *
    have hg0 := Good.refl wz
    go_region_held3 (fun w' => True) (trivial) (first
      | (go_at_call 29; (with_reducible refine (G3.out _ _ ?_ ?_ ?_).mono ?_); (repeat (first | assumption | refine Good.drew ?_ | refine Good.alloc ?_ _)); ((try simp only [cell_drew]); first | (refine cell_new2 ?_ ?_; (focus (simp; done)); rfl) | (refine (cell_old _ _ _ _ ?_).trans ?_; (focus (simp; done)); refine cell_new2 ?_ ?_; (focus (simp; done)); rfl) | (refine (hcV _ _ ?_).trans ?_; (focus first | (simp; done) | (simp; omega)); (try simp only [cell_drew]); first | (refine cell_new2 ?_ ?_; (focus (simp; done)); rfl) | (refine (cell_old _ _ _ _ ?_).trans ?_; (focus (simp; done)); refine cell_new2 ?_ ?_; (focus (simp; done)); rfl))); ((try simp only [cell_drew]); first | (refine cell_new2 ?_ ?_; (focus (simp; done)); rfl) | (refine (cell_old _ _ _ _ ?_).trans ?_; (focus (simp; done)); refine cell_new2 ?_ ?_; (focus (simp; done)); rfl) | (refine (hcV _ _ ?_).trans ?_; (focus first | (simp; done) | (simp; omega)); (try simp only [cell_drew]); first | (refine cell_new2 ?_ ?_; (focus (simp; done)); rfl) | (refine (cell_old _ _ _ _ ?_).trans ?_; (focus (simp; done)); refine cell_new2 ?_ ?_; (focus (simp; done)); rfl))); rintro e V ⟨rfl, hgV, hsV, hcV⟩)
      | (go_at_call 29; (with_reducible refine (G1.out _ _ ?_ ?_).mono ?_); (repeat (first | assumption | refine Good.drew ?_ | refine Good.alloc ?_ _)); ((try simp only [cell_drew]); first | (refine cell_new2 ?_ ?_; (focus (simp; done)); rfl) | (refine (cell_old _ _ _ _ ?_).trans ?_; (focus (simp; done)); refine cell_new2 ?_ ?_; (focus (simp; done)); rfl) | (refine (hcV _ _ ?_).trans ?_; (focus first | (simp; done) | (simp; omega)); (try simp only [cell_drew]); first | (refine cell_new2 ?_ ?_; (focus (simp; done)); rfl) | (refine (cell_old _ _ _ _ ?_).trans ?_; (focus (simp; done)); refine cell_new2 ?_ ?_; (focus (simp; done)); rfl))); rintro e V ⟨rfl, hgV, hsV, hcV⟩)
      | (go_at_call 29; (with_reducible refine (G2.out _ _ ?_ ?_).mono ?_); (repeat (first | assumption | refine Good.drew ?_ | refine Good.alloc ?_ _)); ((try simp only [cell_drew]); first | (refine cell_new2 ?_ ?_; (focus (simp; done)); rfl) | (refine (cell_old _ _ _ _ ?_).trans ?_; (focus (simp; done)); refine cell_new2 ?_ ?_; (focus (simp; done)); rfl) | (refine (hcV _ _ ?_).trans ?_; (focus first | (simp; done) | (simp; omega)); (try simp only [cell_drew]); first | (refine cell_new2 ?_ ?_; (focus (simp; done)); rfl) | (refine (cell_old _ _ _ _ ?_).trans ?_; (focus (simp; done)); refine cell_new2 ?_ ?_; (focus (simp; done)); rfl))); rintro e V ⟨rfl, hgV, hsV, hcV⟩))
    all_goals
      go_wp2
      go_ret
      exact ⟨rfl, BZ.trans (Below.mono hgV BZ.size)⟩

set_option maxHeartbeats 800000 in
theorem sumOrder_any (a : Option Addr) (xs : List Int) (cap : Nat) (i k : Int) (w : World) (hr : Row .u8 w a xs) (hb : ∀ x ∈ xs, 0 ≤ x ∧ x ≤ 255) (hnc : xs.length ≤ cap) (hcm : cap ≤ 9223372036854775807) :
    Calls Try.prog 12 #[.slice a xs.length cap, .int .i64 i, .int .i64 k] w fun e w' => e = .returned (.bool true) ∧ Below w.heap.size w w' := by
  by_cases h2 : xs.length < 2
  · go_enter Try.func12, Try.ntmps12
    go_wp2_with (go_at_call 27; refine (speaks2_any _).mono ?_; rintro e w1 ⟨rfl, hbel⟩)
    go_ret
    exact ⟨rfl, hbel⟩
  · by_cases hl : 3000 < xs.length
    · go_enter Try.func12, Try.ntmps12
      go_wp2_with (go_at_call 27; refine (speaks2_any _).mono ?_; rintro e w1 ⟨rfl, hbel⟩)
      go_ret
      exact ⟨rfl, hbel⟩
    · have hand := and_one xs.length (by omega)
      by_cases hodd : xs.length % 2 = 1
      · rw [hodd] at hand
        clear hodd
        go_enter Try.func12, Try.ntmps12
        go_wp2_with (go_at_call 27; refine (speaks2_any _).mono ?_; rintro e w1 ⟨rfl, hbel⟩)
        go_ret
        exact ⟨rfl, hbel⟩
      · obtain ⟨h, hh⟩ : ∃ h, xs.length = 2 * h := ⟨xs.length / 2, by omega⟩
        rw [hh]
        exact sumOrder_main a xs h cap i k w hr hb hh (by omega) hcm (by omega) (by omega)
end Go.Proofs.Ytpchmajgeanflaa
