/- inet: InetWrites. -/
import Derived.Test.YtlipckpacdioiaaDoorIAp
namespace Go.Proofs.YtlipckpacdioiaaDoor
open Go.RowKit
set_option linter.unusedVariables false
set_option linter.unusedSimpArgs false
set_option maxRecDepth 100000
def RLong (w : World) (e : Ending) (w' : World) : Prop := ∃ g, e = .returned (.tuple #[.slice (some ⟨g, 0, none⟩) 0 0, .int .i64 14]) ∧ Below w.heap.size w w'
theorem rwip_long (w : World) (tt P id s d : Nat) (da : Option Addr) (n dc : Nat) (h : 1480 < n) :
    Calls Tryd.prog 11 #[.agg (pkV tt P id s d da n dc)] w (RLong w) := by
  unfold pkV
  go_enter Tryd.func11, Tryd.ntmps11
  go_wp2
  go_ret2
  exact ⟨_, rfl, ((Below.refl _ _).alloc (Nat.le_refl _) _).alloc (by simp) _⟩
theorem rwrite_ok (w : World) (tt P id s d : Nat) (da : Option Addr) (xs : List Int) (n dc : Nat) (hk : PkOk tt P id s d) (hL : Lies w da xs n dc) (hl : xs.length = n) (h1 : n ≤ 1480) :
    Calls Tryd.prog 11 #[.agg (pkV tt P id s d da n dc)] w (WrOk (ipG tt P id s d xs) (20 + n) w) :=
  rwip_ok w tt P id s d da xs n dc hL.row hL.no hl h1 hk.ht hk.hP hk.hid hk.hs hk.hd
theorem same_self (w : World) (tt P id s d : Nat) (a b : Option Addr) (xs : List Int) (n c f : Nat) (h1 : Row .u8 w a xs) (h2 : Row .u8 w b xs) (hl : xs.length = n) (hb : ∀ x ∈ xs, 0 ≤ x ∧ x ≤ 255) :
    Calls Tryd.prog 12 #[.agg (pkV tt P id s d a n c), .agg (pkV tt P id s d b n f)] w (Yes w) := by
  have h := same_any w tt P id s d tt P id s d a b xs xs n n c f h1 h2 hl hl hb hb
  refine h.mono fun e w' ⟨he, hbl⟩ => ⟨?_, hbl⟩
  rw [he]; simp
/-- The box of the packet's copy, its Body laid anew. -/
theorem box_body {w : World} {B tt P id s d n dc m c : Nat} {da ea : Option Addr} {t : TypeId} (h : w.heap[B]? = some (.cells (pkV tt P id s d da n dc) t (0, 0))) : (w.setCell ⟨B, 5, none⟩ (.slice ea m c)).heap[B]? = some (.cells (pkV tt P id s d ea m c) t (0, 0)) := by
  exact cells_set h
set_option maxHeartbeats 8000000 in
theorem inetWrites_any (w : World) (tt P id s d : Nat) (da : Option Addr) (xs : List Int) (n dc : Nat) (hk : PkOk tt P id s d) (hL : Lies w da xs n dc) (hl : xs.length = n) (hb : ∀ x ∈ xs, 0 ≤ x ∧ x ≤ 255) (ht : PT w) :
    Calls Tryd.prog 3 #[.agg (pkV tt P id s d da n dc)] w (Yes w) := by
  obtain ⟨wq, hqq, hbel, hnew⟩ : ∃ V, w.alloc (.cells (pkV tt P id s d da n dc) 27) = V ∧ Below w.heap.size w V ∧ V.heap[w.heap.size]? = some (.cells (pkV tt P id s d da n dc) 27 (0, 0)) := ⟨_, rfl, (Below.refl _ _).alloc (Nat.le_refl _) _, heap_alloc_new _ _⟩
  have HS := hide (speaks_any wq (ht.below hbel (Nat.le_refl _)))
  have HQ := hide hqq
  have HB := hide hbel
  have HN := hide hnew
  have HLq := hide (hL.below hbel (Nat.le_refl _))
  have HL0 := hide hL
  have HK := hide hk
  have HL := hide hl
  have HXB := hide hb
  obtain ⟨B, hB⟩ : ∃ B, w.heap.size = B := ⟨_, rfl⟩
  rw [hB] at HN
  have HBB := hide hB
  clear hqq hbel hnew hL hl hb ht hk hB
  unfold pkV at HQ
  go_enter Tryd.func3, Tryd.ntmps3
  unfold pkV
  go_upto_region 1 with (fail)
  rw [HQ.out]
  rw [HBB.out]
  clear HQ
  go_wp2_with fail
  refine HS.out.mono ?_
  rintro e w1 ⟨rfl, b1⟩
  have HB1 := hide (HB.out.trans (b1.mono HB.out.size))
  have HN1 := hide (below_block b1 HN.out (Nat.le_refl _))
  have HL1 := hide (HLq.out.below b1 (Nat.le_refl _))
  clear b1 HS HB HN HLq
  obtain ⟨z0, z1, z2, z3, z4, z5⟩ := pk_cells HN1.out
  by_cases h3 : 3000 < n
  · have d1 : decide ((3000 : Int) < (n : Int)) = true := by simp; omega
    go_wp2_with fail
    go_ret
    exact ⟨rfl, HB1.out⟩
  have d1 : decide ((3000 : Int) < (n : Int)) = false := by simp; omega
  obtain ⟨w2, hw2, hb2, hn2⟩ : ∃ V, w1.alloc (.cells (pkV tt P id s d da n dc) 27) = V ∧ Below w1.heap.size w1 V ∧ V.heap[w1.heap.size]? = some (.cells (pkV tt P id s d da n dc) 27 (0, 0)) := ⟨_, rfl, (Below.refl _ _).alloc (Nat.le_refl _) _, heap_alloc_new _ _⟩
  have HB2 := hide (HB1.out.trans (hb2.mono HB1.out.size))
  have HN2 := hide (below_block hb2 HN1.out (Nat.le_refl _))
  have HL2 := hide (HL1.out.below hb2 (Nat.le_refl _))
  have HGw := hide HB1.out.size
  have HlB := hide (lt_of_block HN1.out)
  obtain ⟨G, hG⟩ : ∃ G, w1.heap.size = G := ⟨_, rfl⟩
  rw [hG] at hn2 HGw HlB
  have HG2 := hide hn2
  unfold pkV at hw2
  have HE := hide (And.intro hw2 hG)
  clear hw2 hb2 hn2 hG
  go_upto_region 6 with (fail)
  rw [HE.out.1]
  try rw [HE.out.2]
  clear HE z0 z1 z2 z3 z4 z5 HN1 HL1 HB1
  have z5 := (pk_cells HN2.out).2.2.2.2.2
  have u5 := (pk_cells HG2.out).2.2.2.2.2
  obtain ⟨v3, w3, hrun, o3, b3, hkeep⟩ := app_own2 (w2.alloc (.cells #[] 5)) w2.heap.size (.slice (some ⟨w2.heap.size, 0, none⟩) 0 0) 0 [] (World.ownsRow_lit w2 #[] 0 (Nat.le_refl _) (by unfold maxLen; omega) rfl) da xs n dc (HL2.out.row.below ((Below.refl _ _).alloc (Nat.le_refl _) _) (Nat.le_refl _)) HL.out HL2.out.no (by omega) (by simp)
  obtain ⟨a3, c3, rfl⟩ := slice_form o3
  rw [Nat.zero_add] at o3 hrun
  rw [List.nil_append] at o3
  have hbz : Below w2.heap.size w2 w3 := ((Below.refl _ _).alloc (Nat.le_refl _) _).trans b3
  have HRUN := hide hrun
  have HO3 := hide o3
  have HB3 := hide (HB2.out.trans (hbz.mono HB2.out.size))
  have HN3 := hide (below_block hbz HN2.out (Nat.le_refl _))
  have HG3 := hide (below_block hbz HG2.out (Nat.le_refl _))
  have HL3 := hide (HL2.out.below hbz (Nat.le_refl _))
  have hlG := lt_of_block HG2.out
  have q5 := (pk_cells HG3.out).2.2.2.2.2
  have qf := free_at HG3.out 5
  have HO4 := hide (owns_set (g := G) (i := 5) (u := .slice a3 n c3) o3 hlG)
  have HG4 := hide (box_body (ea := a3) (m := n) (c := c3) HG3.out)
  have hBG : B ≠ G := by have := HlB.out; omega
  have HN4 := hide ((heap_setCell_other w3 ⟨G, 5, none⟩ B (.slice a3 n c3) hBG).trans HN3.out)
  have HB4 := hide (HB3.out.setCell (p := ⟨G, 5, none⟩) HGw.out (.slice a3 n c3))
  have HL4 := hide (HL0.out.below HB4.out (Nat.le_refl _))
  clear hrun o3 b3 hkeep hbz z5 HB3 HN3 HG3 hlG hBG
  have z5 := (pk_cells HN2.out).2.2.2.2.2
  have hBlt := lt_of_block HN2.out
  clear HN2 HG2 HB2
  go_upto_region 7 with (at_builtin; refine Lib.wpList_append_run _ rfl _ _ _ _ rfl _ _ rfl rfl _ _ HRUN.out ?_)
  obtain ⟨w4, hw4⟩ : ∃ V, w3.setCell ⟨G, 5, none⟩ (.slice a3 n c3) = V := ⟨_, rfl⟩
  rw [hw4] at HO4 HG4 HN4 HB4 HL4 ⊢
  have HI4 := hide (Lies.of_owns HO4.out)
  clear hw4 HRUN HO3 HL3 HL2 qf q5 u5 z5 hBlt
  obtain ⟨y0, y1, y2, y3, y4, y5⟩ := pk_cells HG4.out
  by_cases hn : n ≤ 1480
  · have HW := hide (write_ok w4 tt P id s d a3 xs n c3 HK.out HI4.out HL.out hn)
    unfold pkV at HW
    go_wp2_with fail
    refine HW.out.mono ?_
    rintro e w5 ⟨a5, c5, rfl, o5, b5⟩
    have HB5 := hide (HB4.out.trans (b5.mono HB4.out.size))
    have HN5 := hide (below_block b5 HN4.out (Nat.le_refl _))
    have HG5 := hide (below_block b5 HG4.out (Nat.le_refl _))
    have HI5 := hide (HI4.out.below b5 (Nat.le_refl _))
    have HJ5 := hide (Lies.of_owns o5)
    clear b5 o5 HW y0 y1 y2 y3 y4 y5 HO4 HI4 HG4 HN4 HB4 HL4
    obtain ⟨z0, z1, z2, z3, z4, z5⟩ := pk_cells HN5.out
    have HRW := hide (rwrite_ok w5 tt P id s d da xs n dc HK.out (HL0.out.below HB5.out (Nat.le_refl _)) HL.out hn)
    unfold pkV at HRW
    go_wp2_with fail
    refine HRW.out.mono ?_
    rintro e w6 ⟨a6, c6, rfl, o6, b6⟩
    have HB6 := hide (HB5.out.trans (b6.mono HB5.out.size))
    have HN6 := hide (below_block b6 HN5.out (Nat.le_refl _))
    have HG6 := hide (below_block b6 HG5.out (Nat.le_refl _))
    have HI6 := hide (HI5.out.below b6 (Nat.le_refl _))
    have HJ6 := hide (HJ5.out.below b6 (Nat.le_refl _))
    have HM6 := hide (Lies.of_owns o6)
    have HL6 := hide (HL0.out.below HB6.out (Nat.le_refl _))
    clear b6 o6 HRW z0 z1 z2 z3 z4 z5 HB5 HN5 HG5 HI5 HJ5
    have e1 := conv_any a5 (ipG tt P id s d xs) c5 w6 HJ6.out.row
    have e2 := conv_any a6 (ipG tt P id s d xs) c6 w6 HM6.out.row
    rw [ipG_len, HL.out] at e1 e2
    have HSM := hide (same_self w6 tt P id s d a3 da xs n c3 dc HI6.out.row HL6.out.row HL.out HXB.out)
    unfold pkV at HSM
    generalize strOfNums (ipG tt P id s d xs) = SA at *
    obtain ⟨y0, y1, y2, y3, y4, y5⟩ := pk_cells HG6.out
    obtain ⟨z0, z1, z2, z3, z4, z5⟩ := pk_cells HN6.out
    go_wp2_with fail
    refine HSM.out.mono ?_
    rintro e w7 ⟨rfl, b7⟩
    have HB7 := hide (HB6.out.trans (b7.mono HB6.out.size))
    have HN7 := hide (below_block b7 HN6.out (Nat.le_refl _))
    have hj7 := HJ6.out.below b7 (Nat.le_refl _)
    rw [ipG_ipM, HL.out] at hj7
    have HRD := hide (rdM_ok tt P id s d 16384 xs n HK.out (by omega) HL.out hn HXB.out (by omega) w7 a5 c5 hj7)
    clear b7 hj7 e1 e2 HSM y0 y1 y2 y3 y4 y5 z0 z1 z2 z3 z4 z5 HI6 HJ6 HM6 HL6 HB6 HN6 HG6
    go_wp2_with fail
    refine HRD.out.mono ?_
    rintro e w8 ⟨a8, c8, rfl, o8, b8⟩
    have HB8 := hide (HB7.out.trans (b8.mono HB7.out.size))
    have HN8 := hide (below_block b8 HN7.out (Nat.le_refl _))
    have hI8 := Lies.of_owns o8
    obtain ⟨w9, hw9, hb9, hn9⟩ : ∃ V, w8.alloc (.cells (pkV tt P id s d a8 n c8) 27) = V ∧ Below w8.heap.size w8 V ∧ V.heap[w8.heap.size]? = some (.cells (pkV tt P id s d a8 n c8) 27 (0, 0)) := ⟨_, rfl, (Below.refl _ _).alloc (Nat.le_refl _) _, heap_alloc_new _ _⟩
    have HB9 := hide (HB8.out.trans (hb9.mono HB8.out.size))
    have HI9 := hide (hI8.below hb9 (Nat.le_refl _))
    have HL9 := hide (HL0.out.below HB9.out (Nat.le_refl _))
    have HSM := hide (same_self w9 tt P id s d a8 da xs n c8 dc HI9.out.row HL9.out.row HL.out HXB.out)
    have HN9 := hide (below_block hb9 HN8.out (Nat.le_refl _))
    have HG9 := hide hn9
    unfold pkV at hw9 HSM
    have HE := hide hw9
    clear b8 o8 hw9 hb9 hn9 hI8 HRD HB7 HN7 HB8 HN8
    go_upto_region 14 with (fail)
    rw [HE.out]
    obtain ⟨y0, y1, y2, y3, y4, y5⟩ := pk_cells HG9.out
    obtain ⟨z0, z1, z2, z3, z4, z5⟩ := pk_cells HN9.out
    go_wp2_with fail
    refine HSM.out.mono ?_
    rintro e wz ⟨rfl, bz⟩
    have HBz := hide (HB9.out.trans (bz.mono HB9.out.size))
    clear bz y0 y1 y2 y3 y4 y5 z0 z1 z2 z3 z4 z5
    go_wp2_with fail
    go_ret
    exact ⟨rfl, HBz.out⟩
  · have HW := hide (write_long w4 tt P id s d a3 n c3 (by omega))
    unfold pkV at HW
    go_wp2_with fail
    refine HW.out.mono ?_
    rintro e w5 ⟨rfl, b5⟩
    have HB5 := hide (HB4.out.trans (b5.mono HB4.out.size))
    have HN5 := hide (below_block b5 HN4.out (Nat.le_refl _))
    have HG5 := hide (below_block b5 HG4.out (Nat.le_refl _))
    have HI5 := hide (HI4.out.below b5 (Nat.le_refl _))
    clear b5 HW y0 y1 y2 y3 y4 y5 HO4 HI4 HG4 HN4 HB4 HL4
    obtain ⟨z0, z1, z2, z3, z4, z5⟩ := pk_cells HN5.out
    have HRW := hide (rwip_long w5 tt P id s d da n dc (by omega))
    unfold pkV at HRW
    go_wp2_with fail
    refine HRW.out.mono ?_
    rintro e w6 ⟨g6, rfl, b6⟩
    have HB6 := hide (HB5.out.trans (b6.mono HB5.out.size))
    have HN6 := hide (below_block b6 HN5.out (Nat.le_refl _))
    have HG6 := hide (below_block b6 HG5.out (Nat.le_refl _))
    have HI6 := hide (HI5.out.below b6 (Nat.le_refl _))
    have HL6 := hide (HL0.out.below HB6.out (Nat.le_refl _))
    clear b6 HRW z0 z1 z2 z3 z4 z5 HB5 HN5 HG5 HI5
    have e1 := conv_any none [] 0 w6 (fun h => absurd rfl h)
    have e2 := conv_any (some ⟨g6, 0, none⟩) [] 0 w6 (fun h => absurd rfl h)
    rw [List.length_nil] at e1 e2
    have HSM := hide (same_self w6 tt P id s d a3 da xs n c3 dc HI6.out.row HL6.out.row HL.out HXB.out)
    unfold pkV at HSM
    generalize strOfNums [] = SA at *
    obtain ⟨y0, y1, y2, y3, y4, y5⟩ := pk_cells HG6.out
    obtain ⟨z0, z1, z2, z3, z4, z5⟩ := pk_cells HN6.out
    go_wp2_with fail
    refine HSM.out.mono ?_
    rintro e w7 ⟨rfl, b7⟩
    have HB7 := hide (HB6.out.trans (b7.mono HB6.out.size))
    clear b7 e1 e2 HSM y0 y1 y2 y3 y4 y5 z0 z1 z2 z3 z4 z5
    go_wp2_with fail
    go_ret
    exact ⟨rfl, HB7.out⟩
end Go.Proofs.YtlipckpacdioiaaDoor
