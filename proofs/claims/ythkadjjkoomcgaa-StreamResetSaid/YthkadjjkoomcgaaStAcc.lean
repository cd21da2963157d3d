/- How a connection is accepted. -/
import Derived.Test.YthkadjjkoomcgaaStDial
namespace Go.Proofs.Ythkadjjkoomcgaa
open Go.RowKit
set_option linter.unusedVariables false
set_option linter.unusedSimpArgs false
set_option maxRecDepth 100000
def accepted (sf st sq sw own now : Int) : Cn := { out0 own sw with frm := st, to := sf, ph := 1, inum := sq, seen := 1, on := true, at_ := now + 3 }
theorem accepted_syn (sf st sq sw own now : Int) (B : Nat) (w : World) (hc : CnAt w B (accepted sf st sq sw own now)) :
    Calls Try.prog 23 #[.pointer (some ⟨B, 0, none⟩)] w (SegAns w st sf (own % 4294967296) ((sq + 1) % 4294967296) 18 4096 [] 0) := by
  have h := syn_any B _ none 0 0 rfl (by omega) w hc
  have e1 : (accepted sf st sq sw own now).seq 0 = own % 4294967296 := by simp [accepted, out0, Cn.seq]
  rw [e1] at h
  exact h
theorem OnlyB.cell {B k : Nat} {w w' : World} {T : TypeId} {cs : Array Value} (h : OnlyB B w w') (hk : w.heap[k]? = some (.cells cs T (0, 0))) (hn : k ≠ B) : w'.heap[k]? = some (.cells cs T (0, 0)) :=
  (h.block k (lt_of_block hk) hn).trans hk
set_option maxHeartbeats 2000000 in
theorem accept_any (sf st sq sw own now : Int) (x3 x4 x6 x7 x8 : Value) (h0 : 0 ≤ now) (h1 : now + 96 < 18446744073709551616) (s0 : 0 ≤ sw) (s1 : sw ≤ 65535) (w : World) :
    Calls Try.prog 17 #[.agg #[.int .u16 sf, .int .u16 st, .int .u32 sq, x3, x4, .int .u16 sw, x6, x7, x8], .int .u32 own, .int .u64 now] w fun e w' => ∃ a cp, BeganAns (accepted sf st sq sw own now) #[.int .u16 st, .int .u16 sf, .int .u32 (own % 4294967296), .int .u32 ((sq + 1) % 4294967296), .int .u8 18, .int .u16 4096, .int .u16 0, .slice none 0 0, .slice a 0 cp] w e w' := by
  obtain ⟨wx, hxx, hbx, hnx⟩ : ∃ V, w.alloc (.cells #[.int .u16 sf, .int .u16 st, .int .u32 sq, x3, x4, .int .u16 sw, x6, x7, x8] 44) = V ∧ Below w.heap.size w V ∧ V.heap[w.heap.size]? = some (.cells #[.int .u16 sf, .int .u16 st, .int .u32 sq, x3, x4, .int .u16 sw, x6, x7, x8] 44 (0, 0)) := ⟨_, rfl, (Below.refl _ _).alloc (Nat.le_refl _) _, heap_alloc_new _ _⟩
  have HX := hide hxx
  obtain ⟨S, hS⟩ : ∃ S, w.heap.size = S := ⟨_, rfl⟩
  rw [hS] at hnx
  have HS := hide hS
  have hl : S < wx.heap.size := lt_of_block hnx
  have HN := hide hnx
  have HB := hide hbx
  have k0 := cell_at hnx 0 rfl
  have k1 := cell_at hnx 1 rfl
  have hw64 := wraps_u64 sw s0 (by omega)
  clear hxx hnx hbx hS
  go_enter Try.func17, Try.ntmps17
  go_upto_region 1 with (fail)
  rw [HX.out]
  try rw [HS.out]
  clear HX
  go_region_held3 (fun w' => w'.cell? ⟨S, 0, none⟩ = some (.int .u16 sf) ∧ w'.cell? ⟨S, 1, none⟩ = some (.int .u16 st)) (go_keep) (first
    | (go_at_call 21; (with_reducible refine (newOut_any own _).mono ?_); rintro e w1 ⟨rfl, b1⟩; have j0 : w1.cell? ⟨S, 0, none⟩ = some (.int .u16 sf) := ((bcells b1).1 S 0 hl).trans k0; have j1 : w1.cell? ⟨S, 1, none⟩ = some (.int .u16 st) := ((bcells b1).1 S 1 hl).trans k1)
    | fail)
  have hb1 : Below wx.heap.size wx w1 := (Below.refl wx.heap.size wx).drew.trans b1
  obtain ⟨w2, hqq, hbel, hnew⟩ : ∃ V, w1.alloc (.cells ({ out0 own 0 with frm := st, to := sf, ph := 1 } : Cn).cs 70) = V ∧ Below w1.heap.size w1 V ∧ CnAt V w1.heap.size { out0 own 0 with frm := st, to := sf, ph := 1 } := ⟨_, rfl, (Below.refl _ _).alloc (Nat.le_refl _) _, heap_alloc_new _ _⟩
  unfold Cn.cs out0 at hqq
  dsimp only at hqq
  have HQ := hide hqq
  have HB2 := hide ((HB.out.trans (hb1.mono HB.out.size)).trans (hbel.mono (HB.out.trans (hb1.mono HB.out.size)).size))
  have HN2 := hide (below_block hbel (below_block hb1 HN.out (Nat.le_refl _)) (Nat.le_refl _))
  have HC := hide hnew
  have HL := hide (show w.heap.size ≤ w1.heap.size from Nat.le_trans HB.out.size hb1.size)
  have hSl := hide (show S < w1.heap.size from Nat.lt_of_lt_of_le hl hb1.size)
  obtain ⟨B, hB⟩ : ∃ B, w1.heap.size = B := ⟨_, rfl⟩
  rw [hB] at HC HL hSl
  have HBB := hide hB
  have hne : S ≠ B := by have := hSl.out; omega
  clear b1 hb1 hqq hnew hbel hB k0 k1 j0 j1 hl HB HN
  go_upto_region 2 with (fail)
  rw [HQ.out]
  try rw [HBB.out]
  clear HQ HBB
  have k5 := cell_at HN2.out 5 rfl
  have f10 := HC.out.free 10
  have t10 := HC.out.all.2.2.2.2.2.2.2.2.2.2.1
  have HC2 := hide (show CnAt (w2.setCell ⟨B, 10, none⟩ (.int .u64 sw)) B { out0 own sw with frm := st, to := sf, ph := 1 } from heap_set HC.out 10 (.int .u64 sw) rfl)
  have HO := hide ((OnlyB.refl B w2).setCell 10 (.int .u64 sw))
  go_upto_region 3 with (fail)
  obtain ⟨w3, hw3⟩ : ∃ V, w2.setCell ⟨B, 10, none⟩ (.int .u64 sw) = V := ⟨_, rfl⟩
  rw [hw3] at HC2 HO ⊢
  have HB3 := hide (HB2.out.trans (HO.out.below HL.out HB2.out.size))
  have HN3 := hide (HO.out.cell HN2.out hne)
  clear hw3 k5 f10 t10 HC HO HN2 HB2 hw64
  have k2 := cell_at HN3.out 2 rfl
  have HD := hide (show CnAt w3.drew B { out0 own sw with frm := st, to := sf, ph := 1 } from HC2.out)
  go_region_held3 (fun w' => w'.cell? ⟨S, 2, none⟩ = some (.int .u32 sq)) (go_keep) (first
    | (go_at_call 32; (with_reducible refine (begin_any B _ sq _ HD.out).mono ?_); rintro e w4 ⟨rfl, c4, o4⟩; have j2 := cell_at (OnlyB.cell ((OnlyB.refl B w3).drew.trans o4) HN3.out hne) 2 rfl)
    | fail)
  have HC4 := hide c4
  have HB4 := hide (HB3.out.trans (OnlyB.below ((OnlyB.refl B w3).drew.trans o4) HL.out HB3.out.size))
  clear c4 o4 j2 k2 HD HC2 HB3 HN3
  go_wp2_with fail
  refine (set_any B _ now 0 rfl (by omega) h0 h1 _ HC4.out).mono ?_
  rintro e w5 ⟨rfl, c5, o5⟩
  have HC5 := hide (show CnAt w5 B (accepted sf st sq sw own now) from c5)
  have HB5 := hide (HB4.out.trans (o5.below HL.out HB4.out.size))
  clear c5 o5 HC4 HB4
  go_wp2_with fail
  refine (accepted_syn sf st sq sw own now B _ HC5.out).mono ?_
  rintro e w6 ⟨a', cap', rfl, o, b6⟩
  have HC6 := hide (HC5.out.below b6 (Nat.le_refl _))
  have HB6 := hide (HB5.out.trans (b6.mono HB5.out.size))
  clear o b6
  unfold sgv
  go_wp2_with fail
  go_ret2
  exact ⟨a', cap', B, w6.heap.size, rfl, HL.out, HC6.out.below ((Below.refl _ _).alloc (Nat.le_refl _) _) (Nat.le_refl _), HB6.out.size, heap_alloc_new _ _, HB6.out.alloc HB6.out.size _⟩
end Go.Proofs.Ythkadjjkoomcgaa
