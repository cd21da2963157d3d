/- What the document's WriteUDP and SameUDP answer. -/
import Derived.Test.YtgggcapgaikbeaaPk06
import Derived.Test.YtgggcapgaikbeaaPk12
import Derived.Test.YtgggcapgaikbeaaPk02
import Derived.Test.YtgggcapgaikbeaaPk07
import Derived.Test.YtgggcapgaikbeaaPk16
import Derived.Test.YtgggcapgaikbeaaPk19
import Derived.Deep.RegionHeld3
namespace Go.Proofs.Ytgggcapgaikbeaa
open Go.RowKit
set_option linter.unusedVariables false
set_option linter.unusedSimpArgs false
set_option maxRecDepth 100000
/-- An append onto a row of one's own: it runs, and other blocks stay. -/
theorem two_eight (n : Nat) (w : World) (hn : n ≤ 100000) :
    Calls Try.prog 61 #[.int .i64 (8 + (n : Int))] w fun e w' => ∃ g c, e = .returned (.slice (some ⟨g, 0, none⟩) 2 c) ∧ w'.ownsRow w.heap.size 5 1 (.slice (some ⟨g, 0, none⟩) 2 c) 2 ((numB 2 (8 + n)).map (Value.int .u8)) ∧ Below w.heap.size w w' := by
  have h := two_any (8 + n) w (by omega)
  rw [show ((8 + n : Nat) : Int) = 8 + (n : Int) by omega] at h
  exact h
theorem rwudp_long (w : World) (s d : Int) (p q : Int) (pl : Bool) (da : Option Addr) (n dc : Nat) (h : 1472 < n) :
    Calls Try.prog 36 #[.int .u32 s, .int .u32 d, .agg #[.int .u16 p, .int .u16 q, .bool pl, .slice da n dc]] w fun e w' => ∃ g, e = .returned (.tuple #[.slice (some ⟨g, 0, none⟩) 0 0, .int .i64 14]) ∧ Below w.heap.size w w' := by
  go_enter Try.func36, Try.ntmps36
  go_wp2
  go_ret2
  exact ⟨_, rfl, ((Below.refl _ _).alloc (Nat.le_refl _) _).alloc (by simp) _⟩

set_option maxHeartbeats 1600000 in
theorem rwudp_plain (w : World) (src dst p q : Nat) (da : Option Addr) (xs : List Int) (n dc : Nat) (hr : Row .u8 w da xs) (hn : da = none → dc = 0) (hl : xs.length = n) (h1 : n ≤ 1472) (hs : src ≤ 4294967295) (hd : dst ≤ 4294967295) (hp : p ≤ 65535) (hq : q ≤ 65535) :
    Calls Try.prog 36 #[.int .u32 src, .int .u32 dst, .agg #[.int .u16 (p : Int), .int .u16 (q : Int), .bool true, .slice da n dc]] w fun e w' => ∃ a c,
      e = .returned (.tuple #[.slice a (8 + n) c, .int .i64 0]) ∧ w'.ownsRow w.heap.size 5 1 (.slice a (8 + n) c) (8 + n) ((udpZ p q xs).map (Value.int .u8)) ∧ Below w.heap.size w w' := by
  have HR := hide hr
  have HN := hide hn
  have HL := hide hl
  have hZL := udpZ_len p q xs
  rw [HL.out] at hZL
  have HZL := hide hZL
  clear hr hn hl hZL
  go_enter Try.func36, Try.ntmps36
  go_wp2_with fail
  obtain ⟨B0, w0, hB, hqq, hl0, hbel, hheap⟩ : ∃ B0 wq, w.heap.size = B0 ∧ w.alloc (.cells #[.int .u16 (p : Int), .int .u16 (q : Int), .bool true, .slice da n dc] 63) = wq ∧ B0 < wq.heap.size ∧ Below w.heap.size w wq ∧
      wq.heap[B0]? = some (.cells #[.int .u16 (p : Int), .int .u16 (q : Int), .bool true, .slice da n dc] 63 (0, 0)) := ⟨_, _, rfl, rfl, by simp, (Below.refl _ _).alloc (Nat.le_refl _) _, heap_alloc_new _ _⟩
  rw [hqq, hB]
  have HB := hide hB
  have HH := hide hheap
  obtain ⟨k0_0, k0_1, k0_2, k0_3, kf⟩ := four_cells hheap
  have RS := hide (HR.out.below hbel (Nat.le_refl _))
  have BE := hide hbel
  have hw1 : IntKind.i64.wrap (p : Int) = (p : Int) := IntWalk.i64_in _ (by omega)
  have hw2 : IntKind.i64.wrap (q : Int) = (q : Int) := IntWalk.i64_in _ (by omega)
  clear hqq hB hheap hbel kf
  go_region_held3 (fun w' => w'.cell? ⟨B0, 0, none⟩ = some (.int .u16 p) ∧ w'.cell? ⟨B0, 1, none⟩ = some (.int .u16 q)) (go_keep) (first
    | (go_at_call 61; (with_reducible refine (two_any p _ ?_).mono ?_); omega; rintro e w1 ⟨g1, c1, rfl, o, b⟩; have k10 := (bcell b B0 0 hl0).trans k0_0; have k11 := (bcell b B0 1 hl0).trans k0_1; have hb1 : Below w0.heap.size w0 w1 := below_of_drew b; have B1 := hide hb1; have O1 := hide o; have hl1 : B0 < w1.heap.size := Nat.lt_of_lt_of_le hl0 hb1.size; clear o b hb1)
    | (go_at_call 61; (with_reducible refine (two_any q _ ?_).mono ?_); omega; rintro e w2 ⟨g2, c2, rfl, o, b⟩; have k20 := (bcell b B0 0 hl1).trans k10; have k21 := (bcell b B0 1 hl1).trans k11; have B2 := hide (B1.out.trans (b.mono B1.out.size)); have hx := app_own w2 w0.heap.size _ 2 _ (owns_below O1.out b (Nat.le_refl _)) (some ⟨g2, 0, none⟩) (numB 2 q) 2 c2 (Row.of_owns o) (numB_len _ _) (fun h => by cases h) (by omega) B2.out.size; have HX := hide hx; clear o b hx)
    | (refine step_append_ex rfl (.tmp 18) (.tmp 22) 25 25 rfl _ _ rfl rfl _ HX.out ?_; rintro v3 w3 HP; have BF : Below w0.heap.size w0 w3 := B2.out.trans HP.2; have k30 := (bcell BF B0 0 hl0).trans k0_0; have k31 := (bcell BF B0 1 hl0).trans k0_1; have OT := hide HP.1; have BT := hide BF; clear HP BF)
    | fail)
  obtain ⟨a3, c3, rfl⟩ := slice_form OT.out
  have k33 := (bcell BT.out B0 3 hl0).trans k0_3
  have hl3 : B0 < w3.heap.size := Nat.lt_of_lt_of_le hl0 BT.out.size
  have RS3 := hide (RS.out.below BT.out (Nat.le_refl _))
  have hw8 : IntKind.i64.wrap (8 + (n : Int)) = 8 + (n : Int) := IntWalk.i64_in _ (by omega)
  clear k10 k11 k20 k21 k30 k31 hw1 hw2 B1 B2 O1 HX
  go_wp2_with fail
  go_cut [8] (fun bv wx => ∃ a c, bv = .slice a (8 + n) c ∧ Hid (wx.ownsRow w0.heap.size 5 1 (.slice a (8 + n) c) (8 + n) ((udpZ p q xs).map (Value.int .u8))) ∧ Hid (Below w0.heap.size w0 wx))
  case first =>
    go_region_held3 (fun w' => w'.cell? ⟨B0, 3, none⟩ = some (.slice da n dc)) (go_keep) (first
      | (go_at_call 61; (with_reducible refine (two_eight n _ ?_).mono ?_); omega; rintro e w4 ⟨g4, c4, rfl, o, b⟩; have b34 : Below w3.heap.size w3 w4 := (by first | exact b | exact below_of_drew b | exact bel_lit b | exact below_of_drew (bel_lit b) | exact bel_lit (below_of_drew b)); have k43 := (bcell b34 B0 3 hl3).trans k33; have B4 := hide (BT.out.trans (b34.mono BT.out.size)); have O4 := hide (owns_below OT.out b34 (Nat.le_refl _)); have hne := hide (fun (L : Nat) (h : w3.heap.size ≤ L) => own_ne OT.out h); have R4 := hide (Row.of_owns o); have hl4 : B0 < w4.heap.size := Nat.lt_of_lt_of_le hl3 b34.size; have hs4 := b34.size; (first | (have LB := hide (litB b)) | (have LB := hide (litB_d b)) | skip); clear o b b34; have HXa := hide (app_own2 w4 w0.heap.size _ (2 + 2) _ O4.out (some ⟨g4, 0, none⟩) (numB 2 (8 + n)) 2 c4 R4.out (numB_len _ _) (fun h => by cases h) (by omega) B4.out.size); have HXb := hide (app_own2 (w4.alloc (.cells #[.int .u8 0, .int .u8 0] 5)) w0.heap.size _ (2 + 2) _ (O4.out.alloc _) (some ⟨g4, 0, none⟩) (numB 2 (8 + n)) 2 c4 (R4.out.below ((Below.refl _ _).alloc (Nat.le_refl _) _) (Nat.le_refl _)) (numB_len _ _) (fun h => by cases h) (by omega) (Nat.le_trans B4.out.size (by simp))))
      | (refine step_append_ex rfl (.tmp 24) (.tmp 29) 25 25 rfl _ _ rfl rfl _ HXa.out ?_; rintro v5 w5 HP; have BF : Below w0.heap.size w0 w5 := B4.out.trans HP.2.1; have k53 := (bcell BF B0 3 hl0).trans k0_3; have O5 := hide HP.1; have B5 := hide BF; have hl5 : B0 < w5.heap.size := Nat.lt_of_lt_of_le hl0 BF.size; (first | (have LB := hide (HP.2.2 _ _ LB.out (hne.out _ (Nat.le_refl _)));  have HY := hide (app_own2 w5 w0.heap.size _ (2 + 2 + 2) _ O5.out (some ⟨_, 0, none⟩) [0, 0] 2 2 (row_two LB.out) rfl (fun h => by cases h) (by omega) B5.out.size)) | (have HY := hide (app_own2 (w5.alloc (.cells #[.int .u8 0, .int .u8 0] 5)) w0.heap.size _ (2 + 2 + 2) _ (O5.out.alloc _) (some ⟨w5.heap.size, 0, none⟩) [0, 0] 2 2 (row_two (heap_alloc_new w5 _)) rfl (fun h => by cases h) (by omega) (Nat.le_trans B5.out.size (by simp))))); clear HP BF)
      | (refine step_append_ex rfl (.tmp 24) (.tmp 29) 25 25 rfl _ _ rfl rfl _ HXb.out ?_; rintro v5 w5 HP; have BF : Below w0.heap.size w0 w5 := (B4.out.alloc B4.out.size _).trans HP.2.1; have k53 := (bcell BF B0 3 hl0).trans k0_3; have O5 := hide HP.1; have B5 := hide BF; have hl5 : B0 < w5.heap.size := Nat.lt_of_lt_of_le hl0 BF.size; have LB := hide (HP.2.2 _ _ (heap_alloc_new w4 _) (hne.out _ hs4)); have HY := hide (app_own2 w5 w0.heap.size _ (2 + 2 + 2) _ O5.out (some ⟨w4.heap.size, 0, none⟩) [0, 0] 2 2 (row_two LB.out) rfl (fun h => by cases h) (by omega) B5.out.size); clear HP BF)
      | (refine step_append_ex rfl (.tmp 30) (.tmp 31) 25 25 rfl _ _ rfl rfl _ HY.out ?_; rintro v6 w6 HP; have BF : Below w0.heap.size w0 w6 := (by first | exact B5.out.trans HP.2.1 | exact (B5.out.alloc B5.out.size _).trans HP.2.1); have k63 := (bcell BF B0 3 hl0).trans k0_3; have O6 := hide HP.1; have B6 := hide BF; have hl6 : B0 < w6.heap.size := Nat.lt_of_lt_of_le hl0 BF.size; have HZ := hide (app_own w6 w0.heap.size _ (2 + 2 + 2 + 2) _ O6.out da xs n dc (RS.out.below BF (Nat.le_refl _)) HL.out HN.out (by omega) B6.out.size); clear HP BF)
      | (refine step_append_ex rfl (.tmp 32) (.tmp 34) 25 25 rfl _ _ rfl rfl _ HZ.out ?_; rintro v7 w7 HP; have BF : Below w0.heap.size w0 w7 := B6.out.trans HP.2; have k73 := (bcell BF B0 3 hl0).trans k0_3; have O7 := hide HP.1; have B7 := hide BF; clear HP BF)
      | fail)
    all_goals
      have e7 : (((numB 2 p ++ numB 2 q) ++ numB 2 (8 + n)) ++ [0, 0]) ++ xs = udpZ p q xs := by
        have h0 : numB 2 0 = [0, 0] := rfl
        simp [udpZ, h0, HL.out]
      have hz := O7.out
      rw [e7, show 2 + 2 + 2 + 2 + n = 8 + n by omega] at hz
      obtain ⟨a7, c7, rfl⟩ := slice_form hz
      have OZ := hide hz
      clear hz e7
      try go_wp2_with fail
      go_meet
      exact ⟨a7, c7, rfl, OZ, B7⟩
  case rest =>
    obtain ⟨a7, c7, rfl, OP, BP⟩ := hcut
    have OZ := hide (owns_mono OP.out BE.out.size)
    have BZ := hide (BE.out.trans (BP.out.mono BE.out.size))
    have kz2 : wc.cell? ⟨B0, 2, none⟩ = some (.bool true) := (bcell BP.out B0 2 hl0).trans k0_2
    clear k0_0 k0_1 k0_2 k0_3 k33
    go_wp2
    go_ret2
    exact ⟨a7, c7, rfl, OZ.out, BZ.out⟩

set_option maxHeartbeats 1600000 in
theorem rwudp_sum (w : World) (src dst p q : Nat) (da : Option Addr) (xs : List Int) (n dc : Nat) (hr : Row .u8 w da xs) (hn : da = none → dc = 0) (hl : xs.length = n) (hb : ∀ x ∈ xs, 0 ≤ x ∧ x ≤ 255) (h1 : n ≤ 1472) (hs : src ≤ 4294967295) (hd : dst ≤ 4294967295) (hp : p ≤ 65535) (hq : q ≤ 65535) :
    Calls Try.prog 36 #[.int .u32 src, .int .u32 dst, .agg #[.int .u16 (p : Int), .int .u16 (q : Int), .bool false, .slice da n dc]] w fun e w' => ∃ a c,
      e = .returned (.tuple #[.slice a (8 + n) c, .int .i64 0]) ∧ w'.ownsRow w.heap.size 5 1 (.slice a (8 + n) c) (8 + n) ((udpS src dst p q xs).map (Value.int .u8)) ∧ Below w.heap.size w w' := by
  have HR := hide hr
  have HN := hide hn
  have HL := hide hl
  have HBR := hide (udpZ_rng p q xs hb)
  clear hb
  have hZL := udpZ_len p q xs
  rw [HL.out] at hZL
  have HZL := hide hZL
  clear hr hn hl hZL
  go_enter Try.func36, Try.ntmps36
  go_wp2_with fail
  obtain ⟨B0, w0, hB, hqq, hl0, hbel, hheap⟩ : ∃ B0 wq, w.heap.size = B0 ∧ w.alloc (.cells #[.int .u16 (p : Int), .int .u16 (q : Int), .bool false, .slice da n dc] 63) = wq ∧ B0 < wq.heap.size ∧ Below w.heap.size w wq ∧
      wq.heap[B0]? = some (.cells #[.int .u16 (p : Int), .int .u16 (q : Int), .bool false, .slice da n dc] 63 (0, 0)) := ⟨_, _, rfl, rfl, by simp, (Below.refl _ _).alloc (Nat.le_refl _) _, heap_alloc_new _ _⟩
  rw [hqq, hB]
  have HB := hide hB
  have HH := hide hheap
  obtain ⟨k0_0, k0_1, k0_2, k0_3, kf⟩ := four_cells hheap
  have RS := hide (HR.out.below hbel (Nat.le_refl _))
  have BE := hide hbel
  have hw1 : IntKind.i64.wrap (p : Int) = (p : Int) := IntWalk.i64_in _ (by omega)
  have hw2 : IntKind.i64.wrap (q : Int) = (q : Int) := IntWalk.i64_in _ (by omega)
  clear hqq hB hheap hbel kf
  go_region_held3 (fun w' => w'.cell? ⟨B0, 0, none⟩ = some (.int .u16 p) ∧ w'.cell? ⟨B0, 1, none⟩ = some (.int .u16 q)) (go_keep) (first
    | (go_at_call 61; (with_reducible refine (two_any p _ ?_).mono ?_); omega; rintro e w1 ⟨g1, c1, rfl, o, b⟩; have k10 := (bcell b B0 0 hl0).trans k0_0; have k11 := (bcell b B0 1 hl0).trans k0_1; have hb1 : Below w0.heap.size w0 w1 := below_of_drew b; have B1 := hide hb1; have O1 := hide o; have hl1 : B0 < w1.heap.size := Nat.lt_of_lt_of_le hl0 hb1.size; clear o b hb1)
    | (go_at_call 61; (with_reducible refine (two_any q _ ?_).mono ?_); omega; rintro e w2 ⟨g2, c2, rfl, o, b⟩; have k20 := (bcell b B0 0 hl1).trans k10; have k21 := (bcell b B0 1 hl1).trans k11; have B2 := hide (B1.out.trans (b.mono B1.out.size)); have hx := app_own w2 w0.heap.size _ 2 _ (owns_below O1.out b (Nat.le_refl _)) (some ⟨g2, 0, none⟩) (numB 2 q) 2 c2 (Row.of_owns o) (numB_len _ _) (fun h => by cases h) (by omega) B2.out.size; have HX := hide hx; clear o b hx)
    | (refine step_append_ex rfl (.tmp 18) (.tmp 22) 25 25 rfl _ _ rfl rfl _ HX.out ?_; rintro v3 w3 HP; have BF : Below w0.heap.size w0 w3 := B2.out.trans HP.2; have k30 := (bcell BF B0 0 hl0).trans k0_0; have k31 := (bcell BF B0 1 hl0).trans k0_1; have OT := hide HP.1; have BT := hide BF; clear HP BF)
    | fail)
  obtain ⟨a3, c3, rfl⟩ := slice_form OT.out
  have k33 := (bcell BT.out B0 3 hl0).trans k0_3
  have hl3 : B0 < w3.heap.size := Nat.lt_of_lt_of_le hl0 BT.out.size
  have RS3 := hide (RS.out.below BT.out (Nat.le_refl _))
  have hw8 : IntKind.i64.wrap (8 + (n : Int)) = 8 + (n : Int) := IntWalk.i64_in _ (by omega)
  clear k10 k11 k20 k21 k30 k31 hw1 hw2 B1 B2 O1 HX
  go_wp2_with fail
  go_cut [8] (fun bv wx => ∃ a c, bv = .slice a (8 + n) c ∧ Hid (wx.ownsRow w0.heap.size 5 1 (.slice a (8 + n) c) (8 + n) ((udpZ p q xs).map (Value.int .u8))) ∧ Hid (Below w0.heap.size w0 wx))
  case first =>
    go_region_held3 (fun w' => w'.cell? ⟨B0, 3, none⟩ = some (.slice da n dc)) (go_keep) (first
      | (go_at_call 61; (with_reducible refine (two_eight n _ ?_).mono ?_); omega; rintro e w4 ⟨g4, c4, rfl, o, b⟩; have b34 : Below w3.heap.size w3 w4 := (by first | exact b | exact below_of_drew b | exact bel_lit b | exact below_of_drew (bel_lit b) | exact bel_lit (below_of_drew b)); have k43 := (bcell b34 B0 3 hl3).trans k33; have B4 := hide (BT.out.trans (b34.mono BT.out.size)); have O4 := hide (owns_below OT.out b34 (Nat.le_refl _)); have hne := hide (fun (L : Nat) (h : w3.heap.size ≤ L) => own_ne OT.out h); have R4 := hide (Row.of_owns o); have hl4 : B0 < w4.heap.size := Nat.lt_of_lt_of_le hl3 b34.size; have hs4 := b34.size; (first | (have LB := hide (litB b)) | (have LB := hide (litB_d b)) | skip); clear o b b34; have HXa := hide (app_own2 w4 w0.heap.size _ (2 + 2) _ O4.out (some ⟨g4, 0, none⟩) (numB 2 (8 + n)) 2 c4 R4.out (numB_len _ _) (fun h => by cases h) (by omega) B4.out.size); have HXb := hide (app_own2 (w4.alloc (.cells #[.int .u8 0, .int .u8 0] 5)) w0.heap.size _ (2 + 2) _ (O4.out.alloc _) (some ⟨g4, 0, none⟩) (numB 2 (8 + n)) 2 c4 (R4.out.below ((Below.refl _ _).alloc (Nat.le_refl _) _) (Nat.le_refl _)) (numB_len _ _) (fun h => by cases h) (by omega) (Nat.le_trans B4.out.size (by simp))))
      | (refine step_append_ex rfl (.tmp 24) (.tmp 29) 25 25 rfl _ _ rfl rfl _ HXa.out ?_; rintro v5 w5 HP; have BF : Below w0.heap.size w0 w5 := B4.out.trans HP.2.1; have k53 := (bcell BF B0 3 hl0).trans k0_3; have O5 := hide HP.1; have B5 := hide BF; have hl5 : B0 < w5.heap.size := Nat.lt_of_lt_of_le hl0 BF.size; (first | (have LB := hide (HP.2.2 _ _ LB.out (hne.out _ (Nat.le_refl _)));  have HY := hide (app_own2 w5 w0.heap.size _ (2 + 2 + 2) _ O5.out (some ⟨_, 0, none⟩) [0, 0] 2 2 (row_two LB.out) rfl (fun h => by cases h) (by omega) B5.out.size)) | (have HY := hide (app_own2 (w5.alloc (.cells #[.int .u8 0, .int .u8 0] 5)) w0.heap.size _ (2 + 2 + 2) _ (O5.out.alloc _) (some ⟨w5.heap.size, 0, none⟩) [0, 0] 2 2 (row_two (heap_alloc_new w5 _)) rfl (fun h => by cases h) (by omega) (Nat.le_trans B5.out.size (by simp))))); clear HP BF)
      | (refine step_append_ex rfl (.tmp 24) (.tmp 29) 25 25 rfl _ _ rfl rfl _ HXb.out ?_; rintro v5 w5 HP; have BF : Below w0.heap.size w0 w5 := (B4.out.alloc B4.out.size _).trans HP.2.1; have k53 := (bcell BF B0 3 hl0).trans k0_3; have O5 := hide HP.1; have B5 := hide BF; have hl5 : B0 < w5.heap.size := Nat.lt_of_lt_of_le hl0 BF.size; have LB := hide (HP.2.2 _ _ (heap_alloc_new w4 _) (hne.out _ hs4)); have HY := hide (app_own2 w5 w0.heap.size _ (2 + 2 + 2) _ O5.out (some ⟨w4.heap.size, 0, none⟩) [0, 0] 2 2 (row_two LB.out) rfl (fun h => by cases h) (by omega) B5.out.size); clear HP BF)
      | (refine step_append_ex rfl (.tmp 30) (.tmp 31) 25 25 rfl _ _ rfl rfl _ HY.out ?_; rintro v6 w6 HP; have BF : Below w0.heap.size w0 w6 := (by first | exact B5.out.trans HP.2.1 | exact (B5.out.alloc B5.out.size _).trans HP.2.1); have k63 := (bcell BF B0 3 hl0).trans k0_3; have O6 := hide HP.1; have B6 := hide BF; have hl6 : B0 < w6.heap.size := Nat.lt_of_lt_of_le hl0 BF.size; have HZ := hide (app_own w6 w0.heap.size _ (2 + 2 + 2 + 2) _ O6.out da xs n dc (RS.out.below BF (Nat.le_refl _)) HL.out HN.out (by omega) B6.out.size); clear HP BF)
      | (refine step_append_ex rfl (.tmp 32) (.tmp 34) 25 25 rfl _ _ rfl rfl _ HZ.out ?_; rintro v7 w7 HP; have BF : Below w0.heap.size w0 w7 := B6.out.trans HP.2; have k73 := (bcell BF B0 3 hl0).trans k0_3; have O7 := hide HP.1; have B7 := hide BF; clear HP BF)
      | fail)
    all_goals
      have e7 : (((numB 2 p ++ numB 2 q) ++ numB 2 (8 + n)) ++ [0, 0]) ++ xs = udpZ p q xs := by
        have h0 : numB 2 0 = [0, 0] := rfl
        simp [udpZ, h0, HL.out]
      have hz := O7.out
      rw [e7, show 2 + 2 + 2 + 2 + n = 8 + n by omega] at hz
      obtain ⟨a7, c7, rfl⟩ := slice_form hz
      have OZ := hide hz
      clear hz e7
      try go_wp2_with fail
      go_meet
      exact ⟨a7, c7, rfl, OZ, B7⟩
  case rest =>
    obtain ⟨a7, c7, rfl, OP, BP⟩ := hcut
    have OZ := hide (owns_mono OP.out BE.out.size)
    have BZ := hide (BE.out.trans (BP.out.mono BE.out.size))
    have kz2 : wc.cell? ⟨B0, 2, none⟩ = some (.bool false) := (bcell BP.out B0 2 hl0).trans k0_2
    clear k0_0 k0_1 k0_2 k0_3 k33
    have hrs := rsum_any src dst 17 (8 + n) c7 a7 (udpZ p q xs) wc (Row.of_owns OZ.out) (none_cap OZ.out) HZL.out HBR.out hs hd (by omega) (by omega)
    have HRS := hide hrs
    clear hrs
    go_wp2_with fail
    refine HRS.out.mono ?_
    rintro e w8 ⟨rfl, b8⟩
    have O8 := hide (owns_below OZ.out b8 (Nat.le_refl _))
    have B8 := hide (BZ.out.trans (b8.mono BZ.out.size))
    clear b8
    have hcr := csum_rng (psB src dst 17 (8 + n) ++ udpZ p q xs)
    have hKr := udpK_rng src dst p q xs
    have hKe : toldI (csum (psB src dst 17 (8 + n) ++ udpZ p q xs)) = udpK src dst p q xs := by unfold udpK; rw [HL.out]
    have HS : Hid (spl (udpZ p q xs) 6 (numB 2 (udpK src dst p q xs).toNat) = udpS src dst p q xs) := hide rfl
    have hKn : udpK src dst p q xs = (((udpK src dst p q xs).toNat : Nat) : Int) := by omega
    have hKle : (udpK src dst p q xs).toNat ≤ 65535 := by omega
    generalize udpK src dst p q xs = KK at *
    generalize csum (psB src dst 17 (8 + n) ++ udpZ p q xs) = K at *
    obtain ⟨k, hkk⟩ : ∃ k, KK.toNat = k := ⟨_, rfl⟩
    rw [hkk] at hKn hKle HS
    have hly : ∀ (W : World), W.ownsRow w.heap.size 5 1 (.slice a7 (8 + n) c7) (8 + n) ((udpZ p q xs).map (Value.int .u8)) → Calls Try.prog 49 #[.slice a7 (8 + n) c7, .int .i64 6, .int .u16 (k : Int)] W fun e w' => e = .returned (.slice a7 (8 + n) c7) ∧ w'.ownsRow w.heap.size 5 1 (.slice a7 (8 + n) c7) (8 + n) ((udpS src dst p q xs).map (Value.int .u8)) ∧ Below w.heap.size W w' := fun W o => by
      have h := rlay_any w.heap.size (8 + n) c7 6 a7 (udpZ p q xs) k W o (by omega) (by omega) hKle
      rw [HS.out] at h
      exact h
    have HLY := hide hly
    clear hly
    have HKN := hide hKn
    have HKE := hide hKe
    have hc0 := hcr.1
    have hc1 := hcr.2
    clear hkk hKn hKe hcr hKr
    by_cases h0 : K = 0
    · have hKv : k = 65535 := by have := HKE.out; rw [h0] at this; have h2 := HKN.out; unfold toldI at this; simp at this; omega
      have htest : (K == 0) = true := by simpa using h0
      subst h0
      have HLX := hide (HLY.out w8 O8.out)
      rw [hKv] at HLX
      clear hKv
      go_wp2_with fail
      refine HLX.out.mono ?_
      rintro e w9 ⟨rfl, o9, b9⟩
      have O9 := hide o9
      have B9 := hide (B8.out.trans b9)
      clear o9 b9
      go_wp2
      go_ret2
      exact ⟨a7, c7, rfl, O9.out, B9.out⟩
    · have hKv : K = (k : Int) := by have := HKE.out; have h2 := HKN.out; unfold toldI at this; rw [if_neg h0] at this; omega
      have htest : ((k : Int) == 0) = false := by rw [← hKv]; simpa using h0
      have HLX := hide (HLY.out w8 O8.out)
      rw [hKv]
      clear h0 hKv
      go_wp2_with fail
      refine HLX.out.mono ?_
      rintro e w9 ⟨rfl, o9, b9⟩
      have O9 := hide o9
      have B9 := hide (B8.out.trans b9)
      clear o9 b9
      go_wp2
      go_ret2
      exact ⟨a7, c7, rfl, O9.out, B9.out⟩
end Go.Proofs.Ytgggcapgaikbeaa

/- A message that is written is read back; an echo's flow. No program is named. -/
namespace Go.Proofs.Ytgggcapgaikbeaa
open Go.RowKit
set_option linter.unusedVariables false
set_option linter.unusedSimpArgs false
set_option maxRecDepth 100000
theorem fld_byte (x : Nat) (r : List Int) : fld ((x : Int) :: r) 0 1 = x := by unfold fld valB; simp
theorem icmpG_0 (p q r : Nat) (xs : List Int) (k : Nat) : fld (icmpG p q r xs k) 0 1 = p := fld_byte p _
theorem icmpG_1 (p q r : Nat) (xs : List Int) (k : Nat) : fld (icmpG p q r xs k) 1 1 = q := by
  have h := fld_skip [(p : Int)] ((q : Int) :: (numB 2 k ++ (numB 4 r ++ xs))) 0 1 1 rfl
  rw [fld_byte] at h; exact h
theorem icmpG_2 (p q r : Nat) (xs : List Int) (k : Nat) (hk : k ≤ 65535) : fld (icmpG p q r xs k) 2 2 = k := by
  unfold icmpG; rw [fld_skip _ _ 0 2 2 (by rfl), fld_num 2 k _ (by omega)]
theorem icmpG_4 (p q r : Nat) (xs : List Int) (k : Nat) (hr : r ≤ 4294967295) : fld (icmpG p q r xs k) 4 4 = r := by
  unfold icmpG; rw [fld_skip _ _ 2 2 4 (by rfl), fld_skip _ _ 0 2 4 (numB_len _ _), fld_num 4 r _ (by omega)]
theorem icmpG_8 (p q r : Nat) (xs : List Int) (k : Nat) : (icmpG p q r xs k).drop 8 = xs := by
  have e : icmpG p q r xs k = ([(p : Int), (q : Int)] ++ (numB 2 k ++ numB 4 r)) ++ xs := by simp [icmpG]
  rw [e, List.drop_left' (by simp [numB_len])]
theorem icmpG_psum (p q r : Nat) (xs : List Int) (k : Nat) (hk : k ≤ 65535) : psum (icmpG p q r xs k) = psum (icmpG p q r xs 0) + k := by
  unfold icmpG
  rw [psum_append _ _ (by simp), psum_append _ _ (by rw [numB_len]), psum_append _ (numB 2 0 ++ _) (by simp), psum_append (numB 2 0) _ (by rw [numB_len]), psum_num2 _ hk, psum_num2 0 (by omega)]
  omega
theorem icmpK_ok (p q r : Nat) (xs : List Int) (hb : ∀ x ∈ icmpG p q r xs 0, 0 ≤ x ∧ x ≤ 255) : csum (icmpG p q r xs (icmpK p q r xs).toNat) = 0 := by
  have h1 := csum_rng (icmpG p q r xs 0)
  have hP := (psum_rng _ hb).1
  have hk : ((icmpK p q r xs).toNat : Int) = csum (icmpG p q r xs 0) := by unfold icmpK; omega
  have h2 : csum (icmpG p q r xs (icmpK p q r xs).toNat) = 65535 - f16 (psum (icmpG p q r xs 0) + csum (icmpG p q r xs 0)) := by
    unfold csum at *
    rw [icmpG_psum _ _ _ _ _ (by omega), hk]
  rw [h2]
  exact right_good _ _ hP rfl
theorem icmpB_rng (p q r : Nat) (xs : List Int) (hp : p ≤ 255) (hq : q ≤ 255) (hb : ∀ x ∈ xs, 0 ≤ x ∧ x ≤ 255) : ∀ x ∈ icmpB p q r xs, 0 ≤ x ∧ x ≤ 255 := icmpG_rng p q r xs _ hp hq hb
theorem icmpB_code (p q r : Nat) (xs : List Int) (hp : p ≤ 255) (hq : q ≤ 255) (hb : ∀ x ∈ xs, 0 ≤ x ∧ x ≤ 255) (hl : xs.length ≤ 1472) : msgCode (icmpB p q r xs) = 0 := by
  have h := icmpB_len p q r xs
  unfold msgCode
  rw [if_neg (by omega), if_neg (by omega), if_pos (show csum (icmpB p q r xs) = 0 from icmpK_ok p q r xs (icmpG_rng p q r xs 0 hp hq hb))]
theorem icmpB_of (p q r : Nat) (xs : List Int) (hp : p ≤ 255) (hq : q ≤ 255) (hr : r ≤ 4294967295) (hb : ∀ x ∈ xs, 0 ≤ x ∧ x ≤ 255) (hl : xs.length ≤ 1472) : msgOf (icmpB p q r xs) = ⟨p, q, r, xs⟩ := by
  unfold msgOf
  rw [if_pos (icmpB_code p q r xs hp hq hb hl)]
  unfold icmpB
  rw [icmpG_0, icmpG_1, icmpG_4 _ _ _ _ _ hr, icmpG_8]
/-- A question's flow, and an answer's. -/
theorem echo_flow (kind S D id : Nat) (hid : id ≤ 65535) (hk : kind = 8 ∨ kind = 0) :
    ofFl 1 S D (icmpB kind 0 (id * 65536) [120]) = ⟨1, S, D, if kind = 8 then id else 0, if kind = 0 then id else 0⟩ ∧ ofKind 1 S D (icmpB kind 0 (id * 65536) [120]) = 2 ∧ ofErr 1 S D (icmpB kind 0 (id * 65536) [120]) = 0 := by
  have hk2 : kind ≤ 255 := by omega
  have hb : ∀ x ∈ ([120] : List Int), 0 ≤ x ∧ x ≤ 255 := by simp
  have h1 := icmpB_code kind 0 (id * 65536) [120] hk2 (by omega) hb (by simp)
  have h2 := icmpB_of kind 0 (id * 65536) [120] hk2 (by omega) (by omega) hb (by simp)
  have he : isErr kind = false := by rcases hk with rfl | rfl <;> rfl
  have hq : qok kind 0 = true := by rcases hk with rfl | rfl <;> rfl
  have e1 : icErr (icmpB kind 0 (id * 65536) [120]) = 0 := by unfold icErr msgOk; rw [if_pos h1, h2]; simp [he, hq]
  have e2 : ofErr 1 S D (icmpB kind 0 (id * 65536) [120]) = 0 := by unfold ofErr; rw [if_neg (by omega), if_neg (by omega), if_pos rfl, e1]
  refine ⟨?_, ?_, e2⟩
  · unfold ofFl
    rw [e2, if_pos rfl, if_neg (by omega), if_neg (by omega)]
    unfold icFl msgFl
    rw [if_pos h1, h2]
    simp only [he, qfrom, qto]
    rw [show id * 65536 / 65536 = id by omega]
    rcases hk with rfl | rfl <;> rfl
  · unfold ofKind
    rw [e2, if_pos rfl, if_neg (by omega)]
    unfold icKind msgKind
    rw [if_pos h1, h2]
    simp [he]
end Go.Proofs.Ytgggcapgaikbeaa

/- The laws of icmp: the example; sizes; echoes; what is told. -/
namespace Go.Proofs.Ytgggcapgaikbeaa
open Go.RowKit
set_option linter.unusedVariables false
set_option linter.unusedSimpArgs false
set_option maxRecDepth 100000
theorem rwicmp_long (w : World) (p q r : Int) (da : Option Addr) (n dc : Nat) (h : 1472 < n) :
    Calls Try.prog 26 #[.agg #[.int .u8 p, .int .u8 q, .int .u32 r, .slice da n dc]] w fun e w' => ∃ g, e = .returned (.tuple #[.slice (some ⟨g, 0, none⟩) 0 0, .int .i64 14]) ∧ Lies w' (some ⟨g, 0, none⟩) [] 0 0 ∧ Below w.heap.size w w' := by
  go_enter Try.func26, Try.ntmps26
  go_wp2
  go_ret2
  exact ⟨_, rfl, ⟨fun h => absurd rfl h, nofun, Nat.le_refl _, by omega⟩, ((Below.refl _ _).alloc (Nat.le_refl _) _).alloc (by simp) _⟩
def spU : List Int := udpS 5 6 1 2 []
theorem spU_len : spU.length = 8 := by kernel_rfl
theorem spU_rng : ∀ x ∈ spU, 0 ≤ x ∧ x ≤ 255 := by decide +kernel
theorem spU_may : icMay 17 5 6 spU = true := by kernel_rfl
set_option maxHeartbeats 1600000 in
theorem speaks13 (w : World) : Calls Try.prog 18 #[] w fun e w' => e = .returned (.bool true) ∧ Below w.heap.size w w' := by
  have HWU := hide (rwudp_sum w 5 6 1 2 none [] 0 0 (fun h => absurd rfl h) (fun _ => rfl) rfl (by simp) (by omega) (by omega) (by omega) (by omega) (by omega))
  have HEX := hide (fun (W : World) (a : Option Addr) (c : Nat) (hL : Lies W a spU 8 c) => exc_yes W 9 28 1 17 0 5 6 a spU 8 c hL spU_len spU_rng (by omega) (by omega) (by omega) (by omega) (by omega) spU_may (by omega))
  have HB := hide (Below.refl w.heap.size w)
  go_enter Try.func18, Try.ntmps18
  go_wp2_with fail
  refine (HWU.out).mono ?_
  rintro e w1 ⟨a, c, rfl, o, b⟩
  replace HB := hide (HB.out.trans (b.mono HB.out.size))
  have RP := hide (Lies.of_owns o)
  clear b o
  go_wp2_with fail
  refine (HEX.out _ a c RP.out).mono ?_
  rintro e w2 ⟨a2, c2, rfl, o, b⟩
  replace RP := hide (RP.out.below b (Nat.le_refl _))
  replace HB := hide (HB.out.trans (b.mono HB.out.size))
  clear b o
  clear RP
  obtain ⟨w3, hwn, wb, HN1⟩ : ∃ W, w2.alloc (.cells #[.int .u8 64, .int .u8 1, .int .u16 0, .int .u32 9, .int .u32 5, .slice a2 (8 + 28) c2] 27) = W ∧ Below w2.heap.size w2 W ∧ Hid (W.heap[w2.heap.size]? = some (.cells #[.int .u8 64, .int .u8 1, .int .u16 0, .int .u32 9, .int .u32 5, .slice a2 (8 + 28) c2] 27 (0, 0))) := ⟨_, rfl, (Below.refl w2.heap.size w2).alloc (Nat.le_refl _) _, hide (heap_alloc_new w2 _)⟩
  obtain ⟨BQ, hBn⟩ : ∃ B, w2.heap.size = B := ⟨_, rfl⟩
  rw [hBn] at HN1
  have HW := hide (And.intro hwn hBn)
  have HBo := HB
  clear hwn hBn
  replace HB := hide (HB.out.trans (wb.mono HB.out.size))
  have HQ := HN1
  have NQ := hide (show w.heap.size ≤ BQ by rw [← HW.out.2]; exact HBo.out.size)
  clear wb HN1 HBo
  go_upto_region 3 with (fail)
  rw [HW.out.1]
  try rw [HW.out.2]
  clear HW
  have qQ_3 : w3.cell? ⟨BQ, 3, none⟩ = some (.int .u32 9) := cell_at HQ.out 3 rfl
  have qQ_4 : w3.cell? ⟨BQ, 4, none⟩ = some (.int .u32 5) := cell_at HQ.out 4 rfl
  have qQ_5 : w3.cell? ⟨BQ, 5, none⟩ = some (.slice a2 (8 + 28) c2) := cell_at HQ.out 5 rfl
  go_wp2_with fail
  go_ret
  exact ⟨rfl, HB.out⟩
set_option maxHeartbeats 1600000 in
theorem icmpSizes_long (w : World) (own code tt P id s d : Nat) (da : Option Addr) (n dc : Nat) (hn : 3000 < n) :
    Calls Try.prog 9 #[.int .u32 (own : Int), .agg #[.int .u8 (tt : Int), .int .u8 (P : Int), .int .u16 (id : Int), .int .u32 (s : Int), .int .u32 (d : Int), .slice da n dc], .int .u8 (code : Int)] w fun e w' => e = .returned (.bool true) ∧ Below w.heap.size w w' := by
  have hd3 : decide ((3000 : Int) < (n : Int)) = true := by simp; omega
  obtain ⟨V1, hV1⟩ : ∃ V, w.alloc (.cells #[.int .u8 (tt : Int), .int .u8 (P : Int), .int .u16 (id : Int), .int .u32 (s : Int), .int .u32 (d : Int), .slice da n dc] 27) = V := ⟨_, rfl⟩
  have hz1 : V1.heap.size = w.heap.size + 1 := by rw [← hV1]; simp
  have hb1 : Below w.heap.size w V1 := by rw [← hV1]; exact (Below.refl _ _).alloc (Nat.le_refl _) _
  have hp1_1 : V1.heap[w.heap.size]? = some (.cells #[.int .u8 (tt : Int), .int .u8 (P : Int), .int .u16 (id : Int), .int .u32 (s : Int), .int .u32 (d : Int), .slice da n dc] 27 (0, 0)) := by rw [← hV1]; exact heap_alloc_new _ _
  obtain ⟨BX, hBX⟩ : ∃ B, w.heap.size = B := ⟨_, rfl⟩
  have hw0 : w.heap.size ≤ BX := by omega
  have HX := hide (show V1.heap[BX]? = some (.cells #[.int .u8 (tt : Int), .int .u8 (P : Int), .int .u16 (id : Int), .int .u32 (s : Int), .int .u32 (d : Int), .slice da n dc] 27 (0, 0)) by rw [← hBX]; exact hp1_1)
  have NX : Hid (w.heap.size ≤ BX) := hide hw0
  have HB := hide hb1
  have HE := hide (And.intro (And.intro trivial trivial) (And.intro hV1 (And.intro hBX (trivial))))
  clear hw0 hV1 hz1 hb1  hp1_1 hBX 
  go_enter Try.func9, Try.ntmps9
  go_upto_region 1 with (fail)
  rw [HE.out.2.1]
  try rw [HE.out.2.2.1]
  clear HE
  go_wp2_with fail
  refine (speaks13 _).mono ?_
  rintro e w1 ⟨rfl, b⟩
  replace HX := hide (below_block b HX.out (Nat.le_refl _))
  replace HB := hide (HB.out.trans (b.mono HB.out.size))
  clear b 
  have qX_5 : w1.cell? ⟨BX, 5, none⟩ = some (.slice da n dc) := cell_at HX.out 5 rfl
  go_wp2_with fail
  go_ret
  exact ⟨rfl, HB.out⟩
set_option maxHeartbeats 4000000 in
theorem icmpSizes_no (w : World) (own code : Nat) (tt P id s d : Nat) (da : Option Addr) (xs : List Int) (n dc : Nat) (hLx : Lies w da xs n dc) (hl : xs.length = n) (hb : ∀ x ∈ xs, 0 ≤ x ∧ x ≤ 255) (ht : tt ≤ 255) (hP : P ≤ 255) (hid : id ≤ 65535) (hs : s ≤ 4294967295) (hd : d ≤ 4294967295) (hc : code ≤ 255) (hn : ¬ 3000 < n) (hm : icMay P s d xs = false) :
    Calls Try.prog 9 #[.int .u32 (own : Int), .agg #[.int .u8 (tt : Int), .int .u8 (P : Int), .int .u16 (id : Int), .int .u32 (s : Int), .int .u32 (d : Int), .slice da n dc], .int .u8 (code : Int)] w fun e w' => e = .returned (.bool true) ∧ Below w.heap.size w w' := by
  have hd3 : decide ((3000 : Int) < (n : Int)) = false := by simp; omega
  have HT := hide (fun (W : World) (hL : Lies W da xs n dc) => unr_no W own code tt P id s d da xs n dc hL hl hb ht hP hid hs hd hm)
  have HMA := hide (fun (W : World) (hL : Lies W da xs n dc) => may_any W tt P id s d da xs n dc hL hl hb ht hP hid hs hd)
  rw [hm] at HMA
  clear hm hl hb hn
  obtain ⟨V1, hV1⟩ : ∃ V, w.alloc (.cells #[.int .u8 (tt : Int), .int .u8 (P : Int), .int .u16 (id : Int), .int .u32 (s : Int), .int .u32 (d : Int), .slice da n dc] 27) = V := ⟨_, rfl⟩
  have hz1 : V1.heap.size = w.heap.size + 1 := by rw [← hV1]; simp
  have hb1 : Below w.heap.size w V1 := by rw [← hV1]; exact (Below.refl _ _).alloc (Nat.le_refl _) _
  have hp1_1 : V1.heap[w.heap.size]? = some (.cells #[.int .u8 (tt : Int), .int .u8 (P : Int), .int .u16 (id : Int), .int .u32 (s : Int), .int .u32 (d : Int), .slice da n dc] 27 (0, 0)) := by rw [← hV1]; exact heap_alloc_new _ _
  obtain ⟨BX, hBX⟩ : ∃ B, w.heap.size = B := ⟨_, rfl⟩
  have hw0 : w.heap.size ≤ BX := by omega
  have HX := hide (show V1.heap[BX]? = some (.cells #[.int .u8 (tt : Int), .int .u8 (P : Int), .int .u16 (id : Int), .int .u32 (s : Int), .int .u32 (d : Int), .slice da n dc] 27 (0, 0)) by rw [← hBX]; exact hp1_1)
  have NX : Hid (w.heap.size ≤ BX) := hide hw0
  have AP := hide hLx
  have RP := hide (hLx.below hb1 (Nat.le_refl _))
  have HB := hide hb1
  have HE := hide (And.intro (And.intro trivial trivial) (And.intro hV1 (And.intro hBX (trivial))))
  clear hw0 hV1 hz1 hb1  hp1_1 hBX hLx
  go_enter Try.func9, Try.ntmps9
  go_upto_region 1 with (fail)
  rw [HE.out.2.1]
  try rw [HE.out.2.2.1]
  clear HE
  go_wp2_with fail
  refine (speaks13 _).mono ?_
  rintro e w1 ⟨rfl, b⟩
  replace HX := hide (below_block b HX.out (Nat.le_refl _))
  replace RP := hide (RP.out.below b (Nat.le_refl _))
  replace HB := hide (HB.out.trans (b.mono HB.out.size))
  clear b 
  have qX_5 : w1.cell? ⟨BX, 5, none⟩ = some (.slice da n dc) := cell_at HX.out 5 rfl
  go_upto_region 5 with (fail)
  clear qX_5
  go_wp2_with ((refine ld_whole (o := ⟨some 19, _, _, _, _, _⟩) 27 (.tmp 4) rfl (by rfl) BX rfl #[.int .u8 (tt : Int), .int .u8 (P : Int), .int .u16 (id : Int), .int .u32 (s : Int), .int .u32 (d : Int), .slice da n dc] 27 HX.out Try.underlying27 (by kernel_rfl) ?_; try simp only [Act.put, List.setIfInBounds_toArray, List.set_cons_zero, List.set_cons_succ]))
  refine (HT.out _ RP.out).mono ?_
  rintro e w2 ⟨rfl, b⟩
  replace HX := hide (below_block b HX.out (Nat.le_refl _))
  replace RP := hide (RP.out.below b (Nat.le_refl _))
  replace HB := hide (HB.out.trans (b.mono HB.out.size))
  clear b 
  obtain ⟨w3, hwn, wb, HN1⟩ : ∃ W, w2.alloc (.cells #[.int .u8 0, .int .u8 0, .int .u16 0, .int .u32 0, .int .u32 0, .slice none 0 0] 27) = W ∧ Below w2.heap.size w2 W ∧ Hid (W.heap[w2.heap.size]? = some (.cells #[.int .u8 0, .int .u8 0, .int .u16 0, .int .u32 0, .int .u32 0, .slice none 0 0] 27 (0, 0))) := ⟨_, rfl, (Below.refl w2.heap.size w2).alloc (Nat.le_refl _) _, hide (heap_alloc_new w2 _)⟩
  obtain ⟨BQ, hBn⟩ : ∃ B, w2.heap.size = B := ⟨_, rfl⟩
  rw [hBn] at HN1
  have HW := hide (And.intro hwn hBn)
  have HBo := HB
  have nqX_Q := hide (blk_ne HX.out hBn)
  clear hwn hBn
  replace HX := hide (below_block wb HX.out (Nat.le_refl _))
  replace RP := hide (RP.out.below wb (Nat.le_refl _))
  replace HB := hide (HB.out.trans (wb.mono HB.out.size))
  have HQ := HN1
  have NQ := hide (show w.heap.size ≤ BQ by rw [← HW.out.2]; exact HBo.out.size)
  clear wb HN1 HBo
  go_upto_region 6 with (fail)
  rw [HW.out.1]
  try rw [HW.out.2]
  clear HW
  go_wp2_with ((refine ld_whole (o := ⟨some 26, _, _, _, _, _⟩) 27 (.tmp 4) rfl (by rfl) BX rfl #[.int .u8 (tt : Int), .int .u8 (P : Int), .int .u16 (id : Int), .int .u32 (s : Int), .int .u32 (d : Int), .slice da n dc] 27 HX.out Try.underlying27 (by kernel_rfl) ?_; try simp only [Act.put, List.setIfInBounds_toArray, List.set_cons_zero, List.set_cons_succ]))
  refine (HMA.out _ RP.out).mono ?_
  rintro e w4 ⟨rfl, b⟩
  replace HX := hide (below_block b HX.out (Nat.le_refl _))
  replace HQ := hide (below_block b HQ.out (Nat.le_refl _))
  replace RP := hide (RP.out.below b (Nat.le_refl _))
  replace HB := hide (HB.out.trans (b.mono HB.out.size))
  clear b 
  go_wp2_with ((refine ld_whole (o := ⟨some 30, _, _, _, _, _⟩) 27 (.tmp 7) rfl (by rfl) BQ rfl #[.int .u8 0, .int .u8 0, .int .u16 0, .int .u32 0, .int .u32 0, .slice none 0 0] 27 HQ.out Try.underlying27 (by kernel_rfl) ?_; try simp only [Act.put, List.setIfInBounds_toArray, List.set_cons_zero, List.set_cons_succ]))
  refine (same4_any _ 0 0 0 0 0 none none [] 0 0 0 (fun h => absurd rfl h) (fun h => absurd rfl h) rfl).mono ?_
  rintro e w5 ⟨rfl, b⟩
  replace HX := hide (below_block b HX.out (Nat.le_refl _))
  replace HQ := hide (below_block b HQ.out (Nat.le_refl _))
  replace RP := hide (RP.out.below b (Nat.le_refl _))
  replace HB := hide (HB.out.trans (b.mono HB.out.size))
  clear b 
  go_wp2_with fail
  go_ret
  exact ⟨rfl, HB.out⟩
set_option maxHeartbeats 4000000 in
theorem icmpSizes_yes (w : World) (own code : Nat) (tt P id s d : Nat) (da : Option Addr) (xs : List Int) (n dc : Nat) (hLx : Lies w da xs n dc) (hl : xs.length = n) (hb : ∀ x ∈ xs, 0 ≤ x ∧ x ≤ 255) (ht : tt ≤ 255) (hP : P ≤ 255) (hid : id ≤ 65535) (hs : s ≤ 4294967295) (hd : d ≤ 4294967295) (hc : code ≤ 255) (hn : ¬ 3000 < n) (M : Nat) (hm : icMay P s d xs = true) (hM : M = min (20 + n) 28) :
    Calls Try.prog 9 #[.int .u32 (own : Int), .agg #[.int .u8 (tt : Int), .int .u8 (P : Int), .int .u16 (id : Int), .int .u32 (s : Int), .int .u32 (d : Int), .slice da n dc], .int .u8 (code : Int)] w fun e w' => e = .returned (.bool true) ∧ Below w.heap.size w w' := by
  have hd3 : decide ((3000 : Int) < (n : Int)) = false := by simp; omega
  have HT := hide (fun (W : World) (hL : Lies W da xs n dc) => unr_yes W own code M tt P id s d da xs n dc hL hl hb ht hP hid hs hd hm hM hc)
  have HDL := hide (show ((ipG tt P id s d xs).take M).length = M by rw [List.length_take, ipG_len, hl]; omega)
  have HDR := hide (show ∀ x ∈ (ipG tt P id s d xs).take M, 0 ≤ x ∧ x ≤ 255 by
    intro x hx
    have hx := List.mem_of_mem_take hx
    unfold ipG at hx
    rcases List.mem_append.1 hx with h | h
    · exact ipH_rng _ _ _ _ _ _ _ ht hP x h
    · exact hb x h)
  have HRI := hide (fun (W : World) (a : Option Addr) (c : Nat) (hL : Lies W a (icmpB 3 code 0 ((ipG tt P id s d xs).take M)) (8 + M) c) => (readICMP_both _ (8 + M) (by rw [icmpB_len, HDL.out]) (icmpB_rng 3 code 0 _ (by omega) hc HDR.out)).2 W a c hL)
  rw [icmpB_code 3 code 0 _ (by omega) hc HDR.out (by rw [HDL.out]; omega), icmpB_of 3 code 0 _ (by omega) hc (by omega) HDR.out (by rw [HDL.out]; omega)] at HRI
  unfold MsgAns at HRI
  dsimp only at HRI
  rw [HDL.out] at HRI
  have hw20 : IntKind.i64.wrap (20 + (n : Int)) = 20 + (n : Int) := IntWalk.i64_in _ (by omega)
  have q1 : 20 + (n : Int) < 28 → (M : Int) = 20 + (n : Int) := by omega
  have q2 : ¬ (20 + (n : Int) < 28) → (M : Int) = 28 := by omega
  have q3 := hide (And.intro q1 q2)
  clear hm hl hb hn hM q1 q2
  obtain ⟨V1, hV1⟩ : ∃ V, w.alloc (.cells #[.int .u8 (tt : Int), .int .u8 (P : Int), .int .u16 (id : Int), .int .u32 (s : Int), .int .u32 (d : Int), .slice da n dc] 27) = V := ⟨_, rfl⟩
  have hz1 : V1.heap.size = w.heap.size + 1 := by rw [← hV1]; simp
  have hb1 : Below w.heap.size w V1 := by rw [← hV1]; exact (Below.refl _ _).alloc (Nat.le_refl _) _
  have hp1_1 : V1.heap[w.heap.size]? = some (.cells #[.int .u8 (tt : Int), .int .u8 (P : Int), .int .u16 (id : Int), .int .u32 (s : Int), .int .u32 (d : Int), .slice da n dc] 27 (0, 0)) := by rw [← hV1]; exact heap_alloc_new _ _
  obtain ⟨BX, hBX⟩ : ∃ B, w.heap.size = B := ⟨_, rfl⟩
  have hw0 : w.heap.size ≤ BX := by omega
  have HX := hide (show V1.heap[BX]? = some (.cells #[.int .u8 (tt : Int), .int .u8 (P : Int), .int .u16 (id : Int), .int .u32 (s : Int), .int .u32 (d : Int), .slice da n dc] 27 (0, 0)) by rw [← hBX]; exact hp1_1)
  have NX : Hid (w.heap.size ≤ BX) := hide hw0
  have AP := hide hLx
  have RP := hide (hLx.below hb1 (Nat.le_refl _))
  have HB := hide hb1
  have HE := hide (And.intro (And.intro trivial trivial) (And.intro hV1 (And.intro hBX (trivial))))
  clear hw0 hV1 hz1 hb1  hp1_1 hBX hLx
  go_enter Try.func9, Try.ntmps9
  go_upto_region 1 with (fail)
  rw [HE.out.2.1]
  try rw [HE.out.2.2.1]
  clear HE
  go_wp2_with fail
  refine (speaks13 _).mono ?_
  rintro e w1 ⟨rfl, b⟩
  replace HX := hide (below_block b HX.out (Nat.le_refl _))
  replace RP := hide (RP.out.below b (Nat.le_refl _))
  replace HB := hide (HB.out.trans (b.mono HB.out.size))
  clear b 
  have qX_5 : w1.cell? ⟨BX, 5, none⟩ = some (.slice da n dc) := cell_at HX.out 5 rfl
  go_upto_region 5 with (fail)
  clear qX_5
  go_wp2_with ((refine ld_whole (o := ⟨some 19, _, _, _, _, _⟩) 27 (.tmp 4) rfl (by rfl) BX rfl #[.int .u8 (tt : Int), .int .u8 (P : Int), .int .u16 (id : Int), .int .u32 (s : Int), .int .u32 (d : Int), .slice da n dc] 27 HX.out Try.underlying27 (by kernel_rfl) ?_; try simp only [Act.put, List.setIfInBounds_toArray, List.set_cons_zero, List.set_cons_succ]))
  refine (HT.out _ RP.out).mono ?_
  rintro e w2 ⟨a, c, rfl, o, b⟩
  replace HX := hide (below_block b HX.out (Nat.le_refl _))
  replace RP := hide (RP.out.below b (Nat.le_refl _))
  replace HB := hide (HB.out.trans (b.mono HB.out.size))
  have RY := hide (Lies.of_owns o)
  clear b o
  obtain ⟨w3, hwn, wb, HN1⟩ : ∃ W, w2.alloc (.cells #[.int .u8 64, .int .u8 1, .int .u16 0, .int .u32 (own : Int), .int .u32 (s : Int), .slice a (8 + M) c] 27) = W ∧ Below w2.heap.size w2 W ∧ Hid (W.heap[w2.heap.size]? = some (.cells #[.int .u8 64, .int .u8 1, .int .u16 0, .int .u32 (own : Int), .int .u32 (s : Int), .slice a (8 + M) c] 27 (0, 0))) := ⟨_, rfl, (Below.refl w2.heap.size w2).alloc (Nat.le_refl _) _, hide (heap_alloc_new w2 _)⟩
  obtain ⟨BQ, hBn⟩ : ∃ B, w2.heap.size = B := ⟨_, rfl⟩
  rw [hBn] at HN1
  have HW := hide (And.intro hwn hBn)
  have HBo := HB
  have nqX_Q := hide (blk_ne HX.out hBn)
  clear hwn hBn
  replace HX := hide (below_block wb HX.out (Nat.le_refl _))
  replace RP := hide (RP.out.below wb (Nat.le_refl _))
  replace RY := hide (RY.out.below wb (Nat.le_refl _))
  replace HB := hide (HB.out.trans (wb.mono HB.out.size))
  have HQ := HN1
  have NQ := hide (show w.heap.size ≤ BQ by rw [← HW.out.2]; exact HBo.out.size)
  clear wb HN1 HBo
  go_upto_region 6 with (fail)
  rw [HW.out.1]
  try rw [HW.out.2]
  clear HW
  have qQ_5 : w3.cell? ⟨BQ, 5, none⟩ = some (.slice a (8 + M) c) := cell_at HQ.out 5 rfl
  go_wp2_with fail
  refine (HRI.out _ a c RY.out).mono ?_
  rintro e w4 ⟨a2, c2, rfl, o, b⟩
  clear qQ_5
  replace HX := hide (below_block b HX.out (Nat.le_refl _))
  replace HQ := hide (below_block b HQ.out (Nat.le_refl _))
  replace RP := hide (RP.out.below b (Nat.le_refl _))
  replace RY := hide (RY.out.below b (Nat.le_refl _))
  replace HB := hide (HB.out.trans (b.mono HB.out.size))
  clear b o
  clear RY RP
  obtain ⟨w5, hwn, wb, HN1⟩ : ∃ W, w4.alloc (.cells #[.int .u8 3, .int .u8 (code : Int), .int .u32 0, .slice a2 M c2] 55) = W ∧ Below w4.heap.size w4 W ∧ Hid (W.heap[w4.heap.size]? = some (.cells #[.int .u8 3, .int .u8 (code : Int), .int .u32 0, .slice a2 M c2] 55 (0, 0))) := ⟨_, rfl, (Below.refl w4.heap.size w4).alloc (Nat.le_refl _) _, hide (heap_alloc_new w4 _)⟩
  obtain ⟨BM, hBn⟩ : ∃ B, w4.heap.size = B := ⟨_, rfl⟩
  rw [hBn] at HN1
  have HW := hide (And.intro hwn hBn)
  have HBo := HB
  have nqX_M := hide (blk_ne HX.out hBn)
  have nqQ_M := hide (blk_ne HQ.out hBn)
  clear hwn hBn
  replace HX := hide (below_block wb HX.out (Nat.le_refl _))
  replace HQ := hide (below_block wb HQ.out (Nat.le_refl _))
  replace HB := hide (HB.out.trans (wb.mono HB.out.size))
  have HM := HN1
  have NM := hide (show w.heap.size ≤ BM by rw [← HW.out.2]; exact HBo.out.size)
  clear wb HN1 HBo
  go_upto_region 9 with (fail)
  rw [HW.out.1]
  try rw [HW.out.2]
  clear HW
  have qM_0 : w5.cell? ⟨BM, 0, none⟩ = some (.int .u8 3) := cell_at HM.out 0 rfl
  have qM_1 : w5.cell? ⟨BM, 1, none⟩ = some (.int .u8 (code : Int)) := cell_at HM.out 1 rfl
  have qM_2 : w5.cell? ⟨BM, 2, none⟩ = some (.int .u32 0) := cell_at HM.out 2 rfl
  have qM_3 : w5.cell? ⟨BM, 3, none⟩ = some (.slice a2 M c2) := cell_at HM.out 3 rfl
  have qX_5 : w5.cell? ⟨BX, 5, none⟩ = some (.slice da n dc) := cell_at HX.out 5 rfl
  have qQ_0 : w5.cell? ⟨BQ, 0, none⟩ = some (.int .u8 64) := cell_at HQ.out 0 rfl
  have qQ_3 : w5.cell? ⟨BQ, 3, none⟩ = some (.int .u32 (own : Int)) := cell_at HQ.out 3 rfl
  go_wp2_with fail
  all_goals
    have q4 := q3.out
    first
    | (exfalso; omega)
    | (go_ret; exact ⟨by simp [*], HB.out⟩)
theorem icmpSizes_any (w : World) (own code : Nat) (tt P id s d : Nat) (da : Option Addr) (xs : List Int) (n dc : Nat) (hLx : Lies w da xs n dc) (hl : xs.length = n) (hb : ∀ x ∈ xs, 0 ≤ x ∧ x ≤ 255) (ht : tt ≤ 255) (hP : P ≤ 255) (hid : id ≤ 65535) (hs : s ≤ 4294967295) (hd : d ≤ 4294967295) (hc : code ≤ 255) :
    Calls Try.prog 9 #[.int .u32 (own : Int), .agg #[.int .u8 (tt : Int), .int .u8 (P : Int), .int .u16 (id : Int), .int .u32 (s : Int), .int .u32 (d : Int), .slice da n dc], .int .u8 (code : Int)] w fun e w' => e = .returned (.bool true) ∧ Below w.heap.size w w' := by
  by_cases h : 3000 < n
  · exact icmpSizes_long w own code tt P id s d da n dc h
  cases hm : icMay P s d xs with
  | false => exact icmpSizes_no w own code tt P id s d da xs n dc hLx hl hb ht hP hid hs hd hc h hm
  | true => exact icmpSizes_yes w own code tt P id s d da xs n dc hLx hl hb ht hP hid hs hd hc h _ hm rfl
set_option maxHeartbeats 1600000 in
theorem icmpEchoes_long (w : World) (S D r : Nat) (da : Option Addr) (xs : List Int) (n dc : Nat) (hLx : Lies w da xs n dc) (hl : xs.length = n) (hb : ∀ x ∈ xs, 0 ≤ x ∧ x ≤ 255) (hS : S ≤ 4294967295) (hD : D ≤ 4294967295) (hr : r ≤ 4294967295) (hn : 1472 < n) :
    Calls Try.prog 8 #[.int .u32 (S : Int), .int .u32 (D : Int), .int .u32 (r : Int), .slice da n dc] w fun e w' => e = .returned (.bool true) ∧ Below w.heap.size w w' := by
  have HAN := hide (fun (W : World) (g : Nat) (hL : Lies W (some ⟨g, 0, none⟩) [] 0 0) => ans_no W 3 1 7 S D (some ⟨g, 0, none⟩) [] 0 0 hL rfl (by simp) rfl)
  have HB := hide (Below.refl w.heap.size w)
  clear hLx hl hb
  go_enter Try.func8, Try.ntmps8
  go_wp2_with fail
  refine (speaks13 _).mono ?_
  rintro e w1 ⟨rfl, b⟩
  replace HB := hide (HB.out.trans (b.mono HB.out.size))
  clear b 
  go_wp2_with fail
  refine (rwicmp_long _ _ _ _ _ _ _ hn).mono ?_
  rintro e w2 ⟨g, rfl, l, b⟩
  replace HB := hide (HB.out.trans (b.mono HB.out.size))
  have RP := hide (l)
  clear b l
  obtain ⟨w3, hwn, wb, HN1⟩ : ∃ W, w2.alloc (.cells #[.int .u8 3, .int .u8 1, .int .u16 7, .int .u32 (S : Int), .int .u32 (D : Int), .slice (some ⟨g, 0, none⟩) 0 0] 27) = W ∧ Below w2.heap.size w2 W ∧ Hid (W.heap[w2.heap.size]? = some (.cells #[.int .u8 3, .int .u8 1, .int .u16 7, .int .u32 (S : Int), .int .u32 (D : Int), .slice (some ⟨g, 0, none⟩) 0 0] 27 (0, 0))) := ⟨_, rfl, (Below.refl w2.heap.size w2).alloc (Nat.le_refl _) _, hide (heap_alloc_new w2 _)⟩
  obtain ⟨BX, hBn⟩ : ∃ B, w2.heap.size = B := ⟨_, rfl⟩
  rw [hBn] at HN1
  have HW := hide (And.intro hwn hBn)
  have HBo := HB
  clear hwn hBn
  replace RP := hide (RP.out.below wb (Nat.le_refl _))
  replace HB := hide (HB.out.trans (wb.mono HB.out.size))
  have HX := HN1
  have NX := hide (show w.heap.size ≤ BX by rw [← HW.out.2]; exact HBo.out.size)
  clear wb HN1 HBo
  go_upto_region 5 with (fail)
  rw [HW.out.1]
  try rw [HW.out.2]
  clear HW
  go_wp2_with ((refine ld_whole (o := ⟨some 32, _, _, _, _, _⟩) 27 (.tmp 11) rfl (by rfl) BX rfl #[.int .u8 3, .int .u8 1, .int .u16 7, .int .u32 (S : Int), .int .u32 (D : Int), .slice (some ⟨g, 0, none⟩) 0 0] 27 HX.out Try.underlying27 (by kernel_rfl) ?_; try simp only [Act.put, List.setIfInBounds_toArray, List.set_cons_zero, List.set_cons_succ]))
  refine (HAN.out _ g RP.out).mono ?_
  rintro e w4 ⟨rfl, b⟩
  replace HX := hide (below_block b HX.out (Nat.le_refl _))
  replace RP := hide (RP.out.below b (Nat.le_refl _))
  replace HB := hide (HB.out.trans (b.mono HB.out.size))
  clear b 
  obtain ⟨w5, hwn, wb, HN1⟩ : ∃ W, w4.alloc (.cells #[.int .u8 0, .int .u8 0, .int .u16 0, .int .u32 0, .int .u32 0, .slice none 0 0] 27) = W ∧ Below w4.heap.size w4 W ∧ Hid (W.heap[w4.heap.size]? = some (.cells #[.int .u8 0, .int .u8 0, .int .u16 0, .int .u32 0, .int .u32 0, .slice none 0 0] 27 (0, 0))) := ⟨_, rfl, (Below.refl w4.heap.size w4).alloc (Nat.le_refl _) _, hide (heap_alloc_new w4 _)⟩
  obtain ⟨BQ, hBn⟩ : ∃ B, w4.heap.size = B := ⟨_, rfl⟩
  rw [hBn] at HN1
  have HW := hide (And.intro hwn hBn)
  have HBo := HB
  have nqX_Q := hide (blk_ne HX.out hBn)
  clear hwn hBn
  replace HX := hide (below_block wb HX.out (Nat.le_refl _))
  replace RP := hide (RP.out.below wb (Nat.le_refl _))
  replace HB := hide (HB.out.trans (wb.mono HB.out.size))
  have HQ := HN1
  have NQ := hide (show w.heap.size ≤ BQ by rw [← HW.out.2]; exact HBo.out.size)
  clear wb HN1 HBo
  go_upto_region 6 with (fail)
  rw [HW.out.1]
  try rw [HW.out.2]
  clear HW
  go_wp2_with fail
  go_ret
  exact ⟨rfl, HB.out⟩
set_option maxHeartbeats 4000000 in
theorem icmpEchoes_ok (w : World) (S D r : Nat) (da : Option Addr) (xs : List Int) (n dc : Nat) (hLx : Lies w da xs n dc) (hl : xs.length = n) (hb : ∀ x ∈ xs, 0 ≤ x ∧ x ≤ 255) (hS : S ≤ 4294967295) (hD : D ≤ 4294967295) (hr : r ≤ 4294967295) (hn : ¬ 1472 < n) :
    Calls Try.prog 8 #[.int .u32 (S : Int), .int .u32 (D : Int), .int .u32 (r : Int), .slice da n dc] w fun e w' => e = .returned (.bool true) ∧ Below w.heap.size w w' := by
  have hn' : n ≤ 1472 := by omega
  have HWI := hide (fun (W : World) (hL : Lies W da xs n dc) => rwicmp_ok W 8 0 r da xs n dc hL.row hL.no hl hb hn' (by omega) (by omega) hr)
  have h8c := icmpB_code 8 0 r xs (by omega) (by omega) hb (by omega)
  have h8o := icmpB_of 8 0 r xs (by omega) (by omega) hr hb (by omega)
  have h8l : (icmpB 8 0 r xs).length = 8 + n := by rw [icmpB_len, hl]
  have h0c := icmpB_code 0 0 r xs (by omega) (by omega) hb (by omega)
  have h0o := icmpB_of 0 0 r xs (by omega) (by omega) hr hb (by omega)
  have h0l : (icmpB 0 0 r xs).length = 8 + n := by rw [icmpB_len, hl]
  have h8 : ansOk 1 (icmpB 8 0 r xs) = true := by unfold ansOk; rw [h8c, h8o]; rfl
  have h0 : ansOk 1 (icmpB 0 0 r xs) = false := by unfold ansOk; rw [h0c, h0o]; rfl
  have HAY := hide (fun (W : World) (a : Option Addr) (c : Nat) (hL : Lies W a (icmpB 8 0 r xs) (8 + n) c) => ans_yes W 3 1 7 S D a (icmpB 8 0 r xs) (8 + n) c hL h8l (icmpB_rng 8 0 r xs (by omega) (by omega) hb) (by omega) (by omega) (by omega) hS hD h8)
  rw [h8o] at HAY
  dsimp only at HAY
  rw [hl] at HAY
  have HAN := hide (fun (W : World) (a : Option Addr) (c : Nat) (hL : Lies W a (icmpB 0 0 r xs) (8 + n) c) => ans_no W 64 1 7 D S a (icmpB 0 0 r xs) (8 + n) c hL h0l (icmpB_rng 0 0 r xs (by omega) (by omega) hb) h0)
  have HRI := hide (fun (W : World) (a : Option Addr) (c : Nat) (hL : Lies W a (icmpB 0 0 r xs) (8 + n) c) => (readICMP_both _ (8 + n) h0l (icmpB_rng 0 0 r xs (by omega) (by omega) hb)).2 W a c hL)
  rw [h0c, h0o] at HRI
  unfold MsgAns at HRI
  dsimp only at HRI
  rw [hl] at HRI
  have HB := hide (Below.refl w.heap.size w)
  have HL := hide hl
  have AP := hide hLx
  have RP := hide hLx
  clear hLx hl hb h8c h8o h8l h0c h0o h0l h8 h0 hn
  go_enter Try.func8, Try.ntmps8
  go_wp2_with fail
  refine (speaks13 _).mono ?_
  rintro e w1 ⟨rfl, b⟩
  replace RP := hide (RP.out.below b (Nat.le_refl _))
  replace HB := hide (HB.out.trans (b.mono HB.out.size))
  clear b 
  go_wp2_with fail
  refine (HWI.out _ RP.out).mono ?_
  rintro e w2 ⟨a, c, rfl, o, b⟩
  replace RP := hide (RP.out.below b (Nat.le_refl _))
  replace HB := hide (HB.out.trans (b.mono HB.out.size))
  have RY := hide (Lies.of_owns o)
  clear b o
  obtain ⟨w3, hwn, wb, HN1⟩ : ∃ W, w2.alloc (.cells #[.int .u8 3, .int .u8 1, .int .u16 7, .int .u32 (S : Int), .int .u32 (D : Int), .slice a (8 + n) c] 27) = W ∧ Below w2.heap.size w2 W ∧ Hid (W.heap[w2.heap.size]? = some (.cells #[.int .u8 3, .int .u8 1, .int .u16 7, .int .u32 (S : Int), .int .u32 (D : Int), .slice a (8 + n) c] 27 (0, 0))) := ⟨_, rfl, (Below.refl w2.heap.size w2).alloc (Nat.le_refl _) _, hide (heap_alloc_new w2 _)⟩
  obtain ⟨BX, hBn⟩ : ∃ B, w2.heap.size = B := ⟨_, rfl⟩
  rw [hBn] at HN1
  have HW := hide (And.intro hwn hBn)
  have HBo := HB
  clear hwn hBn
  replace RP := hide (RP.out.below wb (Nat.le_refl _))
  replace RY := hide (RY.out.below wb (Nat.le_refl _))
  replace HB := hide (HB.out.trans (wb.mono HB.out.size))
  have HX := HN1
  have NX := hide (show w.heap.size ≤ BX by rw [← HW.out.2]; exact HBo.out.size)
  clear wb HN1 HBo
  go_upto_region 5 with (fail)
  rw [HW.out.1]
  try rw [HW.out.2]
  clear HW
  go_wp2_with ((refine ld_whole (o := ⟨some 32, _, _, _, _, _⟩) 27 (.tmp 11) rfl (by rfl) BX rfl #[.int .u8 3, .int .u8 1, .int .u16 7, .int .u32 (S : Int), .int .u32 (D : Int), .slice a (8 + n) c] 27 HX.out Try.underlying27 (by kernel_rfl) ?_; try simp only [Act.put, List.setIfInBounds_toArray, List.set_cons_zero, List.set_cons_succ]))
  refine (HAY.out _ a c RY.out).mono ?_
  rintro e w4 ⟨a2, c2, rfl, o, b⟩
  replace HX := hide (below_block b HX.out (Nat.le_refl _))
  replace RP := hide (RP.out.below b (Nat.le_refl _))
  replace RY := hide (RY.out.below b (Nat.le_refl _))
  replace HB := hide (HB.out.trans (b.mono HB.out.size))
  have RZ := hide (Lies.of_owns o)
  clear b o
  clear RY
  obtain ⟨w5, hwn, wb, HN1⟩ : ∃ W, w4.alloc (.cells #[.int .u8 64, .int .u8 1, .int .u16 7, .int .u32 (D : Int), .int .u32 (S : Int), .slice a2 (8 + n) c2] 27) = W ∧ Below w4.heap.size w4 W ∧ Hid (W.heap[w4.heap.size]? = some (.cells #[.int .u8 64, .int .u8 1, .int .u16 7, .int .u32 (D : Int), .int .u32 (S : Int), .slice a2 (8 + n) c2] 27 (0, 0))) := ⟨_, rfl, (Below.refl w4.heap.size w4).alloc (Nat.le_refl _) _, hide (heap_alloc_new w4 _)⟩
  obtain ⟨BQ, hBn⟩ : ∃ B, w4.heap.size = B := ⟨_, rfl⟩
  rw [hBn] at HN1
  have HW := hide (And.intro hwn hBn)
  have HBo := HB
  have nqX_Q := hide (blk_ne HX.out hBn)
  clear hwn hBn
  replace HX := hide (below_block wb HX.out (Nat.le_refl _))
  replace RP := hide (RP.out.below wb (Nat.le_refl _))
  replace RZ := hide (RZ.out.below wb (Nat.le_refl _))
  replace HB := hide (HB.out.trans (wb.mono HB.out.size))
  have HQ := HN1
  have NQ := hide (show w.heap.size ≤ BQ by rw [← HW.out.2]; exact HBo.out.size)
  clear wb HN1 HBo
  go_upto_region 6 with (fail)
  rw [HW.out.1]
  try rw [HW.out.2]
  clear HW
  have qQ_5 : w5.cell? ⟨BQ, 5, none⟩ = some (.slice a2 (8 + n) c2) := cell_at HQ.out 5 rfl
  go_wp2_with fail
  refine (HRI.out _ a2 c2 RZ.out).mono ?_
  rintro e w6 ⟨a3, c3, rfl, o, b⟩
  clear qQ_5
  replace HX := hide (below_block b HX.out (Nat.le_refl _))
  replace HQ := hide (below_block b HQ.out (Nat.le_refl _))
  replace RP := hide (RP.out.below b (Nat.le_refl _))
  replace RZ := hide (RZ.out.below b (Nat.le_refl _))
  replace HB := hide (HB.out.trans (b.mono HB.out.size))
  have RM := hide (Lies.of_owns o)
  clear b o
  obtain ⟨w7, hwn, wb, HN1⟩ : ∃ W, w6.alloc (.cells #[.int .u8 0, .int .u8 0, .int .u32 (r : Int), .slice a3 n c3] 55) = W ∧ Below w6.heap.size w6 W ∧ Hid (W.heap[w6.heap.size]? = some (.cells #[.int .u8 0, .int .u8 0, .int .u32 (r : Int), .slice a3 n c3] 55 (0, 0))) := ⟨_, rfl, (Below.refl w6.heap.size w6).alloc (Nat.le_refl _) _, hide (heap_alloc_new w6 _)⟩
  obtain ⟨BM, hBn⟩ : ∃ B, w6.heap.size = B := ⟨_, rfl⟩
  rw [hBn] at HN1
  have HW := hide (And.intro hwn hBn)
  have HBo := HB
  have nqX_M := hide (blk_ne HX.out hBn)
  have nqQ_M := hide (blk_ne HQ.out hBn)
  clear hwn hBn
  replace HX := hide (below_block wb HX.out (Nat.le_refl _))
  replace HQ := hide (below_block wb HQ.out (Nat.le_refl _))
  replace RP := hide (RP.out.below wb (Nat.le_refl _))
  replace RZ := hide (RZ.out.below wb (Nat.le_refl _))
  replace RM := hide (RM.out.below wb (Nat.le_refl _))
  replace HB := hide (HB.out.trans (wb.mono HB.out.size))
  have HM := HN1
  have NM := hide (show w.heap.size ≤ BM by rw [← HW.out.2]; exact HBo.out.size)
  clear wb HN1 HBo
  go_upto_region 9 with (fail)
  rw [HW.out.1]
  try rw [HW.out.2]
  clear HW
  go_wp2_with ((refine ld_whole (o := ⟨some 47, _, _, _, _, _⟩) 27 (.tmp 12) rfl (by rfl) BQ rfl #[.int .u8 64, .int .u8 1, .int .u16 7, .int .u32 (D : Int), .int .u32 (S : Int), .slice a2 (8 + n) c2] 27 HQ.out Try.underlying27 (by kernel_rfl) ?_; try simp only [Act.put, List.setIfInBounds_toArray, List.set_cons_zero, List.set_cons_succ]))
  refine (HAN.out _ a2 c2 RZ.out).mono ?_
  rintro e w8 ⟨rfl, b⟩
  replace HX := hide (below_block b HX.out (Nat.le_refl _))
  replace HQ := hide (below_block b HQ.out (Nat.le_refl _))
  replace HM := hide (below_block b HM.out (Nat.le_refl _))
  replace RP := hide (RP.out.below b (Nat.le_refl _))
  replace RZ := hide (RZ.out.below b (Nat.le_refl _))
  replace RM := hide (RM.out.below b (Nat.le_refl _))
  replace HB := hide (HB.out.trans (b.mono HB.out.size))
  clear b 
  obtain ⟨w9, hwn, wb, HN1⟩ : ∃ W, w8.alloc (.cells #[.int .u8 0, .int .u8 0, .int .u16 0, .int .u32 0, .int .u32 0, .slice none 0 0] 27) = W ∧ Below w8.heap.size w8 W ∧ Hid (W.heap[w8.heap.size]? = some (.cells #[.int .u8 0, .int .u8 0, .int .u16 0, .int .u32 0, .int .u32 0, .slice none 0 0] 27 (0, 0))) := ⟨_, rfl, (Below.refl w8.heap.size w8).alloc (Nat.le_refl _) _, hide (heap_alloc_new w8 _)⟩
  obtain ⟨BN, hBn⟩ : ∃ B, w8.heap.size = B := ⟨_, rfl⟩
  rw [hBn] at HN1
  have HW := hide (And.intro hwn hBn)
  have HBo := HB
  have nqX_N := hide (blk_ne HX.out hBn)
  have nqQ_N := hide (blk_ne HQ.out hBn)
  have nqM_N := hide (blk_ne HM.out hBn)
  clear hwn hBn
  replace HX := hide (below_block wb HX.out (Nat.le_refl _))
  replace HQ := hide (below_block wb HQ.out (Nat.le_refl _))
  replace HM := hide (below_block wb HM.out (Nat.le_refl _))
  replace RP := hide (RP.out.below wb (Nat.le_refl _))
  replace RZ := hide (RZ.out.below wb (Nat.le_refl _))
  replace RM := hide (RM.out.below wb (Nat.le_refl _))
  replace HB := hide (HB.out.trans (wb.mono HB.out.size))
  have HN := HN1
  have NN := hide (show w.heap.size ≤ BN by rw [← HW.out.2]; exact HBo.out.size)
  clear wb HN1 HBo
  go_upto_region 10 with (fail)
  rw [HW.out.1]
  try rw [HW.out.2]
  clear HW
  have qM_0 : w9.cell? ⟨BM, 0, none⟩ = some (.int .u8 0) := cell_at HM.out 0 rfl
  have qM_2 : w9.cell? ⟨BM, 2, none⟩ = some (.int .u32 (r : Int)) := cell_at HM.out 2 rfl
  have qM_3 : w9.cell? ⟨BM, 3, none⟩ = some (.slice a3 n c3) := cell_at HM.out 3 rfl
  have qQ_3 : w9.cell? ⟨BQ, 3, none⟩ = some (.int .u32 (D : Int)) := cell_at HQ.out 3 rfl
  have qQ_4 : w9.cell? ⟨BQ, 4, none⟩ = some (.int .u32 (S : Int)) := cell_at HQ.out 4 rfl
  have hv1 := conv_any a3 xs c3 _ RM.out.row
  have hv2 := conv_any da xs dc _ RP.out.row
  rw [HL.out] at hv1 hv2
  go_wp2_with fail
  go_ret
  exact ⟨rfl, HB.out⟩
theorem icmpEchoes_any (w : World) (S D r : Nat) (da : Option Addr) (xs : List Int) (n dc : Nat) (hLx : Lies w da xs n dc) (hl : xs.length = n) (hb : ∀ x ∈ xs, 0 ≤ x ∧ x ≤ 255) (hS : S ≤ 4294967295) (hD : D ≤ 4294967295) (hr : r ≤ 4294967295) :
    Calls Try.prog 8 #[.int .u32 (S : Int), .int .u32 (D : Int), .int .u32 (r : Int), .slice da n dc] w fun e w' => e = .returned (.bool true) ∧ Below w.heap.size w w' := by
  by_cases h : 1472 < n
  · exact icmpEchoes_long w S D r da xs n dc hLx hl hb hS hD hr h
  · exact icmpEchoes_ok w S D r da xs n dc hLx hl hb hS hD hr h
end Go.Proofs.Ytgggcapgaikbeaa
