/- What the document's WriteUDP and SameUDP answer. -/
import Derived.Test.YtgggcapgaikbeaaPk06
import Derived.Test.YtgggcapgaikbeaaPk16
import Derived.Test.YtgggcapgaikbeaaPk07
import Derived.Test.YtgggcapgaikbeaaPk08
import Derived.Test.YtgggcapgaikbeaaPk14
import Derived.Test.YtgggcapgaikbeaaPk05
namespace Go.Proofs.Ytgggcapgaikbeaa
open Go.RowKit
set_option linter.unusedVariables false
set_option linter.unusedSimpArgs false
set_option maxRecDepth 100000
/-- An append onto a row of one's own: it runs, and other blocks stay. -/
theorem two_eight (n : Nat) (w : World) (hn : n ≤ 100000) :
    Calls Try.prog 61 #[.int .i64 (8 + (n : Int))] w fun e w' => ∃ g c, e = .returned (.slice (some ⟨g, 0, none⟩) 2 c) ∧ w'.ownsRow w.heap.size 5 1 (.slice (some ⟨g, 0, none⟩) 2 c) 2 ((numB 2 (8 + n)).map (Value.int .u8)) ∧ Below w.heap.size w w' := by
  have h := two_any (8 + n) w (by omega)
  rw [show ((8 + n : Nat) : Int) = 8 + (n : Int) by omega] at h
  exact h
set_option maxHeartbeats 1600000 in
theorem rwudp_plain (w : World) (src dst p q : Nat) (da : Option Addr) (xs : List Int) (n dc : Nat) (hr : Row .u8 w da xs) (hn : da = none → dc = 0) (hl : xs.length = n) (h1 : n ≤ 1472) (hs : src ≤ 4294967295) (hd : dst ≤ 4294967295) (hp : p ≤ 65535) (hq : q ≤ 65535) :
    Calls Try.prog 36 #[.int .u32 src, .int .u32 dst, .agg #[.int .u16 (p : Int), .int .u16 (q : Int), .bool true, .slice da n dc]] w fun e w' => ∃ a c,
      e = .returned (.tuple #[.slice a (8 + n) c, .int .i64 0]) ∧ w'.ownsRow w.heap.size 5 1 (.slice a (8 + n) c) (8 + n) ((udpZ p q xs).map (Value.int .u8)) ∧ Below w.heap.size w w' := by
  have HR := hide hr
  have HN := hide hn
  have HL := hide hl
  have hZL := udpZ_len p q xs
  rw [HL.out] at hZL
  have HZL := hide hZL
  clear hr hn hl hZL
  go_enter Try.func36, Try.ntmps36
  go_wp2_with fail
  obtain ⟨B0, w0, hB, hqq, hl0, hbel, hheap⟩ : ∃ B0 wq, w.heap.size = B0 ∧ w.alloc (.cells #[.int .u16 (p : Int), .int .u16 (q : Int), .bool true, .slice da n dc] 63) = wq ∧ B0 < wq.heap.size ∧ Below w.heap.size w wq ∧
      wq.heap[B0]? = some (.cells #[.int .u16 (p : Int), .int .u16 (q : Int), .bool true, .slice da n dc] 63 (0, 0)) := ⟨_, _, rfl, rfl, by simp, (Below.refl _ _).alloc (Nat.le_refl _) _, heap_alloc_new _ _⟩
  rw [hqq, hB]
  have HB := hide hB
  have HH := hide hheap
  obtain ⟨k0_0, k0_1, k0_2, k0_3, kf⟩ := four_cells hheap
  have RS := hide (HR.out.below hbel (Nat.le_refl _))
  have BE := hide hbel
  have hw1 : IntKind.i64.wrap (p : Int) = (p : Int) := IntWalk.i64_in _ (by omega)
  have hw2 : IntKind.i64.wrap (q : Int) = (q : Int) := IntWalk.i64_in _ (by omega)
  clear hqq hB hheap hbel kf
  go_region_held3 (fun w' => w'.cell? ⟨B0, 0, none⟩ = some (.int .u16 p) ∧ w'.cell? ⟨B0, 1, none⟩ = some (.int .u16 q)) (go_keep) (first
    | (go_at_call 61; (with_reducible refine (two_any p _ ?_).mono ?_); omega; rintro e w1 ⟨g1, c1, rfl, o, b⟩; have k10 := (bcell b B0 0 hl0).trans k0_0; have k11 := (bcell b B0 1 hl0).trans k0_1; have hb1 : Below w0.heap.size w0 w1 := below_of_drew b; have B1 := hide hb1; have O1 := hide o; have hl1 : B0 < w1.heap.size := Nat.lt_of_lt_of_le hl0 hb1.size; clear o b hb1)
    | (go_at_call 61; (with_reducible refine (two_any q _ ?_).mono ?_); omega; rintro e w2 ⟨g2, c2, rfl, o, b⟩; have k20 := (bcell b B0 0 hl1).trans k10; have k21 := (bcell b B0 1 hl1).trans k11; have B2 := hide (B1.out.trans (b.mono B1.out.size)); have hx := app_own w2 w0.heap.size _ 2 _ (owns_below O1.out b (Nat.le_refl _)) (some ⟨g2, 0, none⟩) (numB 2 q) 2 c2 (Row.of_owns o) (numB_len _ _) (fun h => by cases h) (by omega) B2.out.size; have HX := hide hx; clear o b hx)
    | (refine step_append_ex rfl (.tmp 18) (.tmp 22) 25 25 rfl _ _ rfl rfl _ HX.out ?_; rintro v3 w3 HP; have BF : Below w0.heap.size w0 w3 := B2.out.trans HP.2; have k30 := (bcell BF B0 0 hl0).trans k0_0; have k31 := (bcell BF B0 1 hl0).trans k0_1; have OT := hide HP.1; have BT := hide BF; clear HP BF)
    | fail)
  obtain ⟨a3, c3, rfl⟩ := slice_form OT.out
  have k33 := (bcell BT.out B0 3 hl0).trans k0_3
  have hl3 : B0 < w3.heap.size := Nat.lt_of_lt_of_le hl0 BT.out.size
  have RS3 := hide (RS.out.below BT.out (Nat.le_refl _))
  have hw8 : IntKind.i64.wrap (8 + (n : Int)) = 8 + (n : Int) := IntWalk.i64_in _ (by omega)
  clear k10 k11 k20 k21 k30 k31 hw1 hw2 B1 B2 O1 HX
  go_wp2_with fail
  go_cut [8] (fun bv wx => ∃ a c, bv = .slice a (8 + n) c ∧ Hid (wx.ownsRow w0.heap.size 5 1 (.slice a (8 + n) c) (8 + n) ((udpZ p q xs).map (Value.int .u8))) ∧ Hid (Below w0.heap.size w0 wx))
  case first =>
    go_region_held3 (fun w' => w'.cell? ⟨B0, 3, none⟩ = some (.slice da n dc)) (go_keep) (first
      | (go_at_call 61; (with_reducible refine (two_eight n _ ?_).mono ?_); omega; rintro e w4 ⟨g4, c4, rfl, o, b⟩; have b34 : Below w3.heap.size w3 w4 := (by first | exact b | exact below_of_drew b | exact bel_lit b | exact below_of_drew (bel_lit b) | exact bel_lit (below_of_drew b)); have k43 := (bcell b34 B0 3 hl3).trans k33; have B4 := hide (BT.out.trans (b34.mono BT.out.size)); have O4 := hide (owns_below OT.out b34 (Nat.le_refl _)); have hne := hide (fun (L : Nat) (h : w3.heap.size ≤ L) => own_ne OT.out h); have R4 := hide (Row.of_owns o); have hl4 : B0 < w4.heap.size := Nat.lt_of_lt_of_le hl3 b34.size; have hs4 := b34.size; (first | (have LB := hide (litB b)) | (have LB := hide (litB_d b)) | skip); clear o b b34; have HXa := hide (app_own2 w4 w0.heap.size _ (2 + 2) _ O4.out (some ⟨g4, 0, none⟩) (numB 2 (8 + n)) 2 c4 R4.out (numB_len _ _) (fun h => by cases h) (by omega) B4.out.size); have HXb := hide (app_own2 (w4.alloc (.cells #[.int .u8 0, .int .u8 0] 5)) w0.heap.size _ (2 + 2) _ (O4.out.alloc _) (some ⟨g4, 0, none⟩) (numB 2 (8 + n)) 2 c4 (R4.out.below ((Below.refl _ _).alloc (Nat.le_refl _) _) (Nat.le_refl _)) (numB_len _ _) (fun h => by cases h) (by omega) (Nat.le_trans B4.out.size (by simp))))
      | (refine step_append_ex rfl (.tmp 24) (.tmp 29) 25 25 rfl _ _ rfl rfl _ HXa.out ?_; rintro v5 w5 HP; have BF : Below w0.heap.size w0 w5 := B4.out.trans HP.2.1; have k53 := (bcell BF B0 3 hl0).trans k0_3; have O5 := hide HP.1; have B5 := hide BF; have hl5 : B0 < w5.heap.size := Nat.lt_of_lt_of_le hl0 BF.size; (first | (have LB := hide (HP.2.2 _ _ LB.out (hne.out _ (Nat.le_refl _)));  have HY := hide (app_own2 w5 w0.heap.size _ (2 + 2 + 2) _ O5.out (some ⟨_, 0, none⟩) [0, 0] 2 2 (row_two LB.out) rfl (fun h => by cases h) (by omega) B5.out.size)) | (have HY := hide (app_own2 (w5.alloc (.cells #[.int .u8 0, .int .u8 0] 5)) w0.heap.size _ (2 + 2 + 2) _ (O5.out.alloc _) (some ⟨w5.heap.size, 0, none⟩) [0, 0] 2 2 (row_two (heap_alloc_new w5 _)) rfl (fun h => by cases h) (by omega) (Nat.le_trans B5.out.size (by simp))))); clear HP BF)
      | (refine step_append_ex rfl (.tmp 24) (.tmp 29) 25 25 rfl _ _ rfl rfl _ HXb.out ?_; rintro v5 w5 HP; have BF : Below w0.heap.size w0 w5 := (B4.out.alloc B4.out.size _).trans HP.2.1; have k53 := (bcell BF B0 3 hl0).trans k0_3; have O5 := hide HP.1; have B5 := hide BF; have hl5 : B0 < w5.heap.size := Nat.lt_of_lt_of_le hl0 BF.size; have LB := hide (HP.2.2 _ _ (heap_alloc_new w4 _) (hne.out _ hs4)); have HY := hide (app_own2 w5 w0.heap.size _ (2 + 2 + 2) _ O5.out (some ⟨w4.heap.size, 0, none⟩) [0, 0] 2 2 (row_two LB.out) rfl (fun h => by cases h) (by omega) B5.out.size); clear HP BF)
      | (refine step_append_ex rfl (.tmp 30) (.tmp 31) 25 25 rfl _ _ rfl rfl _ HY.out ?_; rintro v6 w6 HP; have BF : Below w0.heap.size w0 w6 := (by first | exact B5.out.trans HP.2.1 | exact (B5.out.alloc B5.out.size _).trans HP.2.1); have k63 := (bcell BF B0 3 hl0).trans k0_3; have O6 := hide HP.1; have B6 := hide BF; have hl6 : B0 < w6.heap.size := Nat.lt_of_lt_of_le hl0 BF.size; have HZ := hide (app_own w6 w0.heap.size _ (2 + 2 + 2 + 2) _ O6.out da xs n dc (RS.out.below BF (Nat.le_refl _)) HL.out HN.out (by omega) B6.out.size); clear HP BF)
      | (refine step_append_ex rfl (.tmp 32) (.tmp 34) 25 25 rfl _ _ rfl rfl _ HZ.out ?_; rintro v7 w7 HP; have BF : Below w0.heap.size w0 w7 := B6.out.trans HP.2; have k73 := (bcell BF B0 3 hl0).trans k0_3; have O7 := hide HP.1; have B7 := hide BF; clear HP BF)
      | fail)
    all_goals
      have e7 : (((numB 2 p ++ numB 2 q) ++ numB 2 (8 + n)) ++ [0, 0]) ++ xs = udpZ p q xs := by
        have h0 : numB 2 0 = [0, 0] := rfl
        simp [udpZ, h0, HL.out]
      have hz := O7.out
      rw [e7, show 2 + 2 + 2 + 2 + n = 8 + n by omega] at hz
      obtain ⟨a7, c7, rfl⟩ := slice_form hz
      have OZ := hide hz
      clear hz e7
      try go_wp2_with fail
      go_meet
      exact ⟨a7, c7, rfl, OZ, B7⟩
  case rest =>
    obtain ⟨a7, c7, rfl, OP, BP⟩ := hcut
    have OZ := hide (owns_mono OP.out BE.out.size)
    have BZ := hide (BE.out.trans (BP.out.mono BE.out.size))
    have kz2 : wc.cell? ⟨B0, 2, none⟩ = some (.bool true) := (bcell BP.out B0 2 hl0).trans k0_2
    clear k0_0 k0_1 k0_2 k0_3 k33
    go_wp2
    go_ret2
    exact ⟨a7, c7, rfl, OZ.out, BZ.out⟩

set_option maxHeartbeats 1600000 in
theorem rwudp_sum (w : World) (src dst p q : Nat) (da : Option Addr) (xs : List Int) (n dc : Nat) (hr : Row .u8 w da xs) (hn : da = none → dc = 0) (hl : xs.length = n) (hb : ∀ x ∈ xs, 0 ≤ x ∧ x ≤ 255) (h1 : n ≤ 1472) (hs : src ≤ 4294967295) (hd : dst ≤ 4294967295) (hp : p ≤ 65535) (hq : q ≤ 65535) :
    Calls Try.prog 36 #[.int .u32 src, .int .u32 dst, .agg #[.int .u16 (p : Int), .int .u16 (q : Int), .bool false, .slice da n dc]] w fun e w' => ∃ a c,
      e = .returned (.tuple #[.slice a (8 + n) c, .int .i64 0]) ∧ w'.ownsRow w.heap.size 5 1 (.slice a (8 + n) c) (8 + n) ((udpS src dst p q xs).map (Value.int .u8)) ∧ Below w.heap.size w w' := by
  have HR := hide hr
  have HN := hide hn
  have HL := hide hl
  have HBR := hide (udpZ_rng p q xs hb)
  clear hb
  have hZL := udpZ_len p q xs
  rw [HL.out] at hZL
  have HZL := hide hZL
  clear hr hn hl hZL
  go_enter Try.func36, Try.ntmps36
  go_wp2_with fail
  obtain ⟨B0, w0, hB, hqq, hl0, hbel, hheap⟩ : ∃ B0 wq, w.heap.size = B0 ∧ w.alloc (.cells #[.int .u16 (p : Int), .int .u16 (q : Int), .bool false, .slice da n dc] 63) = wq ∧ B0 < wq.heap.size ∧ Below w.heap.size w wq ∧
      wq.heap[B0]? = some (.cells #[.int .u16 (p : Int), .int .u16 (q : Int), .bool false, .slice da n dc] 63 (0, 0)) := ⟨_, _, rfl, rfl, by simp, (Below.refl _ _).alloc (Nat.le_refl _) _, heap_alloc_new _ _⟩
  rw [hqq, hB]
  have HB := hide hB
  have HH := hide hheap
  obtain ⟨k0_0, k0_1, k0_2, k0_3, kf⟩ := four_cells hheap
  have RS := hide (HR.out.below hbel (Nat.le_refl _))
  have BE := hide hbel
  have hw1 : IntKind.i64.wrap (p : Int) = (p : Int) := IntWalk.i64_in _ (by omega)
  have hw2 : IntKind.i64.wrap (q : Int) = (q : Int) := IntWalk.i64_in _ (by omega)
  clear hqq hB hheap hbel kf
  go_region_held3 (fun w' => w'.cell? ⟨B0, 0, none⟩ = some (.int .u16 p) ∧ w'.cell? ⟨B0, 1, none⟩ = some (.int .u16 q)) (go_keep) (first
    | (go_at_call 61; (with_reducible refine (two_any p _ ?_).mono ?_); omega; rintro e w1 ⟨g1, c1, rfl, o, b⟩; have k10 := (bcell b B0 0 hl0).trans k0_0; have k11 := (bcell b B0 1 hl0).trans k0_1; have hb1 : Below w0.heap.size w0 w1 := below_of_drew b; have B1 := hide hb1; have O1 := hide o; have hl1 : B0 < w1.heap.size := Nat.lt_of_lt_of_le hl0 hb1.size; clear o b hb1)
    | (go_at_call 61; (with_reducible refine (two_any q _ ?_).mono ?_); omega; rintro e w2 ⟨g2, c2, rfl, o, b⟩; have k20 := (bcell b B0 0 hl1).trans k10; have k21 := (bcell b B0 1 hl1).trans k11; have B2 := hide (B1.out.trans (b.mono B1.out.size)); have hx := app_own w2 w0.heap.size _ 2 _ (owns_below O1.out b (Nat.le_refl _)) (some ⟨g2, 0, none⟩) (numB 2 q) 2 c2 (Row.of_owns o) (numB_len _ _) (fun h => by cases h) (by omega) B2.out.size; have HX := hide hx; clear o b hx)
    | (refine step_append_ex rfl (.tmp 18) (.tmp 22) 25 25 rfl _ _ rfl rfl _ HX.out ?_; rintro v3 w3 HP; have BF : Below w0.heap.size w0 w3 := B2.out.trans HP.2; have k30 := (bcell BF B0 0 hl0).trans k0_0; have k31 := (bcell BF B0 1 hl0).trans k0_1; have OT := hide HP.1; have BT := hide BF; clear HP BF)
    | fail)
  obtain ⟨a3, c3, rfl⟩ := slice_form OT.out
  have k33 := (bcell BT.out B0 3 hl0).trans k0_3
  have hl3 : B0 < w3.heap.size := Nat.lt_of_lt_of_le hl0 BT.out.size
  have RS3 := hide (RS.out.below BT.out (Nat.le_refl _))
  have hw8 : IntKind.i64.wrap (8 + (n : Int)) = 8 + (n : Int) := IntWalk.i64_in _ (by omega)
  clear k10 k11 k20 k21 k30 k31 hw1 hw2 B1 B2 O1 HX
  go_wp2_with fail
  go_cut [8] (fun bv wx => ∃ a c, bv = .slice a (8 + n) c ∧ Hid (wx.ownsRow w0.heap.size 5 1 (.slice a (8 + n) c) (8 + n) ((udpZ p q xs).map (Value.int .u8))) ∧ Hid (Below w0.heap.size w0 wx))
  case first =>
    go_region_held3 (fun w' => w'.cell? ⟨B0, 3, none⟩ = some (.slice da n dc)) (go_keep) (first
      | (go_at_call 61; (with_reducible refine (two_eight n _ ?_).mono ?_); omega; rintro e w4 ⟨g4, c4, rfl, o, b⟩; have b34 : Below w3.heap.size w3 w4 := (by first | exact b | exact below_of_drew b | exact bel_lit b | exact below_of_drew (bel_lit b) | exact bel_lit (below_of_drew b)); have k43 := (bcell b34 B0 3 hl3).trans k33; have B4 := hide (BT.out.trans (b34.mono BT.out.size)); have O4 := hide (owns_below OT.out b34 (Nat.le_refl _)); have hne := hide (fun (L : Nat) (h : w3.heap.size ≤ L) => own_ne OT.out h); have R4 := hide (Row.of_owns o); have hl4 : B0 < w4.heap.size := Nat.lt_of_lt_of_le hl3 b34.size; have hs4 := b34.size; (first | (have LB := hide (litB b)) | (have LB := hide (litB_d b)) | skip); clear o b b34; have HXa := hide (app_own2 w4 w0.heap.size _ (2 + 2) _ O4.out (some ⟨g4, 0, none⟩) (numB 2 (8 + n)) 2 c4 R4.out (numB_len _ _) (fun h => by cases h) (by omega) B4.out.size); have HXb := hide (app_own2 (w4.alloc (.cells #[.int .u8 0, .int .u8 0] 5)) w0.heap.size _ (2 + 2) _ (O4.out.alloc _) (some ⟨g4, 0, none⟩) (numB 2 (8 + n)) 2 c4 (R4.out.below ((Below.refl _ _).alloc (Nat.le_refl _) _) (Nat.le_refl _)) (numB_len _ _) (fun h => by cases h) (by omega) (Nat.le_trans B4.out.size (by simp))))
      | (refine step_append_ex rfl (.tmp 24) (.tmp 29) 25 25 rfl _ _ rfl rfl _ HXa.out ?_; rintro v5 w5 HP; have BF : Below w0.heap.size w0 w5 := B4.out.trans HP.2.1; have k53 := (bcell BF B0 3 hl0).trans k0_3; have O5 := hide HP.1; have B5 := hide BF; have hl5 : B0 < w5.heap.size := Nat.lt_of_lt_of_le hl0 BF.size; (first | (have LB := hide (HP.2.2 _ _ LB.out (hne.out _ (Nat.le_refl _)));  have HY := hide (app_own2 w5 w0.heap.size _ (2 + 2 + 2) _ O5.out (some ⟨_, 0, none⟩) [0, 0] 2 2 (row_two LB.out) rfl (fun h => by cases h) (by omega) B5.out.size)) | (have HY := hide (app_own2 (w5.alloc (.cells #[.int .u8 0, .int .u8 0] 5)) w0.heap.size _ (2 + 2 + 2) _ (O5.out.alloc _) (some ⟨w5.heap.size, 0, none⟩) [0, 0] 2 2 (row_two (heap_alloc_new w5 _)) rfl (fun h => by cases h) (by omega) (Nat.le_trans B5.out.size (by simp))))); clear HP BF)
      | (refine step_append_ex rfl (.tmp 24) (.tmp 29) 25 25 rfl _ _ rfl rfl _ HXb.out ?_; rintro v5 w5 HP; have BF : Below w0.heap.size w0 w5 := (B4.out.alloc B4.out.size _).trans HP.2.1; have k53 := (bcell BF B0 3 hl0).trans k0_3; have O5 := hide HP.1; have B5 := hide BF; have hl5 : B0 < w5.heap.size := Nat.lt_of_lt_of_le hl0 BF.size; have LB := hide (HP.2.2 _ _ (heap_alloc_new w4 _) (hne.out _ hs4)); have HY := hide (app_own2 w5 w0.heap.size _ (2 + 2 + 2) _ O5.out (some ⟨w4.heap.size, 0, none⟩) [0, 0] 2 2 (row_two LB.out) rfl (fun h => by cases h) (by omega) B5.out.size); clear HP BF)
      | (refine step_append_ex rfl (.tmp 30) (.tmp 31) 25 25 rfl _ _ rfl rfl _ HY.out ?_; rintro v6 w6 HP; have BF : Below w0.heap.size w0 w6 := (by first | exact B5.out.trans HP.2.1 | exact (B5.out.alloc B5.out.size _).trans HP.2.1); have k63 := (bcell BF B0 3 hl0).trans k0_3; have O6 := hide HP.1; have B6 := hide BF; have hl6 : B0 < w6.heap.size := Nat.lt_of_lt_of_le hl0 BF.size; have HZ := hide (app_own w6 w0.heap.size _ (2 + 2 + 2 + 2) _ O6.out da xs n dc (RS.out.below BF (Nat.le_refl _)) HL.out HN.out (by omega) B6.out.size); clear HP BF)
      | (refine step_append_ex rfl (.tmp 32) (.tmp 34) 25 25 rfl _ _ rfl rfl _ HZ.out ?_; rintro v7 w7 HP; have BF : Below w0.heap.size w0 w7 := B6.out.trans HP.2; have k73 := (bcell BF B0 3 hl0).trans k0_3; have O7 := hide HP.1; have B7 := hide BF; clear HP BF)
      | fail)
    all_goals
      have e7 : (((numB 2 p ++ numB 2 q) ++ numB 2 (8 + n)) ++ [0, 0]) ++ xs = udpZ p q xs := by
        have h0 : numB 2 0 = [0, 0] := rfl
        simp [udpZ, h0, HL.out]
      have hz := O7.out
      rw [e7, show 2 + 2 + 2 + 2 + n = 8 + n by omega] at hz
      obtain ⟨a7, c7, rfl⟩ := slice_form hz
      have OZ := hide hz
      clear hz e7
      try go_wp2_with fail
      go_meet
      exact ⟨a7, c7, rfl, OZ, B7⟩
  case rest =>
    obtain ⟨a7, c7, rfl, OP, BP⟩ := hcut
    have OZ := hide (owns_mono OP.out BE.out.size)
    have BZ := hide (BE.out.trans (BP.out.mono BE.out.size))
    have kz2 : wc.cell? ⟨B0, 2, none⟩ = some (.bool false) := (bcell BP.out B0 2 hl0).trans k0_2
    clear k0_0 k0_1 k0_2 k0_3 k33
    have hrs := rsum_any src dst 17 (8 + n) c7 a7 (udpZ p q xs) wc (Row.of_owns OZ.out) (none_cap OZ.out) HZL.out HBR.out hs hd (by omega) (by omega)
    have HRS := hide hrs
    clear hrs
    go_wp2_with fail
    refine HRS.out.mono ?_
    rintro e w8 ⟨rfl, b8⟩
    have O8 := hide (owns_below OZ.out b8 (Nat.le_refl _))
    have B8 := hide (BZ.out.trans (b8.mono BZ.out.size))
    clear b8
    have hcr := csum_rng (psB src dst 17 (8 + n) ++ udpZ p q xs)
    have hKr := udpK_rng src dst p q xs
    have hKe : toldI (csum (psB src dst 17 (8 + n) ++ udpZ p q xs)) = udpK src dst p q xs := by unfold udpK; rw [HL.out]
    have HS : Hid (spl (udpZ p q xs) 6 (numB 2 (udpK src dst p q xs).toNat) = udpS src dst p q xs) := hide rfl
    have hKn : udpK src dst p q xs = (((udpK src dst p q xs).toNat : Nat) : Int) := by omega
    have hKle : (udpK src dst p q xs).toNat ≤ 65535 := by omega
    generalize udpK src dst p q xs = KK at *
    generalize csum (psB src dst 17 (8 + n) ++ udpZ p q xs) = K at *
    obtain ⟨k, hkk⟩ : ∃ k, KK.toNat = k := ⟨_, rfl⟩
    rw [hkk] at hKn hKle HS
    have hly : ∀ (W : World), W.ownsRow w.heap.size 5 1 (.slice a7 (8 + n) c7) (8 + n) ((udpZ p q xs).map (Value.int .u8)) → Calls Try.prog 49 #[.slice a7 (8 + n) c7, .int .i64 6, .int .u16 (k : Int)] W fun e w' => e = .returned (.slice a7 (8 + n) c7) ∧ w'.ownsRow w.heap.size 5 1 (.slice a7 (8 + n) c7) (8 + n) ((udpS src dst p q xs).map (Value.int .u8)) ∧ Below w.heap.size W w' := fun W o => by
      have h := rlay_any w.heap.size (8 + n) c7 6 a7 (udpZ p q xs) k W o (by omega) (by omega) hKle
      rw [HS.out] at h
      exact h
    have HLY := hide hly
    clear hly
    have HKN := hide hKn
    have HKE := hide hKe
    have hc0 := hcr.1
    have hc1 := hcr.2
    clear hkk hKn hKe hcr hKr
    by_cases h0 : K = 0
    · have hKv : k = 65535 := by have := HKE.out; rw [h0] at this; have h2 := HKN.out; unfold toldI at this; simp at this; omega
      have htest : (K == 0) = true := by simpa using h0
      subst h0
      have HLX := hide (HLY.out w8 O8.out)
      rw [hKv] at HLX
      clear hKv
      go_wp2_with fail
      refine HLX.out.mono ?_
      rintro e w9 ⟨rfl, o9, b9⟩
      have O9 := hide o9
      have B9 := hide (B8.out.trans b9)
      clear o9 b9
      go_wp2
      go_ret2
      exact ⟨a7, c7, rfl, O9.out, B9.out⟩
    · have hKv : K = (k : Int) := by have := HKE.out; have h2 := HKN.out; unfold toldI at this; rw [if_neg h0] at this; omega
      have htest : ((k : Int) == 0) = false := by rw [← hKv]; simpa using h0
      have HLX := hide (HLY.out w8 O8.out)
      rw [hKv]
      clear h0 hKv
      go_wp2_with fail
      refine HLX.out.mono ?_
      rintro e w9 ⟨rfl, o9, b9⟩
      have O9 := hide o9
      have B9 := hide (B8.out.trans b9)
      clear o9 b9
      go_wp2
      go_ret2
      exact ⟨a7, c7, rfl, O9.out, B9.out⟩
end Go.Proofs.Ytgggcapgaikbeaa

/- What the document's WriteTCP answers. -/
namespace Go.Proofs.Ytgggcapgaikbeaa
open Go.RowKit
set_option linter.unusedVariables false
set_option linter.unusedSimpArgs false
set_option maxRecDepth 100000
end Go.Proofs.Ytgggcapgaikbeaa

/- What the document's WriteTCP answers of a segment that may be. -/
namespace Go.Proofs.Ytgggcapgaikbeaa
open Go.RowKit
set_option linter.unusedVariables false
set_option linter.unusedSimpArgs false
set_option maxRecDepth 100000
set_option maxHeartbeats 4000000 in
theorem rwtcp_ok (w : World) (src dst p q u v f g h : Nat) (oa : Option Addr) (os : List Int) (m oc : Nat) (da : Option Addr) (xs : List Int) (n dc : Nat) (hro : Row .u8 w oa os) (hno : oa = none → oc = 0) (hlo : os.length = m) (hr : Row .u8 w da xs) (hn : da = none → dc = 0) (hl : xs.length = n) (hbo : ∀ x ∈ os, 0 ≤ x ∧ x ≤ 255) (hb : ∀ x ∈ xs, 0 ≤ x ∧ x ≤ 255) (h1 : m ≤ 40) (h2 : m % 4 = 0) (h3 : n ≤ 1460 - m) (hs : src ≤ 4294967295) (hd : dst ≤ 4294967295) (hp : p ≤ 65535) (hq : q ≤ 65535) (hu : u ≤ 4294967295) (hv : v ≤ 4294967295) (hf : f ≤ 255) (hg : g ≤ 65535) (hh : h ≤ 65535) :
    Calls Try.prog 34 #[.int .u32 src, .int .u32 dst, .agg #[.int .u16 (p : Int), .int .u16 (q : Int), .int .u32 (u : Int), .int .u32 (v : Int), .int .u8 (f : Int), .int .u16 (g : Int), .int .u16 (h : Int), .slice oa m oc, .slice da n dc]] w fun e w' => ∃ a c,
      e = .returned (.tuple #[.slice a (20 + m + n) c, .int .i64 0]) ∧ w'.ownsRow w.heap.size 5 1 (.slice a (20 + m + n) c) (20 + m + n) ((tcpG p q u v f g h os xs (tcpK src dst p q u v f g h os xs).toNat).map (Value.int .u8)) ∧ Below w.heap.size w w' := by
  have HRO := hide hro
  have HR := hide hr
  have HNO := hide hno
  have HN := hide hn
  have HLO := hide hlo
  have HL := hide hl
  have HBR := hide (tcpG_rng p q u v f g h os xs 0 hf (by omega) hbo hb)
  have hZL := tcpG_len p q u v f g h os xs 0
  rw [HLO.out, HL.out] at hZL
  have HZL := hide hZL
  have hdm : decide ((0 : Int) < (m : Int) % 4) = false := by simp; omega
  have hdm2 : decide ((40 : Int) < (m : Int)) = false := by simp; omega
  have hdm3 : decide ((1460 : Int) - (m : Int) < (n : Int)) = false := by simp; omega
  have hq1 : IntKind.i64.wrap ((m : Int).tdiv 4) = ((m / 4 : Nat) : Int) := by rw [Int.tdiv_eq_ediv_of_nonneg (by omega), IntWalk.i64_in _ (by omega)]; omega
  have hq2 : (m : Int) / 4 = ((m / 4 : Nat) : Int) := by omega
  have hq3 : IntKind.i64.wrap (5 + ((m / 4 : Nat) : Int)) = 5 + ((m / 4 : Nat) : Int) := IntWalk.i64_in _ (by omega)
  have hq4 : IntKind.i64.wrap (16 * (5 + ((m / 4 : Nat) : Int))) = 16 * (5 + ((m / 4 : Nat) : Int)) := IntWalk.i64_in _ (by omega)
  have hq5 : IntKind.u8.wrap (16 * (5 + ((m / 4 : Nat) : Int))) = hdB m := by rw [IntKind.wrap_u8]; unfold hdB; omega
  have hq0 : IntKind.i64.wrap ((m / 4 : Nat) : Int) = ((m / 4 : Nat) : Int) := IntWalk.i64_in _ (by omega)
  have HQ := hide (And.intro hq0 (And.intro hq1 (And.intro hq2 (And.intro hq3 (And.intro hq4 hq5)))))
  clear hro hno hlo hr hn hl hbo hb hZL hq0 hq1 hq2 hq3 hq4 hq5
  generalize m / 4 = m4 at *
  go_enter Try.func34, Try.ntmps34
  go_wp2_with fail
  obtain ⟨B0, w0, hB, hqq, hl0, hbel, hheap⟩ : ∃ B0 wq, w.heap.size = B0 ∧ w.alloc (.cells #[.int .u16 (p : Int), .int .u16 (q : Int), .int .u32 (u : Int), .int .u32 (v : Int), .int .u8 (f : Int), .int .u16 (g : Int), .int .u16 (h : Int), .slice oa m oc, .slice da n dc] 61) = wq ∧ B0 < wq.heap.size ∧ Below w.heap.size w wq ∧
      wq.heap[B0]? = some (.cells #[.int .u16 (p : Int), .int .u16 (q : Int), .int .u32 (u : Int), .int .u32 (v : Int), .int .u8 (f : Int), .int .u16 (g : Int), .int .u16 (h : Int), .slice oa m oc, .slice da n dc] 61 (0, 0)) := ⟨_, _, rfl, rfl, by simp, (Below.refl _ _).alloc (Nat.le_refl _) _, heap_alloc_new _ _⟩
  rw [hqq, hB]
  have HB := hide hB
  have HH := hide hheap
  obtain ⟨⟨k0_0, k0_1, k0_2, k0_3, k0_4, k0_5, k0_6, k0_7, k0_8⟩, kf⟩ := nine_cells hheap
  have RS := hide (And.intro (HRO.out.below hbel (Nat.le_refl _)) (HR.out.below hbel (Nat.le_refl _)))
  have BE := hide hbel
  have BW := hide (Below.refl w0.heap.size w0)
  have hwi_p : IntKind.i64.wrap (p : Int) = (p : Int) := IntWalk.i64_in _ (by omega)
  have hwi_q : IntKind.i64.wrap (q : Int) = (q : Int) := IntWalk.i64_in _ (by omega)
  have hwi_g : IntKind.i64.wrap (g : Int) = (g : Int) := IntWalk.i64_in _ (by omega)
  have hwi_h : IntKind.i64.wrap (h : Int) = (h : Int) := IntWalk.i64_in _ (by omega)
  have hwu_u : IntKind.u64.wrap (u : Int) = (u : Int) := wraps_u64 _ (by omega) (by omega)
  have hwu_v : IntKind.u64.wrap (v : Int) = (v : Int) := wraps_u64 _ (by omega) (by omega)
  clear hqq hB hheap hbel kf h2
  go_cut [9] (fun bv wx => ∃ a c, bv = .slice a (2 + 2) c ∧ Hid (wx.ownsRow w0.heap.size 5 1 (.slice a (2 + 2) c) (2 + 2) ((numB 2 p ++ numB 2 q).map (Value.int .u8))) ∧ Hid (Below w0.heap.size w0 wx))
  case first =>
    go_region_held3 (fun w' => w'.cell? ⟨B0, 0, none⟩ = some (.int .u16 (p : Int)) ∧ w'.cell? ⟨B0, 1, none⟩ = some (.int .u16 (q : Int))) (go_keep) (first
      | (go_at_call 61; (with_reducible refine (two_any p _ ?_).mono ?_); omega; rintro e wa ⟨ga, ca, rfl, o, b⟩; (try replace b := below_of_drew b); have BW := hide (BW.out.trans (b.mono BW.out.size)); have ka_0 := (bcell BW.out B0 0 hl0).trans k0_0; have ka_1 := (bcell BW.out B0 1 hl0).trans k0_1; have hla : B0 < wa.heap.size := Nat.lt_of_lt_of_le hl0 BW.out.size; have O1 := hide o; clear b)
      | (go_at_call 61; (with_reducible refine (two_any q _ ?_).mono ?_); omega; rintro e wb ⟨gb, cb, rfl, o, b⟩; (try replace b := below_of_drew b); have BW := hide (BW.out.trans (b.mono BW.out.size)); have kb_0 := (bcell BW.out B0 0 hl0).trans k0_0; have kb_1 := (bcell BW.out B0 1 hl0).trans k0_1; have hlb : B0 < wb.heap.size := Nat.lt_of_lt_of_le hl0 BW.out.size; have O1 := hide (owns_below O1.out b (Nat.le_refl _)); have HX := hide (app_own2 _ w0.heap.size _ 2 _ O1.out (some ⟨gb, 0, none⟩) (numB 2 q) 2 cb (Row.of_owns o) (numB_len _ _) (fun h => by cases h) (by omega) BW.out.size); clear b)
      | (refine step_append_ex rfl (.tmp 31) (.tmp 35) 25 25 rfl _ _ rfl rfl _ HX.out ?_; rintro vc wc HP; have BW := hide (show Below w0.heap.size w0 wc from BW.out.trans HP.2.1); have kc_0 := (bcell BW.out B0 0 hl0).trans k0_0; have kc_1 := (bcell BW.out B0 1 hl0).trans k0_1; have hlc : B0 < wc.heap.size := Nat.lt_of_lt_of_le hl0 BW.out.size; have OF := hide HP.1; clear HP)
      | fail)
    all_goals
      have hz := OF.out
      obtain ⟨af, cf, rfl⟩ := slice_form hz
      have OZ := hide hz
      clear hz
      try go_wp2_with fail
      go_meet
      exact ⟨af, cf, rfl, OZ, BW⟩
  case rest =>
  obtain ⟨az, cz, rfl, OT, BW⟩ := hcut
  obtain ⟨wz, rfl⟩ : ∃ wz, wz = wc := ⟨_, rfl⟩
  have kz_2 := (bcell BW.out B0 2 hl0).trans k0_2
  have kz_3 := (bcell BW.out B0 3 hl0).trans k0_3
  have hlz : B0 < wz.heap.size := Nat.lt_of_lt_of_le hl0 BW.out.size
  go_wp2_with fail
  go_cut [9] (fun bv wx => ∃ a c, bv = .slice a (2 + 2 + 4 + 4) c ∧ Hid (wx.ownsRow w0.heap.size 5 1 (.slice a (2 + 2 + 4 + 4) c) (2 + 2 + 4 + 4) (((numB 2 p ++ numB 2 q) ++ numB 4 u ++ numB 4 v).map (Value.int .u8))) ∧ Hid (Below w0.heap.size w0 wx))
  case first =>
    go_region_held3 (fun w' => w'.cell? ⟨B0, 2, none⟩ = some (.int .u32 (u : Int)) ∧ w'.cell? ⟨B0, 3, none⟩ = some (.int .u32 (v : Int))) (go_keep) (first
      | (go_at_call 48; (with_reducible refine (refNum4_own u _ ?_).mono ?_); omega; rintro e wa ⟨ga, ca, rfl, o, b⟩; (try replace b := below_of_drew b); have BW := hide (BW.out.trans (b.mono BW.out.size)); have ka_2 := (bcell BW.out B0 2 hl0).trans k0_2; have ka_3 := (bcell BW.out B0 3 hl0).trans k0_3; have hla : B0 < wa.heap.size := Nat.lt_of_lt_of_le hl0 BW.out.size; have OT := hide (owns_below OT.out b (Nat.le_refl _)); have OU := hide o; have HX := hide (app_own2 _ w0.heap.size _ (2 + 2) _ OT.out (some ⟨ga, 0, none⟩) (numB 4 u) 4 ca (Row.of_owns OU.out) (numB_len _ _) (fun h => by cases h) (by omega) BW.out.size); clear b)
      | (go_at_call 48; (with_reducible refine (refNum4_own v _ ?_).mono ?_); omega; rintro e wb ⟨gb, cb, rfl, o, b⟩; (try replace b := below_of_drew b); have BW := hide (BW.out.trans (b.mono BW.out.size)); have kb_2 := (bcell BW.out B0 2 hl0).trans k0_2; have kb_3 := (bcell BW.out B0 3 hl0).trans k0_3; have hlb : B0 < wb.heap.size := Nat.lt_of_lt_of_le hl0 BW.out.size; (first | (have O1 := hide (owns_below O1.out b (Nat.le_refl _)); have HY := hide (app_own2 _ w0.heap.size _ (2 + 2 + 4) _ O1.out (some ⟨gb, 0, none⟩) (numB 4 v) 4 cb (Row.of_owns o) (numB_len _ _) (fun h => by cases h) (by omega) BW.out.size)) | (have hne := hide (fun (L : Nat) (hL : wa.heap.size ≤ L) => own_ne OT.out hL); have OT := hide (owns_below OT.out b (Nat.le_refl _)); have OU := hide (owns_below OU.out b (Nat.le_refl _)); have OV := hide o; have HX := hide (app_own2 _ w0.heap.size _ (2 + 2) _ OT.out (some ⟨ga, 0, none⟩) (numB 4 u) 4 ca (Row.of_owns OU.out) (numB_len _ _) (fun h => by cases h) (by omega) BW.out.size))); clear b)
      | (refine step_append_ex rfl (.tmp 37) (.tmp 41) 25 25 rfl _ _ rfl rfl _ HX.out ?_; rintro vc wc HP; have BW := hide (show Below w0.heap.size w0 wc from BW.out.trans HP.2.1); have kc_2 := (bcell BW.out B0 2 hl0).trans k0_2; have kc_3 := (bcell BW.out B0 3 hl0).trans k0_3; have hlc : B0 < wc.heap.size := Nat.lt_of_lt_of_le hl0 BW.out.size; have O1 := hide HP.1; (first | (have OV := hide (owns_keep OV.out HP.2.2 hne.out); have HY := hide (app_own2 _ w0.heap.size _ (2 + 2 + 4) _ O1.out (some ⟨gb, 0, none⟩) (numB 4 v) 4 cb (Row.of_owns OV.out) (numB_len _ _) (fun h => by cases h) (by omega) BW.out.size)) | skip); clear HP)
      | (refine step_append_ex rfl (.tmp 42) (.tmp 46) 25 25 rfl _ _ rfl rfl _ HY.out ?_; rintro vd wd HP; have BW := hide (show Below w0.heap.size w0 wd from BW.out.trans HP.2.1); have kd_2 := (bcell BW.out B0 2 hl0).trans k0_2; have kd_3 := (bcell BW.out B0 3 hl0).trans k0_3; have hld : B0 < wd.heap.size := Nat.lt_of_lt_of_le hl0 BW.out.size; have OF := hide HP.1; clear HP)
      | fail)
    all_goals
      have hz := OF.out
      obtain ⟨af, cf, rfl⟩ := slice_form hz
      have OZ := hide hz
      clear hz
      try go_wp2_with fail
      go_meet
      exact ⟨af, cf, rfl, OZ, BW⟩
  case rest =>
  obtain ⟨az, cz, rfl, OT, BW⟩ := hcut
  obtain ⟨wz, rfl⟩ : ∃ wz, wz = wc := ⟨_, rfl⟩
  have kz_4 := (bcell BW.out B0 4 hl0).trans k0_4
  have kz_5 := (bcell BW.out B0 5 hl0).trans k0_5
  have hlz : B0 < wz.heap.size := Nat.lt_of_lt_of_le hl0 BW.out.size
  obtain ⟨hq0, hq1, hq2, hq3, hq4, hq5⟩ := HQ.out
  go_wp2_with fail
  go_cut [9] (fun bv wx => ∃ a c, bv = .slice a (2 + 2 + 4 + 4 + 2 + 2) c ∧ Hid (wx.ownsRow w0.heap.size 5 1 (.slice a (2 + 2 + 4 + 4 + 2 + 2) c) (2 + 2 + 4 + 4 + 2 + 2) ((((numB 2 p ++ numB 2 q) ++ numB 4 u ++ numB 4 v) ++ [hdB m, (f : Int)] ++ numB 2 g).map (Value.int .u8))) ∧ Hid (Below w0.heap.size w0 wx))
  case first =>
    have hx0 : ∀ W : World, (W = wz.drew.alloc (.cells #[.int .u8 (hdB m), .int .u8 (f : Int)] 5) ∨ W = (wz.alloc (.cells #[.int .u8 (hdB m), .int .u8 (f : Int)] 5)).drew) → ∃ v' w', (Builtin.append_ #[25, 25] 25 #[.slice az (2 + 2 + 4 + 4) cz, .slice (some ⟨wz.heap.size, 0, none⟩) 2 2]).run Try.prog W = .ok v' w' ∧ (w'.ownsRow w0.heap.size 5 1 v' (2 + 2 + 4 + 4 + 2) ((((numB 2 p ++ numB 2 q) ++ numB 4 u ++ numB 4 v) ++ [hdB m, (f : Int)]).map (Value.int .u8)) ∧ Below w0.heap.size w0 w') := by
      rintro W (rfl | rfl)
      · obtain ⟨v', w', h1, h2, h3, _⟩ := app_own2 (wz.drew.alloc (.cells #[.int .u8 (hdB m), .int .u8 (f : Int)] 5)) w0.heap.size _ (2 + 2 + 4 + 4) _ (OT.out.drew.alloc _) (some ⟨wz.heap.size, 0, none⟩) [hdB m, (f : Int)] 2 2 (row_two (heap_alloc_new wz.drew _)) rfl (fun h => by cases h) (by omega) (Nat.le_trans BW.out.size (by simp))
        exact ⟨v', w', h1, h2, (BW.out.drew.alloc BW.out.size _).trans h3⟩
      · obtain ⟨v', w', h1, h2, h3, _⟩ := app_own2 (wz.alloc (.cells #[.int .u8 (hdB m), .int .u8 (f : Int)] 5)).drew w0.heap.size _ (2 + 2 + 4 + 4) _ (OT.out.alloc _).drew (some ⟨wz.heap.size, 0, none⟩) [hdB m, (f : Int)] 2 2 (show Row .u8 (wz.alloc (.cells #[.int .u8 (hdB m), .int .u8 (f : Int)] 5)).drew _ _ from row_two (heap_alloc_new wz _)) rfl (fun h => by cases h) (by omega) (Nat.le_trans BW.out.size (by simp))
        exact ⟨v', w', h1, h2, ((BW.out.alloc BW.out.size _).drew).trans h3⟩
    have HX0 := hide hx0
    clear hx0
    go_region_held3 (fun w' => w'.cell? ⟨B0, 4, none⟩ = some (.int .u8 (f : Int)) ∧ w'.cell? ⟨B0, 5, none⟩ = some (.int .u16 (g : Int))) (go_keep) (first
      | (go_at_call 61; (with_reducible refine (two_any g _ ?_).mono ?_); omega; rintro e wa ⟨ga, ca, rfl, o, b⟩; (first | (have LB := hide (litB b)) | (have LB := hide (litB_d b)) | (have LB := hide (below_block b LB.out (Nat.le_refl _))) | skip); (try replace b := bel_lit b); (try replace b := below_of_drew b); (try replace b := bel_lit b); have BW := hide (BW.out.trans (b.mono BW.out.size)); have ka_4 := (bcell BW.out B0 4 hl0).trans k0_4; have ka_5 := (bcell BW.out B0 5 hl0).trans k0_5; have hla : B0 < wa.heap.size := Nat.lt_of_lt_of_le hl0 BW.out.size; (first | (have O1 := hide (owns_below O1.out b (Nat.le_refl _)); have HY := hide (app_own2 _ w0.heap.size _ (2 + 2 + 4 + 4 + 2) _ O1.out (some ⟨ga, 0, none⟩) (numB 2 g) 2 ca (Row.of_owns o) (numB_len _ _) (fun h => by cases h) (by omega) BW.out.size)) | (have OV := hide (owns_mono (base' := wz.heap.size) o (by simp)); have hne := hide (fun (L : Nat) (hL : wz.heap.size ≤ L) => own_ne OT.out hL); have hsz := b.size; have OT := hide (owns_below OT.out b (Nat.le_refl _)); (first | (have HX := hide (app_own2 _ w0.heap.size _ (2 + 2 + 4 + 4) _ OT.out (some ⟨_, 0, none⟩) [hdB m, (f : Int)] 2 2 (row_two LB.out) rfl (fun h => by cases h) (by omega) BW.out.size)) | (have HX := hide (app_own2 (wa.alloc (.cells #[.int .u8 (hdB m), .int .u8 (f : Int)] 5)) w0.heap.size _ (2 + 2 + 4 + 4) _ (OT.out.alloc _) (some ⟨wa.heap.size, 0, none⟩) [hdB m, (f : Int)] 2 2 (row_two (heap_alloc_new wa _)) rfl (fun h => by cases h) (by omega) (Nat.le_trans BW.out.size (by simp))); have OVb := hide (OV.out.alloc (.cells #[.int .u8 (hdB m), .int .u8 (f : Int)] 5)))))); clear b)
      | (refine step_append_ex rfl (.tmp 48) (.tmp 56) 25 25 rfl _ _ rfl rfl _ (HX0.out _ (Or.inl ?_)) ?_; (with_reducible rfl); rintro vb wb HP; have BW := hide HP.2; have kb_4 := (bcell BW.out B0 4 hl0).trans k0_4; have kb_5 := (bcell BW.out B0 5 hl0).trans k0_5; have hlb : B0 < wb.heap.size := Nat.lt_of_lt_of_le hl0 BW.out.size; have O1 := hide HP.1; clear HP)
      | (refine step_append_ex rfl (.tmp 48) (.tmp 56) 25 25 rfl _ _ rfl rfl _ (HX0.out _ (Or.inr ?_)) ?_; (with_reducible rfl); rintro vb wb HP; have BW := hide HP.2; have kb_4 := (bcell BW.out B0 4 hl0).trans k0_4; have kb_5 := (bcell BW.out B0 5 hl0).trans k0_5; have hlb : B0 < wb.heap.size := Nat.lt_of_lt_of_le hl0 BW.out.size; have O1 := hide HP.1; clear HP)
      | (refine step_append_ex rfl (.tmp 48) (.tmp 56) 25 25 rfl _ _ rfl rfl _ HX.out ?_; rintro vb wb HP; have BW := hide (show Below w0.heap.size w0 wb from (by first | exact BW.out.trans HP.2.1 | exact (BW.out.alloc BW.out.size _).trans HP.2.1)); have kb_4 := (bcell BW.out B0 4 hl0).trans k0_4; have kb_5 := (bcell BW.out B0 5 hl0).trans k0_5; have hlb : B0 < wb.heap.size := Nat.lt_of_lt_of_le hl0 BW.out.size; have O1 := hide HP.1; have OV := hide (show wb.ownsRow wz.heap.size 5 1 _ _ _ from (by first | exact owns_keep OV.out HP.2.2 hne.out | exact owns_keep OVb.out HP.2.2 hne.out)); have HY := hide (app_own2 _ w0.heap.size _ (2 + 2 + 4 + 4 + 2) _ O1.out (some ⟨ga, 0, none⟩) (numB 2 g) 2 ca (Row.of_owns OV.out) (numB_len _ _) (fun h => by cases h) (by omega) BW.out.size); clear HP)
      | (refine step_append_ex rfl (.tmp 57) (.tmp 61) 25 25 rfl _ _ rfl rfl _ HY.out ?_; rintro vc wc' HP; have BW := hide (BW.out.trans HP.2.1); have kc_4 := (bcell BW.out B0 4 hl0).trans k0_4; have kc_5 := (bcell BW.out B0 5 hl0).trans k0_5; have hlc : B0 < wc'.heap.size := Nat.lt_of_lt_of_le hl0 BW.out.size; have OF := hide HP.1; clear HP)
      | fail)
    all_goals
      have hz := OF.out
      obtain ⟨af, cf, rfl⟩ := slice_form hz
      have OZ := hide hz
      clear hz
      try go_wp2_with fail
      go_meet
      exact ⟨af, cf, rfl, OZ, BW⟩
  case rest =>
  obtain ⟨az, cz, rfl, OT, BW⟩ := hcut
  obtain ⟨wz, rfl⟩ : ∃ wz, wz = wc := ⟨_, rfl⟩
  have kz_6 := (bcell BW.out B0 6 hl0).trans k0_6
  have kz_7 := (bcell BW.out B0 7 hl0).trans k0_7
  have hlz : B0 < wz.heap.size := Nat.lt_of_lt_of_le hl0 BW.out.size
  clear hq0 hq1 hq2 hq3 hq4 hq5
  go_wp2_with fail
  go_cut [9] (fun bv wx => ∃ a c, bv = .slice a (2 + 2 + 4 + 4 + 2 + 2 + 2 + 2 + m) c ∧ Hid (wx.ownsRow w0.heap.size 5 1 (.slice a (2 + 2 + 4 + 4 + 2 + 2 + 2 + 2 + m) c) (2 + 2 + 4 + 4 + 2 + 2 + 2 + 2 + m) (((((numB 2 p ++ numB 2 q) ++ numB 4 u ++ numB 4 v) ++ [hdB m, (f : Int)] ++ numB 2 g) ++ [0, 0] ++ numB 2 h ++ os).map (Value.int .u8))) ∧ Hid (Below w0.heap.size w0 wx))
  case first =>
    have hx0 : ∀ W : World, (W = wz.drew.alloc (.cells #[.int .u8 0, .int .u8 0] 5) ∨ W = (wz.alloc (.cells #[.int .u8 0, .int .u8 0] 5)).drew) → ∃ v' w', (Builtin.append_ #[25, 25] 25 #[.slice az (2 + 2 + 4 + 4 + 2 + 2) cz, .slice (some ⟨wz.heap.size, 0, none⟩) 2 2]).run Try.prog W = .ok v' w' ∧ (w'.ownsRow w0.heap.size 5 1 v' (2 + 2 + 4 + 4 + 2 + 2 + 2) (((((numB 2 p ++ numB 2 q) ++ numB 4 u ++ numB 4 v) ++ [hdB m, (f : Int)] ++ numB 2 g) ++ [0, 0]).map (Value.int .u8)) ∧ Below w0.heap.size w0 w') := by
      rintro W (rfl | rfl)
      · obtain ⟨v', w', h1, h2, h3, _⟩ := app_own2 (wz.drew.alloc (.cells #[.int .u8 0, .int .u8 0] 5)) w0.heap.size _ (2 + 2 + 4 + 4 + 2 + 2) _ (OT.out.drew.alloc _) (some ⟨wz.heap.size, 0, none⟩) [0, 0] 2 2 (row_two (heap_alloc_new wz.drew _)) rfl (fun h => by cases h) (by omega) (Nat.le_trans BW.out.size (by simp))
        exact ⟨v', w', h1, h2, (BW.out.drew.alloc BW.out.size _).trans h3⟩
      · obtain ⟨v', w', h1, h2, h3, _⟩ := app_own2 (wz.alloc (.cells #[.int .u8 0, .int .u8 0] 5)).drew w0.heap.size _ (2 + 2 + 4 + 4 + 2 + 2) _ (OT.out.alloc _).drew (some ⟨wz.heap.size, 0, none⟩) [0, 0] 2 2 (show Row .u8 (wz.alloc (.cells #[.int .u8 0, .int .u8 0] 5)).drew _ _ from row_two (heap_alloc_new wz _)) rfl (fun h => by cases h) (by omega) (Nat.le_trans BW.out.size (by simp))
        exact ⟨v', w', h1, h2, ((BW.out.alloc BW.out.size _).drew).trans h3⟩
    have HX0 := hide hx0
    clear hx0
    go_region_held3 (fun w' => w'.cell? ⟨B0, 6, none⟩ = some (.int .u16 (h : Int)) ∧ w'.cell? ⟨B0, 7, none⟩ = some (.slice oa m oc)) (go_keep) (first
      | (go_at_call 61; (with_reducible refine (two_any h _ ?_).mono ?_); omega; rintro e wa ⟨ga, ca, rfl, o, b⟩; (first | (have LB := hide (litB b)) | (have LB := hide (litB_d b)) | (have LB := hide (below_block b LB.out (Nat.le_refl _))) | skip); (try replace b := bel_lit b); (try replace b := below_of_drew b); (try replace b := bel_lit b); have BW := hide (BW.out.trans (b.mono BW.out.size)); have ka_6 := (bcell BW.out B0 6 hl0).trans k0_6; have ka_7 := (bcell BW.out B0 7 hl0).trans k0_7; have hla : B0 < wa.heap.size := Nat.lt_of_lt_of_le hl0 BW.out.size; (first | (have O1 := hide (owns_below O1.out b (Nat.le_refl _)); have HY := hide (app_own2 _ w0.heap.size _ (2 + 2 + 4 + 4 + 2 + 2 + 2) _ O1.out (some ⟨ga, 0, none⟩) (numB 2 h) 2 ca (Row.of_owns o) (numB_len _ _) (fun h => by cases h) (by omega) BW.out.size)) | (have OV := hide (owns_mono (base' := wz.heap.size) o (by simp)); have hne := hide (fun (L : Nat) (hL : wz.heap.size ≤ L) => own_ne OT.out hL); have hsz := b.size; have OT := hide (owns_below OT.out b (Nat.le_refl _)); (first | (have HX := hide (app_own2 _ w0.heap.size _ (2 + 2 + 4 + 4 + 2 + 2) _ OT.out (some ⟨_, 0, none⟩) [0, 0] 2 2 (row_two LB.out) rfl (fun h => by cases h) (by omega) BW.out.size)) | (have HX := hide (app_own2 (wa.alloc (.cells #[.int .u8 0, .int .u8 0] 5)) w0.heap.size _ (2 + 2 + 4 + 4 + 2 + 2) _ (OT.out.alloc _) (some ⟨wa.heap.size, 0, none⟩) [0, 0] 2 2 (row_two (heap_alloc_new wa _)) rfl (fun h => by cases h) (by omega) (Nat.le_trans BW.out.size (by simp))); have OVb := hide (OV.out.alloc (.cells #[.int .u8 0, .int .u8 0] 5)))))); clear b)
      | (refine step_append_ex rfl (.tmp 63) (.tmp 64) 25 25 rfl _ _ rfl rfl _ (HX0.out _ (Or.inl ?_)) ?_; (with_reducible rfl); rintro vb wb HP; have BW := hide HP.2; have kb_6 := (bcell BW.out B0 6 hl0).trans k0_6; have kb_7 := (bcell BW.out B0 7 hl0).trans k0_7; have hlb : B0 < wb.heap.size := Nat.lt_of_lt_of_le hl0 BW.out.size; have O1 := hide HP.1; clear HP)
      | (refine step_append_ex rfl (.tmp 63) (.tmp 64) 25 25 rfl _ _ rfl rfl _ (HX0.out _ (Or.inr ?_)) ?_; (with_reducible rfl); rintro vb wb HP; have BW := hide HP.2; have kb_6 := (bcell BW.out B0 6 hl0).trans k0_6; have kb_7 := (bcell BW.out B0 7 hl0).trans k0_7; have hlb : B0 < wb.heap.size := Nat.lt_of_lt_of_le hl0 BW.out.size; have O1 := hide HP.1; clear HP)
      | (refine step_append_ex rfl (.tmp 63) (.tmp 64) 25 25 rfl _ _ rfl rfl _ HX.out ?_; rintro vb wb HP; have BW := hide (show Below w0.heap.size w0 wb from (by first | exact BW.out.trans HP.2.1 | exact (BW.out.alloc BW.out.size _).trans HP.2.1)); have kb_6 := (bcell BW.out B0 6 hl0).trans k0_6; have kb_7 := (bcell BW.out B0 7 hl0).trans k0_7; have hlb : B0 < wb.heap.size := Nat.lt_of_lt_of_le hl0 BW.out.size; have O1 := hide HP.1; have OV := hide (show wb.ownsRow wz.heap.size 5 1 _ _ _ from (by first | exact owns_keep OV.out HP.2.2 hne.out | exact owns_keep OVb.out HP.2.2 hne.out)); have HY := hide (app_own2 _ w0.heap.size _ (2 + 2 + 4 + 4 + 2 + 2 + 2) _ O1.out (some ⟨ga, 0, none⟩) (numB 2 h) 2 ca (Row.of_owns OV.out) (numB_len _ _) (fun h => by cases h) (by omega) BW.out.size); clear HP)
      | (refine step_append_ex rfl (.tmp 65) (.tmp 69) 25 25 rfl _ _ rfl rfl _ HY.out ?_; rintro vc wc' HP; have BW := hide (BW.out.trans HP.2.1); have kc_6 := (bcell BW.out B0 6 hl0).trans k0_6; have kc_7 := (bcell BW.out B0 7 hl0).trans k0_7; have hlc : B0 < wc'.heap.size := Nat.lt_of_lt_of_le hl0 BW.out.size; have OF := hide HP.1; have HZ := hide (app_own2 _ w0.heap.size _ (2 + 2 + 4 + 4 + 2 + 2 + 2 + 2) _ OF.out oa os m oc (RS.out.1.below BW.out (Nat.le_refl _)) HLO.out HNO.out (by omega) BW.out.size); clear HP)
      | (refine step_append_ex rfl (.tmp 70) (.tmp 72) 25 25 rfl _ _ rfl rfl _ HZ.out ?_; rintro vd wd HP; have BW := hide (BW.out.trans HP.2.1); have kd_6 := (bcell BW.out B0 6 hl0).trans k0_6; have kd_7 := (bcell BW.out B0 7 hl0).trans k0_7; have OF := hide HP.1; clear HP)
      | fail)
    all_goals
      have hz := OF.out
      obtain ⟨af, cf, rfl⟩ := slice_form hz
      have OZ := hide hz
      clear hz
      try go_wp2_with fail
      go_meet
      exact ⟨af, cf, rfl, OZ, BW⟩
  case rest =>
  obtain ⟨az, cz, rfl, OT, BW⟩ := hcut
  obtain ⟨wz, rfl⟩ : ∃ wz, wz = wc := ⟨_, rfl⟩
  have kz_8 := (bcell BW.out B0 8 hl0).trans k0_8
  have hlz : B0 < wz.heap.size := Nat.lt_of_lt_of_le hl0 BW.out.size
  have hx10 := app_own wz w0.heap.size _ (2 + 2 + 4 + 4 + 2 + 2 + 2 + 2 + m) _ OT.out da xs n dc (RS.out.2.below BW.out (Nat.le_refl _)) HL.out HN.out (by omega) BW.out.size
  obtain ⟨v10, w10, hrun, o10, b10⟩ := hx10
  obtain ⟨a10, c10, rfl⟩ := slice_form o10
  have HRUN := hide hrun
  have e10 : ((((numB 2 p ++ numB 2 q) ++ numB 4 u ++ numB 4 v) ++ [hdB m, (f : Int)] ++ numB 2 g) ++ [0, 0] ++ numB 2 h ++ os) ++ xs = tcpG p q u v f g h os xs 0 := by
    have h0 : numB 2 0 = [0, 0] := rfl
    simp [tcpG, h0, HLO.out]
  rw [e10] at o10
  have e11 : 2 + 2 + 4 + 4 + 2 + 2 + 2 + 2 + m + n = 20 + m + n := by omega
  rw [e11] at o10 HRUN
  have O10 := hide (owns_mono o10 BE.out.size)
  have B10 := hide (BE.out.trans ((BW.out.trans b10).mono BE.out.size))
  have hrs := rsum_any src dst 6 (20 + m + n) c10 a10 (tcpG p q u v f g h os xs 0) w10 (Row.of_owns o10) (none_cap o10) HZL.out HBR.out hs hd (by omega) (by omega)
  have HRS := hide hrs
  clear hrun o10 b10 e10 e11 hrs k0_0 k0_1 k0_2 k0_3 k0_4 k0_5 k0_6 k0_7 k0_8
  go_wp2_with (at_builtin; refine Lib.wpList_append_run _ rfl _ _ _ _ rfl _ _ rfl rfl _ _ HRUN.out ?_)
  refine HRS.out.mono ?_
  rintro e w11 ⟨rfl, b11⟩
  have O11 := hide (owns_below O10.out b11 (Nat.le_refl _))
  have B11 := hide (B10.out.trans (b11.mono B10.out.size))
  clear b11
  have hcr := csum_rng (psB src dst 6 (20 + m + n) ++ tcpG p q u v f g h os xs 0)
  have hKd : tcpK src dst p q u v f g h os xs = csum (psB src dst 6 (20 + m + n) ++ tcpG p q u v f g h os xs 0) := by unfold tcpK; rw [HLO.out, HL.out]
  have hKe : csum (psB src dst 6 (20 + m + n) ++ tcpG p q u v f g h os xs 0) = (((tcpK src dst p q u v f g h os xs).toNat : Nat) : Int) := by rw [hKd]; omega
  have hKle : (tcpK src dst p q u v f g h os xs).toNat ≤ 65535 := by rw [hKd]; omega
  rw [hKe]
  obtain ⟨k, HKK⟩ : ∃ k, Hid ((tcpK src dst p q u v f g h os xs).toNat = k) := ⟨_, rfl⟩
  rw [HKK.out] at hKle ⊢
  clear hKe hcr hKd
  have hlay := rlay_any w.heap.size (20 + m + n) c10 16 a10 (tcpG p q u v f g h os xs 0) k w11 O11.out (by omega) (by omega) hKle
  rw [tcp_spl] at hlay
  have HLY := hide hlay
  clear hlay
  go_wp2_with fail
  refine HLY.out.mono ?_
  rintro e w12 ⟨rfl, o12, b12⟩
  have O12 := hide o12
  have B12 := hide (B11.out.trans b12)
  clear o12 b12
  go_wp2
  go_ret2
  exact ⟨a10, c10, rfl, by rw [HKK.out]; exact O12.out, B12.out⟩
end Go.Proofs.Ytgggcapgaikbeaa
