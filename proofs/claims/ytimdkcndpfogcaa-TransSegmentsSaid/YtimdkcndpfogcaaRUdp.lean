/- What the document's WriteUDP and SameUDP answer. -/
import Derived.Test.YtimdkcndpfogcaaRIcmp
import Derived.Test.YtimdkcndpfogcaaUdpW
import Derived.Test.YtimdkcndpfogcaaTPlain
namespace Go.Proofs.Ytimdkcndpfogcaa
open Go.RowKit
set_option linter.unusedVariables false
set_option linter.unusedSimpArgs false
set_option maxRecDepth 100000
/-- An append onto a row of one's own: it runs, and other blocks stay. -/
theorem app_own2 (V : World) (base : Nat) (v : Value) (n : Nat) (xs : List Int) (hV : V.ownsRow base 5 1 v n (xs.map (Value.int .u8))) (a : Option Addr) (ys : List Int) (m c : Nat) (hr : Row .u8 V a ys) (hl : ys.length = m) (hn : a = none → c = 0)
    (hs : n + m ≤ 1099511627776) (hb : base ≤ V.heap.size) :
    ∃ v' w', (Builtin.append_ #[25, 25] 25 #[v, .slice a m c]).run Try.prog V = .ok v' w' ∧ (w'.ownsRow base 5 1 v' (n + m) ((xs ++ ys).map (Value.int .u8)) ∧ Below base V w' ∧ ∀ (L : Nat) (o : Obj), V.heap[L]? = some o → v.ownBlock ≠ some L → w'.heap[L]? = some o) := by
  obtain ⟨i0, hi, hz0, hz1, hz2⟩ := info_parts Try.info5
  cases a with
  | none =>
    have hy : ys = [] := row_none hr
    have hm0 : m = 0 := by rw [← hl, hy]; rfl
    have hrun := run_append_owned_none (P := Try.prog) (w := V) base 25 25 5 i0 1 Try.underlying25 hi v n (xs.map (Value.int .u8)) hV
    rw [hn rfl, hm0, hy, List.append_nil]
    exact ⟨_, _, hrun, hV, Below.refl _ _, fun _ _ h _ => h⟩
  | some ad =>
    obtain ⟨v', w', h1, h2, h3, _⟩ := run_append_own (P := Try.prog) V base 25 25 5 i0 (.int .u8 0) 1 1 Try.underlying25 hi hz0 hz1 hz2 rfl (by decide) v n (xs.map (Value.int .u8)) hV ad m c (ys.map (Value.int .u8)) (by simp [hl]) (row_cells hr) (ints_one _ _) (by unfold maxLen; omega) (by omega) hb
    rw [← List.map_append] at h2
    exact ⟨_, _, h1, h2, (Below.refl base V).grown h3 hb (fun k e => (hV.lt k e).1), fun L o h hne => (h3.block L (lt_of_block h) hne.symm).trans h⟩
theorem litB {V w' : World} {o : Obj} (h : Below (V.alloc o).heap.size (V.alloc o) w') : w'.heap[V.heap.size]? = some o := (h.block V.heap.size (by simp)).trans (heap_alloc_new V o)
theorem litB_d {V w' : World} {o : Obj} (h : Below (V.alloc o).drew.heap.size (V.alloc o).drew w') : w'.heap[V.heap.size]? = some o := litB (below_of_drew h)
theorem row_two {w : World} {L : Nat} {x y : Int} (h : w.heap[L]? = some (.cells #[.int .u8 x, .int .u8 y] 5 (0, 0))) : Row .u8 w (some ⟨L, 0, none⟩) [x, y] := by
  intro _
  refine ⟨L, 0, rfl, lt_of_block h, fun i hi => ?_⟩
  simp only [World.cell?, h]
  match i, hi with
  | 0, _ => rfl
  | 1, _ => rfl
theorem own_ne {w : World} {base : Nat} {v : Value} {n : Nat} {xs : List Value} {L : Nat} (h : w.ownsRow base 5 1 v n xs) (hL : w.heap.size ≤ L) : v.ownBlock ≠ some L := by
  intro e
  rcases h.2 with ⟨h, _⟩ | ⟨g, c', cur, hv, hg, hh, _⟩
  · rw [h] at e; simp [Value.ownBlock] at e
  · rw [hv] at e; simp [Value.ownBlock] at e; subst e; have := lt_of_block hh; omega
theorem two_eight (n : Nat) (w : World) (hn : n ≤ 100000) :
    Calls Try.prog 31 #[.int .i64 (8 + (n : Int))] w fun e w' => ∃ g c, e = .returned (.slice (some ⟨g, 0, none⟩) 2 c) ∧ w'.ownsRow w.heap.size 5 1 (.slice (some ⟨g, 0, none⟩) 2 c) 2 ((numB 2 (8 + n)).map (Value.int .u8)) ∧ Below w.heap.size w w' := by
  have h := two_any (8 + n) w (by omega)
  rw [show ((8 + n : Nat) : Int) = 8 + (n : Int) by omega] at h
  exact h
theorem rwudp_long (w : World) (s d : Int) (p q : Int) (pl : Bool) (da : Option Addr) (n dc : Nat) (h : 1472 < n) :
    Calls Try.prog 15 #[.int .u32 s, .int .u32 d, .agg #[.int .u16 p, .int .u16 q, .bool pl, .slice da n dc]] w fun e w' => ∃ g, e = .returned (.tuple #[.slice (some ⟨g, 0, none⟩) 0 0, .int .i64 14]) ∧ Below w.heap.size w w' := by
  go_enter Try.func15, Try.ntmps15
  go_wp2
  go_ret2
  exact ⟨_, rfl, ((Below.refl _ _).alloc (Nat.le_refl _) _).alloc (by simp) _⟩

set_option maxHeartbeats 1600000 in
theorem sameUdp_any (w : World) (p q : Int) (pl : Bool) (a1 a2 : Option Addr) (xs : List Int) (n c1 c2 : Nat) (h1 : Row .u8 w a1 xs) (h2 : Row .u8 w a2 xs) (hl : xs.length = n) :
    Calls Try.prog 16 #[.agg #[.int .u16 p, .int .u16 q, .bool pl, .slice a1 n c1], .agg #[.int .u16 p, .int .u16 q, .bool pl, .slice a2 n c2]] w fun e w' => e = .returned (.bool true) ∧ Below w.heap.size w w' := by
  have hb1 : Below w.heap.size w (w.alloc (.cells #[.int .u16 p, .int .u16 q, .bool pl, .slice a1 n c1] 40)) := (Below.refl _ _).alloc (Nat.le_refl _) _
  have hb2 := hb1.alloc hb1.size (.cells #[.int .u16 p, .int .u16 q, .bool pl, .slice a2 n c2] 40)
  have hc1 := conv_any a1 xs c1 _ (h1.below hb2 (Nat.le_refl _))
  have hc2 := conv_any a2 xs c2 _ (h2.below hb2 (Nat.le_refl _))
  rw [hl] at hc1 hc2
  have HB2 := hide hb2
  clear hb1 hb2 h1 h2 hl
  go_enter Try.func16, Try.ntmps16
  go_wp2
  go_ret
  exact ⟨rfl, HB2.out⟩

set_option maxHeartbeats 1600000 in
theorem rwudp_plain (w : World) (src dst p q : Nat) (da : Option Addr) (xs : List Int) (n dc : Nat) (hr : Row .u8 w da xs) (hn : da = none → dc = 0) (hl : xs.length = n) (h1 : n ≤ 1472) (hs : src ≤ 4294967295) (hd : dst ≤ 4294967295) (hp : p ≤ 65535) (hq : q ≤ 65535) :
    Calls Try.prog 15 #[.int .u32 src, .int .u32 dst, .agg #[.int .u16 (p : Int), .int .u16 (q : Int), .bool true, .slice da n dc]] w fun e w' => ∃ a c,
      e = .returned (.tuple #[.slice a (8 + n) c, .int .i64 0]) ∧ w'.ownsRow w.heap.size 5 1 (.slice a (8 + n) c) (8 + n) ((udpZ p q xs).map (Value.int .u8)) ∧ Below w.heap.size w w' := by
  have HR := hide hr
  have HN := hide hn
  have HL := hide hl
  have hZL := udpZ_len p q xs
  rw [HL.out] at hZL
  have HZL := hide hZL
  clear hr hn hl hZL
  go_enter Try.func15, Try.ntmps15
  go_wp2_with fail
  obtain ⟨B0, w0, hB, hqq, hl0, hbel, hheap⟩ : ∃ B0 wq, w.heap.size = B0 ∧ w.alloc (.cells #[.int .u16 (p : Int), .int .u16 (q : Int), .bool true, .slice da n dc] 40) = wq ∧ B0 < wq.heap.size ∧ Below w.heap.size w wq ∧
      wq.heap[B0]? = some (.cells #[.int .u16 (p : Int), .int .u16 (q : Int), .bool true, .slice da n dc] 40 (0, 0)) := ⟨_, _, rfl, rfl, by simp, (Below.refl _ _).alloc (Nat.le_refl _) _, heap_alloc_new _ _⟩
  rw [hqq, hB]
  have HB := hide hB
  have HH := hide hheap
  obtain ⟨k0_0, k0_1, k0_2, k0_3, kf⟩ := four_cells hheap
  have RS := hide (HR.out.below hbel (Nat.le_refl _))
  have BE := hide hbel
  have hw1 : IntKind.i64.wrap (p : Int) = (p : Int) := IntWalk.i64_in _ (by omega)
  have hw2 : IntKind.i64.wrap (q : Int) = (q : Int) := IntWalk.i64_in _ (by omega)
  clear hqq hB hheap hbel kf
  go_region_held3 (fun w' => w'.cell? ⟨B0, 0, none⟩ = some (.int .u16 p) ∧ w'.cell? ⟨B0, 1, none⟩ = some (.int .u16 q)) (go_keep) (first
    | (go_at_call 31; (with_reducible refine (two_any p _ ?_).mono ?_); omega; rintro e w1 ⟨g1, c1, rfl, o, b⟩; have k10 := (bcell b B0 0 hl0).trans k0_0; have k11 := (bcell b B0 1 hl0).trans k0_1; have hb1 : Below w0.heap.size w0 w1 := below_of_drew b; have B1 := hide hb1; have O1 := hide o; have hl1 : B0 < w1.heap.size := Nat.lt_of_lt_of_le hl0 hb1.size; clear o b hb1)
    | (go_at_call 31; (with_reducible refine (two_any q _ ?_).mono ?_); omega; rintro e w2 ⟨g2, c2, rfl, o, b⟩; have k20 := (bcell b B0 0 hl1).trans k10; have k21 := (bcell b B0 1 hl1).trans k11; have B2 := hide (B1.out.trans (b.mono B1.out.size)); have hx := app_own w2 w0.heap.size _ 2 _ (owns_below O1.out b (Nat.le_refl _)) (some ⟨g2, 0, none⟩) (numB 2 q) 2 c2 (Row.of_owns o) (numB_len _ _) (fun h => by cases h) (by omega) B2.out.size; have HX := hide hx; clear o b hx)
    | (refine step_append_ex rfl (.tmp 18) (.tmp 22) 25 25 rfl _ _ rfl rfl _ HX.out ?_; rintro v3 w3 HP; have BF : Below w0.heap.size w0 w3 := B2.out.trans HP.2; have k30 := (bcell BF B0 0 hl0).trans k0_0; have k31 := (bcell BF B0 1 hl0).trans k0_1; have OT := hide HP.1; have BT := hide BF; clear HP BF)
    | fail)
  obtain ⟨a3, c3, rfl⟩ := slice_form OT.out
  have k33 := (bcell BT.out B0 3 hl0).trans k0_3
  have hl3 : B0 < w3.heap.size := Nat.lt_of_lt_of_le hl0 BT.out.size
  have RS3 := hide (RS.out.below BT.out (Nat.le_refl _))
  have hw8 : IntKind.i64.wrap (8 + (n : Int)) = 8 + (n : Int) := IntWalk.i64_in _ (by omega)
  clear k10 k11 k20 k21 k30 k31 hw1 hw2 B1 B2 O1 HX
  go_wp2_with fail
  go_cut [8] (fun bv wx => ∃ a c, bv = .slice a (8 + n) c ∧ Hid (wx.ownsRow w0.heap.size 5 1 (.slice a (8 + n) c) (8 + n) ((udpZ p q xs).map (Value.int .u8))) ∧ Hid (Below w0.heap.size w0 wx))
  case first =>
    go_region_held3 (fun w' => w'.cell? ⟨B0, 3, none⟩ = some (.slice da n dc)) (go_keep) (first
      | (go_at_call 31; (with_reducible refine (two_eight n _ ?_).mono ?_); omega; rintro e w4 ⟨g4, c4, rfl, o, b⟩; have b34 : Below w3.heap.size w3 w4 := (by first | exact b | exact below_of_drew b | exact bel_lit b | exact below_of_drew (bel_lit b) | exact bel_lit (below_of_drew b)); have k43 := (bcell b34 B0 3 hl3).trans k33; have B4 := hide (BT.out.trans (b34.mono BT.out.size)); have O4 := hide (owns_below OT.out b34 (Nat.le_refl _)); have hne := hide (fun (L : Nat) (h : w3.heap.size ≤ L) => own_ne OT.out h); have R4 := hide (Row.of_owns o); have hl4 : B0 < w4.heap.size := Nat.lt_of_lt_of_le hl3 b34.size; have hs4 := b34.size; (first | (have LB := hide (litB b)) | (have LB := hide (litB_d b)) | skip); clear o b b34; have HXa := hide (app_own2 w4 w0.heap.size _ (2 + 2) _ O4.out (some ⟨g4, 0, none⟩) (numB 2 (8 + n)) 2 c4 R4.out (numB_len _ _) (fun h => by cases h) (by omega) B4.out.size); have HXb := hide (app_own2 (w4.alloc (.cells #[.int .u8 0, .int .u8 0] 5)) w0.heap.size _ (2 + 2) _ (O4.out.alloc _) (some ⟨g4, 0, none⟩) (numB 2 (8 + n)) 2 c4 (R4.out.below ((Below.refl _ _).alloc (Nat.le_refl _) _) (Nat.le_refl _)) (numB_len _ _) (fun h => by cases h) (by omega) (Nat.le_trans B4.out.size (by simp))))
      | (refine step_append_ex rfl (.tmp 24) (.tmp 29) 25 25 rfl _ _ rfl rfl _ HXa.out ?_; rintro v5 w5 HP; have BF : Below w0.heap.size w0 w5 := B4.out.trans HP.2.1; have k53 := (bcell BF B0 3 hl0).trans k0_3; have O5 := hide HP.1; have B5 := hide BF; have hl5 : B0 < w5.heap.size := Nat.lt_of_lt_of_le hl0 BF.size; (first | (have LB := hide (HP.2.2 _ _ LB.out (hne.out _ (Nat.le_refl _)));  have HY := hide (app_own2 w5 w0.heap.size _ (2 + 2 + 2) _ O5.out (some ⟨_, 0, none⟩) [0, 0] 2 2 (row_two LB.out) rfl (fun h => by cases h) (by omega) B5.out.size)) | (have HY := hide (app_own2 (w5.alloc (.cells #[.int .u8 0, .int .u8 0] 5)) w0.heap.size _ (2 + 2 + 2) _ (O5.out.alloc _) (some ⟨w5.heap.size, 0, none⟩) [0, 0] 2 2 (row_two (heap_alloc_new w5 _)) rfl (fun h => by cases h) (by omega) (Nat.le_trans B5.out.size (by simp))))); clear HP BF)
      | (refine step_append_ex rfl (.tmp 24) (.tmp 29) 25 25 rfl _ _ rfl rfl _ HXb.out ?_; rintro v5 w5 HP; have BF : Below w0.heap.size w0 w5 := (B4.out.alloc B4.out.size _).trans HP.2.1; have k53 := (bcell BF B0 3 hl0).trans k0_3; have O5 := hide HP.1; have B5 := hide BF; have hl5 : B0 < w5.heap.size := Nat.lt_of_lt_of_le hl0 BF.size; have LB := hide (HP.2.2 _ _ (heap_alloc_new w4 _) (hne.out _ hs4)); have HY := hide (app_own2 w5 w0.heap.size _ (2 + 2 + 2) _ O5.out (some ⟨w4.heap.size, 0, none⟩) [0, 0] 2 2 (row_two LB.out) rfl (fun h => by cases h) (by omega) B5.out.size); clear HP BF)
      | (refine step_append_ex rfl (.tmp 30) (.tmp 31) 25 25 rfl _ _ rfl rfl _ HY.out ?_; rintro v6 w6 HP; have BF : Below w0.heap.size w0 w6 := (by first | exact B5.out.trans HP.2.1 | exact (B5.out.alloc B5.out.size _).trans HP.2.1); have k63 := (bcell BF B0 3 hl0).trans k0_3; have O6 := hide HP.1; have B6 := hide BF; have hl6 : B0 < w6.heap.size := Nat.lt_of_lt_of_le hl0 BF.size; have HZ := hide (app_own w6 w0.heap.size _ (2 + 2 + 2 + 2) _ O6.out da xs n dc (RS.out.below BF (Nat.le_refl _)) HL.out HN.out (by omega) B6.out.size); clear HP BF)
      | (refine step_append_ex rfl (.tmp 32) (.tmp 34) 25 25 rfl _ _ rfl rfl _ HZ.out ?_; rintro v7 w7 HP; have BF : Below w0.heap.size w0 w7 := B6.out.trans HP.2; have k73 := (bcell BF B0 3 hl0).trans k0_3; have O7 := hide HP.1; have B7 := hide BF; clear HP BF)
      | fail)
    all_goals
      have e7 : (((numB 2 p ++ numB 2 q) ++ numB 2 (8 + n)) ++ [0, 0]) ++ xs = udpZ p q xs := by
        have h0 : numB 2 0 = [0, 0] := rfl
        simp [udpZ, h0, HL.out]
      have hz := O7.out
      rw [e7, show 2 + 2 + 2 + 2 + n = 8 + n by omega] at hz
      obtain ⟨a7, c7, rfl⟩ := slice_form hz
      have OZ := hide hz
      clear hz e7
      try go_wp2_with fail
      go_meet
      exact ⟨a7, c7, rfl, OZ, B7⟩
  case rest =>
    obtain ⟨a7, c7, rfl, OP, BP⟩ := hcut
    have OZ := hide (owns_mono OP.out BE.out.size)
    have BZ := hide (BE.out.trans (BP.out.mono BE.out.size))
    have kz2 : wc.cell? ⟨B0, 2, none⟩ = some (.bool true) := (bcell BP.out B0 2 hl0).trans k0_2
    clear k0_0 k0_1 k0_2 k0_3 k33
    go_wp2
    go_ret2
    exact ⟨a7, c7, rfl, OZ.out, BZ.out⟩

set_option maxHeartbeats 1600000 in
theorem rwudp_sum (w : World) (src dst p q : Nat) (da : Option Addr) (xs : List Int) (n dc : Nat) (hr : Row .u8 w da xs) (hn : da = none → dc = 0) (hl : xs.length = n) (hb : ∀ x ∈ xs, 0 ≤ x ∧ x ≤ 255) (h1 : n ≤ 1472) (hs : src ≤ 4294967295) (hd : dst ≤ 4294967295) (hp : p ≤ 65535) (hq : q ≤ 65535) :
    Calls Try.prog 15 #[.int .u32 src, .int .u32 dst, .agg #[.int .u16 (p : Int), .int .u16 (q : Int), .bool false, .slice da n dc]] w fun e w' => ∃ a c,
      e = .returned (.tuple #[.slice a (8 + n) c, .int .i64 0]) ∧ w'.ownsRow w.heap.size 5 1 (.slice a (8 + n) c) (8 + n) ((udpS src dst p q xs).map (Value.int .u8)) ∧ Below w.heap.size w w' := by
  have HR := hide hr
  have HN := hide hn
  have HL := hide hl
  have HBR := hide (udpZ_rng p q xs hb)
  clear hb
  have hZL := udpZ_len p q xs
  rw [HL.out] at hZL
  have HZL := hide hZL
  clear hr hn hl hZL
  go_enter Try.func15, Try.ntmps15
  go_wp2_with fail
  obtain ⟨B0, w0, hB, hqq, hl0, hbel, hheap⟩ : ∃ B0 wq, w.heap.size = B0 ∧ w.alloc (.cells #[.int .u16 (p : Int), .int .u16 (q : Int), .bool false, .slice da n dc] 40) = wq ∧ B0 < wq.heap.size ∧ Below w.heap.size w wq ∧
      wq.heap[B0]? = some (.cells #[.int .u16 (p : Int), .int .u16 (q : Int), .bool false, .slice da n dc] 40 (0, 0)) := ⟨_, _, rfl, rfl, by simp, (Below.refl _ _).alloc (Nat.le_refl _) _, heap_alloc_new _ _⟩
  rw [hqq, hB]
  have HB := hide hB
  have HH := hide hheap
  obtain ⟨k0_0, k0_1, k0_2, k0_3, kf⟩ := four_cells hheap
  have RS := hide (HR.out.below hbel (Nat.le_refl _))
  have BE := hide hbel
  have hw1 : IntKind.i64.wrap (p : Int) = (p : Int) := IntWalk.i64_in _ (by omega)
  have hw2 : IntKind.i64.wrap (q : Int) = (q : Int) := IntWalk.i64_in _ (by omega)
  clear hqq hB hheap hbel kf
  go_region_held3 (fun w' => w'.cell? ⟨B0, 0, none⟩ = some (.int .u16 p) ∧ w'.cell? ⟨B0, 1, none⟩ = some (.int .u16 q)) (go_keep) (first
    | (go_at_call 31; (with_reducible refine (two_any p _ ?_).mono ?_); omega; rintro e w1 ⟨g1, c1, rfl, o, b⟩; have k10 := (bcell b B0 0 hl0).trans k0_0; have k11 := (bcell b B0 1 hl0).trans k0_1; have hb1 : Below w0.heap.size w0 w1 := below_of_drew b; have B1 := hide hb1; have O1 := hide o; have hl1 : B0 < w1.heap.size := Nat.lt_of_lt_of_le hl0 hb1.size; clear o b hb1)
    | (go_at_call 31; (with_reducible refine (two_any q _ ?_).mono ?_); omega; rintro e w2 ⟨g2, c2, rfl, o, b⟩; have k20 := (bcell b B0 0 hl1).trans k10; have k21 := (bcell b B0 1 hl1).trans k11; have B2 := hide (B1.out.trans (b.mono B1.out.size)); have hx := app_own w2 w0.heap.size _ 2 _ (owns_below O1.out b (Nat.le_refl _)) (some ⟨g2, 0, none⟩) (numB 2 q) 2 c2 (Row.of_owns o) (numB_len _ _) (fun h => by cases h) (by omega) B2.out.size; have HX := hide hx; clear o b hx)
    | (refine step_append_ex rfl (.tmp 18) (.tmp 22) 25 25 rfl _ _ rfl rfl _ HX.out ?_; rintro v3 w3 HP; have BF : Below w0.heap.size w0 w3 := B2.out.trans HP.2; have k30 := (bcell BF B0 0 hl0).trans k0_0; have k31 := (bcell BF B0 1 hl0).trans k0_1; have OT := hide HP.1; have BT := hide BF; clear HP BF)
    | fail)
  obtain ⟨a3, c3, rfl⟩ := slice_form OT.out
  have k33 := (bcell BT.out B0 3 hl0).trans k0_3
  have hl3 : B0 < w3.heap.size := Nat.lt_of_lt_of_le hl0 BT.out.size
  have RS3 := hide (RS.out.below BT.out (Nat.le_refl _))
  have hw8 : IntKind.i64.wrap (8 + (n : Int)) = 8 + (n : Int) := IntWalk.i64_in _ (by omega)
  clear k10 k11 k20 k21 k30 k31 hw1 hw2 B1 B2 O1 HX
  go_wp2_with fail
  go_cut [8] (fun bv wx => ∃ a c, bv = .slice a (8 + n) c ∧ Hid (wx.ownsRow w0.heap.size 5 1 (.slice a (8 + n) c) (8 + n) ((udpZ p q xs).map (Value.int .u8))) ∧ Hid (Below w0.heap.size w0 wx))
  case first =>
    go_region_held3 (fun w' => w'.cell? ⟨B0, 3, none⟩ = some (.slice da n dc)) (go_keep) (first
      | (go_at_call 31; (with_reducible refine (two_eight n _ ?_).mono ?_); omega; rintro e w4 ⟨g4, c4, rfl, o, b⟩; have b34 : Below w3.heap.size w3 w4 := (by first | exact b | exact below_of_drew b | exact bel_lit b | exact below_of_drew (bel_lit b) | exact bel_lit (below_of_drew b)); have k43 := (bcell b34 B0 3 hl3).trans k33; have B4 := hide (BT.out.trans (b34.mono BT.out.size)); have O4 := hide (owns_below OT.out b34 (Nat.le_refl _)); have hne := hide (fun (L : Nat) (h : w3.heap.size ≤ L) => own_ne OT.out h); have R4 := hide (Row.of_owns o); have hl4 : B0 < w4.heap.size := Nat.lt_of_lt_of_le hl3 b34.size; have hs4 := b34.size; (first | (have LB := hide (litB b)) | (have LB := hide (litB_d b)) | skip); clear o b b34; have HXa := hide (app_own2 w4 w0.heap.size _ (2 + 2) _ O4.out (some ⟨g4, 0, none⟩) (numB 2 (8 + n)) 2 c4 R4.out (numB_len _ _) (fun h => by cases h) (by omega) B4.out.size); have HXb := hide (app_own2 (w4.alloc (.cells #[.int .u8 0, .int .u8 0] 5)) w0.heap.size _ (2 + 2) _ (O4.out.alloc _) (some ⟨g4, 0, none⟩) (numB 2 (8 + n)) 2 c4 (R4.out.below ((Below.refl _ _).alloc (Nat.le_refl _) _) (Nat.le_refl _)) (numB_len _ _) (fun h => by cases h) (by omega) (Nat.le_trans B4.out.size (by simp))))
      | (refine step_append_ex rfl (.tmp 24) (.tmp 29) 25 25 rfl _ _ rfl rfl _ HXa.out ?_; rintro v5 w5 HP; have BF : Below w0.heap.size w0 w5 := B4.out.trans HP.2.1; have k53 := (bcell BF B0 3 hl0).trans k0_3; have O5 := hide HP.1; have B5 := hide BF; have hl5 : B0 < w5.heap.size := Nat.lt_of_lt_of_le hl0 BF.size; (first | (have LB := hide (HP.2.2 _ _ LB.out (hne.out _ (Nat.le_refl _)));  have HY := hide (app_own2 w5 w0.heap.size _ (2 + 2 + 2) _ O5.out (some ⟨_, 0, none⟩) [0, 0] 2 2 (row_two LB.out) rfl (fun h => by cases h) (by omega) B5.out.size)) | (have HY := hide (app_own2 (w5.alloc (.cells #[.int .u8 0, .int .u8 0] 5)) w0.heap.size _ (2 + 2 + 2) _ (O5.out.alloc _) (some ⟨w5.heap.size, 0, none⟩) [0, 0] 2 2 (row_two (heap_alloc_new w5 _)) rfl (fun h => by cases h) (by omega) (Nat.le_trans B5.out.size (by simp))))); clear HP BF)
      | (refine step_append_ex rfl (.tmp 24) (.tmp 29) 25 25 rfl _ _ rfl rfl _ HXb.out ?_; rintro v5 w5 HP; have BF : Below w0.heap.size w0 w5 := (B4.out.alloc B4.out.size _).trans HP.2.1; have k53 := (bcell BF B0 3 hl0).trans k0_3; have O5 := hide HP.1; have B5 := hide BF; have hl5 : B0 < w5.heap.size := Nat.lt_of_lt_of_le hl0 BF.size; have LB := hide (HP.2.2 _ _ (heap_alloc_new w4 _) (hne.out _ hs4)); have HY := hide (app_own2 w5 w0.heap.size _ (2 + 2 + 2) _ O5.out (some ⟨w4.heap.size, 0, none⟩) [0, 0] 2 2 (row_two LB.out) rfl (fun h => by cases h) (by omega) B5.out.size); clear HP BF)
      | (refine step_append_ex rfl (.tmp 30) (.tmp 31) 25 25 rfl _ _ rfl rfl _ HY.out ?_; rintro v6 w6 HP; have BF : Below w0.heap.size w0 w6 := (by first | exact B5.out.trans HP.2.1 | exact (B5.out.alloc B5.out.size _).trans HP.2.1); have k63 := (bcell BF B0 3 hl0).trans k0_3; have O6 := hide HP.1; have B6 := hide BF; have hl6 : B0 < w6.heap.size := Nat.lt_of_lt_of_le hl0 BF.size; have HZ := hide (app_own w6 w0.heap.size _ (2 + 2 + 2 + 2) _ O6.out da xs n dc (RS.out.below BF (Nat.le_refl _)) HL.out HN.out (by omega) B6.out.size); clear HP BF)
      | (refine step_append_ex rfl (.tmp 32) (.tmp 34) 25 25 rfl _ _ rfl rfl _ HZ.out ?_; rintro v7 w7 HP; have BF : Below w0.heap.size w0 w7 := B6.out.trans HP.2; have k73 := (bcell BF B0 3 hl0).trans k0_3; have O7 := hide HP.1; have B7 := hide BF; clear HP BF)
      | fail)
    all_goals
      have e7 : (((numB 2 p ++ numB 2 q) ++ numB 2 (8 + n)) ++ [0, 0]) ++ xs = udpZ p q xs := by
        have h0 : numB 2 0 = [0, 0] := rfl
        simp [udpZ, h0, HL.out]
      have hz := O7.out
      rw [e7, show 2 + 2 + 2 + 2 + n = 8 + n by omega] at hz
      obtain ⟨a7, c7, rfl⟩ := slice_form hz
      have OZ := hide hz
      clear hz e7
      try go_wp2_with fail
      go_meet
      exact ⟨a7, c7, rfl, OZ, B7⟩
  case rest =>
    obtain ⟨a7, c7, rfl, OP, BP⟩ := hcut
    have OZ := hide (owns_mono OP.out BE.out.size)
    have BZ := hide (BE.out.trans (BP.out.mono BE.out.size))
    have kz2 : wc.cell? ⟨B0, 2, none⟩ = some (.bool false) := (bcell BP.out B0 2 hl0).trans k0_2
    clear k0_0 k0_1 k0_2 k0_3 k33
    have hrs := rsum_any src dst 17 (8 + n) c7 a7 (udpZ p q xs) wc (Row.of_owns OZ.out) (none_cap OZ.out) HZL.out HBR.out hs hd (by omega) (by omega)
    have HRS := hide hrs
    clear hrs
    go_wp2_with fail
    refine HRS.out.mono ?_
    rintro e w8 ⟨rfl, b8⟩
    have O8 := hide (owns_below OZ.out b8 (Nat.le_refl _))
    have B8 := hide (BZ.out.trans (b8.mono BZ.out.size))
    clear b8
    have hcr := csum_rng (psB src dst 17 (8 + n) ++ udpZ p q xs)
    have hKr := udpK_rng src dst p q xs
    have hKe : toldI (csum (psB src dst 17 (8 + n) ++ udpZ p q xs)) = udpK src dst p q xs := by unfold udpK; rw [HL.out]
    have HS : Hid (spl (udpZ p q xs) 6 (numB 2 (udpK src dst p q xs).toNat) = udpS src dst p q xs) := hide rfl
    have hKn : udpK src dst p q xs = (((udpK src dst p q xs).toNat : Nat) : Int) := by omega
    have hKle : (udpK src dst p q xs).toNat ≤ 65535 := by omega
    generalize udpK src dst p q xs = KK at *
    generalize csum (psB src dst 17 (8 + n) ++ udpZ p q xs) = K at *
    obtain ⟨k, hkk⟩ : ∃ k, KK.toNat = k := ⟨_, rfl⟩
    rw [hkk] at hKn hKle HS
    have hly : ∀ (W : World), W.ownsRow w.heap.size 5 1 (.slice a7 (8 + n) c7) (8 + n) ((udpZ p q xs).map (Value.int .u8)) → Calls Try.prog 33 #[.slice a7 (8 + n) c7, .int .i64 6, .int .u16 (k : Int)] W fun e w' => e = .returned (.slice a7 (8 + n) c7) ∧ w'.ownsRow w.heap.size 5 1 (.slice a7 (8 + n) c7) (8 + n) ((udpS src dst p q xs).map (Value.int .u8)) ∧ Below w.heap.size W w' := fun W o => by
      have h := rlay_any w.heap.size (8 + n) c7 6 a7 (udpZ p q xs) k W o (by omega) (by omega) hKle
      rw [HS.out] at h
      exact h
    have HLY := hide hly
    clear hly
    have HKN := hide hKn
    have HKE := hide hKe
    have hc0 := hcr.1
    have hc1 := hcr.2
    clear hkk hKn hKe hcr hKr
    by_cases h0 : K = 0
    · have hKv : k = 65535 := by have := HKE.out; rw [h0] at this; have h2 := HKN.out; unfold toldI at this; simp at this; omega
      have htest : (K == 0) = true := by simpa using h0
      subst h0
      have HLX := hide (HLY.out w8 O8.out)
      rw [hKv] at HLX
      clear hKv
      go_wp2_with fail
      refine HLX.out.mono ?_
      rintro e w9 ⟨rfl, o9, b9⟩
      have O9 := hide o9
      have B9 := hide (B8.out.trans b9)
      clear o9 b9
      go_wp2
      go_ret2
      exact ⟨a7, c7, rfl, O9.out, B9.out⟩
    · have hKv : K = (k : Int) := by have := HKE.out; have h2 := HKN.out; unfold toldI at this; rw [if_neg h0] at this; omega
      have htest : ((k : Int) == 0) = false := by rw [← hKv]; simpa using h0
      have HLX := hide (HLY.out w8 O8.out)
      rw [hKv]
      clear h0 hKv
      go_wp2_with fail
      refine HLX.out.mono ?_
      rintro e w9 ⟨rfl, o9, b9⟩
      have O9 := hide o9
      have B9 := hide (B8.out.trans b9)
      clear o9 b9
      go_wp2
      go_ret2
      exact ⟨a7, c7, rfl, O9.out, B9.out⟩
end Go.Proofs.Ytimdkcndpfogcaa
