/- What the document's WriteICMP answers (for flow). -/
import Derived.Test.YtlipckpacdioiaaDoorIcmpW
import Derived.Test.YtlipckpacdioiaaDoorTRef
import Derived.Test.YtlipckpacdioiaaDoorSameUI
import Derived.Test.YtlipckpacdioiaaDoorTEye
import Derived.Test.YtlipckpacdioiaaDoorSumMore
import Derived.Deep.WholeRow
import Derived.Deep.MidRow
import Derived.Deep.RegionHeld3
import Derived.Deep.DeepCutAuto
namespace Go.Proofs.YtlipckpacdioiaaDoor
open Go.RowKit
set_option linter.unusedVariables false
set_option linter.unusedSimpArgs false
set_option maxRecDepth 100000
theorem cell_at {w : World} {g : Nat} {t : TypeId} {cs : Array Value} (h : w.heap[g]? = some (.cells cs t (0, 0))) (i : Nat) {v : Value} (hv : cs[i]? = some v) : w.cell? ⟨g, i, none⟩ = some v := by simp [World.cell?, h, hv]
theorem free_at {w : World} {g : Nat} {t : TypeId} {cs : Array Value} (h : w.heap[g]? = some (.cells cs t (0, 0))) : ∀ i, w.frozen? ⟨g, i, none⟩ = false := fun i => by simp [World.frozen?, h]
theorem lit4_own {V w' : World} {x y : Int} (base : Nat) (h : Below (V.alloc (.cells #[.int .u8 x, .int .u8 y, .int .u8 0, .int .u8 0] 5)).heap.size (V.alloc (.cells #[.int .u8 x, .int .u8 y, .int .u8 0, .int .u8 0] 5)) w') (hb : base ≤ V.heap.size) :
    w'.ownsRow base 5 1 (.slice (some ⟨V.heap.size, 0, none⟩) 4 4) 4 (([x, y, 0, 0] : List Int).map (Value.int .u8)) :=
  owns_below (World.ownsRow_lit V #[.int .u8 x, .int .u8 y, .int .u8 0, .int .u8 0] 4 hb (by unfold maxLen; omega) rfl) h (Nat.le_refl _)
theorem lit4_own_d {V w' : World} {x y : Int} (base : Nat) (h : Below (V.alloc (.cells #[.int .u8 x, .int .u8 y, .int .u8 0, .int .u8 0] 5)).drew.heap.size (V.alloc (.cells #[.int .u8 x, .int .u8 y, .int .u8 0, .int .u8 0] 5)).drew w') (hb : base ≤ V.heap.size) :
    w'.ownsRow base 5 1 (.slice (some ⟨V.heap.size, 0, none⟩) 4 4) 4 (([x, y, 0, 0] : List Int).map (Value.int .u8)) := lit4_own base (below_of_drew h) hb

end Go.Proofs.YtlipckpacdioiaaDoor

/- What the document's packet writer answers. -/
namespace Go.Proofs.YtlipckpacdioiaaDoor
open Go.RowKit
set_option linter.unusedVariables false
set_option linter.unusedSimpArgs false
set_option maxRecDepth 100000
theorem owns_keep {V w' : World} {base : Nat} {x : Value} {n : Nat} {xs : List Value} {v : Value} (h : V.ownsRow base 5 1 x n xs) (hk : ∀ (L : Nat) (o : Obj), V.heap[L]? = some o → v.ownBlock ≠ some L → w'.heap[L]? = some o) (hne : ∀ L, base ≤ L → v.ownBlock ≠ some L) : w'.ownsRow base 5 1 x n xs := by
  refine ⟨h.1, ?_⟩
  rcases h.2 with h | ⟨g, cap, cur, hv, hg, hh, r⟩
  · exact .inl h
  · exact .inr ⟨g, cap, cur, hv, hg, hk _ _ hh (hne g hg), r⟩
/-- A packet's bytes with k for its sum. -/
def ipH (tt P id s d n k : Nat) : List Int := [69, 0] ++ numB 2 (20 + n) ++ numB 2 id ++ [64, 0, (tt : Int), (P : Int)] ++ numB 2 k ++ numB 4 s ++ numB 4 d
def ipK (tt P id s d n : Nat) : Nat := (csum (ipH tt P id s d n 0)).toNat
def ipG (tt P id s d : Nat) (xs : List Int) : List Int := ipH tt P id s d xs.length (ipK tt P id s d xs.length) ++ xs
theorem ipH_len (tt P id s d n k : Nat) : (ipH tt P id s d n k).length = 20 := by simp [ipH, numB_len]
theorem numB_byte (k n : Nat) : ∀ x ∈ numB k n, 0 ≤ x ∧ x ≤ 255 := numB_rng k n
theorem ipH_rng (tt P id s d n k : Nat) (ht : tt ≤ 255) (hP : P ≤ 255) : ∀ x ∈ ipH tt P id s d n k, 0 ≤ x ∧ x ≤ 255 := by
  intro x hx
  simp only [ipH, List.mem_append, List.mem_cons, List.not_mem_nil, or_false] at hx
  rcases hx with (((((h | h) | h) | h) | h) | h) | h
  · omega
  · exact numB_byte _ _ x h
  · exact numB_byte _ _ x h
  · omega
  · exact numB_byte _ _ x h
  · exact numB_byte _ _ x h
  · exact numB_byte _ _ x h
theorem ipH_set (tt P id s d n k : Nat) (hk : k ≤ 65535) : ((ipH tt P id s d n 0).set 10 ((k / 256 : Nat) : Int)).set 11 ((k % 256 : Nat) : Int) = ipH tt P id s d n k := by
  have h2 : ∀ m, numB 2 m = [byteAt m 1, byteAt m 0] := fun _ => rfl
  have h3 := numB2 k hk
  unfold ipH
  rw [h3, h2, h2, h2]
  rfl
theorem ipG_len (tt P id s d : Nat) (xs : List Int) : (ipG tt P id s d xs).length = 20 + xs.length := by simp [ipG, ipH_len]
theorem num_all (n : Nat) (w : World) (hn : n ≤ 100000) :
    Calls Tryd.prog 23 #[.int .i64 2, .int .u64 (20 + (n : Int))] w fun e w' => ∃ g c, e = .returned (.slice (some ⟨g, 0, none⟩) 2 c) ∧ w'.ownsRow w.heap.size 5 1 (.slice (some ⟨g, 0, none⟩) 2 c) 2 ((numB 2 (20 + n)).map (Value.int .u8)) ∧ Below w.heap.size w w' := by
  have h := refNum2_own (20 + n) w (by omega)
  rw [show ((20 + n : Nat) : Int) = 20 + (n : Int) by omega] at h
  exact h
theorem row_six {w : World} {L : Nat} {x y z u v t : Int} (h : w.heap[L]? = some (.cells #[.int .u8 x, .int .u8 y, .int .u8 z, .int .u8 u, .int .u8 v, .int .u8 t] 5 (0, 0))) : Row .u8 w (some ⟨L, 0, none⟩) [x, y, z, u, v, t] := by
  intro _
  refine ⟨L, 0, rfl, lt_of_block h, fun i hi => ?_⟩
  simp only [World.cell?, h]
  match i, hi with
  | 0, _ => rfl
  | 1, _ => rfl
  | 2, _ => rfl
  | 3, _ => rfl
  | 4, _ => rfl
  | 5, _ => rfl

set_option maxHeartbeats 4000000 in
theorem rwip_ok (w : World) (tt P id s d : Nat) (da : Option Addr) (xs : List Int) (n dc : Nat) (hr : Row .u8 w da xs) (hn : da = none → dc = 0) (hl : xs.length = n) (h1 : n ≤ 1480) (ht : tt ≤ 255) (hP : P ≤ 255) (hid : id ≤ 65535) (hs : s ≤ 4294967295) (hd : d ≤ 4294967295) :
    Calls Tryd.prog 11 #[.agg #[.int .u8 (tt : Int), .int .u8 (P : Int), .int .u16 (id : Int), .int .u32 (s : Int), .int .u32 (d : Int), .slice da n dc]] w fun e w' => ∃ a c,
      e = .returned (.tuple #[.slice a (20 + n) c, .int .i64 0]) ∧ w'.ownsRow w.heap.size 5 1 (.slice a (20 + n) c) (20 + n) ((ipG tt P id s d xs).map (Value.int .u8)) ∧ Below w.heap.size w w' := by
  have HR := hide hr
  have HN := hide hn
  have HL := hide hl
  have HBR := hide (ipH_rng tt P id s d n 0 ht hP)
  have hd0 : decide ((1480 : Int) < (n : Int)) = false := by simp; omega
  have hw1 : IntKind.i64.wrap (20 + (n : Int)) = 20 + (n : Int) := IntWalk.i64_in _ (by omega)
  have hw2 : IntKind.u64.wrap (20 + (n : Int)) = 20 + (n : Int) := wraps_u64 _ (by omega) (by omega)
  have hw3 : IntKind.u64.wrap (id : Int) = (id : Int) := wraps_u64 _ (by omega) (by omega)
  have hw4 : IntKind.u64.wrap (s : Int) = (s : Int) := wraps_u64 _ (by omega) (by omega)
  have hw5 : IntKind.u64.wrap (d : Int) = (d : Int) := wraps_u64 _ (by omega) (by omega)
  clear hr hn hl
  go_enter Tryd.func11, Tryd.ntmps11
  go_upto_region 1 with (fail)
  obtain ⟨B0, w0, hB, hqq, hl0, hbel, hheap⟩ : ∃ B0 wq, w.heap.size = B0 ∧ w.alloc (.cells #[.int .u8 (tt : Int), .int .u8 (P : Int), .int .u16 (id : Int), .int .u32 (s : Int), .int .u32 (d : Int), .slice da n dc] 27) = wq ∧ B0 < wq.heap.size ∧ Below w.heap.size w wq ∧
      wq.heap[B0]? = some (.cells #[.int .u8 (tt : Int), .int .u8 (P : Int), .int .u16 (id : Int), .int .u32 (s : Int), .int .u32 (d : Int), .slice da n dc] 27 (0, 0)) := ⟨_, _, rfl, rfl, by simp, (Below.refl _ _).alloc (Nat.le_refl _) _, heap_alloc_new _ _⟩
  try rw [hqq]
  try rw [hB]
  have HB := hide hB
  have k0_0 : w0.cell? ⟨B0, 0, none⟩ = some (.int .u8 (tt : Int)) := cell_at hheap 0 rfl
  have k0_1 : w0.cell? ⟨B0, 1, none⟩ = some (.int .u8 (P : Int)) := cell_at hheap 1 rfl
  have k0_2 : w0.cell? ⟨B0, 2, none⟩ = some (.int .u16 (id : Int)) := cell_at hheap 2 rfl
  have k0_3 : w0.cell? ⟨B0, 3, none⟩ = some (.int .u32 (s : Int)) := cell_at hheap 3 rfl
  have k0_4 : w0.cell? ⟨B0, 4, none⟩ = some (.int .u32 (d : Int)) := cell_at hheap 4 rfl
  have k0_5 : w0.cell? ⟨B0, 5, none⟩ = some (.slice da n dc) := cell_at hheap 5 rfl
  have RS := hide (HR.out.below hbel (Nat.le_refl _))
  have BE := hide hbel
  clear hqq hB hheap hbel
  go_wp2_with fail
  refine (num_all n _ (by omega)).mono ?_
  rintro e w1 ⟨g1, c1, rfl, o, b⟩
  have hB1 : Below w0.heap.size w0 w1 := (by first | exact bel_lit b | exact below_of_drew (bel_lit b) | exact bel_lit (below_of_drew b))
  have BW := hide hB1
  have hlit : w1.ownsRow w0.heap.size 5 1 (.slice (some ⟨w0.heap.size, 0, none⟩) 2 2) 2 (([69, 0] : List Int).map (Value.int .u8)) := owns_below (World.ownsRow_lit w0 #[.int .u8 69, .int .u8 0] 2 (Nat.le_refl _) (by unfold maxLen; omega) rfl) (by first | exact b | exact below_of_drew b) (Nat.le_refl _)
  obtain ⟨v2, w3, hrun, o2, b2, _⟩ := app_own2 w1 w0.heap.size _ 2 _ hlit (some ⟨g1, 0, none⟩) (numB 2 (20 + n)) 2 c1 (Row.of_owns o) (numB_len _ _) (fun h => by cases h) (by omega) BW.out.size
  obtain ⟨a2, c2, rfl⟩ := slice_form o2
  have HRUN := hide hrun
  have OT := hide o2
  have BW := hide (BW.out.trans b2)
  clear hrun o2 b2 hlit o b hB1
  go_wp2_with (at_builtin; refine Lib.wpList_append_run _ rfl _ _ _ _ rfl _ _ rfl rfl _ _ HRUN.out ?_)
  have k3_0 := (bcell BW.out B0 0 hl0).trans k0_0
  have k3_1 := (bcell BW.out B0 1 hl0).trans k0_1
  have k3_2 := (bcell BW.out B0 2 hl0).trans k0_2
  have hl3 : B0 < w3.heap.size := Nat.lt_of_lt_of_le hl0 BW.out.size
  clear HRUN hw1 hw2 hd0
  go_cut [4] (fun bv wx => ∃ a c, bv = .slice a (2 + 2 + 2 + 6) c ∧ Hid (wx.ownsRow w0.heap.size 5 1 (.slice a (2 + 2 + 2 + 6) c) (2 + 2 + 2 + 6) ((([69, 0] ++ numB 2 (20 + n)) ++ numB 2 id ++ [64, 0, (tt : Int), (P : Int), 0, 0]).map (Value.int .u8))) ∧ Hid (Below w0.heap.size w0 wx))
  case first =>
    go_region_held3 (fun w' => w'.cell? ⟨B0, 0, none⟩ = some (.int .u8 (tt : Int)) ∧ w'.cell? ⟨B0, 1, none⟩ = some (.int .u8 (P : Int)) ∧ w'.cell? ⟨B0, 2, none⟩ = some (.int .u16 (id : Int))) (go_keep) (first
      | (go_at_call 23; (with_reducible refine (refNum2_own id _ ?_).mono ?_); omega; rintro e w4 ⟨g4, c4, rfl, o, b⟩; (first | (have LB := hide (litB b)) | (have LB := hide (litB_d b)) | (have LB := hide (below_block b LB.out (Nat.le_refl _))) | skip); (try replace b := bel_lit b); (try replace b := below_of_drew b); (try replace b := bel_lit b); have BW := hide (BW.out.trans (b.mono BW.out.size)); have k4_0 := (bcell BW.out B0 0 hl0).trans k0_0; have k4_1 := (bcell BW.out B0 1 hl0).trans k0_1; have k4_2 := (bcell BW.out B0 2 hl0).trans k0_2; have hl4 : B0 < w4.heap.size := Nat.lt_of_lt_of_le hl0 BW.out.size; have hne := hide (fun (L : Nat) (h : w3.heap.size ≤ L) => own_ne OT.out h); have hs4 := b.size; have OT := hide (owns_below OT.out b (Nat.le_refl _)); have R4 := hide (Row.of_owns o); have HXa := hide (app_own2 w4 w0.heap.size _ (2 + 2) _ OT.out (some ⟨g4, 0, none⟩) (numB 2 id) 2 c4 R4.out (numB_len _ _) (fun h => by cases h) (by omega) BW.out.size); have HXb := hide (app_own2 (w4.alloc (.cells #[.int .u8 64, .int .u8 0, .int .u8 (tt : Int), .int .u8 (P : Int), .int .u8 0, .int .u8 0] 5)) w0.heap.size _ (2 + 2) _ (OT.out.alloc _) (some ⟨g4, 0, none⟩) (numB 2 id) 2 c4 (R4.out.below ((Below.refl _ _).alloc (Nat.le_refl _) _) (Nat.le_refl _)) (numB_len _ _) (fun h => by cases h) (by omega) (Nat.le_trans BW.out.size (by simp))); clear o; clear b)
      | (refine step_append_ex rfl (.tmp 19) (.tmp 23) 25 25 rfl _ _ rfl rfl _ HXa.out ?_; rintro v5 w5 HP; have BW := hide (show Below w0.heap.size w0 w5 from BW.out.trans HP.2.1); have k5_0 := (bcell BW.out B0 0 hl0).trans k0_0; have k5_1 := (bcell BW.out B0 1 hl0).trans k0_1; have k5_2 := (bcell BW.out B0 2 hl0).trans k0_2; have hl5 : B0 < w5.heap.size := Nat.lt_of_lt_of_le hl0 BW.out.size; have O5 := hide HP.1; (first | (have LB := hide (HP.2.2 _ _ LB.out (hne.out _ (Nat.le_refl _))); have HY := hide (app_own2 w5 w0.heap.size _ (2 + 2 + 2) _ O5.out (some ⟨_, 0, none⟩) [64, 0, (tt : Int), (P : Int), 0, 0] 6 6 (row_six LB.out) rfl (fun h => by cases h) (by omega) BW.out.size)) | (have HY := hide (app_own2 (w5.alloc (.cells #[.int .u8 64, .int .u8 0, .int .u8 (tt : Int), .int .u8 (P : Int), .int .u8 0, .int .u8 0] 5)) w0.heap.size _ (2 + 2 + 2) _ (O5.out.alloc _) (some ⟨w5.heap.size, 0, none⟩) [64, 0, (tt : Int), (P : Int), 0, 0] 6 6 (row_six (heap_alloc_new w5 _)) rfl (fun h => by cases h) (by omega) (Nat.le_trans BW.out.size (by simp))))); clear HP)
      | (refine step_append_ex rfl (.tmp 19) (.tmp 23) 25 25 rfl _ _ rfl rfl _ HXb.out ?_; rintro v5 w5 HP; have BW := hide (show Below w0.heap.size w0 w5 from (BW.out.alloc BW.out.size _).trans HP.2.1); have k5_0 := (bcell BW.out B0 0 hl0).trans k0_0; have k5_1 := (bcell BW.out B0 1 hl0).trans k0_1; have k5_2 := (bcell BW.out B0 2 hl0).trans k0_2; have hl5 : B0 < w5.heap.size := Nat.lt_of_lt_of_le hl0 BW.out.size; have O5 := hide HP.1; have LB := hide (HP.2.2 _ _ (heap_alloc_new w4 _) (hne.out _ hs4)); have HY := hide (app_own2 w5 w0.heap.size _ (2 + 2 + 2) _ O5.out (some ⟨w4.heap.size, 0, none⟩) [64, 0, (tt : Int), (P : Int), 0, 0] 6 6 (row_six LB.out) rfl (fun h => by cases h) (by omega) BW.out.size); clear HP)
      | (refine step_append_ex rfl (.tmp 24) (.tmp 29) 25 25 rfl _ _ rfl rfl _ HY.out ?_; rintro v6 w6 HP; have BW := hide (show Below w0.heap.size w0 w6 from (by first | exact BW.out.trans HP.2.1 | exact (BW.out.alloc BW.out.size _).trans HP.2.1)); have k6_0 := (bcell BW.out B0 0 hl0).trans k0_0; have k6_1 := (bcell BW.out B0 1 hl0).trans k0_1; have k6_2 := (bcell BW.out B0 2 hl0).trans k0_2; have hl6 : B0 < w6.heap.size := Nat.lt_of_lt_of_le hl0 BW.out.size; have OF := hide HP.1; clear HP)
      | fail)
    all_goals
      have hz := OF.out
      obtain ⟨af, cf, rfl⟩ := slice_form hz
      have OZ := hide hz
      clear hz
      try go_wp2_with fail
      go_meet
      exact ⟨af, cf, rfl, OZ, BW⟩
  case rest =>
  obtain ⟨az, cz, rfl, OT, BW⟩ := hcut
  obtain ⟨wz, rfl⟩ : ∃ wz, wz = wc := ⟨_, rfl⟩
  have kz_3 := (bcell BW.out B0 3 hl0).trans k0_3
  have kz_4 := (bcell BW.out B0 4 hl0).trans k0_4
  have hlz : B0 < wz.heap.size := Nat.lt_of_lt_of_le hl0 BW.out.size
  clear k3_0 k3_1 k3_2 hl3
  go_wp2_with fail
  go_cut [4] (fun bv wx => ∃ a c, bv = .slice a (2 + 2 + 2 + 6 + 4 + 4) c ∧ Hid (wx.ownsRow w0.heap.size 5 1 (.slice a (2 + 2 + 2 + 6 + 4 + 4) c) (2 + 2 + 2 + 6 + 4 + 4) (((([69, 0] ++ numB 2 (20 + n)) ++ numB 2 id ++ [64, 0, (tt : Int), (P : Int), 0, 0]) ++ numB 4 s ++ numB 4 d).map (Value.int .u8))) ∧ Hid (Below w0.heap.size w0 wx))
  case first =>
    go_region_held3 (fun w' => w'.cell? ⟨B0, 3, none⟩ = some (.int .u32 (s : Int)) ∧ w'.cell? ⟨B0, 4, none⟩ = some (.int .u32 (d : Int))) (go_keep) (first
      | (go_at_call 23; (with_reducible refine (refNum4_own s _ ?_).mono ?_); omega; rintro e wa ⟨ga, ca, rfl, o, b⟩; (try replace b := below_of_drew b); have BW := hide (BW.out.trans (b.mono BW.out.size)); have ka_3 := (bcell BW.out B0 3 hl0).trans k0_3; have ka_4 := (bcell BW.out B0 4 hl0).trans k0_4; have hla : B0 < wa.heap.size := Nat.lt_of_lt_of_le hl0 BW.out.size; have OT := hide (owns_below OT.out b (Nat.le_refl _)); have OU := hide o; have HX := hide (app_own2 _ w0.heap.size _ (2 + 2 + 2 + 6) _ OT.out (some ⟨ga, 0, none⟩) (numB 4 s) 4 ca (Row.of_owns OU.out) (numB_len _ _) (fun h => by cases h) (by omega) BW.out.size); clear b)
      | (go_at_call 23; (with_reducible refine (refNum4_own d _ ?_).mono ?_); omega; rintro e wb ⟨gb, cb, rfl, o, b⟩; (try replace b := below_of_drew b); have BW := hide (BW.out.trans (b.mono BW.out.size)); have kb_3 := (bcell BW.out B0 3 hl0).trans k0_3; have kb_4 := (bcell BW.out B0 4 hl0).trans k0_4; have hlb : B0 < wb.heap.size := Nat.lt_of_lt_of_le hl0 BW.out.size; (first | (have O1 := hide (owns_below O1.out b (Nat.le_refl _)); have HY := hide (app_own2 _ w0.heap.size _ (2 + 2 + 2 + 6 + 4) _ O1.out (some ⟨gb, 0, none⟩) (numB 4 d) 4 cb (Row.of_owns o) (numB_len _ _) (fun h => by cases h) (by omega) BW.out.size)) | (have hne := hide (fun (L : Nat) (hL : wa.heap.size ≤ L) => own_ne OT.out hL); have OT := hide (owns_below OT.out b (Nat.le_refl _)); have OU := hide (owns_below OU.out b (Nat.le_refl _)); have OV := hide o; have HX := hide (app_own2 _ w0.heap.size _ (2 + 2 + 2 + 6) _ OT.out (some ⟨ga, 0, none⟩) (numB 4 s) 4 ca (Row.of_owns OU.out) (numB_len _ _) (fun h => by cases h) (by omega) BW.out.size))); clear b)
      | (refine step_append_ex rfl (.tmp 31) (.tmp 35) 25 25 rfl _ _ rfl rfl _ HX.out ?_; rintro vc wc HP; have BW := hide (show Below w0.heap.size w0 wc from BW.out.trans HP.2.1); have kc_3 := (bcell BW.out B0 3 hl0).trans k0_3; have kc_4 := (bcell BW.out B0 4 hl0).trans k0_4; have hlc : B0 < wc.heap.size := Nat.lt_of_lt_of_le hl0 BW.out.size; have O1 := hide HP.1; (first | (have OV := hide (owns_keep OV.out HP.2.2 hne.out); have HY := hide (app_own2 _ w0.heap.size _ (2 + 2 + 2 + 6 + 4) _ O1.out (some ⟨gb, 0, none⟩) (numB 4 d) 4 cb (Row.of_owns OV.out) (numB_len _ _) (fun h => by cases h) (by omega) BW.out.size)) | skip); clear HP)
      | (refine step_append_ex rfl (.tmp 36) (.tmp 40) 25 25 rfl _ _ rfl rfl _ HY.out ?_; rintro vd wd HP; have BW := hide (show Below w0.heap.size w0 wd from BW.out.trans HP.2.1); have kd_3 := (bcell BW.out B0 3 hl0).trans k0_3; have kd_4 := (bcell BW.out B0 4 hl0).trans k0_4; have hld : B0 < wd.heap.size := Nat.lt_of_lt_of_le hl0 BW.out.size; have OF := hide HP.1; clear HP)
      | fail)
    all_goals
      have hz := OF.out
      obtain ⟨af, cf, rfl⟩ := slice_form hz
      have OZ := hide hz
      clear hz
      try go_wp2_with fail
      go_meet
      exact ⟨af, cf, rfl, OZ, BW⟩
  case rest =>
  obtain ⟨az, cz, rfl, OT, BW⟩ := hcut
  obtain ⟨wy, rfl⟩ : ∃ wz, wz = wc := ⟨_, rfl⟩
  have kz_5 := (bcell BW.out B0 5 hl0).trans k0_5
  have hlz : B0 < wy.heap.size := Nat.lt_of_lt_of_le hl0 BW.out.size
  have e5 : (([69, 0] ++ numB 2 (20 + n)) ++ numB 2 id ++ [64, 0, (tt : Int), (P : Int), 0, 0]) ++ numB 4 s ++ numB 4 d = ipH tt P id s d n 0 := by
    have h0 : numB 2 0 = [0, 0] := rfl
    simp [ipH, h0]
  rw [show 2 + 2 + 2 + 6 + 4 + 4 = 20 by omega, e5] at OT
  rw [show 2 + 2 + 2 + 6 + 4 + 4 = 20 by omega]
  have hcr := csum_rng (ipH tt P id s d n 0)
  have hsum := refSum_any az (ipH tt P id s d n 0) cz wy (Row.of_owns OT.out) HBR.out (by rw [ipH_len]; omega)
  rw [ipH_len, show csum (ipH tt P id s d n 0) = ((ipK tt P id s d n : Nat) : Int) by unfold ipK; omega] at hsum
  have HSUM := hide hsum
  have hkl : ipK tt P id s d n ≤ 65535 := by unfold ipK; omega
  clear hsum hcr e5 kz_3 kz_4
  obtain ⟨K, hK⟩ : ∃ K, ipK tt P id s d n = K := ⟨_, rfl⟩
  rw [hK] at HSUM hkl
  have HK := hide hK
  clear hK
  go_wp2_with fail
  refine HSUM.out.mono ?_
  rintro e w8 ⟨rfl, b8⟩
  have OT8 := owns_below OT.out b8 (Nat.le_refl _)
  have BW8 := BW.out.trans (b8.mono BW.out.size)
  obtain ⟨g, rfl, hgb, hgl⟩ : ∃ g, az = some ⟨g, 0, none⟩ ∧ w0.heap.size ≤ g ∧ g < w8.heap.size := by
    rcases OT8.2 with ⟨_, h0⟩ | ⟨g, c', cur, hv, hg, hh, _⟩
    · omega
    · obtain ⟨rfl, rfl⟩ : az = some ⟨g, 0, none⟩ ∧ cz = c' := by simpa using hv
      exact ⟨g, rfl, hg, lt_of_block hh⟩
  have ho1 := owns_store (v := ((K / 256 : Nat) : Int)) OT8 (show 10 < 20 by omega)
  have ho2 := owns_store (v := ((K % 256 : Nat) : Int)) ho1 (show 11 < 20 by omega)
  rw [ipH_set _ _ _ _ _ _ _ hkl] at ho2
  have c0 := OT8.cellAt 10 (by omega)
  have c1 := ho1.cellAt 11 (by omega)
  have fr : ∀ (W : World) (ys : List Int), W.ownsRow w0.heap.size 5 1 (.slice (some ⟨g, 0, none⟩) 20 cz) 20 (ys.map (Value.int .u8)) → ∀ i, W.frozen? ⟨g, i, none⟩ = false := fun W ys h i => by
    rcases h.2 with ⟨h0, _⟩ | ⟨r, cap, cur, hv, hr, hh, _⟩
    · cases h0
    · obtain ⟨rfl, rfl⟩ : g = r ∧ cz = cap := by simpa using hv
      simp [World.frozen?, hh]
  have f0 := fr _ _ OT8 10
  have f1 := fr _ _ ho1 11
  have hd1 : (K : Int) / 256 = ((K / 256 : Nat) : Int) := by omega
  have hd2 : (K : Int) % 256 = ((K % 256 : Nat) : Int) := by omega
  have hq : IntKind.u8.wrap ((K / 256 : Nat) : Int) = ((K / 256 : Nat) : Int) := by rw [IntKind.wrap_u8]; omega
  have hq2 : IntKind.u8.wrap ((K % 256 : Nat) : Int) = ((K % 256 : Nat) : Int) := by rw [IntKind.wrap_u8]; omega
  obtain ⟨y0, hy0⟩ : ∃ y0, ((ipH tt P id s d n 0).map (Value.int .u8))[10]? = some y0 := ⟨_, List.getElem?_eq_getElem (by simp [ipH_len])⟩
  rw [hy0] at c0
  obtain ⟨y1, hy1⟩ : ∃ y1, (((ipH tt P id s d n 0).set 10 ((K / 256 : Nat) : Int)).map (Value.int .u8))[11]? = some y1 := ⟨_, List.getElem?_eq_getElem (by simp [ipH_len])⟩
  rw [hy1] at c1
  have hbl : Below w0.heap.size w0 ((w8.setCell ⟨g, 10, none⟩ (.int .u8 ((K / 256 : Nat) : Int))).setCell ⟨g, 11, none⟩ (.int .u8 ((K % 256 : Nat) : Int))) := (BW8.setCell (by simpa using hgb) _).setCell (by simpa using hgb) _
  generalize K / 256 = v1 at *
  generalize K % 256 = v2 at *
  obtain ⟨W9, hW9, HO9, HB9⟩ : ∃ W, ((w8.setCell ⟨g, 10, none⟩ (.int .u8 (v1 : Int))).setCell ⟨g, 11, none⟩ (.int .u8 (v2 : Int))) = W ∧ Hid (W.ownsRow w0.heap.size 5 1 (.slice (some ⟨g, 0, none⟩) 20 cz) 20 ((ipH tt P id s d n K).map (Value.int .u8))) ∧ Hid (Below w0.heap.size w0 W) := ⟨_, rfl, hide ho2, hide hbl⟩
  have HW9 := hide hW9
  clear OT8 ho1 ho2 fr hy0 hy1 hbl BW8 hW9 b8 OT BW HSUM kz_5
  go_upto_region 9 with (fail)
  rw [HW9.out]
  clear HW9 c0 c1 f0 f1 hd1 hd2 hq hq2
  have k9 := (bcell HB9.out B0 5 hl0).trans k0_5
  obtain ⟨v3, w10, hrun3, o3, b3, _⟩ := app_own2 W9 w0.heap.size _ 20 _ HO9.out da xs n dc (RS.out.below HB9.out (Nat.le_refl _)) HL.out HN.out (by omega) HB9.out.size
  obtain ⟨a3, c3, rfl⟩ := slice_form o3
  have HRUN3 := hide hrun3
  have e3 : ipH tt P id s d n K ++ xs = ipG tt P id s d xs := by unfold ipG; rw [HL.out, HK.out]
  rw [e3] at o3
  have O3 := hide (owns_mono o3 BE.out.size)
  have B3 := hide (BE.out.trans ((HB9.out.trans b3).mono BE.out.size))
  clear hrun3 e3 o3 b3 k0_0 k0_1 k0_2 k0_3 k0_4 k0_5
  go_wp2_with (at_builtin; refine Lib.wpList_append_run _ rfl _ _ _ _ rfl _ _ rfl rfl _ _ HRUN3.out ?_)
  go_ret2
  exact ⟨a3, c3, rfl, O3.out, B3.out⟩
end Go.Proofs.YtlipckpacdioiaaDoor
