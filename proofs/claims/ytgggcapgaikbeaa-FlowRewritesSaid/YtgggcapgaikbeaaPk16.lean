/- What the document's WriteICMP answers (for flow). -/
import Derived.Test.YtgggcapgaikbeaaPk13
import Derived.Test.YtgggcapgaikbeaaPk11
import Derived.Deep.RegionHeld3
import Derived.Deep.DeepCutAuto
import Derived.Test.YtgggcapgaikbeaaPk15
import Derived.Lib.SlBytesConst
import Derived.Test.YtgggcapgaikbeaaPk08
namespace Go.Proofs.Ytgggcapgaikbeaa
open Go.RowKit
set_option linter.unusedVariables false
set_option linter.unusedSimpArgs false
set_option maxRecDepth 100000
theorem lit4_own {V w' : World} {x y : Int} (base : Nat) (h : Below (V.alloc (.cells #[.int .u8 x, .int .u8 y, .int .u8 0, .int .u8 0] 5)).heap.size (V.alloc (.cells #[.int .u8 x, .int .u8 y, .int .u8 0, .int .u8 0] 5)) w') (hb : base ≤ V.heap.size) :
    w'.ownsRow base 5 1 (.slice (some ⟨V.heap.size, 0, none⟩) 4 4) 4 (([x, y, 0, 0] : List Int).map (Value.int .u8)) :=
  owns_below (World.ownsRow_lit V #[.int .u8 x, .int .u8 y, .int .u8 0, .int .u8 0] 4 hb (by unfold maxLen; omega) rfl) h (Nat.le_refl _)
theorem lit4_own_d {V w' : World} {x y : Int} (base : Nat) (h : Below (V.alloc (.cells #[.int .u8 x, .int .u8 y, .int .u8 0, .int .u8 0] 5)).drew.heap.size (V.alloc (.cells #[.int .u8 x, .int .u8 y, .int .u8 0, .int .u8 0] 5)).drew w') (hb : base ≤ V.heap.size) :
    w'.ownsRow base 5 1 (.slice (some ⟨V.heap.size, 0, none⟩) 4 4) 4 (([x, y, 0, 0] : List Int).map (Value.int .u8)) := lit4_own base (below_of_drew h) hb

set_option maxHeartbeats 1600000 in
theorem rwicmp_ok (w : World) (p q r : Nat) (da : Option Addr) (xs : List Int) (n dc : Nat) (hr : Row .u8 w da xs) (hn : da = none → dc = 0) (hl : xs.length = n) (hb : ∀ x ∈ xs, 0 ≤ x ∧ x ≤ 255) (h1 : n ≤ 1472) (hp : p ≤ 255) (hq : q ≤ 255) (hrr : r ≤ 4294967295) :
    Calls Try.prog 26 #[.agg #[.int .u8 (p : Int), .int .u8 (q : Int), .int .u32 (r : Int), .slice da n dc]] w fun e w' => ∃ a c,
      e = .returned (.tuple #[.slice a (8 + n) c, .int .i64 0]) ∧ w'.ownsRow w.heap.size 5 1 (.slice a (8 + n) c) (8 + n) ((icmpG p q r xs (icmpK p q r xs).toNat).map (Value.int .u8)) ∧ Below w.heap.size w w' := by
  have HR := hide hr
  have HN := hide hn
  have HL := hide hl
  have HBR := hide (icmpG_rng p q r xs 0 hp hq hb)
  have hZL := icmpG_len p q r xs 0
  rw [HL.out] at hZL
  have HZL := hide hZL
  clear hr hn hl hb hZL
  go_enter Try.func26, Try.ntmps26
  go_wp2_with fail
  obtain ⟨B0, w0, hB, hqq, hl0, hbel, hheap⟩ : ∃ B0 wq, w.heap.size = B0 ∧ w.alloc (.cells #[.int .u8 (p : Int), .int .u8 (q : Int), .int .u32 (r : Int), .slice da n dc] 55) = wq ∧ B0 < wq.heap.size ∧ Below w.heap.size w wq ∧
      wq.heap[B0]? = some (.cells #[.int .u8 (p : Int), .int .u8 (q : Int), .int .u32 (r : Int), .slice da n dc] 55 (0, 0)) := ⟨_, _, rfl, rfl, by simp, (Below.refl _ _).alloc (Nat.le_refl _) _, heap_alloc_new _ _⟩
  rw [hqq, hB]
  have HB := hide hB
  have HH := hide hheap
  obtain ⟨k0_0, k0_1, k0_2, k0_3, kf⟩ := four_cells hheap
  have RS := hide (HR.out.below hbel (Nat.le_refl _))
  have BW := hide hbel
  have hw1 : IntKind.u64.wrap (r : Int) = (r : Int) := wraps_u64 _ (by omega) (by omega)
  clear hqq hB hheap hbel kf
  go_cut [4] (fun bv wx => ∃ a c, bv = .slice a (4 + 4) c ∧ Hid (wx.ownsRow w0.heap.size 5 1 (.slice a (4 + 4) c) (4 + 4) (([(p : Int), (q : Int), 0, 0] ++ numB 4 r).map (Value.int .u8))) ∧ Hid (Below w0.heap.size w0 wx))
  case first =>
    go_region_held3 (fun w' => w'.cell? ⟨B0, 0, none⟩ = some (.int .u8 (p : Int)) ∧ w'.cell? ⟨B0, 1, none⟩ = some (.int .u8 (q : Int)) ∧ w'.cell? ⟨B0, 2, none⟩ = some (.int .u32 (r : Int)) ∧ w'.cell? ⟨B0, 3, none⟩ = some (.slice da n dc)) (go_keep) (first
    | (go_at_call 48; (with_reducible refine (refNum4_own r _ ?_).mono ?_); omega; rintro e w1 ⟨g1, c1, rfl, o, b⟩; have B1 : Below w0.heap.size w0 w1 := (by first | exact b | exact below_of_drew b | exact bel_lit b | exact below_of_drew (bel_lit b) | exact bel_lit (below_of_drew b)); have k1_0 : w1.cell? ⟨B0, 0, none⟩ = some (.int .u8 (p : Int)) := (bcell B1 B0 0 hl0).trans k0_0; have k1_1 : w1.cell? ⟨B0, 1, none⟩ = some (.int .u8 (q : Int)) := (bcell B1 B0 1 hl0).trans k0_1; have k1_2 : w1.cell? ⟨B0, 2, none⟩ = some (.int .u32 (r : Int)) := (bcell B1 B0 2 hl0).trans k0_2; have k1_3 : w1.cell? ⟨B0, 3, none⟩ = some (.slice da n dc) := (bcell B1 B0 3 hl0).trans k0_3; have R1 := hide (Row.of_owns o);
       (first | (have hx := app_own w1 w0.heap.size _ 4 _ (lit4_own w0.heap.size b (Nat.le_refl _)) (some ⟨g1, 0, none⟩) (numB 4 r) 4 c1 R1.out (numB_len _ _) (fun h => by cases h) (by omega) B1.size) | (have hx := app_own w1 w0.heap.size _ 4 _ (lit4_own_d w0.heap.size b (Nat.le_refl _)) (some ⟨g1, 0, none⟩) (numB 4 r) 4 c1 R1.out (numB_len _ _) (fun h => by cases h) (by omega) B1.size) | (have hx := app_own (w1.alloc (.cells #[.int .u8 (p : Int), .int .u8 (q : Int), .int .u8 0, .int .u8 0] 5)) w0.heap.size (.slice (some ⟨w1.heap.size, 0, none⟩) 4 4) 4 [(p : Int), (q : Int), 0, 0] (World.ownsRow_lit w1 #[.int .u8 (p : Int), .int .u8 (q : Int), .int .u8 0, .int .u8 0] 4 B1.size (by unfold maxLen; omega) rfl) (some ⟨g1, 0, none⟩) (numB 4 r) 4 c1 (R1.out.below ((Below.refl _ _).alloc (Nat.le_refl _) _) (Nat.le_refl _)) (numB_len _ _) (fun h => by cases h) (by omega) ((Below.refl w0.heap.size w1).alloc B1.size _ |>.size |> Nat.le_trans B1.size)));
       have HX := hide hx; have hl1 : B0 < w1.heap.size := Nat.lt_of_lt_of_le hl0 B1.size; clear hx o b)
    | (refine step_append_ex rfl (.tmp 14) (.tmp 18) 25 25 rfl _ _ rfl rfl _ HX.out ?_; rintro v2 w2 HP2; have BF : Below w0.heap.size w0 w2 := (by first | exact B1.trans HP2.2 | exact B1.trans (((Below.refl _ _).alloc B1.size _).trans HP2.2)); have k2_0 : w2.cell? ⟨B0, 0, none⟩ = some (.int .u8 (p : Int)) := (bcell BF B0 0 hl0).trans k0_0; have k2_1 : w2.cell? ⟨B0, 1, none⟩ = some (.int .u8 (q : Int)) := (bcell BF B0 1 hl0).trans k0_1; have k2_2 : w2.cell? ⟨B0, 2, none⟩ = some (.int .u32 (r : Int)) := (bcell BF B0 2 hl0).trans k0_2; have k2_3 : w2.cell? ⟨B0, 3, none⟩ = some (.slice da n dc) := (bcell BF B0 3 hl0).trans k0_3; have OP := hide HP2.1; have BP := hide BF; clear HP2 BF)
    | fail)
    all_goals
      obtain ⟨a2, c2, rfl⟩ := slice_form OP.out
      try go_wp2_with fail
      go_meet
      exact ⟨a2, c2, rfl, OP, BP⟩
  case rest =>
    obtain ⟨a2, c2, rfl, OP, BP⟩ := hcut
    have kz3 : wc.cell? ⟨B0, 3, none⟩ = some (.slice da n dc) := (bcell BP.out B0 3 hl0).trans k0_3
    obtain ⟨v3, w3, hrun3, o3, b3⟩ := app_own wc w0.heap.size (.slice a2 (4 + 4) c2) (4 + 4) _ OP.out da xs n dc (RS.out.below BP.out (Nat.le_refl _)) HL.out HN.out (by omega) BP.out.size
    obtain ⟨a3, c3, rfl⟩ := slice_form o3
    have HRUN3 := hide hrun3
    have e3 : ([(p : Int), (q : Int), 0, 0] ++ numB 4 r) ++ xs = icmpG p q r xs 0 := by
      have h0 : numB 2 0 = [0, 0] := rfl
      simp [icmpG, h0]
    rw [e3] at o3
    have O3 := hide (owns_mono o3 BW.out.size)
    have B3 := hide (BW.out.trans ((BP.out.trans b3).mono BW.out.size))
    have hrs := refSum_any a3 (icmpG p q r xs 0) c3 w3 (Row.of_owns o3) HBR.out (by rw [HZL.out]; omega)
    rw [HZL.out] at hrs
    have HRS := hide hrs
    clear hrun3 e3 o3 b3 hrs k0_0 k0_1 k0_2 k0_3
    rw [show 4 + 4 + n = 8 + n by omega] at *
    go_wp2_with (at_builtin; refine Lib.wpList_append_run _ rfl _ _ _ _ rfl _ _ rfl rfl _ _ HRUN3.out ?_)
    refine HRS.out.mono ?_
    rintro e w4 ⟨rfl, b4⟩
    have O4 := hide (owns_below O3.out b4 (Nat.le_refl _))
    have B4 := hide (B3.out.trans (b4.mono B3.out.size))
    clear b4
    have hcr := csum_rng (icmpG p q r xs 0)
    have hKe : csum (icmpG p q r xs 0) = (((icmpK p q r xs).toNat : Nat) : Int) := by unfold icmpK; omega
    have hKle : (icmpK p q r xs).toNat ≤ 65535 := by unfold icmpK; omega
    rw [hKe]
    obtain ⟨k, HKK⟩ : ∃ k, Hid ((icmpK p q r xs).toNat = k) := ⟨_, rfl⟩
    rw [HKK.out] at hKle ⊢
    clear hKe hcr
    have hlay := rlay_any w.heap.size (8 + n) c3 2 a3 (icmpG p q r xs 0) k w4 O4.out (by omega) (by omega) hKle
    rw [icmp_spl] at hlay
    have HLY := hide hlay
    clear hlay
    go_wp2_with fail
    refine HLY.out.mono ?_
    rintro e w9 ⟨rfl, o9, b9⟩
    have O9 := hide o9
    have B9 := hide (B4.out.trans b9)
    clear o9 b9
    go_wp2
    go_ret2
    exact ⟨a3, c3, rfl, by rw [HKK.out]; exact O9.out, B9.out⟩
end Go.Proofs.Ytgggcapgaikbeaa

/- What the document's packet writer answers. -/
namespace Go.Proofs.Ytgggcapgaikbeaa
open Go.RowKit
set_option linter.unusedVariables false
set_option linter.unusedSimpArgs false
set_option maxRecDepth 100000
theorem owns_keep {V w' : World} {base : Nat} {x : Value} {n : Nat} {xs : List Value} {v : Value} (h : V.ownsRow base 5 1 x n xs) (hk : ∀ (L : Nat) (o : Obj), V.heap[L]? = some o → v.ownBlock ≠ some L → w'.heap[L]? = some o) (hne : ∀ L, base ≤ L → v.ownBlock ≠ some L) : w'.ownsRow base 5 1 x n xs := by
  refine ⟨h.1, ?_⟩
  rcases h.2 with h | ⟨g, cap, cur, hv, hg, hh, r⟩
  · exact .inl h
  · exact .inr ⟨g, cap, cur, hv, hg, hk _ _ hh (hne g hg), r⟩
/-- A packet's bytes with k for its sum. -/
def ipH (tt P id s d n k : Nat) : List Int := [69, 0] ++ numB 2 (20 + n) ++ numB 2 id ++ [64, 0, (tt : Int), (P : Int)] ++ numB 2 k ++ numB 4 s ++ numB 4 d
def ipK (tt P id s d n : Nat) : Nat := (csum (ipH tt P id s d n 0)).toNat
def ipG (tt P id s d : Nat) (xs : List Int) : List Int := ipH tt P id s d xs.length (ipK tt P id s d xs.length) ++ xs
theorem ipH_len (tt P id s d n k : Nat) : (ipH tt P id s d n k).length = 20 := by simp [ipH, numB_len]
theorem numB_byte (k n : Nat) : ∀ x ∈ numB k n, 0 ≤ x ∧ x ≤ 255 := numB_rng k n
theorem ipH_rng (tt P id s d n k : Nat) (ht : tt ≤ 255) (hP : P ≤ 255) : ∀ x ∈ ipH tt P id s d n k, 0 ≤ x ∧ x ≤ 255 := by
  intro x hx
  simp only [ipH, List.mem_append, List.mem_cons, List.not_mem_nil, or_false] at hx
  rcases hx with (((((h | h) | h) | h) | h) | h) | h
  · omega
  · exact numB_byte _ _ x h
  · exact numB_byte _ _ x h
  · omega
  · exact numB_byte _ _ x h
  · exact numB_byte _ _ x h
  · exact numB_byte _ _ x h
theorem ipH_set (tt P id s d n k : Nat) (hk : k ≤ 65535) : ((ipH tt P id s d n 0).set 10 ((k / 256 : Nat) : Int)).set 11 ((k % 256 : Nat) : Int) = ipH tt P id s d n k := by
  have h2 : ∀ m, numB 2 m = [byteAt m 1, byteAt m 0] := fun _ => rfl
  have h3 := numB2 k hk
  unfold ipH
  rw [h3, h2, h2, h2]
  rfl
theorem ipG_len (tt P id s d : Nat) (xs : List Int) : (ipG tt P id s d xs).length = 20 + xs.length := by simp [ipG, ipH_len]
theorem num_all (n : Nat) (w : World) (hn : n ≤ 100000) :
    Calls Try.prog 48 #[.int .i64 2, .int .u64 (20 + (n : Int))] w fun e w' => ∃ g c, e = .returned (.slice (some ⟨g, 0, none⟩) 2 c) ∧ w'.ownsRow w.heap.size 5 1 (.slice (some ⟨g, 0, none⟩) 2 c) 2 ((numB 2 (20 + n)).map (Value.int .u8)) ∧ Below w.heap.size w w' := by
  have h := refNum2_own (20 + n) w (by omega)
  rw [show ((20 + n : Nat) : Int) = 20 + (n : Int) by omega] at h
  exact h
theorem row_six {w : World} {L : Nat} {x y z u v t : Int} (h : w.heap[L]? = some (.cells #[.int .u8 x, .int .u8 y, .int .u8 z, .int .u8 u, .int .u8 v, .int .u8 t] 5 (0, 0))) : Row .u8 w (some ⟨L, 0, none⟩) [x, y, z, u, v, t] := by
  intro _
  refine ⟨L, 0, rfl, lt_of_block h, fun i hi => ?_⟩
  simp only [World.cell?, h]
  match i, hi with
  | 0, _ => rfl
  | 1, _ => rfl
  | 2, _ => rfl
  | 3, _ => rfl
  | 4, _ => rfl
  | 5, _ => rfl

set_option maxHeartbeats 4000000 in
theorem rwip_ok (w : World) (tt P id s d : Nat) (da : Option Addr) (xs : List Int) (n dc : Nat) (hr : Row .u8 w da xs) (hn : da = none → dc = 0) (hl : xs.length = n) (h1 : n ≤ 1480) (ht : tt ≤ 255) (hP : P ≤ 255) (hid : id ≤ 65535) (hs : s ≤ 4294967295) (hd : d ≤ 4294967295) :
    Calls Try.prog 40 #[.agg #[.int .u8 (tt : Int), .int .u8 (P : Int), .int .u16 (id : Int), .int .u32 (s : Int), .int .u32 (d : Int), .slice da n dc]] w fun e w' => ∃ a c,
      e = .returned (.tuple #[.slice a (20 + n) c, .int .i64 0]) ∧ w'.ownsRow w.heap.size 5 1 (.slice a (20 + n) c) (20 + n) ((ipG tt P id s d xs).map (Value.int .u8)) ∧ Below w.heap.size w w' := by
  have HR := hide hr
  have HN := hide hn
  have HL := hide hl
  have HBR := hide (ipH_rng tt P id s d n 0 ht hP)
  have hd0 : decide ((1480 : Int) < (n : Int)) = false := by simp; omega
  have hw1 : IntKind.i64.wrap (20 + (n : Int)) = 20 + (n : Int) := IntWalk.i64_in _ (by omega)
  have hw2 : IntKind.u64.wrap (20 + (n : Int)) = 20 + (n : Int) := wraps_u64 _ (by omega) (by omega)
  have hw3 : IntKind.u64.wrap (id : Int) = (id : Int) := wraps_u64 _ (by omega) (by omega)
  have hw4 : IntKind.u64.wrap (s : Int) = (s : Int) := wraps_u64 _ (by omega) (by omega)
  have hw5 : IntKind.u64.wrap (d : Int) = (d : Int) := wraps_u64 _ (by omega) (by omega)
  clear hr hn hl
  go_enter Try.func40, Try.ntmps40
  go_upto_region 1 with (fail)
  obtain ⟨B0, w0, hB, hqq, hl0, hbel, hheap⟩ : ∃ B0 wq, w.heap.size = B0 ∧ w.alloc (.cells #[.int .u8 (tt : Int), .int .u8 (P : Int), .int .u16 (id : Int), .int .u32 (s : Int), .int .u32 (d : Int), .slice da n dc] 27) = wq ∧ B0 < wq.heap.size ∧ Below w.heap.size w wq ∧
      wq.heap[B0]? = some (.cells #[.int .u8 (tt : Int), .int .u8 (P : Int), .int .u16 (id : Int), .int .u32 (s : Int), .int .u32 (d : Int), .slice da n dc] 27 (0, 0)) := ⟨_, _, rfl, rfl, by simp, (Below.refl _ _).alloc (Nat.le_refl _) _, heap_alloc_new _ _⟩
  try rw [hqq]
  try rw [hB]
  have HB := hide hB
  have k0_0 : w0.cell? ⟨B0, 0, none⟩ = some (.int .u8 (tt : Int)) := cell_at hheap 0 rfl
  have k0_1 : w0.cell? ⟨B0, 1, none⟩ = some (.int .u8 (P : Int)) := cell_at hheap 1 rfl
  have k0_2 : w0.cell? ⟨B0, 2, none⟩ = some (.int .u16 (id : Int)) := cell_at hheap 2 rfl
  have k0_3 : w0.cell? ⟨B0, 3, none⟩ = some (.int .u32 (s : Int)) := cell_at hheap 3 rfl
  have k0_4 : w0.cell? ⟨B0, 4, none⟩ = some (.int .u32 (d : Int)) := cell_at hheap 4 rfl
  have k0_5 : w0.cell? ⟨B0, 5, none⟩ = some (.slice da n dc) := cell_at hheap 5 rfl
  have RS := hide (HR.out.below hbel (Nat.le_refl _))
  have BE := hide hbel
  clear hqq hB hheap hbel
  go_wp2_with fail
  refine (num_all n _ (by omega)).mono ?_
  rintro e w1 ⟨g1, c1, rfl, o, b⟩
  have hB1 : Below w0.heap.size w0 w1 := (by first | exact bel_lit b | exact below_of_drew (bel_lit b) | exact bel_lit (below_of_drew b))
  have BW := hide hB1
  have hlit : w1.ownsRow w0.heap.size 5 1 (.slice (some ⟨w0.heap.size, 0, none⟩) 2 2) 2 (([69, 0] : List Int).map (Value.int .u8)) := owns_below (World.ownsRow_lit w0 #[.int .u8 69, .int .u8 0] 2 (Nat.le_refl _) (by unfold maxLen; omega) rfl) (by first | exact b | exact below_of_drew b) (Nat.le_refl _)
  obtain ⟨v2, w3, hrun, o2, b2, _⟩ := app_own2 w1 w0.heap.size _ 2 _ hlit (some ⟨g1, 0, none⟩) (numB 2 (20 + n)) 2 c1 (Row.of_owns o) (numB_len _ _) (fun h => by cases h) (by omega) BW.out.size
  obtain ⟨a2, c2, rfl⟩ := slice_form o2
  have HRUN := hide hrun
  have OT := hide o2
  have BW := hide (BW.out.trans b2)
  clear hrun o2 b2 hlit o b hB1
  go_wp2_with (at_builtin; refine Lib.wpList_append_run _ rfl _ _ _ _ rfl _ _ rfl rfl _ _ HRUN.out ?_)
  have k3_0 := (bcell BW.out B0 0 hl0).trans k0_0
  have k3_1 := (bcell BW.out B0 1 hl0).trans k0_1
  have k3_2 := (bcell BW.out B0 2 hl0).trans k0_2
  have hl3 : B0 < w3.heap.size := Nat.lt_of_lt_of_le hl0 BW.out.size
  clear HRUN hw1 hw2 hd0
  go_cut [4] (fun bv wx => ∃ a c, bv = .slice a (2 + 2 + 2 + 6) c ∧ Hid (wx.ownsRow w0.heap.size 5 1 (.slice a (2 + 2 + 2 + 6) c) (2 + 2 + 2 + 6) ((([69, 0] ++ numB 2 (20 + n)) ++ numB 2 id ++ [64, 0, (tt : Int), (P : Int), 0, 0]).map (Value.int .u8))) ∧ Hid (Below w0.heap.size w0 wx))
  case first =>
    go_region_held3 (fun w' => w'.cell? ⟨B0, 0, none⟩ = some (.int .u8 (tt : Int)) ∧ w'.cell? ⟨B0, 1, none⟩ = some (.int .u8 (P : Int)) ∧ w'.cell? ⟨B0, 2, none⟩ = some (.int .u16 (id : Int))) (go_keep) (first
      | (go_at_call 48; (with_reducible refine (refNum2_own id _ ?_).mono ?_); omega; rintro e w4 ⟨g4, c4, rfl, o, b⟩; (first | (have LB := hide (litB b)) | (have LB := hide (litB_d b)) | (have LB := hide (below_block b LB.out (Nat.le_refl _))) | skip); (try replace b := bel_lit b); (try replace b := below_of_drew b); (try replace b := bel_lit b); have BW := hide (BW.out.trans (b.mono BW.out.size)); have k4_0 := (bcell BW.out B0 0 hl0).trans k0_0; have k4_1 := (bcell BW.out B0 1 hl0).trans k0_1; have k4_2 := (bcell BW.out B0 2 hl0).trans k0_2; have hl4 : B0 < w4.heap.size := Nat.lt_of_lt_of_le hl0 BW.out.size; have hne := hide (fun (L : Nat) (h : w3.heap.size ≤ L) => own_ne OT.out h); have hs4 := b.size; have OT := hide (owns_below OT.out b (Nat.le_refl _)); have R4 := hide (Row.of_owns o); have HXa := hide (app_own2 w4 w0.heap.size _ (2 + 2) _ OT.out (some ⟨g4, 0, none⟩) (numB 2 id) 2 c4 R4.out (numB_len _ _) (fun h => by cases h) (by omega) BW.out.size); have HXb := hide (app_own2 (w4.alloc (.cells #[.int .u8 64, .int .u8 0, .int .u8 (tt : Int), .int .u8 (P : Int), .int .u8 0, .int .u8 0] 5)) w0.heap.size _ (2 + 2) _ (OT.out.alloc _) (some ⟨g4, 0, none⟩) (numB 2 id) 2 c4 (R4.out.below ((Below.refl _ _).alloc (Nat.le_refl _) _) (Nat.le_refl _)) (numB_len _ _) (fun h => by cases h) (by omega) (Nat.le_trans BW.out.size (by simp))); clear o; clear b)
      | (refine step_append_ex rfl (.tmp 19) (.tmp 23) 25 25 rfl _ _ rfl rfl _ HXa.out ?_; rintro v5 w5 HP; have BW := hide (show Below w0.heap.size w0 w5 from BW.out.trans HP.2.1); have k5_0 := (bcell BW.out B0 0 hl0).trans k0_0; have k5_1 := (bcell BW.out B0 1 hl0).trans k0_1; have k5_2 := (bcell BW.out B0 2 hl0).trans k0_2; have hl5 : B0 < w5.heap.size := Nat.lt_of_lt_of_le hl0 BW.out.size; have O5 := hide HP.1; (first | (have LB := hide (HP.2.2 _ _ LB.out (hne.out _ (Nat.le_refl _))); have HY := hide (app_own2 w5 w0.heap.size _ (2 + 2 + 2) _ O5.out (some ⟨_, 0, none⟩) [64, 0, (tt : Int), (P : Int), 0, 0] 6 6 (row_six LB.out) rfl (fun h => by cases h) (by omega) BW.out.size)) | (have HY := hide (app_own2 (w5.alloc (.cells #[.int .u8 64, .int .u8 0, .int .u8 (tt : Int), .int .u8 (P : Int), .int .u8 0, .int .u8 0] 5)) w0.heap.size _ (2 + 2 + 2) _ (O5.out.alloc _) (some ⟨w5.heap.size, 0, none⟩) [64, 0, (tt : Int), (P : Int), 0, 0] 6 6 (row_six (heap_alloc_new w5 _)) rfl (fun h => by cases h) (by omega) (Nat.le_trans BW.out.size (by simp))))); clear HP)
      | (refine step_append_ex rfl (.tmp 19) (.tmp 23) 25 25 rfl _ _ rfl rfl _ HXb.out ?_; rintro v5 w5 HP; have BW := hide (show Below w0.heap.size w0 w5 from (BW.out.alloc BW.out.size _).trans HP.2.1); have k5_0 := (bcell BW.out B0 0 hl0).trans k0_0; have k5_1 := (bcell BW.out B0 1 hl0).trans k0_1; have k5_2 := (bcell BW.out B0 2 hl0).trans k0_2; have hl5 : B0 < w5.heap.size := Nat.lt_of_lt_of_le hl0 BW.out.size; have O5 := hide HP.1; have LB := hide (HP.2.2 _ _ (heap_alloc_new w4 _) (hne.out _ hs4)); have HY := hide (app_own2 w5 w0.heap.size _ (2 + 2 + 2) _ O5.out (some ⟨w4.heap.size, 0, none⟩) [64, 0, (tt : Int), (P : Int), 0, 0] 6 6 (row_six LB.out) rfl (fun h => by cases h) (by omega) BW.out.size); clear HP)
      | (refine step_append_ex rfl (.tmp 24) (.tmp 29) 25 25 rfl _ _ rfl rfl _ HY.out ?_; rintro v6 w6 HP; have BW := hide (show Below w0.heap.size w0 w6 from (by first | exact BW.out.trans HP.2.1 | exact (BW.out.alloc BW.out.size _).trans HP.2.1)); have k6_0 := (bcell BW.out B0 0 hl0).trans k0_0; have k6_1 := (bcell BW.out B0 1 hl0).trans k0_1; have k6_2 := (bcell BW.out B0 2 hl0).trans k0_2; have hl6 : B0 < w6.heap.size := Nat.lt_of_lt_of_le hl0 BW.out.size; have OF := hide HP.1; clear HP)
      | fail)
    all_goals
      have hz := OF.out
      obtain ⟨af, cf, rfl⟩ := slice_form hz
      have OZ := hide hz
      clear hz
      try go_wp2_with fail
      go_meet
      exact ⟨af, cf, rfl, OZ, BW⟩
  case rest =>
  obtain ⟨az, cz, rfl, OT, BW⟩ := hcut
  obtain ⟨wz, rfl⟩ : ∃ wz, wz = wc := ⟨_, rfl⟩
  have kz_3 := (bcell BW.out B0 3 hl0).trans k0_3
  have kz_4 := (bcell BW.out B0 4 hl0).trans k0_4
  have hlz : B0 < wz.heap.size := Nat.lt_of_lt_of_le hl0 BW.out.size
  clear k3_0 k3_1 k3_2 hl3
  go_wp2_with fail
  go_cut [4] (fun bv wx => ∃ a c, bv = .slice a (2 + 2 + 2 + 6 + 4 + 4) c ∧ Hid (wx.ownsRow w0.heap.size 5 1 (.slice a (2 + 2 + 2 + 6 + 4 + 4) c) (2 + 2 + 2 + 6 + 4 + 4) (((([69, 0] ++ numB 2 (20 + n)) ++ numB 2 id ++ [64, 0, (tt : Int), (P : Int), 0, 0]) ++ numB 4 s ++ numB 4 d).map (Value.int .u8))) ∧ Hid (Below w0.heap.size w0 wx))
  case first =>
    go_region_held3 (fun w' => w'.cell? ⟨B0, 3, none⟩ = some (.int .u32 (s : Int)) ∧ w'.cell? ⟨B0, 4, none⟩ = some (.int .u32 (d : Int))) (go_keep) (first
      | (go_at_call 48; (with_reducible refine (refNum4_own s _ ?_).mono ?_); omega; rintro e wa ⟨ga, ca, rfl, o, b⟩; (try replace b := below_of_drew b); have BW := hide (BW.out.trans (b.mono BW.out.size)); have ka_3 := (bcell BW.out B0 3 hl0).trans k0_3; have ka_4 := (bcell BW.out B0 4 hl0).trans k0_4; have hla : B0 < wa.heap.size := Nat.lt_of_lt_of_le hl0 BW.out.size; have OT := hide (owns_below OT.out b (Nat.le_refl _)); have OU := hide o; have HX := hide (app_own2 _ w0.heap.size _ (2 + 2 + 2 + 6) _ OT.out (some ⟨ga, 0, none⟩) (numB 4 s) 4 ca (Row.of_owns OU.out) (numB_len _ _) (fun h => by cases h) (by omega) BW.out.size); clear b)
      | (go_at_call 48; (with_reducible refine (refNum4_own d _ ?_).mono ?_); omega; rintro e wb ⟨gb, cb, rfl, o, b⟩; (try replace b := below_of_drew b); have BW := hide (BW.out.trans (b.mono BW.out.size)); have kb_3 := (bcell BW.out B0 3 hl0).trans k0_3; have kb_4 := (bcell BW.out B0 4 hl0).trans k0_4; have hlb : B0 < wb.heap.size := Nat.lt_of_lt_of_le hl0 BW.out.size; (first | (have O1 := hide (owns_below O1.out b (Nat.le_refl _)); have HY := hide (app_own2 _ w0.heap.size _ (2 + 2 + 2 + 6 + 4) _ O1.out (some ⟨gb, 0, none⟩) (numB 4 d) 4 cb (Row.of_owns o) (numB_len _ _) (fun h => by cases h) (by omega) BW.out.size)) | (have hne := hide (fun (L : Nat) (hL : wa.heap.size ≤ L) => own_ne OT.out hL); have OT := hide (owns_below OT.out b (Nat.le_refl _)); have OU := hide (owns_below OU.out b (Nat.le_refl _)); have OV := hide o; have HX := hide (app_own2 _ w0.heap.size _ (2 + 2 + 2 + 6) _ OT.out (some ⟨ga, 0, none⟩) (numB 4 s) 4 ca (Row.of_owns OU.out) (numB_len _ _) (fun h => by cases h) (by omega) BW.out.size))); clear b)
      | (refine step_append_ex rfl (.tmp 31) (.tmp 35) 25 25 rfl _ _ rfl rfl _ HX.out ?_; rintro vc wc HP; have BW := hide (show Below w0.heap.size w0 wc from BW.out.trans HP.2.1); have kc_3 := (bcell BW.out B0 3 hl0).trans k0_3; have kc_4 := (bcell BW.out B0 4 hl0).trans k0_4; have hlc : B0 < wc.heap.size := Nat.lt_of_lt_of_le hl0 BW.out.size; have O1 := hide HP.1; (first | (have OV := hide (owns_keep OV.out HP.2.2 hne.out); have HY := hide (app_own2 _ w0.heap.size _ (2 + 2 + 2 + 6 + 4) _ O1.out (some ⟨gb, 0, none⟩) (numB 4 d) 4 cb (Row.of_owns OV.out) (numB_len _ _) (fun h => by cases h) (by omega) BW.out.size)) | skip); clear HP)
      | (refine step_append_ex rfl (.tmp 36) (.tmp 40) 25 25 rfl _ _ rfl rfl _ HY.out ?_; rintro vd wd HP; have BW := hide (show Below w0.heap.size w0 wd from BW.out.trans HP.2.1); have kd_3 := (bcell BW.out B0 3 hl0).trans k0_3; have kd_4 := (bcell BW.out B0 4 hl0).trans k0_4; have hld : B0 < wd.heap.size := Nat.lt_of_lt_of_le hl0 BW.out.size; have OF := hide HP.1; clear HP)
      | fail)
    all_goals
      have hz := OF.out
      obtain ⟨af, cf, rfl⟩ := slice_form hz
      have OZ := hide hz
      clear hz
      try go_wp2_with fail
      go_meet
      exact ⟨af, cf, rfl, OZ, BW⟩
  case rest =>
  obtain ⟨az, cz, rfl, OT, BW⟩ := hcut
  obtain ⟨wy, rfl⟩ : ∃ wz, wz = wc := ⟨_, rfl⟩
  have kz_5 := (bcell BW.out B0 5 hl0).trans k0_5
  have hlz : B0 < wy.heap.size := Nat.lt_of_lt_of_le hl0 BW.out.size
  have e5 : (([69, 0] ++ numB 2 (20 + n)) ++ numB 2 id ++ [64, 0, (tt : Int), (P : Int), 0, 0]) ++ numB 4 s ++ numB 4 d = ipH tt P id s d n 0 := by
    have h0 : numB 2 0 = [0, 0] := rfl
    simp [ipH, h0]
  rw [show 2 + 2 + 2 + 6 + 4 + 4 = 20 by omega, e5] at OT
  rw [show 2 + 2 + 2 + 6 + 4 + 4 = 20 by omega]
  have hcr := csum_rng (ipH tt P id s d n 0)
  have hsum := refSum_any az (ipH tt P id s d n 0) cz wy (Row.of_owns OT.out) HBR.out (by rw [ipH_len]; omega)
  rw [ipH_len, show csum (ipH tt P id s d n 0) = ((ipK tt P id s d n : Nat) : Int) by unfold ipK; omega] at hsum
  have HSUM := hide hsum
  have hkl : ipK tt P id s d n ≤ 65535 := by unfold ipK; omega
  clear hsum hcr e5 kz_3 kz_4
  obtain ⟨K, hK⟩ : ∃ K, ipK tt P id s d n = K := ⟨_, rfl⟩
  rw [hK] at HSUM hkl
  have HK := hide hK
  clear hK
  go_wp2_with fail
  refine HSUM.out.mono ?_
  rintro e w8 ⟨rfl, b8⟩
  have OT8 := owns_below OT.out b8 (Nat.le_refl _)
  have BW8 := BW.out.trans (b8.mono BW.out.size)
  obtain ⟨g, rfl, hgb, hgl⟩ : ∃ g, az = some ⟨g, 0, none⟩ ∧ w0.heap.size ≤ g ∧ g < w8.heap.size := by
    rcases OT8.2 with ⟨_, h0⟩ | ⟨g, c', cur, hv, hg, hh, _⟩
    · omega
    · obtain ⟨rfl, rfl⟩ : az = some ⟨g, 0, none⟩ ∧ cz = c' := by simpa using hv
      exact ⟨g, rfl, hg, lt_of_block hh⟩
  have ho1 := owns_store (v := ((K / 256 : Nat) : Int)) OT8 (show 10 < 20 by omega)
  have ho2 := owns_store (v := ((K % 256 : Nat) : Int)) ho1 (show 11 < 20 by omega)
  rw [ipH_set _ _ _ _ _ _ _ hkl] at ho2
  have c0 := OT8.cellAt 10 (by omega)
  have c1 := ho1.cellAt 11 (by omega)
  have fr : ∀ (W : World) (ys : List Int), W.ownsRow w0.heap.size 5 1 (.slice (some ⟨g, 0, none⟩) 20 cz) 20 (ys.map (Value.int .u8)) → ∀ i, W.frozen? ⟨g, i, none⟩ = false := fun W ys h i => by
    rcases h.2 with ⟨h0, _⟩ | ⟨r, cap, cur, hv, hr, hh, _⟩
    · cases h0
    · obtain ⟨rfl, rfl⟩ : g = r ∧ cz = cap := by simpa using hv
      simp [World.frozen?, hh]
  have f0 := fr _ _ OT8 10
  have f1 := fr _ _ ho1 11
  have hd1 : (K : Int) / 256 = ((K / 256 : Nat) : Int) := by omega
  have hd2 : (K : Int) % 256 = ((K % 256 : Nat) : Int) := by omega
  have hq : IntKind.u8.wrap ((K / 256 : Nat) : Int) = ((K / 256 : Nat) : Int) := by rw [IntKind.wrap_u8]; omega
  have hq2 : IntKind.u8.wrap ((K % 256 : Nat) : Int) = ((K % 256 : Nat) : Int) := by rw [IntKind.wrap_u8]; omega
  obtain ⟨y0, hy0⟩ : ∃ y0, ((ipH tt P id s d n 0).map (Value.int .u8))[10]? = some y0 := ⟨_, List.getElem?_eq_getElem (by simp [ipH_len])⟩
  rw [hy0] at c0
  obtain ⟨y1, hy1⟩ : ∃ y1, (((ipH tt P id s d n 0).set 10 ((K / 256 : Nat) : Int)).map (Value.int .u8))[11]? = some y1 := ⟨_, List.getElem?_eq_getElem (by simp [ipH_len])⟩
  rw [hy1] at c1
  have hbl : Below w0.heap.size w0 ((w8.setCell ⟨g, 10, none⟩ (.int .u8 ((K / 256 : Nat) : Int))).setCell ⟨g, 11, none⟩ (.int .u8 ((K % 256 : Nat) : Int))) := (BW8.setCell (by simpa using hgb) _).setCell (by simpa using hgb) _
  generalize K / 256 = v1 at *
  generalize K % 256 = v2 at *
  obtain ⟨W9, hW9, HO9, HB9⟩ : ∃ W, ((w8.setCell ⟨g, 10, none⟩ (.int .u8 (v1 : Int))).setCell ⟨g, 11, none⟩ (.int .u8 (v2 : Int))) = W ∧ Hid (W.ownsRow w0.heap.size 5 1 (.slice (some ⟨g, 0, none⟩) 20 cz) 20 ((ipH tt P id s d n K).map (Value.int .u8))) ∧ Hid (Below w0.heap.size w0 W) := ⟨_, rfl, hide ho2, hide hbl⟩
  have HW9 := hide hW9
  clear OT8 ho1 ho2 fr hy0 hy1 hbl BW8 hW9 b8 OT BW HSUM kz_5
  go_upto_region 9 with (fail)
  rw [HW9.out]
  clear HW9 c0 c1 f0 f1 hd1 hd2 hq hq2
  have k9 := (bcell HB9.out B0 5 hl0).trans k0_5
  obtain ⟨v3, w10, hrun3, o3, b3, _⟩ := app_own2 W9 w0.heap.size _ 20 _ HO9.out da xs n dc (RS.out.below HB9.out (Nat.le_refl _)) HL.out HN.out (by omega) HB9.out.size
  obtain ⟨a3, c3, rfl⟩ := slice_form o3
  have HRUN3 := hide hrun3
  have e3 : ipH tt P id s d n K ++ xs = ipG tt P id s d xs := by unfold ipG; rw [HL.out, HK.out]
  rw [e3] at o3
  have O3 := hide (owns_mono o3 BE.out.size)
  have B3 := hide (BE.out.trans ((HB9.out.trans b3).mono BE.out.size))
  clear hrun3 e3 o3 b3 k0_0 k0_1 k0_2 k0_3 k0_4 k0_5
  go_wp2_with (at_builtin; refine Lib.wpList_append_run _ rfl _ _ _ _ rfl _ _ rfl rfl _ _ HRUN3.out ?_)
  go_ret2
  exact ⟨a3, c3, rfl, O3.out, B3.out⟩
end Go.Proofs.Ytgggcapgaikbeaa

/- An echo's packet, and an error's packet that tells of another: the laws' own helpers. -/
namespace Go.Proofs.Ytgggcapgaikbeaa
open Go.RowKit
set_option linter.unusedVariables false
set_option linter.unusedSimpArgs false
set_option maxRecDepth 100000
/-- A message's bytes with its sum. -/
def icmpB (p q r : Nat) (xs : List Int) : List Int := icmpG p q r xs (icmpK p q r xs).toNat
theorem icmpB_len (p q r : Nat) (xs : List Int) : (icmpB p q r xs).length = 8 + xs.length := icmpG_len ..
theorem rof_any (w : World) (ttl pid : Int) (P S D : Nat) (a : Option Addr) (n cap : Nat) (xs : List Int) (hLx : Lies w a xs n cap) (hl : xs.length = n) (hb : ∀ x ∈ xs, 0 ≤ x ∧ x ≤ 255) (hS : S ≤ 4294967295) (hD : D ≤ 4294967295) :
    Calls Try.prog 14 #[.agg #[.int .u8 ttl, .int .u8 (P : Int), .int .u16 pid, .int .u32 (S : Int), .int .u32 (D : Int), .slice a n cap]] w fun e w' => e = .returned (.tuple #[(ofFl P S D xs).v, .int .i64 (ofKind P S D xs), .int .i64 (ofErr P S D xs : Nat)]) ∧ Below w.heap.size w w' := by
  by_cases h6 : P = 6
  · exact rof_tcp w ttl pid P S D a n cap xs hLx hl hb hS hD h6
  by_cases h17 : P = 17
  · exact rof_udp w ttl pid P S D a n cap xs hLx hl hb hS hD h17
  by_cases h1 : P = 1
  · exact rof_icmp w ttl pid P S D a n cap xs hLx hl hb hS hD h1
  · exact rof_other w ttl pid P S D a n cap xs hLx hl hb hS hD h6 h17 h1
theorem results_cell1 {P : Program} {fn : Func} {p : Tmp} {ty : TypeId} (h : fn.results = #[.cell p ty]) (tmps : Array Value) (w : World) (g : Nat) (t : TypeId) (cs : Array Value) (fr : Nat × Nat) (d : TypeDesc)
    (hp : tmps.getD p undef = .pointer (some ⟨g, 0, none⟩)) (hg : w.heap[g]? = some (.cells cs t fr))
    (hu : P.underlying ty = some d) (hd : (match d with | .struct _ | .array _ _ => true | _ => false) = true) (hi : (P.info? ty).map (·.size) = some cs.size) :
    (results fn tmps).run P w = .ok (.agg cs) w := by
  have hp' : tmps[p]?.getD undef = .pointer (some ⟨g, 0, none⟩) := by simpa using hp
  simp [results, h, hp', asAddr, run_loadVar_row w g t ty cs fr d hg hu hd hi]
theorem row_one {w : World} {L : Nat} {x : Int} {fr : Nat × Nat} (h : w.heap[L]? = some (.cells #[.int .u8 x] 5 fr)) : Row .u8 w (some ⟨L, 0, none⟩) [x] := by
  intro _
  refine ⟨L, 0, rfl, lt_of_block h, fun i hi => ?_⟩
  simp only [World.cell?, h]
  match i, hi with
  | 0, _ => rfl
set_option maxHeartbeats 1600000 in
theorem echo_any (w : World) (src dst kind id : Nat) (hk : kind ≤ 255) (hid : id ≤ 65535) :
    Calls Try.prog 28 #[.int .u32 (src : Int), .int .u32 (dst : Int), .int .u8 (kind : Int), .int .u16 (id : Int)] w fun e w' => ∃ a c,
      e = .returned (.agg #[.int .u8 9, .int .u8 1, .int .u16 0, .int .u32 (src : Int), .int .u32 (dst : Int), .slice a 9 c]) ∧ Lies w' a (icmpB kind 0 (id * 65536) [120]) 9 c ∧ Below w.heap.size w w' := by
  obtain ⟨V1, hV1⟩ : ∃ V, w.alloc (.cells #[.int .u8 0, .int .u8 0, .int .u16 0, .int .u32 0, .int .u32 0, .slice none 0 0] 27) = V := ⟨_, rfl⟩
  obtain ⟨V2, hV2⟩ : ∃ V, V1.alloc (.cells #[.int .u8 120] 5 (1, 2)) = V := ⟨_, rfl⟩
  have hz1 : V1.heap.size = w.heap.size + 1 := by rw [← hV1]; simp
  have hb1 : Below w.heap.size w V1 := by rw [← hV1]; exact (Below.refl _ _).alloc (Nat.le_refl _) _
  have hb12 : Below V1.heap.size V1 V2 := by rw [← hV2]; exact (Below.refl _ _).alloc (Nat.le_refl _) _
  have hb2 := hb1.trans (hb12.mono hb1.size)
  have hp1 : V1.heap[w.heap.size]? = some (.cells #[.int .u8 0, .int .u8 0, .int .u16 0, .int .u32 0, .int .u32 0, .slice none 0 0] 27 (0, 0)) := by rw [← hV1]; exact heap_alloc_new _ _
  have hp2 := below_block hb12 hp1 (Nat.le_refl _)
  have hr2 : V2.heap[w.heap.size + 1]? = some (.cells #[.int .u8 120] 5 (1, 2)) := by rw [← hV2, ← hz1]; exact heap_alloc_new _ _
  obtain ⟨PB, hPB⟩ : ∃ B, w.heap.size = B := ⟨_, rfl⟩
  obtain ⟨RB, hRB⟩ : ∃ B, w.heap.size + 1 = B := ⟨_, rfl⟩
  have HR := hide (show V2.heap[RB]? = some (.cells #[.int .u8 120] 5 (1, 2)) by rw [← hRB]; exact hr2)
  have HP := hide (show V2.heap[PB]? = some (.cells #[.int .u8 0, .int .u8 0, .int .u16 0, .int .u32 0, .int .u32 0, .slice none 0 0] 27 (0, 0)) by rw [← hPB]; exact hp2)
  have HB2 := hide hb2
  have hsh : IntKind.u32.wrap ((id : Int) * 65536) = ((id * 65536 : Nat) : Int) := by rw [IntKind.wrap_u32]; omega
  have hcv : IntKind.u32.wrap (id : Int) = (id : Int) := by rw [IntKind.wrap_u32]; omega
  have hwP : w.heap.size ≤ PB := by omega
  have hM : Calls Try.prog 26 #[.agg #[.int .u8 (kind : Int), .int .u8 0, .int .u32 ((id : Int) * 65536), .slice (some ⟨RB, 0, none⟩) 1 1]] V2 fun e w' => ∃ a c,
      e = .returned (.tuple #[.slice a (8 + 1) c, .int .i64 0]) ∧ w'.ownsRow V2.heap.size 5 1 (.slice a (8 + 1) c) (8 + 1) ((icmpB kind 0 (id * 65536) [120]).map (Value.int .u8)) ∧ Below V2.heap.size V2 w' := by
    have h := rwicmp_ok V2 kind 0 (id * 65536) (some ⟨RB, 0, none⟩) [120] 1 1 (row_one HR.out) (fun h => by cases h) rfl (by simp) (by omega) hk (by omega) (by omega)
    rw [show ((id * 65536 : Nat) : Int) = (id : Int) * 65536 by omega] at h
    exact h
  have HM := hide hM
  clear hM
  have HE := hide (And.intro hV1 (And.intro hV2 (And.intro hPB (And.intro hRB hz1))))
  clear hV1 hV2 hz1 hb1 hb12 hb2 hp1 hp2 hr2 hPB hRB
  have kc := fun (W : World) (C : Array Value) (n c : Nat) => Lib.run_convert_bytes_const (P := Try.prog) W 25 5 C n c Try.underlying25 Try.underlying5
  go_enter Try.func28, Try.ntmps28
  go_upto_region 1 with (fail)
  try rw [HE.out.1]
  try rw [HE.out.2.2.1]
  go_wp2_with fail
  rw [HE.out.2.1, HE.out.2.2.2.2, HE.out.2.2.2.1]
  clear HE kc hsh hcv
  refine HM.out.mono ?_
  rintro e w4 ⟨a, c, rfl, o, b⟩
  have HO := hide o
  have HBB := hide (HB2.out.trans (b.mono HB2.out.size))
  have HP4 := hide (below_block b HP.out (Nat.le_refl _))
  have hlt := lt_of_block HP.out
  clear o b HP HR HM HB2
  go_wp2_with ((refine st_part (o := ⟨none, _, _, _, _, _⟩) 27 (.tmp 8) (.tmp 25) rfl (by rfl) PB 0 rfl #[.int .u8 0, .int .u8 0, .int .u16 0, .int .u32 0, .int .u32 0, .slice none 0 0] 27 #[.int .u8 9, .int .u8 1, .int .u16 0, .int .u32 (src : Int), .int .u32 (dst : Int), .slice a 9 c] rfl HP4.out rfl (by kernel_rfl) (by kernel_rfl) HBB.out hwP ?_; rintro w9 w9h w9b w9o w9s; try simp only [Act.put, List.setIfInBounds_toArray, List.set_cons_zero, List.set_cons_succ]))
  rw [upd_whole (by rfl)] at w9h
  exact bodyPost_ret (v := .agg #[.int .u8 9, .int .u8 1, .int .u16 0, .int .u32 (src : Int), .int .u32 (dst : Int), .slice a 9 c]) (results_cell1 Try.results28 _ w9 PB _ _ _ _ rfl w9h Try.underlying27 rfl (by kernel_rfl)) rfl ⟨a, c, rfl, Lies.of_owns (owns_put HO.out (gb_part HBB.out w9b w9o w9s) hlt), w9b⟩
end Go.Proofs.Ytgggcapgaikbeaa

/- An error's packet that tells of another: the laws' own helper. -/
namespace Go.Proofs.Ytgggcapgaikbeaa
open Go.RowKit
set_option linter.unusedVariables false
set_option linter.unusedSimpArgs false
set_option maxRecDepth 100000
theorem Lies.cut {w : World} {a : Option Addr} {xs : List Int} {n cap : Nat} (h : Lies w a xs n cap) (hl : xs.length = n) (m : Nat) (hm : m ≤ n) : Lies w a (xs.take m) m cap := by
  refine ⟨?_, h.no, Nat.le_trans hm h.le, h.max⟩
  intro hne
  obtain ⟨L, o, e, hlt, hc⟩ := h.row (fun e => hne (by rw [e]; exact List.take_nil))
  refine ⟨L, o, e, hlt, fun i hi => ?_⟩
  simp only [List.length_take] at hi
  have h1 := hc i (by omega)
  rw [List.getElem?_take_of_lt (by omega)]
  exact h1
set_option maxHeartbeats 1600000 in
theorem tells_any (w : World) (src dst tt P id s d : Nat) (da : Option Addr) (xs : List Int) (n dc m M : Nat) (hLx : Lies w da xs n dc) (hl : xs.length = n) (hb : ∀ x ∈ xs, 0 ≤ x ∧ x ≤ 255) (h1 : n ≤ 1480) (hm : m ≤ 1472) (hM : M = min (20 + n) m) (ht : tt ≤ 255) (hP : P ≤ 255) (hid : id ≤ 65535) (hs : s ≤ 4294967295) (hd : d ≤ 4294967295) :
    Calls Try.prog 16 #[.int .u32 (src : Int), .int .u32 (dst : Int), .agg #[.int .u8 (tt : Int), .int .u8 (P : Int), .int .u16 (id : Int), .int .u32 (s : Int), .int .u32 (d : Int), .slice da n dc], .int .i64 (m : Int)] w fun e w' => ∃ a c,
      e = .returned (.agg #[.int .u8 9, .int .u8 1, .int .u16 0, .int .u32 (src : Int), .int .u32 (dst : Int), .slice a (8 + M) c]) ∧ Lies w' a (icmpB 3 1 0 ((ipG tt P id s d xs).take M)) (8 + M) c ∧ Below w.heap.size w w' := by
  obtain ⟨V1, hV1⟩ : ∃ V, w.alloc (.cells #[.int .u8 (tt : Int), .int .u8 (P : Int), .int .u16 (id : Int), .int .u32 (s : Int), .int .u32 (d : Int), .slice da n dc] 27) = V := ⟨_, rfl⟩
  obtain ⟨V2, hV2⟩ : ∃ V, V1.alloc (.cells #[.int .u8 0, .int .u8 0, .int .u16 0, .int .u32 0, .int .u32 0, .slice none 0 0] 27) = V := ⟨_, rfl⟩
  have hz1 : V1.heap.size = w.heap.size + 1 := by rw [← hV1]; simp
  have hb1 : Below w.heap.size w V1 := by rw [← hV1]; exact (Below.refl _ _).alloc (Nat.le_refl _) _
  have hb12 : Below V1.heap.size V1 V2 := by rw [← hV2]; exact (Below.refl _ _).alloc (Nat.le_refl _) _
  have hb2 := hb1.trans (hb12.mono hb1.size)
  have hp1 : V1.heap[w.heap.size]? = some (.cells #[.int .u8 (tt : Int), .int .u8 (P : Int), .int .u16 (id : Int), .int .u32 (s : Int), .int .u32 (d : Int), .slice da n dc] 27 (0, 0)) := by rw [← hV1]; exact heap_alloc_new _ _
  have hp2 := below_block hb12 hp1 (Nat.le_refl _)
  have hr2 : V2.heap[w.heap.size + 1]? = some (.cells #[.int .u8 0, .int .u8 0, .int .u16 0, .int .u32 0, .int .u32 0, .slice none 0 0] 27 (0, 0)) := by rw [← hV2, ← hz1]; exact heap_alloc_new _ _
  have HL2 := hide (hLx.below hb2 (Nat.le_refl _))
  obtain ⟨BX, hBX⟩ : ∃ B, w.heap.size = B := ⟨_, rfl⟩
  obtain ⟨PB, hPB⟩ : ∃ B, w.heap.size + 1 = B := ⟨_, rfl⟩
  have HX := hide (show V2.heap[BX]? = some (.cells #[.int .u8 (tt : Int), .int .u8 (P : Int), .int .u16 (id : Int), .int .u32 (s : Int), .int .u32 (d : Int), .slice da n dc] 27 (0, 0)) by rw [← hBX]; exact hp2)
  have HP := hide (show V2.heap[PB]? = some (.cells #[.int .u8 0, .int .u8 0, .int .u16 0, .int .u32 0, .int .u32 0, .slice none 0 0] 27 (0, 0)) by rw [← hPB]; exact hr2)
  have HB2 := hide hb2
  have hwP : w.heap.size ≤ PB := by omega
  have HW := hide (fun (a : Option Addr) => rwip_ok V2 tt P id s d da xs n dc HL2.out.row HL2.out.no hl h1 ht hP hid hs hd)
  have hGL := ipG_len tt P id s d xs
  rw [hl] at hGL
  have HGL := hide hGL
  have HGR := hide (show ∀ x ∈ ipG tt P id s d xs, 0 ≤ x ∧ x ≤ 255 by
    intro x hx
    unfold ipG at hx
    rcases List.mem_append.1 hx with h | h
    · exact ipH_rng _ _ _ _ _ _ _ ht hP x h
    · exact hb x h)
  have HE := hide (And.intro hV1 (And.intro hV2 (And.intro hBX (And.intro hPB hz1))))
  clear hV1 hV2 hz1 hb1 hb12 hb2 hp1 hp2 hr2 hBX hPB hLx hb hGL
  go_enter Try.func16, Try.ntmps16
  go_upto_region 1 with (fail)
  rw [HE.out.1, HE.out.2.1]
  try rw [HE.out.2.2.2.2]
  try rw [HE.out.2.2.2.1]
  try rw [HE.out.2.2.1]
  clear HE
  go_wp2_with ((refine ld_whole (o := ⟨some 14, _, _, _, _, _⟩) 27 (.tmp 6) rfl (by rfl) BX rfl #[.int .u8 (tt : Int), .int .u8 (P : Int), .int .u16 (id : Int), .int .u32 (s : Int), .int .u32 (d : Int), .slice da n dc] 27 HX.out Try.underlying27 (by kernel_rfl) ?_; try simp only [Act.put, List.setIfInBounds_toArray, List.set_cons_zero, List.set_cons_succ]))
  refine (HW.out none).mono ?_
  rintro e w4 ⟨a4, c4, rfl, o, b⟩
  have HO := hide (Lies.of_owns o)
  have HBB := hide (HB2.out.trans (b.mono HB2.out.size))
  have HP4 := hide (below_block b HP.out (Nat.le_refl _))
  clear o b HP HX HW HL2 HB2
  have hc4 := HO.out.le
  have HIM := hide (fun (W : World) (a : Option Addr) (c : Nat) (hL : Lies W a ((ipG tt P id s d xs).take M) M c) => rwicmp_ok W 3 1 0 a ((ipG tt P id s d xs).take M) M c hL.row hL.no (by rw [List.length_take, HGL.out]; omega) (fun x hx => HGR.out x (List.mem_of_mem_take hx)) (by omega) (by omega) (by omega) (by omega))
  have HCUT := hide (HO.out.cut HGL.out M (by omega))
  have hwF : w.heap.size ≤ PB := hwP
  have hltP := lt_of_block HP4.out
  have hb24 := HBB.out.size
  have hfin : ∀ (a5 : Option Addr) (c5 : Nat) (w5 : World), w5.ownsRow w4.heap.size 5 1 (.slice a5 (8 + M) c5) (8 + M) ((icmpG 3 1 0 ((ipG tt P id s d xs).take M) (icmpK 3 1 0 ((ipG tt P id s d xs).take M)).toNat).map (Value.int .u8)) → Below w4.heap.size w4 w5 → Hid (w5.ownsRow w4.heap.size 5 1 (.slice a5 (8 + M) c5) (8 + M) ((icmpB 3 1 0 ((ipG tt P id s d xs).take M)).map (Value.int .u8))) ∧ Hid (Below w.heap.size w w5) ∧ Hid (w5.heap[PB]? = some (.cells #[.int .u8 0, .int .u8 0, .int .u16 0, .int .u32 0, .int .u32 0, .slice none 0 0] 27 (0, 0))) := fun a5 c5 w5 o b => ⟨hide o, hide (HBB.out.trans (b.mono HBB.out.size)), hide (below_block b HP4.out (Nat.le_refl _))⟩
  have HFIN := hide hfin
  clear hfin
  rcases Nat.lt_or_ge m (20 + n) with hmn | hmn
  · obtain rfl : M = m := by omega
    clear hM
    have q1 : (M : Int) < 20 + (n : Int) := by omega
    have q2 : (M : Int) ≤ 20 + (n : Int) := by omega
    have q3 : ¬ (20 + (n : Int) < (M : Int)) := by omega
    have q4 : ¬ (20 + (n : Int) ≤ (M : Int)) := by omega
    have q5 : (M : Int) ≤ (c4 : Int) := by omega
    go_wp2_with fail
    all_goals (try (exfalso; omega))
    refine (HIM.out w4 a4 c4 HCUT.out).mono ?_
    rintro e w5 ⟨a, c, rfl, o, b⟩
    obtain ⟨HO5, HB5, HP5⟩ := HFIN.out a c w5 o b
    clear o b HFIN HIM HCUT HBB HP4
    go_wp2_with ((refine st_part (o := ⟨none, _, _, _, _, _⟩) 27 (.tmp 8) (.tmp 32) rfl (by rfl) PB 0 rfl #[.int .u8 0, .int .u8 0, .int .u16 0, .int .u32 0, .int .u32 0, .slice none 0 0] 27 #[.int .u8 9, .int .u8 1, .int .u16 0, .int .u32 (src : Int), .int .u32 (dst : Int), .slice a (8 + M) c] rfl HP5.out rfl (by kernel_rfl) (by kernel_rfl) HB5.out hwP ?_; rintro w9 w9h w9b w9o w9s; try simp only [Act.put, List.setIfInBounds_toArray, List.set_cons_zero, List.set_cons_succ]))
    rw [upd_whole (by rfl)] at w9h
    exact bodyPost_ret (v := .agg #[.int .u8 9, .int .u8 1, .int .u16 0, .int .u32 (src : Int), .int .u32 (dst : Int), .slice a (8 + M) c]) (results_cell1 Try.results16 _ w9 PB _ _ _ _ rfl w9h Try.underlying27 rfl (by kernel_rfl)) rfl ⟨a, c, rfl, Lies.of_owns (owns_put HO5.out (gb_part HB5.out w9b w9o w9s) (by omega)), w9b⟩
  · obtain rfl : 20 + n = M := by omega
    clear hM
    have q1 : ¬ ((m : Int) < 20 + (n : Int)) := by omega
    have q2 : 20 + (n : Int) ≤ (m : Int) := by omega
    have q5 : 20 + (n : Int) ≤ (c4 : Int) := by omega
    go_wp2_with fail
    all_goals (try (exfalso; omega))
    refine (HIM.out w4 a4 c4 HCUT.out).mono ?_
    rintro e w5 ⟨a, c, rfl, o, b⟩
    obtain ⟨HO5, HB5, HP5⟩ := HFIN.out a c w5 o b
    clear o b HFIN HIM HCUT HBB HP4
    go_wp2_with ((refine st_part (o := ⟨none, _, _, _, _, _⟩) 27 (.tmp 8) (.tmp 32) rfl (by rfl) PB 0 rfl #[.int .u8 0, .int .u8 0, .int .u16 0, .int .u32 0, .int .u32 0, .slice none 0 0] 27 #[.int .u8 9, .int .u8 1, .int .u16 0, .int .u32 (src : Int), .int .u32 (dst : Int), .slice a (8 + (20 + n)) c] rfl HP5.out rfl (by kernel_rfl) (by kernel_rfl) HB5.out hwP ?_; rintro w9 w9h w9b w9o w9s; try simp only [Act.put, List.setIfInBounds_toArray, List.set_cons_zero, List.set_cons_succ]))
    rw [upd_whole (by rfl)] at w9h
    exact bodyPost_ret (v := .agg #[.int .u8 9, .int .u8 1, .int .u16 0, .int .u32 (src : Int), .int .u32 (dst : Int), .slice a (8 + (20 + n)) c]) (results_cell1 Try.results16 _ w9 PB _ _ _ _ rfl w9h Try.underlying27 rfl (by kernel_rfl)) rfl ⟨a, c, rfl, Lies.of_owns (owns_put HO5.out (gb_part HB5.out w9b w9o w9s) (by omega)), w9b⟩
end Go.Proofs.Ytgggcapgaikbeaa

/- The document's example of flow, in the laws' own words. -/
namespace Go.Proofs.Ytgggcapgaikbeaa
open Go.RowKit
set_option linter.unusedVariables false
set_option linter.unusedSimpArgs false
set_option maxRecDepth 100000
def spE : List Int := icmpB 8 0 (7 * 65536) [120]
def spT : List Int := icmpB 3 1 0 ((ipG 9 1 0 1 2 spE).take 28)
theorem spE_len : spE.length = 9 := by kernel_rfl
theorem spT_len : spT.length = 36 := by kernel_rfl
theorem spE_rng : ∀ x ∈ spE, 0 ≤ x ∧ x ≤ 255 := by decide +kernel
theorem spT_rng : ∀ x ∈ spT, 0 ≤ x ∧ x ≤ 255 := by decide +kernel
theorem spE_fl : ofFl 1 1 2 spE = ⟨1, 1, 2, 7, 0⟩ := by kernel_rfl
theorem spE_kind : ofKind 1 1 2 spE = 2 := by kernel_rfl
theorem spE_err : ofErr 1 1 2 spE = 0 := by kernel_rfl
theorem spT_fl : ofFl 1 3 1 spT = ⟨1, 2, 1, 0, 7⟩ := by kernel_rfl
theorem spT_kind : ofKind 1 3 1 spT = 3 := by kernel_rfl
theorem spT_err : ofErr 1 3 1 spT = 0 := by kernel_rfl
theorem spE_echo (w : World) : Calls Try.prog 28 #[.int .u32 1, .int .u32 2, .int .u8 8, .int .u16 7] w fun e w' => ∃ a c, e = .returned (.agg #[.int .u8 9, .int .u8 1, .int .u16 0, .int .u32 1, .int .u32 2, .slice a 9 c]) ∧ Lies w' a spE 9 c ∧ Below w.heap.size w w' := echo_any w 1 2 8 7 (by omega) (by omega)
theorem spE_of (w : World) (a : Option Addr) (c : Nat) (h : Lies w a spE 9 c) : Calls Try.prog 15 #[.agg #[.int .u8 9, .int .u8 1, .int .u16 0, .int .u32 1, .int .u32 2, .slice a 9 c]] w fun e w' => e = .returned (.tuple #[.agg #[.int .u8 1, .int .u32 1, .int .u32 2, .int .u16 7, .int .u16 0], .int .i64 2, .int .i64 0]) ∧ Below w.heap.size w w' := by
  have h1 := of_any w 9 0 1 1 2 a 9 c spE h spE_len spE_rng (by omega) (by omega)
  rw [spE_fl, spE_kind, spE_err] at h1
  exact h1
theorem spT_tells (w : World) (a : Option Addr) (c : Nat) (h : Lies w a spE 9 c) : Calls Try.prog 16 #[.int .u32 3, .int .u32 1, .agg #[.int .u8 9, .int .u8 1, .int .u16 0, .int .u32 1, .int .u32 2, .slice a 9 c], .int .i64 28] w fun e w' => ∃ a c, e = .returned (.agg #[.int .u8 9, .int .u8 1, .int .u16 0, .int .u32 3, .int .u32 1, .slice a 36 c]) ∧ Lies w' a spT 36 c ∧ Below w.heap.size w w' :=
  tells_any w 3 1 9 1 0 1 2 a spE 9 c 28 28 h spE_len spE_rng (by omega) (by omega) (by omega) (by omega) (by omega) (by omega) (by omega) (by omega)
theorem spT_of (w : World) (a : Option Addr) (c : Nat) (h : Lies w a spT 36 c) : Calls Try.prog 15 #[.agg #[.int .u8 9, .int .u8 1, .int .u16 0, .int .u32 3, .int .u32 1, .slice a 36 c]] w fun e w' => e = .returned (.tuple #[.agg #[.int .u8 1, .int .u32 2, .int .u32 1, .int .u16 0, .int .u16 7], .int .i64 3, .int .i64 0]) ∧ Below w.heap.size w w' := by
  have h1 := of_any w 9 0 1 3 1 a 36 c spT h spT_len spT_rng (by omega) (by omega)
  rw [spT_fl, spT_kind, spT_err] at h1
  exact h1
set_option maxHeartbeats 1600000 in
theorem speaks_any (w : World) : Calls Try.prog 10 #[] w fun e w' => e = .returned (.bool true) ∧ Below w.heap.size w w' := by
  go_enter Try.func10, Try.ntmps10
  go_wp2_with fail
  refine (spE_echo _).mono ?_
  rintro e w1 ⟨a, c, rfl, l, b⟩
  have HL := hide l
  have HB := hide b
  clear l b
  obtain ⟨w2, hwn, w2b, HN1⟩ : ∃ W, w1.alloc (.cells #[.int .u8 9, .int .u8 1, .int .u16 0, .int .u32 1, .int .u32 2, .slice a 9 c] 27) = W ∧ Below w1.heap.size w1 W ∧ Hid (W.heap[w1.heap.size]? = some (.cells #[.int .u8 9, .int .u8 1, .int .u16 0, .int .u32 1, .int .u32 2, .slice a 9 c] 27 (0, 0))) := ⟨_, rfl, (Below.refl w1.heap.size w1).alloc (Nat.le_refl _) _, hide (heap_alloc_new w1 _)⟩
  obtain ⟨B1, hB1⟩ : ∃ B, w1.heap.size = B := ⟨_, rfl⟩
  rw [hB1] at HN1 w2b
  have HW := hide (And.intro hwn hB1)
  have HE1 := hide hB1
  clear hwn hB1
  go_upto_region 2 with (fail)
  rw [HW.out.1, HW.out.2]
  have w2h := HN1.out
  have HP2 := hide w2h
  have HB2 := hide (HB.out.trans (w2b.mono (by rw [← HE1.out]; exact HB.out.size)))
  have HL2 := hide (HL.out.below w2b (Nat.le_of_eq HE1.out))
  clear w2h w2b HW HN1 HE1 HL HB
  go_wp2_with ((refine ld_whole (o := ⟨some 10, _, _, _, _, _⟩) 27 (.tmp 1) rfl (by rfl) B1 rfl #[.int .u8 9, .int .u8 1, .int .u16 0, .int .u32 1, .int .u32 2, .slice a 9 c] 27 HP2.out Try.underlying27 (by kernel_rfl) ?_; try simp only [Act.put, List.setIfInBounds_toArray, List.set_cons_zero, List.set_cons_succ]))
  refine (spE_of _ a c HL2.out).mono ?_
  rintro e w3 ⟨rfl, b3⟩
  have HB3 := hide (HB2.out.trans (b3.mono HB2.out.size))
  have HP3 := hide (below_block b3 HP2.out (Nat.le_refl _))
  have HL3 := hide (HL2.out.below b3 (Nat.le_refl _))
  clear b3 HB2 HP2 HL2
  obtain ⟨w4, hwn, w4b, HN1⟩ : ∃ W, w3.alloc (.cells #[.int .u8 1, .int .u32 1, .int .u32 2, .int .u16 7, .int .u16 0] 29) = W ∧ Below w3.heap.size w3 W ∧ Hid (W.heap[w3.heap.size]? = some (.cells #[.int .u8 1, .int .u32 1, .int .u32 2, .int .u16 7, .int .u16 0] 29 (0, 0))) := ⟨_, rfl, (Below.refl w3.heap.size w3).alloc (Nat.le_refl _) _, hide (heap_alloc_new w3 _)⟩
  obtain ⟨B2, hB1⟩ : ∃ B, w3.heap.size = B := ⟨_, rfl⟩
  rw [hB1] at HN1 w4b
  have HW := hide (And.intro hwn hB1)
  have HE1 := hide hB1
  clear hwn hB1
  go_upto_region 3 with (fail)
  rw [HW.out.1, HW.out.2]
  have w4h := HN1.out
  have HQ4 := hide w4h
  have HB4 := hide (HB3.out.trans (w4b.mono (by rw [← HE1.out]; exact HB3.out.size)))
  have HP4 := hide (below_block w4b HP3.out (Nat.le_of_eq HE1.out))
  have HL4 := hide (HL3.out.below w4b (Nat.le_of_eq HE1.out))
  clear w4h w4b HW HN1 HE1 HL3 HB3 HP3
  go_wp2_with ((refine ld_whole (o := ⟨some 16, _, _, _, _, _⟩) 27 (.tmp 1) rfl (by rfl) B1 rfl #[.int .u8 9, .int .u8 1, .int .u16 0, .int .u32 1, .int .u32 2, .slice a 9 c] 27 HP4.out Try.underlying27 (by kernel_rfl) ?_; try simp only [Act.put, List.setIfInBounds_toArray, List.set_cons_zero, List.set_cons_succ]))
  refine (spT_tells _ a c HL4.out).mono ?_
  rintro e w5 ⟨a5, c5, rfl, l5, b5⟩
  have HB5 := hide (HB4.out.trans (b5.mono HB4.out.size))
  have HQ5 := hide (below_block b5 HQ4.out (Nat.le_refl _))
  have HL5 := hide l5
  clear b5 l5 HB4 HP4 HQ4 HL4
  go_wp2_with fail
  refine (spT_of _ a5 c5 HL5.out).mono ?_
  rintro e w6 ⟨rfl, b6⟩
  have HB6 := hide (HB5.out.trans (b6.mono HB5.out.size))
  have HQ6 := hide (below_block b6 HQ5.out (Nat.le_refl _))
  clear b6 HB5 HQ5 HL5
  obtain ⟨w7, hwn, w7b, HN1⟩ : ∃ W, w6.alloc (.cells #[.int .u8 1, .int .u32 2, .int .u32 1, .int .u16 0, .int .u16 7] 29) = W ∧ Below w6.heap.size w6 W ∧ Hid (W.heap[w6.heap.size]? = some (.cells #[.int .u8 1, .int .u32 2, .int .u32 1, .int .u16 0, .int .u16 7] 29 (0, 0))) := ⟨_, rfl, (Below.refl w6.heap.size w6).alloc (Nat.le_refl _) _, hide (heap_alloc_new w6 _)⟩
  obtain ⟨B3, hB1⟩ : ∃ B, w6.heap.size = B := ⟨_, rfl⟩
  rw [hB1] at HN1 w7b
  have HW := hide (And.intro hwn hB1)
  have HE1 := hide hB1
  clear hwn hB1
  go_upto_region 4 with (fail)
  rw [HW.out.1, HW.out.2]
  have w7h := HN1.out
  have HR7 := hide w7h
  have HB7 := hide (HB6.out.trans (w7b.mono (by rw [← HE1.out]; exact HB6.out.size)))
  have HQ7 := hide (below_block w7b HQ6.out (Nat.le_of_eq HE1.out))
  clear w7h w7b HW HN1 HE1 HB6 HQ6
  go_wp2_with (first | (refine ld_whole (o := ⟨some 37, _, _, _, _, _⟩) 29 (.tmp 2) rfl (by rfl) B2 rfl #[.int .u8 1, .int .u32 1, .int .u32 2, .int .u16 7, .int .u16 0] 29 HQ7.out Try.underlying29 (by kernel_rfl) ?_; try simp only [Act.put, List.setIfInBounds_toArray, List.set_cons_zero, List.set_cons_succ]) | (refine ld_whole (o := ⟨some 42, _, _, _, _, _⟩) 29 (.tmp 5) rfl (by rfl) B3 rfl #[.int .u8 1, .int .u32 2, .int .u32 1, .int .u16 0, .int .u16 7] 29 HR7.out Try.underlying29 (by kernel_rfl) ?_; try simp only [Act.put, List.setIfInBounds_toArray, List.set_cons_zero, List.set_cons_succ]))
  go_ret
  exact ⟨rfl, HB7.out⟩
end Go.Proofs.Ytgggcapgaikbeaa

/- A message that is written is read back; an echo's flow. No program is named. -/
namespace Go.Proofs.Ytgggcapgaikbeaa
open Go.RowKit
set_option linter.unusedVariables false
set_option linter.unusedSimpArgs false
set_option maxRecDepth 100000
theorem fld_byte (x : Nat) (r : List Int) : fld ((x : Int) :: r) 0 1 = x := by unfold fld valB; simp
theorem icmpG_0 (p q r : Nat) (xs : List Int) (k : Nat) : fld (icmpG p q r xs k) 0 1 = p := fld_byte p _
theorem icmpG_1 (p q r : Nat) (xs : List Int) (k : Nat) : fld (icmpG p q r xs k) 1 1 = q := by
  have h := fld_skip [(p : Int)] ((q : Int) :: (numB 2 k ++ (numB 4 r ++ xs))) 0 1 1 rfl
  rw [fld_byte] at h; exact h
theorem icmpG_4 (p q r : Nat) (xs : List Int) (k : Nat) (hr : r ≤ 4294967295) : fld (icmpG p q r xs k) 4 4 = r := by
  unfold icmpG; rw [fld_skip _ _ 2 2 4 (by rfl), fld_skip _ _ 0 2 4 (numB_len _ _), fld_num 4 r _ (by omega)]
theorem icmpG_8 (p q r : Nat) (xs : List Int) (k : Nat) : (icmpG p q r xs k).drop 8 = xs := by
  have e : icmpG p q r xs k = ([(p : Int), (q : Int)] ++ (numB 2 k ++ numB 4 r)) ++ xs := by simp [icmpG]
  rw [e, List.drop_left' (by simp [numB_len])]
theorem icmpG_psum (p q r : Nat) (xs : List Int) (k : Nat) (hk : k ≤ 65535) : psum (icmpG p q r xs k) = psum (icmpG p q r xs 0) + k := by
  unfold icmpG
  rw [psum_append _ _ (by simp), psum_append _ _ (by rw [numB_len]), psum_append _ (numB 2 0 ++ _) (by simp), psum_append (numB 2 0) _ (by rw [numB_len]), psum_num2 _ hk, psum_num2 0 (by omega)]
  omega
theorem icmpK_ok (p q r : Nat) (xs : List Int) (hb : ∀ x ∈ icmpG p q r xs 0, 0 ≤ x ∧ x ≤ 255) : csum (icmpG p q r xs (icmpK p q r xs).toNat) = 0 := by
  have h1 := csum_rng (icmpG p q r xs 0)
  have hP := (psum_rng _ hb).1
  have hk : ((icmpK p q r xs).toNat : Int) = csum (icmpG p q r xs 0) := by unfold icmpK; omega
  have h2 : csum (icmpG p q r xs (icmpK p q r xs).toNat) = 65535 - f16 (psum (icmpG p q r xs 0) + csum (icmpG p q r xs 0)) := by
    unfold csum at *
    rw [icmpG_psum _ _ _ _ _ (by omega), hk]
  rw [h2]
  exact right_good _ _ hP rfl
theorem icmpB_rng (p q r : Nat) (xs : List Int) (hp : p ≤ 255) (hq : q ≤ 255) (hb : ∀ x ∈ xs, 0 ≤ x ∧ x ≤ 255) : ∀ x ∈ icmpB p q r xs, 0 ≤ x ∧ x ≤ 255 := icmpG_rng p q r xs _ hp hq hb
theorem icmpB_code (p q r : Nat) (xs : List Int) (hp : p ≤ 255) (hq : q ≤ 255) (hb : ∀ x ∈ xs, 0 ≤ x ∧ x ≤ 255) (hl : xs.length ≤ 1472) : msgCode (icmpB p q r xs) = 0 := by
  have h := icmpB_len p q r xs
  unfold msgCode
  rw [if_neg (by omega), if_neg (by omega), if_pos (show csum (icmpB p q r xs) = 0 from icmpK_ok p q r xs (icmpG_rng p q r xs 0 hp hq hb))]
theorem icmpB_of (p q r : Nat) (xs : List Int) (hp : p ≤ 255) (hq : q ≤ 255) (hr : r ≤ 4294967295) (hb : ∀ x ∈ xs, 0 ≤ x ∧ x ≤ 255) (hl : xs.length ≤ 1472) : msgOf (icmpB p q r xs) = ⟨p, q, r, xs⟩ := by
  unfold msgOf
  rw [if_pos (icmpB_code p q r xs hp hq hb hl)]
  unfold icmpB
  rw [icmpG_0, icmpG_1, icmpG_4 _ _ _ _ _ hr, icmpG_8]
end Go.Proofs.Ytgggcapgaikbeaa
