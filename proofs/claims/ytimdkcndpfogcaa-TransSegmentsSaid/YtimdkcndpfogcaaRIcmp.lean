/- What the document's WriteICMP and SameICMP answer. -/
import Derived.Test.YtimdkcndpfogcaaIcmpW
import Derived.Test.YtimdkcndpfogcaaTRef
import Derived.Test.YtimdkcndpfogcaaTEye
import Derived.Test.YtimdkcndpfogcaaConv
import Derived.Deep.RegionHeld3
import Derived.Deep.DeepCutAuto
namespace Go.Proofs.Ytimdkcndpfogcaa
open Go.RowKit
set_option linter.unusedVariables false
set_option linter.unusedSimpArgs false
set_option maxRecDepth 100000
theorem step_append_ex {P : Program} {ops : Array Oper} {o : Oper} {a : Act} {w : World} {K : Act → World → Prop} {Q : Exit → Act → World → Prop} {E : Prop} (hgd : o.guard = none) (d s : Operand) (dT sT : TypeId)
    (ho : o.op = .call { callee := .builtin .append, args := #[d, s], argTypes := #[dT, sT] }) (vs vx : Value) (hd : a.eval d = vs) (hs : a.eval s = vx) (R : Value → World → Prop)
    (hr : ∃ v' w', (Builtin.append_ #[dT, sT] o.type #[vs, vx]).run P w = .ok v' w' ∧ R v' w') (h : ∀ v' w', R v' w' → K (a.put o.dst v') w') :
    if Region.wanted o (yielded ops a.tmps) = true then Oper.wp P o a w K Q else E := by
  obtain ⟨v', w', hrun, hR⟩ := hr
  have hw : Region.wanted o (yielded ops a.tmps) = true := by simp [Region.wanted, hgd]
  rw [if_pos hw]
  unfold Oper.wp
  simp [execOp, ho, resolve, invoke, builtin, hd, hs, hrun, Result.andThen]
  exact h v' w' hR

theorem lit4_own {V w' : World} {x y : Int} (base : Nat) (h : Below (V.alloc (.cells #[.int .u8 x, .int .u8 y, .int .u8 0, .int .u8 0] 5)).heap.size (V.alloc (.cells #[.int .u8 x, .int .u8 y, .int .u8 0, .int .u8 0] 5)) w') (hb : base ≤ V.heap.size) :
    w'.ownsRow base 5 1 (.slice (some ⟨V.heap.size, 0, none⟩) 4 4) 4 (([x, y, 0, 0] : List Int).map (Value.int .u8)) :=
  owns_below (World.ownsRow_lit V #[.int .u8 x, .int .u8 y, .int .u8 0, .int .u8 0] 4 hb (by unfold maxLen; omega) rfl) h (Nat.le_refl _)
theorem lit4_own_d {V w' : World} {x y : Int} (base : Nat) (h : Below (V.alloc (.cells #[.int .u8 x, .int .u8 y, .int .u8 0, .int .u8 0] 5)).drew.heap.size (V.alloc (.cells #[.int .u8 x, .int .u8 y, .int .u8 0, .int .u8 0] 5)).drew w') (hb : base ≤ V.heap.size) :
    w'.ownsRow base 5 1 (.slice (some ⟨V.heap.size, 0, none⟩) 4 4) 4 (([x, y, 0, 0] : List Int).map (Value.int .u8)) := lit4_own base (below_of_drew h) hb
theorem rwicmp_long (w : World) (p q r : Int) (da : Option Addr) (n dc : Nat) (h : 1472 < n) :
    Calls Try.prog 19 #[.agg #[.int .u8 p, .int .u8 q, .int .u32 r, .slice da n dc]] w fun e w' => ∃ g, e = .returned (.tuple #[.slice (some ⟨g, 0, none⟩) 0 0, .int .i64 14]) ∧ Below w.heap.size w w' := by
  go_enter Try.func19, Try.ntmps19
  go_wp2
  go_ret2
  exact ⟨_, rfl, ((Below.refl _ _).alloc (Nat.le_refl _) _).alloc (by simp) _⟩
set_option maxHeartbeats 1600000 in
theorem rwicmp_ok (w : World) (p q r : Nat) (da : Option Addr) (xs : List Int) (n dc : Nat) (hr : Row .u8 w da xs) (hn : da = none → dc = 0) (hl : xs.length = n) (hb : ∀ x ∈ xs, 0 ≤ x ∧ x ≤ 255) (h1 : n ≤ 1472) (hp : p ≤ 255) (hq : q ≤ 255) (hrr : r ≤ 4294967295) :
    Calls Try.prog 19 #[.agg #[.int .u8 (p : Int), .int .u8 (q : Int), .int .u32 (r : Int), .slice da n dc]] w fun e w' => ∃ a c,
      e = .returned (.tuple #[.slice a (8 + n) c, .int .i64 0]) ∧ w'.ownsRow w.heap.size 5 1 (.slice a (8 + n) c) (8 + n) ((icmpG p q r xs (icmpK p q r xs).toNat).map (Value.int .u8)) ∧ Below w.heap.size w w' := by
  have HR := hide hr
  have HN := hide hn
  have HL := hide hl
  have HBR := hide (icmpG_rng p q r xs 0 hp hq hb)
  have hZL := icmpG_len p q r xs 0
  rw [HL.out] at hZL
  have HZL := hide hZL
  clear hr hn hl hb hZL
  go_enter Try.func19, Try.ntmps19
  go_wp2_with fail
  obtain ⟨B0, w0, hB, hqq, hl0, hbel, hheap⟩ : ∃ B0 wq, w.heap.size = B0 ∧ w.alloc (.cells #[.int .u8 (p : Int), .int .u8 (q : Int), .int .u32 (r : Int), .slice da n dc] 48) = wq ∧ B0 < wq.heap.size ∧ Below w.heap.size w wq ∧
      wq.heap[B0]? = some (.cells #[.int .u8 (p : Int), .int .u8 (q : Int), .int .u32 (r : Int), .slice da n dc] 48 (0, 0)) := ⟨_, _, rfl, rfl, by simp, (Below.refl _ _).alloc (Nat.le_refl _) _, heap_alloc_new _ _⟩
  rw [hqq, hB]
  have HB := hide hB
  have HH := hide hheap
  obtain ⟨k0_0, k0_1, k0_2, k0_3, kf⟩ := four_cells hheap
  have RS := hide (HR.out.below hbel (Nat.le_refl _))
  have BW := hide hbel
  have hw1 : IntKind.u64.wrap (r : Int) = (r : Int) := wraps_u64 _ (by omega) (by omega)
  clear hqq hB hheap hbel kf
  go_cut [4] (fun bv wx => ∃ a c, bv = .slice a (4 + 4) c ∧ Hid (wx.ownsRow w0.heap.size 5 1 (.slice a (4 + 4) c) (4 + 4) (([(p : Int), (q : Int), 0, 0] ++ numB 4 r).map (Value.int .u8))) ∧ Hid (Below w0.heap.size w0 wx))
  case first =>
    go_region_held3 (fun w' => w'.cell? ⟨B0, 0, none⟩ = some (.int .u8 (p : Int)) ∧ w'.cell? ⟨B0, 1, none⟩ = some (.int .u8 (q : Int)) ∧ w'.cell? ⟨B0, 2, none⟩ = some (.int .u32 (r : Int)) ∧ w'.cell? ⟨B0, 3, none⟩ = some (.slice da n dc)) (go_keep) (first
    | (go_at_call 32; (with_reducible refine (refNum4_own r _ ?_).mono ?_); omega; rintro e w1 ⟨g1, c1, rfl, o, b⟩; have B1 : Below w0.heap.size w0 w1 := (by first | exact b | exact below_of_drew b | exact bel_lit b | exact below_of_drew (bel_lit b) | exact bel_lit (below_of_drew b)); have k1_0 : w1.cell? ⟨B0, 0, none⟩ = some (.int .u8 (p : Int)) := (bcell B1 B0 0 hl0).trans k0_0; have k1_1 : w1.cell? ⟨B0, 1, none⟩ = some (.int .u8 (q : Int)) := (bcell B1 B0 1 hl0).trans k0_1; have k1_2 : w1.cell? ⟨B0, 2, none⟩ = some (.int .u32 (r : Int)) := (bcell B1 B0 2 hl0).trans k0_2; have k1_3 : w1.cell? ⟨B0, 3, none⟩ = some (.slice da n dc) := (bcell B1 B0 3 hl0).trans k0_3; have R1 := hide (Row.of_owns o);
       (first | (have hx := app_own w1 w0.heap.size _ 4 _ (lit4_own w0.heap.size b (Nat.le_refl _)) (some ⟨g1, 0, none⟩) (numB 4 r) 4 c1 R1.out (numB_len _ _) (fun h => by cases h) (by omega) B1.size) | (have hx := app_own w1 w0.heap.size _ 4 _ (lit4_own_d w0.heap.size b (Nat.le_refl _)) (some ⟨g1, 0, none⟩) (numB 4 r) 4 c1 R1.out (numB_len _ _) (fun h => by cases h) (by omega) B1.size) | (have hx := app_own (w1.alloc (.cells #[.int .u8 (p : Int), .int .u8 (q : Int), .int .u8 0, .int .u8 0] 5)) w0.heap.size (.slice (some ⟨w1.heap.size, 0, none⟩) 4 4) 4 [(p : Int), (q : Int), 0, 0] (World.ownsRow_lit w1 #[.int .u8 (p : Int), .int .u8 (q : Int), .int .u8 0, .int .u8 0] 4 B1.size (by unfold maxLen; omega) rfl) (some ⟨g1, 0, none⟩) (numB 4 r) 4 c1 (R1.out.below ((Below.refl _ _).alloc (Nat.le_refl _) _) (Nat.le_refl _)) (numB_len _ _) (fun h => by cases h) (by omega) ((Below.refl w0.heap.size w1).alloc B1.size _ |>.size |> Nat.le_trans B1.size)));
       have HX := hide hx; have hl1 : B0 < w1.heap.size := Nat.lt_of_lt_of_le hl0 B1.size; clear hx o b)
    | (refine step_append_ex rfl (.tmp 14) (.tmp 18) 25 25 rfl _ _ rfl rfl _ HX.out ?_; rintro v2 w2 HP2; have BF : Below w0.heap.size w0 w2 := (by first | exact B1.trans HP2.2 | exact B1.trans (((Below.refl _ _).alloc B1.size _).trans HP2.2)); have k2_0 : w2.cell? ⟨B0, 0, none⟩ = some (.int .u8 (p : Int)) := (bcell BF B0 0 hl0).trans k0_0; have k2_1 : w2.cell? ⟨B0, 1, none⟩ = some (.int .u8 (q : Int)) := (bcell BF B0 1 hl0).trans k0_1; have k2_2 : w2.cell? ⟨B0, 2, none⟩ = some (.int .u32 (r : Int)) := (bcell BF B0 2 hl0).trans k0_2; have k2_3 : w2.cell? ⟨B0, 3, none⟩ = some (.slice da n dc) := (bcell BF B0 3 hl0).trans k0_3; have OP := hide HP2.1; have BP := hide BF; clear HP2 BF)
    | fail)
    all_goals
      obtain ⟨a2, c2, rfl⟩ := slice_form OP.out
      try go_wp2_with fail
      go_meet
      exact ⟨a2, c2, rfl, OP, BP⟩
  case rest =>
    obtain ⟨a2, c2, rfl, OP, BP⟩ := hcut
    have kz3 : wc.cell? ⟨B0, 3, none⟩ = some (.slice da n dc) := (bcell BP.out B0 3 hl0).trans k0_3
    obtain ⟨v3, w3, hrun3, o3, b3⟩ := app_own wc w0.heap.size (.slice a2 (4 + 4) c2) (4 + 4) _ OP.out da xs n dc (RS.out.below BP.out (Nat.le_refl _)) HL.out HN.out (by omega) BP.out.size
    obtain ⟨a3, c3, rfl⟩ := slice_form o3
    have HRUN3 := hide hrun3
    have e3 : ([(p : Int), (q : Int), 0, 0] ++ numB 4 r) ++ xs = icmpG p q r xs 0 := by
      have h0 : numB 2 0 = [0, 0] := rfl
      simp [icmpG, h0]
    rw [e3] at o3
    have O3 := hide (owns_mono o3 BW.out.size)
    have B3 := hide (BW.out.trans ((BP.out.trans b3).mono BW.out.size))
    have hrs := refSum_any a3 (icmpG p q r xs 0) c3 w3 (Row.of_owns o3) HBR.out (by rw [HZL.out]; omega)
    rw [HZL.out] at hrs
    have HRS := hide hrs
    clear hrun3 e3 o3 b3 hrs k0_0 k0_1 k0_2 k0_3
    rw [show 4 + 4 + n = 8 + n by omega] at *
    go_wp2_with (at_builtin; refine Lib.wpList_append_run _ rfl _ _ _ _ rfl _ _ rfl rfl _ _ HRUN3.out ?_)
    refine HRS.out.mono ?_
    rintro e w4 ⟨rfl, b4⟩
    have O4 := hide (owns_below O3.out b4 (Nat.le_refl _))
    have B4 := hide (B3.out.trans (b4.mono B3.out.size))
    clear b4
    have hcr := csum_rng (icmpG p q r xs 0)
    have hKe : csum (icmpG p q r xs 0) = (((icmpK p q r xs).toNat : Nat) : Int) := by unfold icmpK; omega
    have hKle : (icmpK p q r xs).toNat ≤ 65535 := by unfold icmpK; omega
    rw [hKe]
    obtain ⟨k, HKK⟩ : ∃ k, Hid ((icmpK p q r xs).toNat = k) := ⟨_, rfl⟩
    rw [HKK.out] at hKle ⊢
    clear hKe hcr
    have hlay := rlay_any w.heap.size (8 + n) c3 2 a3 (icmpG p q r xs 0) k w4 O4.out (by omega) (by omega) hKle
    rw [icmp_spl] at hlay
    have HLY := hide hlay
    clear hlay
    go_wp2_with fail
    refine HLY.out.mono ?_
    rintro e w9 ⟨rfl, o9, b9⟩
    have O9 := hide o9
    have B9 := hide (B4.out.trans b9)
    clear o9 b9
    go_wp2
    go_ret2
    exact ⟨a3, c3, rfl, by rw [HKK.out]; exact O9.out, B9.out⟩
set_option maxHeartbeats 1600000 in
theorem sameIcmp_any (w : World) (p q r : Int) (a1 a2 : Option Addr) (xs : List Int) (n c1 c2 : Nat) (h1 : Row .u8 w a1 xs) (h2 : Row .u8 w a2 xs) (hl : xs.length = n) :
    Calls Try.prog 20 #[.agg #[.int .u8 p, .int .u8 q, .int .u32 r, .slice a1 n c1], .agg #[.int .u8 p, .int .u8 q, .int .u32 r, .slice a2 n c2]] w fun e w' => e = .returned (.bool true) ∧ Below w.heap.size w w' := by
  have hb1 : Below w.heap.size w (w.alloc (.cells #[.int .u8 p, .int .u8 q, .int .u32 r, .slice a1 n c1] 48)) := (Below.refl _ _).alloc (Nat.le_refl _) _
  have hb2 := hb1.alloc hb1.size (.cells #[.int .u8 p, .int .u8 q, .int .u32 r, .slice a2 n c2] 48)
  have hc1 := conv_any a1 xs c1 _ (h1.below hb2 (Nat.le_refl _))
  have hc2 := conv_any a2 xs c2 _ (h2.below hb2 (Nat.le_refl _))
  rw [hl] at hc1 hc2
  have HB2 := hide hb2
  clear hb1 hb2 h1 h2 hl
  go_enter Try.func20, Try.ntmps20
  go_wp2
  go_ret
  exact ⟨rfl, HB2.out⟩
end Go.Proofs.Ytimdkcndpfogcaa
