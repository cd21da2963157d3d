/- The law of what a packet carries, and between which ends. -/
import Derived.Test.YtbacodogklbiaaaFlSpk
import Derived.Deep.RegionHeld3
namespace Go.Proofs.Ytbacodogklbiaaa
open Go.RowKit
set_option linter.unusedVariables false
set_option linter.unusedSimpArgs false
set_option maxRecDepth 100000
theorem y_turn (w : World) (yp ys yd yf yt : Nat) : Calls Try.prog 13 #[.agg #[.int .u8 (yp : Int), .int .u32 (ys : Int), .int .u32 (yd : Int), .int .u16 (yf : Int), .int .u16 (yt : Int)]] w fun e w' => e = .returned (.agg #[.int .u8 (yp : Int), .int .u32 (yd : Int), .int .u32 (ys : Int), .int .u16 (yt : Int), .int .u16 (yf : Int)]) ∧ Below w.heap.size w w' := turnP_any ⟨yp, ys, yd, yf, yt⟩ w
theorem y_turnR (w : World) (yp ys yd yf yt : Nat) : Calls Try.prog 14 #[.agg #[.int .u8 (yp : Int), .int .u32 (ys : Int), .int .u32 (yd : Int), .int .u16 (yf : Int), .int .u16 (yt : Int)]] w fun e w' => e = .returned (.agg #[.int .u8 (yp : Int), .int .u32 (yd : Int), .int .u32 (ys : Int), .int .u16 (yt : Int), .int .u16 (yf : Int)]) ∧ Below w.heap.size w w' := turnR_any ⟨yp, ys, yd, yf, yt⟩ w
set_option maxHeartbeats 1600000 in
theorem flowTells_long (w : World) (tt P id S D : Nat) (a : Option Addr) (n cap : Nat) (h : 3000 < n) :
    Calls Try.prog 3 #[.agg #[.int .u8 (tt : Int), .int .u8 (P : Int), .int .u16 (id : Int), .int .u32 (S : Int), .int .u32 (D : Int), .slice a n cap]] w fun e w' => e = .returned (.bool true) ∧ Below w.heap.size w w' := by
  have hd : decide ((3000 : Int) < (n : Int)) = true := by simp; omega
  clear h
  obtain ⟨V1, hV1, HB1, HX⟩ : ∃ V, w.alloc (.cells #[.int .u8 (tt : Int), .int .u8 (P : Int), .int .u16 (id : Int), .int .u32 (S : Int), .int .u32 (D : Int), .slice a n cap] 27) = V ∧ Hid (Below w.heap.size w V) ∧ Hid (V.heap[w.heap.size]? = some (.cells #[.int .u8 (tt : Int), .int .u8 (P : Int), .int .u16 (id : Int), .int .u32 (S : Int), .int .u32 (D : Int), .slice a n cap] 27 (0, 0))) := ⟨_, rfl, hide ((Below.refl _ _).alloc (Nat.le_refl _) _), hide (heap_alloc_new _ _)⟩
  obtain ⟨BX, hBX⟩ : ∃ B, w.heap.size = B := ⟨_, rfl⟩
  rw [hBX] at HX
  have HE := hide (And.intro hV1 hBX)
  clear hV1 hBX
  go_enter Try.func3, Try.ntmps3
  go_upto_region 1 with (fail)
  rw [HE.out.1, HE.out.2]
  clear HE
  go_wp2_with fail
  refine (speaks_any _).mono ?_
  rintro e w1 ⟨rfl, b1⟩
  have HB2 := hide (HB1.out.trans (b1.mono HB1.out.size))
  have HX1 := hide (below_block b1 HX.out (Nat.le_refl _))
  clear b1 HX HB1
  have k5 : w1.cell? ⟨BX, 5, none⟩ = some (.slice a n cap) := cell_at HX1.out 5 rfl
  go_wp2_with fail
  go_ret
  exact ⟨rfl, HB2.out⟩
set_option maxHeartbeats 1600000 in
theorem flowTells_main (w : World) (tt P id S D : Nat) (a : Option Addr) (n cap : Nat) (xs : List Int) (hLx : Lies w a xs n cap) (hl : xs.length = n) (hb : ∀ x ∈ xs, 0 ≤ x ∧ x ≤ 255) (hS : S ≤ 4294967295) (hD : D ≤ 4294967295) (h : n ≤ 3000) :
    Calls Try.prog 3 #[.agg #[.int .u8 (tt : Int), .int .u8 (P : Int), .int .u16 (id : Int), .int .u32 (S : Int), .int .u32 (D : Int), .slice a n cap]] w fun e w' => e = .returned (.bool true) ∧ Below w.heap.size w w' := by
  have hd : decide ((3000 : Int) < (n : Int)) = false := by simp; omega
  have HO := hide (fun (W : World) (hW : Below w.heap.size w W) => of_any W (tt : Int) (id : Int) P S D a n cap xs (hLx.below hW (Nat.le_refl _)) hl hb hS hD)
  have HR := hide (fun (W : World) (hW : Below w.heap.size w W) => rof_any W (tt : Int) (id : Int) P S D a n cap xs (hLx.below hW (Nat.le_refl _)) hl hb hS hD)
  obtain ⟨y, hy⟩ : ∃ y, ofFl P S D xs = y := ⟨_, rfl⟩
  obtain ⟨kk, hkk⟩ : ∃ y, ofKind P S D xs = y := ⟨_, rfl⟩
  obtain ⟨er, her⟩ : ∃ y, ((ofErr P S D xs : Nat) : Int) = y := ⟨_, rfl⟩
  rw [hy, hkk, her] at HO HR
  obtain ⟨yp, ys, yd, yf, yt⟩ := y
  unfold Fl.v at HO HR
  dsimp only at HO HR
  clear h hLx hl hb hy hkk her
  obtain ⟨V1, hV1, HB1, HX⟩ : ∃ V, w.alloc (.cells #[.int .u8 (tt : Int), .int .u8 (P : Int), .int .u16 (id : Int), .int .u32 (S : Int), .int .u32 (D : Int), .slice a n cap] 27) = V ∧ Hid (Below w.heap.size w V) ∧ Hid (V.heap[w.heap.size]? = some (.cells #[.int .u8 (tt : Int), .int .u8 (P : Int), .int .u16 (id : Int), .int .u32 (S : Int), .int .u32 (D : Int), .slice a n cap] 27 (0, 0))) := ⟨_, rfl, hide ((Below.refl _ _).alloc (Nat.le_refl _) _), hide (heap_alloc_new _ _)⟩
  obtain ⟨BX, hBX⟩ : ∃ B, w.heap.size = B := ⟨_, rfl⟩
  rw [hBX] at HX
  have HE := hide (And.intro hV1 hBX)
  clear hV1 hBX
  go_enter Try.func3, Try.ntmps3
  go_upto_region 1 with (fail)
  rw [HE.out.1, HE.out.2]
  clear HE
  go_wp2_with fail
  refine (speaks_any _).mono ?_
  rintro e w1 ⟨rfl, b1⟩
  have HB2 := hide (HB1.out.trans (b1.mono HB1.out.size))
  have HX1 := hide (below_block b1 HX.out (Nat.le_refl _))
  clear b1 HX HB1
  have k5 : w1.cell? ⟨BX, 5, none⟩ = some (.slice a n cap) := cell_at HX1.out 5 rfl
  go_upto_region 5 with (fail)
  clear k5 hd
  go_wp2_with ((refine ld_whole (o := ⟨some 16, _, _, _, _, _⟩) 27 (.tmp 1) rfl (by rfl) BX rfl #[.int .u8 (tt : Int), .int .u8 (P : Int), .int .u16 (id : Int), .int .u32 (S : Int), .int .u32 (D : Int), .slice a n cap] 27 HX1.out Try.underlying27 (by kernel_rfl) ?_; try simp only [Act.put, List.setIfInBounds_toArray, List.set_cons_zero, List.set_cons_succ]))
  refine (HO.out w1 HB2.out).mono ?_
  rintro e w3 ⟨rfl, b⟩
  have HB3 := hide (HB2.out.trans (b.mono HB2.out.size))
  have HX3 := hide (below_block b HX1.out (Nat.le_refl _))
  clear b HX1 HB2 HO
  obtain ⟨w4, hwn, w4b, HN1⟩ : ∃ W, w3.alloc (.cells #[.int .u8 (yp : Int), .int .u32 (ys : Int), .int .u32 (yd : Int), .int .u16 (yf : Int), .int .u16 (yt : Int)] 30) = W ∧ Below w3.heap.size w3 W ∧ Hid (W.heap[w3.heap.size]? = some (.cells #[.int .u8 (yp : Int), .int .u32 (ys : Int), .int .u32 (yd : Int), .int .u16 (yf : Int), .int .u16 (yt : Int)] 30 (0, 0))) := ⟨_, rfl, (Below.refl w3.heap.size w3).alloc (Nat.le_refl _) _, hide (heap_alloc_new w3 _)⟩
  obtain ⟨B1, hB1⟩ : ∃ B, w3.heap.size = B := ⟨_, rfl⟩
  rw [hB1] at HN1 w4b
  have HW := hide (And.intro hwn hB1)
  have HE1 := hide hB1
  clear hwn hB1
  go_upto_region 6 with (fail)
  rw [HW.out.1, HW.out.2]
  have HQ4 := HN1
  have HX4 := hide (below_block w4b HX3.out (Nat.le_of_eq HE1.out))
  have HB4 := hide (HB3.out.trans (w4b.mono (by rw [← HE1.out]; exact HB3.out.size)))
  clear w4b HW HN1 HE1 HB3 HX3
  go_wp2_with ((refine ld_whole (o := ⟨some 22, _, _, _, _, _⟩) 27 (.tmp 1) rfl (by rfl) BX rfl #[.int .u8 (tt : Int), .int .u8 (P : Int), .int .u16 (id : Int), .int .u32 (S : Int), .int .u32 (D : Int), .slice a n cap] 27 HX4.out Try.underlying27 (by kernel_rfl) ?_; try simp only [Act.put, List.setIfInBounds_toArray, List.set_cons_zero, List.set_cons_succ]))
  refine (HR.out w4 HB4.out).mono ?_
  rintro e w6 ⟨rfl, b⟩
  have HB6 := hide (HB4.out.trans (b.mono HB4.out.size))
  have HQ6 := hide (below_block b HQ4.out (Nat.le_refl _))
  clear b HQ4 HB4 HR HX4
  obtain ⟨w7, hwn, w7b, HN1⟩ : ∃ W, w6.alloc (.cells #[.int .u8 (yp : Int), .int .u32 (ys : Int), .int .u32 (yd : Int), .int .u16 (yf : Int), .int .u16 (yt : Int)] 30) = W ∧ Below w6.heap.size w6 W ∧ Hid (W.heap[w6.heap.size]? = some (.cells #[.int .u8 (yp : Int), .int .u32 (ys : Int), .int .u32 (yd : Int), .int .u16 (yf : Int), .int .u16 (yt : Int)] 30 (0, 0))) := ⟨_, rfl, (Below.refl w6.heap.size w6).alloc (Nat.le_refl _) _, hide (heap_alloc_new w6 _)⟩
  obtain ⟨B2, hB1⟩ : ∃ B, w6.heap.size = B := ⟨_, rfl⟩
  rw [hB1] at HN1 w7b
  have HW := hide (And.intro hwn hB1)
  have HE1 := hide hB1
  clear hwn hB1
  go_upto_region 7 with (fail)
  rw [HW.out.1, HW.out.2]
  have HR7 := HN1
  have HQ7 := hide (below_block w7b HQ6.out (Nat.le_of_eq HE1.out))
  have HB7 := hide (HB6.out.trans (w7b.mono (by rw [← HE1.out]; exact HB6.out.size)))
  clear w7b HW HN1 HE1 HB6 HQ6
  have ka0 : w7.cell? ⟨B1, 0, none⟩ = some (.int .u8 (yp : Int)) := cell_at HQ7.out 0 rfl
  have ka1 : w7.cell? ⟨B1, 1, none⟩ = some (.int .u32 (ys : Int)) := cell_at HQ7.out 1 rfl
  have ka2 : w7.cell? ⟨B1, 2, none⟩ = some (.int .u32 (yd : Int)) := cell_at HQ7.out 2 rfl
  have ka3 : w7.cell? ⟨B1, 3, none⟩ = some (.int .u16 (yf : Int)) := cell_at HQ7.out 3 rfl
  have ka4 : w7.cell? ⟨B1, 4, none⟩ = some (.int .u16 (yt : Int)) := cell_at HQ7.out 4 rfl
  have kb0 : w7.cell? ⟨B2, 0, none⟩ = some (.int .u8 (yp : Int)) := cell_at HR7.out 0 rfl
  have kb1 : w7.cell? ⟨B2, 1, none⟩ = some (.int .u32 (ys : Int)) := cell_at HR7.out 1 rfl
  have kb2 : w7.cell? ⟨B2, 2, none⟩ = some (.int .u32 (yd : Int)) := cell_at HR7.out 2 rfl
  have kb3 : w7.cell? ⟨B2, 3, none⟩ = some (.int .u16 (yf : Int)) := cell_at HR7.out 3 rfl
  have kb4 : w7.cell? ⟨B2, 4, none⟩ = some (.int .u16 (yt : Int)) := cell_at HR7.out 4 rfl
  have hla := lt_of_block HQ7.out
  have hlb := lt_of_block HR7.out
  have HBB := hide (Below.refl w7.heap.size w7)
  go_region_held3 (fun w' => w'.cell? ⟨B1, 0, none⟩ = some (.int .u8 (yp : Int)) ∧ w'.cell? ⟨B1, 1, none⟩ = some (.int .u32 (ys : Int)) ∧ w'.cell? ⟨B1, 2, none⟩ = some (.int .u32 (yd : Int)) ∧ w'.cell? ⟨B1, 3, none⟩ = some (.int .u16 (yf : Int)) ∧ w'.cell? ⟨B1, 4, none⟩ = some (.int .u16 (yt : Int)) ∧ w'.cell? ⟨B2, 0, none⟩ = some (.int .u8 (yp : Int)) ∧ w'.cell? ⟨B2, 1, none⟩ = some (.int .u32 (ys : Int)) ∧ w'.cell? ⟨B2, 2, none⟩ = some (.int .u32 (yd : Int)) ∧ w'.cell? ⟨B2, 3, none⟩ = some (.int .u16 (yf : Int)) ∧ w'.cell? ⟨B2, 4, none⟩ = some (.int .u16 (yt : Int))) (go_keep) (first
    | (go_at_call 13; (with_reducible refine (y_turn _ yp ys yd yf yt).mono ?_); rintro e w8 ⟨rfl, b⟩; (try replace b := below_of_drew b); have HBB := hide (HBB.out.trans (b.mono HBB.out.size)); have ma0 := (bcell HBB.out B1 0 hla).trans ka0; have mb0 := (bcell HBB.out B2 0 hlb).trans kb0; have ma1 := (bcell HBB.out B1 1 hla).trans ka1; have mb1 := (bcell HBB.out B2 1 hlb).trans kb1; have ma2 := (bcell HBB.out B1 2 hla).trans ka2; have mb2 := (bcell HBB.out B2 2 hlb).trans kb2; have ma3 := (bcell HBB.out B1 3 hla).trans ka3; have mb3 := (bcell HBB.out B2 3 hlb).trans kb3; have ma4 := (bcell HBB.out B1 4 hla).trans ka4; have mb4 := (bcell HBB.out B2 4 hlb).trans kb4; clear b)
    | (go_at_call 14; (with_reducible refine (y_turnR _ yp ys yd yf yt).mono ?_); rintro e w9 ⟨rfl, b⟩; (try replace b := below_of_drew b); have HBB := hide (HBB.out.trans (b.mono HBB.out.size)); have la0 := (bcell HBB.out B1 0 hla).trans ka0; have lb0 := (bcell HBB.out B2 0 hlb).trans kb0; have la1 := (bcell HBB.out B1 1 hla).trans ka1; have lb1 := (bcell HBB.out B2 1 hlb).trans kb1; have la2 := (bcell HBB.out B1 2 hla).trans ka2; have lb2 := (bcell HBB.out B2 2 hlb).trans kb2; have la3 := (bcell HBB.out B1 3 hla).trans ka3; have lb3 := (bcell HBB.out B2 3 hlb).trans kb3; have la4 := (bcell HBB.out B1 4 hla).trans ka4; have lb4 := (bcell HBB.out B2 4 hlb).trans kb4; clear b)
    | fail)
  all_goals (try go_wp2_with fail)
  all_goals go_ret
  all_goals exact ⟨by simp, HB7.out.trans (HBB.out.mono HB7.out.size)⟩
theorem flowTells_any (w : World) (tt P id S D : Nat) (a : Option Addr) (n cap : Nat) (xs : List Int) (hLx : Lies w a xs n cap) (hl : xs.length = n) (hb : ∀ x ∈ xs, 0 ≤ x ∧ x ≤ 255) (hS : S ≤ 4294967295) (hD : D ≤ 4294967295) :
    Calls Try.prog 3 #[.agg #[.int .u8 (tt : Int), .int .u8 (P : Int), .int .u16 (id : Int), .int .u32 (S : Int), .int .u32 (D : Int), .slice a n cap]] w fun e w' => e = .returned (.bool true) ∧ Below w.heap.size w w' := by
  by_cases h : 3000 < n
  · exact flowTells_long w tt P id S D a n cap h
  · exact flowTells_main w tt P id S D a n cap xs hLx hl hb hS hD (by omega)
end Go.Proofs.Ytbacodogklbiaaa
