/- What the document's WriteARP answers. -/
import Derived.Test.YtgpmgfpmfdaecaaEArp
import Derived.Test.YtgpmgfpmfdaecaaEOwn
import Derived.Test.YtgpmgfpmfdaecaaPlainNums
import Derived.Deep.RegionHeld3
namespace Go.Proofs.Ytgpmgfpmfdaecaa
open Go.RowKit
set_option linter.unusedVariables false
set_option linter.unusedSimpArgs false
set_option maxRecDepth 100000
theorem app_ch (w0 V : World) (base : Nat) (v : Value) (n : Nat) (xs : List Int) (hv : V.ownsRow base 5 1 v n (xs.map (Value.int .u8))) (a : Option Addr) (ys : List Int) (m c : Nat) (hr : Row .u8 V a ys) (hl : ys.length = m) (hn : a = none → c = 0) (hs : n + m ≤ 1099511627776) (hb : base ≤ V.heap.size) (hV : Below base w0 V) :
    ∃ v' w', (Builtin.append_ #[22, 22] 22 #[v, .slice a m c]).run Try.prog V = .ok v' w' ∧ Hid (w'.ownsRow base 5 1 v' (n + m) ((xs ++ ys).map (Value.int .u8)) ∧ Below base w0 w' ∧ base ≤ w'.heap.size) := by
  obtain ⟨v', w', g1, g2, g3⟩ := app_own V base v n xs hv a ys m c hr hl hn hs hb
  exact ⟨v', w', g1, hide ⟨g2, hV.trans g3, Nat.le_trans hb g3.size⟩⟩
set_option maxHeartbeats 800000 in
theorem four_any (n : Nat) (w : World) (hn : n ≤ 4294967295) :
    Calls Try.prog 36 #[.int .u32 n] w fun e w' => ∃ a c, e = .returned (.slice a 4 c) ∧ Row .u8 w' a (numB 4 n) ∧ Below w.heap.size w w' ∧ (a = none → c = 0) := by
  have hcw : IntKind.u64.wrap (n : Int) = (n : Int) := wraps_u64 _ (by omega) (by omega)
  have h := refNum4_any n w (by omega)
  have H := hide h
  clear h
  go_enter Try.func36, Try.ntmps36
  go_wp2_with fail
  refine H.out.mono ?_
  rintro e w1 ⟨a, c, rfl, h1, h2, h3⟩
  have H1 := hide h1
  have H2 := hide h2
  have H3 := hide h3
  clear h1 h2 h3
  go_wp2
  go_ret
  exact ⟨a, c, rfl, H1.out, H2.out, H3.out⟩
set_option maxHeartbeats 800000 in
theorem rarp_arg (w : World) (o : Nat) (d s : Nat → UInt8) (x y : Nat) (h : ¬ (o = 1 ∨ o = 2)) :
    Calls Try.prog 12 #[.agg #[.int .u16 (o : Int), .int .u8 ((d 0).toNat : Int), .int .u8 ((d 1).toNat : Int), .int .u8 ((d 2).toNat : Int), .int .u8 ((d 3).toNat : Int), .int .u8 ((d 4).toNat : Int), .int .u8 ((d 5).toNat : Int), .int .u8 ((s 0).toNat : Int), .int .u8 ((s 1).toNat : Int), .int .u8 ((s 2).toNat : Int), .int .u8 ((s 3).toNat : Int), .int .u8 ((s 4).toNat : Int), .int .u8 ((s 5).toNat : Int), .int .u32 (x : Int), .int .u32 (y : Int)]] w fun e w' => ∃ a c, e = .returned (.tuple #[.slice a 0 c, .int .i64 1]) ∧ Below w.heap.size w w' := by
  have b1 : ((o : Int) != 1) = true := by simp; omega
  have b2 : ((o : Int) != 2) = true := by simp; omega
  clear h
  go_enter Try.func12, Try.ntmps12
  go_wp2
  go_ret2
  exact ⟨_, _, rfl, ((Below.refl _ _).alloc (Nat.le_refl _) _).alloc (by simp) _⟩
set_option maxHeartbeats 2000000 in
theorem rarp_ok (w : World) (o : Nat) (d s : Nat → UInt8) (x y : Nat) (h : o = 1 ∨ o = 2) (hx : x ≤ 4294967295) (hy : y ≤ 4294967295) :
    Calls Try.prog 12 #[.agg #[.int .u16 (o : Int), .int .u8 ((d 0).toNat : Int), .int .u8 ((d 1).toNat : Int), .int .u8 ((d 2).toNat : Int), .int .u8 ((d 3).toNat : Int), .int .u8 ((d 4).toNat : Int), .int .u8 ((d 5).toNat : Int), .int .u8 ((s 0).toNat : Int), .int .u8 ((s 1).toNat : Int), .int .u8 ((s 2).toNat : Int), .int .u8 ((s 3).toNat : Int), .int .u8 ((s 4).toNat : Int), .int .u8 ((s 5).toNat : Int), .int .u32 (x : Int), .int .u32 (y : Int)]] w fun e w' => ∃ a c, e = .returned (.tuple #[.slice a 28 c, .int .i64 0]) ∧ w'.ownsRow w.heap.size 5 1 (.slice a 28 c) 28 ((arpL o d s x y).map (Value.int .u8)) ∧ Below w.heap.size w w' := by
  have hgd : ((o : Int) != 1 && (o : Int) != 2) = false := by rcases h with rfl | rfl <;> decide
  have hco : IntKind.u8.wrap (o : Int) = (o : Int) := by rcases h with rfl | rfl <;> decide
  have hnb : numB 2 o = [0, (o : Int)] := by rcases h with rfl | rfl <;> decide
  have HNB := hide hnb
  clear hnb
  obtain ⟨b1, b2, hbb⟩ : ∃ b1 b2 : Bool, ((o : Int) != 1) = b1 ∧ ((o : Int) != 2) = b2 := ⟨_, _, rfl, rfl⟩
  rw [hbb.1, hbb.2] at hgd
  obtain ⟨hb1, hb2⟩ := hbb
  have hlt2 : o ≤ 2 := by omega
  clear h
  have key : ∀ bx, b1 = bx → Calls Try.prog 12 #[.agg #[.int .u16 (o : Int), .int .u8 ((d 0).toNat : Int), .int .u8 ((d 1).toNat : Int), .int .u8 ((d 2).toNat : Int), .int .u8 ((d 3).toNat : Int), .int .u8 ((d 4).toNat : Int), .int .u8 ((d 5).toNat : Int), .int .u8 ((s 0).toNat : Int), .int .u8 ((s 1).toNat : Int), .int .u8 ((s 2).toNat : Int), .int .u8 ((s 3).toNat : Int), .int .u8 ((s 4).toNat : Int), .int .u8 ((s 5).toNat : Int), .int .u32 (x : Int), .int .u32 (y : Int)]] w fun e w' => ∃ a c, e = .returned (.tuple #[.slice a 28 c, .int .i64 0]) ∧ w'.ownsRow w.heap.size 5 1 (.slice a 28 c) 28 ((arpL o d s x y).map (Value.int .u8)) ∧ Below w.heap.size w w' := by
    intro bx hbx
    subst hbx
    have hb2' : b1 = true → b2 = false := by intro e; subst e; simpa using hgd
    cases b1
    · clear hb2' hgd hb2
      go_enter Try.func12, Try.ntmps12
      go_wp2_with fail
      obtain ⟨B0, w0, wq, hB, hq0, hq, hlt, hbel, hheap⟩ : ∃ B0 w0 wq, w.heap.size = B0 ∧ w.alloc (.cells #[.int .u16 (o : Int), .int .u8 ((d 0).toNat : Int), .int .u8 ((d 1).toNat : Int), .int .u8 ((d 2).toNat : Int), .int .u8 ((d 3).toNat : Int), .int .u8 ((d 4).toNat : Int), .int .u8 ((d 5).toNat : Int), .int .u8 ((s 0).toNat : Int), .int .u8 ((s 1).toNat : Int), .int .u8 ((s 2).toNat : Int), .int .u8 ((s 3).toNat : Int), .int .u8 ((s 4).toNat : Int), .int .u8 ((s 5).toNat : Int), .int .u32 (x : Int), .int .u32 (y : Int)] 41) = w0 ∧ w0.alloc (.cells #[.int .u8 0, .int .u8 1, .int .u8 8, .int .u8 0, .int .u8 6, .int .u8 4, .int .u8 0, .int .u8 (o : Int)] 5) = wq ∧ B0 < w0.heap.size ∧ Below w.heap.size w w0 ∧
          w0.heap[B0]? = some (.cells #[.int .u16 (o : Int), .int .u8 ((d 0).toNat : Int), .int .u8 ((d 1).toNat : Int), .int .u8 ((d 2).toNat : Int), .int .u8 ((d 3).toNat : Int), .int .u8 ((d 4).toNat : Int), .int .u8 ((d 5).toNat : Int), .int .u8 ((s 0).toNat : Int), .int .u8 ((s 1).toNat : Int), .int .u8 ((s 2).toNat : Int), .int .u8 ((s 3).toNat : Int), .int .u8 ((s 4).toNat : Int), .int .u8 ((s 5).toNat : Int), .int .u32 (x : Int), .int .u32 (y : Int)] 41 (0, 0)) := ⟨_, _, _, rfl, rfl, rfl, by simp, (Below.refl _ _).alloc (Nat.le_refl _) _, heap_alloc_new _ _⟩
      have hz0 : w.heap.size + 1 = w0.heap.size := by rw [← hq0]; simp
      have hown : wq.ownsRow w0.heap.size 5 1 (.slice (some ⟨w0.heap.size, 0, none⟩) 8 8) 8 (([0, 1, 8, 0, 6, 4, 0, (o : Int)] : List Int).map (Value.int .u8)) := by
        rw [← hq]
        exact World.ownsRow_lit w0 #[.int .u8 0, .int .u8 1, .int .u8 8, .int .u8 0, .int .u8 6, .int .u8 4, .int .u8 0, .int .u8 (o : Int)] 8 (Nat.le_refl _) (by unfold maxLen; omega) rfl
      have hbq : Below w0.heap.size w0 wq := by rw [← hq]; exact (Below.refl _ _).alloc (Nat.le_refl _) _
      try rw [hq0]
      try rw [hq]
      try rw [hB]
      have hzz : B0 + 1 = w0.heap.size := by omega
      try rw [hzz]
      clear hzz
      have HD := hide (arp_from hheap)
      have HT := hide (arp_to hheap)
      have HC := hide (arp_cells hheap)
      have HBQ := hide hbq
      have HBW := hide hbel
      have HX1 := hide (app_ch w0 wq.drew w0.heap.size _ 8 _ hown.drew (some ⟨B0, 1, none⟩) [((d 0).toNat : Int), ((d 1).toNat : Int), ((d 2).toNat : Int), ((d 3).toNat : Int), ((d 4).toNat : Int), ((d 5).toNat : Int)] 6 6 ((HD.out.below hbq (Nat.le_refl _)).below (Below.refl _ _).drew (Nat.le_refl _)) rfl (fun h => by cases h) (by omega) hbq.size hbq.drew)
      have hcell : ∀ V, Below w0.heap.size w0 V → V.cell? ⟨B0, 13, none⟩ = some (.int .u32 (x : Int)) ∧ V.cell? ⟨B0, 14, none⟩ = some (.int .u32 (y : Int)) := fun V hV => ⟨(bcell hV B0 13 hlt).trans (by simp only [World.cell?, hheap]; rfl), (bcell hV B0 14 hlt).trans (by simp only [World.cell?, hheap]; rfl)⟩
      have HCL := hide hcell
      obtain ⟨cx, cy⟩ := hcell wq hbq
      have HQ0 := hide hq0
      have HQ := hide hq
      have HBe := hide hB
      have HZ0 := hide hz0
      clear hcell hq0 hq hB hz0 hown hbq hbel hheap
      go_region_held3 (fun w' => w'.cell? ⟨B0, 13, none⟩ = some (.int .u32 (x : Int))) (go_keep) (first
        | (go_at_call 36; (with_reducible refine (four_any x _ ?_).mono ?_); (exact hx); rintro e w3 ⟨a3, c3, rfl, hr3, hb3, hn3⟩;
            have B3 := hide (HP1.out.2.1.trans (hb3.mono HP1.out.2.2)); obtain ⟨c3x, c3y⟩ := HCL.out w3 B3.out;
            have HX2 := hide (app_ch w0 w3 w0.heap.size v1 (8 + 6) _ (owns_below HP1.out.1 hb3 (Nat.le_refl _)) a3 (numB 4 x) 4 c3 hr3 (numB_len _ _) hn3 (by omega) (Nat.le_trans HP1.out.2.2 hb3.size) B3.out); clear hr3 hb3 hn3)
        | (refine step_append_ex rfl (.tmp 18) (.tmp 20) 22 22 rfl _ _ rfl rfl _ HX1.out ?_; rintro v1 w1 HP1; obtain ⟨c1x, c1y⟩ := HCL.out w1 HP1.out.2.1)
        | (refine step_append_ex rfl (.tmp 21) (.tmp 24) 22 22 rfl _ _ rfl rfl _ HX2.out ?_; rintro v4 w4 HP4; obtain ⟨c4x, c4y⟩ := HCL.out w4 HP4.out.2.1)
        | fail)
      have HX3 := hide (app_ch w0 w4.drew w0.heap.size v4 (8 + 6 + 4) _ HP4.out.1.drew (some ⟨B0, 7, none⟩) [((s 0).toNat : Int), ((s 1).toNat : Int), ((s 2).toNat : Int), ((s 3).toNat : Int), ((s 4).toNat : Int), ((s 5).toNat : Int)] 6 6 (HT.out.below HP4.out.2.1.drew (Nat.le_refl _)) rfl (fun h => by cases h) (by omega) HP4.out.2.2 HP4.out.2.1.drew)
      go_wp2_with fail
      go_region_held3 (fun w' => w'.cell? ⟨B0, 14, none⟩ = some (.int .u32 (y : Int))) (go_keep) (first
        | (go_at_call 36; (with_reducible refine (four_any y _ ?_).mono ?_); (exact hy); rintro e w6 ⟨a6, c6, rfl, hr6, hb6, hn6⟩;
            have B6 := hide (HP5.out.2.1.trans (hb6.mono HP5.out.2.2)); obtain ⟨c6x, c6y⟩ := HCL.out w6 B6.out;
            have HX4 := hide (app_ch w0 w6 w0.heap.size v5 (8 + 6 + 4 + 6) _ (owns_below HP5.out.1 hb6 (Nat.le_refl _)) a6 (numB 4 y) 4 c6 hr6 (numB_len _ _) hn6 (by omega) (Nat.le_trans HP5.out.2.2 hb6.size) B6.out); clear hr6 hb6 hn6)
        | (refine step_append_ex rfl (.tmp 26) (.tmp 28) 22 22 rfl _ _ rfl rfl _ HX3.out ?_; rintro v5 w5 HP5; obtain ⟨c5x, c5y⟩ := HCL.out w5 HP5.out.2.1)
        | (refine step_append_ex rfl (.tmp 29) (.tmp 32) 22 22 rfl _ _ rfl rfl _ HX4.out ?_; rintro v7 w7 HP7; obtain ⟨c7x, c7y⟩ := HCL.out w7 HP7.out.2.1)
        | fail)
      obtain ⟨a5, c5, rfl⟩ := slice_form HP7.out.1
      have hfin := HP7.out
      have hL : [0, 1, 8, 0, 6, 4, 0, (o : Int)] ++ [((d 0).toNat : Int), ((d 1).toNat : Int), ((d 2).toNat : Int), ((d 3).toNat : Int), ((d 4).toNat : Int), ((d 5).toNat : Int)] ++ numB 4 x ++ [((s 0).toNat : Int), ((s 1).toNat : Int), ((s 2).toNat : Int), ((s 3).toNat : Int), ((s 4).toNat : Int), ((s 5).toNat : Int)] ++ numB 4 y = arpL o d s x y := by
        unfold arpL
        rw [HNB.out]
        rfl
      rw [hL] at hfin
      have hbw := HBW.out.trans (hfin.2.1.mono HBW.out.size)
      have HO := hide (owns_mono hfin.1 HBW.out.size)
      have HBF := hide hbw
      clear hfin hbw cx cy c1x c1y c3x c3y c4x c4y c5x c5y c6x c6y c7x c7y hL
      go_wp2
      go_ret2
      exact ⟨a5, c5, rfl, HO.out, HBF.out⟩
    · obtain rfl := hb2' rfl
      clear hb2' hgd
      go_enter Try.func12, Try.ntmps12
      go_wp2_with fail
      obtain ⟨B0, w0, wq, hB, hq0, hq, hlt, hbel, hheap⟩ : ∃ B0 w0 wq, w.heap.size = B0 ∧ w.alloc (.cells #[.int .u16 (o : Int), .int .u8 ((d 0).toNat : Int), .int .u8 ((d 1).toNat : Int), .int .u8 ((d 2).toNat : Int), .int .u8 ((d 3).toNat : Int), .int .u8 ((d 4).toNat : Int), .int .u8 ((d 5).toNat : Int), .int .u8 ((s 0).toNat : Int), .int .u8 ((s 1).toNat : Int), .int .u8 ((s 2).toNat : Int), .int .u8 ((s 3).toNat : Int), .int .u8 ((s 4).toNat : Int), .int .u8 ((s 5).toNat : Int), .int .u32 (x : Int), .int .u32 (y : Int)] 41) = w0 ∧ w0.alloc (.cells #[.int .u8 0, .int .u8 1, .int .u8 8, .int .u8 0, .int .u8 6, .int .u8 4, .int .u8 0, .int .u8 (o : Int)] 5) = wq ∧ B0 < w0.heap.size ∧ Below w.heap.size w w0 ∧
          w0.heap[B0]? = some (.cells #[.int .u16 (o : Int), .int .u8 ((d 0).toNat : Int), .int .u8 ((d 1).toNat : Int), .int .u8 ((d 2).toNat : Int), .int .u8 ((d 3).toNat : Int), .int .u8 ((d 4).toNat : Int), .int .u8 ((d 5).toNat : Int), .int .u8 ((s 0).toNat : Int), .int .u8 ((s 1).toNat : Int), .int .u8 ((s 2).toNat : Int), .int .u8 ((s 3).toNat : Int), .int .u8 ((s 4).toNat : Int), .int .u8 ((s 5).toNat : Int), .int .u32 (x : Int), .int .u32 (y : Int)] 41 (0, 0)) := ⟨_, _, _, rfl, rfl, rfl, by simp, (Below.refl _ _).alloc (Nat.le_refl _) _, heap_alloc_new _ _⟩
      have hz0 : w.heap.size + 1 = w0.heap.size := by rw [← hq0]; simp
      have hown : wq.ownsRow w0.heap.size 5 1 (.slice (some ⟨w0.heap.size, 0, none⟩) 8 8) 8 (([0, 1, 8, 0, 6, 4, 0, (o : Int)] : List Int).map (Value.int .u8)) := by
        rw [← hq]
        exact World.ownsRow_lit w0 #[.int .u8 0, .int .u8 1, .int .u8 8, .int .u8 0, .int .u8 6, .int .u8 4, .int .u8 0, .int .u8 (o : Int)] 8 (Nat.le_refl _) (by unfold maxLen; omega) rfl
      have hbq : Below w0.heap.size w0 wq := by rw [← hq]; exact (Below.refl _ _).alloc (Nat.le_refl _) _
      try rw [hq0]
      try rw [hq]
      try rw [hB]
      have hzz : B0 + 1 = w0.heap.size := by omega
      try rw [hzz]
      clear hzz
      have HD := hide (arp_from hheap)
      have HT := hide (arp_to hheap)
      have HC := hide (arp_cells hheap)
      have HBQ := hide hbq
      have HBW := hide hbel
      have HX1 := hide (app_ch w0 wq.drew w0.heap.size _ 8 _ hown.drew (some ⟨B0, 1, none⟩) [((d 0).toNat : Int), ((d 1).toNat : Int), ((d 2).toNat : Int), ((d 3).toNat : Int), ((d 4).toNat : Int), ((d 5).toNat : Int)] 6 6 ((HD.out.below hbq (Nat.le_refl _)).below (Below.refl _ _).drew (Nat.le_refl _)) rfl (fun h => by cases h) (by omega) hbq.size hbq.drew)
      have hcell : ∀ V, Below w0.heap.size w0 V → V.cell? ⟨B0, 13, none⟩ = some (.int .u32 (x : Int)) ∧ V.cell? ⟨B0, 14, none⟩ = some (.int .u32 (y : Int)) := fun V hV => ⟨(bcell hV B0 13 hlt).trans (by simp only [World.cell?, hheap]; rfl), (bcell hV B0 14 hlt).trans (by simp only [World.cell?, hheap]; rfl)⟩
      have HCL := hide hcell
      obtain ⟨cx, cy⟩ := hcell wq hbq
      have HQ0 := hide hq0
      have HQ := hide hq
      have HBe := hide hB
      have HZ0 := hide hz0
      clear hcell hq0 hq hB hz0 hown hbq hbel hheap
      go_region_held3 (fun w' => w'.cell? ⟨B0, 13, none⟩ = some (.int .u32 (x : Int))) (go_keep) (first
        | (go_at_call 36; (with_reducible refine (four_any x _ ?_).mono ?_); (exact hx); rintro e w3 ⟨a3, c3, rfl, hr3, hb3, hn3⟩;
            have B3 := hide (HP1.out.2.1.trans (hb3.mono HP1.out.2.2)); obtain ⟨c3x, c3y⟩ := HCL.out w3 B3.out;
            have HX2 := hide (app_ch w0 w3 w0.heap.size v1 (8 + 6) _ (owns_below HP1.out.1 hb3 (Nat.le_refl _)) a3 (numB 4 x) 4 c3 hr3 (numB_len _ _) hn3 (by omega) (Nat.le_trans HP1.out.2.2 hb3.size) B3.out); clear hr3 hb3 hn3)
        | (refine step_append_ex rfl (.tmp 18) (.tmp 20) 22 22 rfl _ _ rfl rfl _ HX1.out ?_; rintro v1 w1 HP1; obtain ⟨c1x, c1y⟩ := HCL.out w1 HP1.out.2.1)
        | (refine step_append_ex rfl (.tmp 21) (.tmp 24) 22 22 rfl _ _ rfl rfl _ HX2.out ?_; rintro v4 w4 HP4; obtain ⟨c4x, c4y⟩ := HCL.out w4 HP4.out.2.1)
        | fail)
      have HX3 := hide (app_ch w0 w4.drew w0.heap.size v4 (8 + 6 + 4) _ HP4.out.1.drew (some ⟨B0, 7, none⟩) [((s 0).toNat : Int), ((s 1).toNat : Int), ((s 2).toNat : Int), ((s 3).toNat : Int), ((s 4).toNat : Int), ((s 5).toNat : Int)] 6 6 (HT.out.below HP4.out.2.1.drew (Nat.le_refl _)) rfl (fun h => by cases h) (by omega) HP4.out.2.2 HP4.out.2.1.drew)
      go_wp2_with fail
      go_region_held3 (fun w' => w'.cell? ⟨B0, 14, none⟩ = some (.int .u32 (y : Int))) (go_keep) (first
        | (go_at_call 36; (with_reducible refine (four_any y _ ?_).mono ?_); (exact hy); rintro e w6 ⟨a6, c6, rfl, hr6, hb6, hn6⟩;
            have B6 := hide (HP5.out.2.1.trans (hb6.mono HP5.out.2.2)); obtain ⟨c6x, c6y⟩ := HCL.out w6 B6.out;
            have HX4 := hide (app_ch w0 w6 w0.heap.size v5 (8 + 6 + 4 + 6) _ (owns_below HP5.out.1 hb6 (Nat.le_refl _)) a6 (numB 4 y) 4 c6 hr6 (numB_len _ _) hn6 (by omega) (Nat.le_trans HP5.out.2.2 hb6.size) B6.out); clear hr6 hb6 hn6)
        | (refine step_append_ex rfl (.tmp 26) (.tmp 28) 22 22 rfl _ _ rfl rfl _ HX3.out ?_; rintro v5 w5 HP5; obtain ⟨c5x, c5y⟩ := HCL.out w5 HP5.out.2.1)
        | (refine step_append_ex rfl (.tmp 29) (.tmp 32) 22 22 rfl _ _ rfl rfl _ HX4.out ?_; rintro v7 w7 HP7; obtain ⟨c7x, c7y⟩ := HCL.out w7 HP7.out.2.1)
        | fail)
      obtain ⟨a5, c5, rfl⟩ := slice_form HP7.out.1
      have hfin := HP7.out
      have hL : [0, 1, 8, 0, 6, 4, 0, (o : Int)] ++ [((d 0).toNat : Int), ((d 1).toNat : Int), ((d 2).toNat : Int), ((d 3).toNat : Int), ((d 4).toNat : Int), ((d 5).toNat : Int)] ++ numB 4 x ++ [((s 0).toNat : Int), ((s 1).toNat : Int), ((s 2).toNat : Int), ((s 3).toNat : Int), ((s 4).toNat : Int), ((s 5).toNat : Int)] ++ numB 4 y = arpL o d s x y := by
        unfold arpL
        rw [HNB.out]
        rfl
      rw [hL] at hfin
      have hbw := HBW.out.trans (hfin.2.1.mono HBW.out.size)
      have HO := hide (owns_mono hfin.1 HBW.out.size)
      have HBF := hide hbw
      clear hfin hbw cx cy c1x c1y c3x c3y c4x c4y c5x c5y c6x c6y c7x c7y hL
      go_wp2
      go_ret2
      exact ⟨a5, c5, rfl, HO.out, HBF.out⟩
  exact key _ rfl
end Go.Proofs.Ytgpmgfpmfdaecaa
