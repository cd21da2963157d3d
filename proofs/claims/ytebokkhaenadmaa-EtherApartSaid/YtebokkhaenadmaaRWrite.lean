/- What the document's Write of frames answers. -/
import Derived.Test.YtebokkhaenadmaaESpeaks
import Derived.Test.YtebokkhaenadmaaREye
namespace Go.Proofs.Ytebokkhaenadmaa
open Go.RowKit
set_option linter.unusedVariables false
set_option linter.unusedSimpArgs false
/-- An append onto a row of one's own: it runs. -/
theorem app_own (V : World) (base : Nat) (v : Value) (n : Nat) (xs : List Int) (hV : V.ownsRow base 5 1 v n (xs.map (Value.int .u8))) (a : Option Addr) (ys : List Int) (m c : Nat) (hr : Row .u8 V a ys) (hl : ys.length = m) (hn : a = none → c = 0)
    (hs : n + m ≤ 1099511627776) (hb : base ≤ V.heap.size) :
    ∃ v' w', (Builtin.append_ #[27, 27] 27 #[v, .slice a m c]).run Try.prog V = .ok v' w' ∧ (w'.ownsRow base 5 1 v' (n + m) ((xs ++ ys).map (Value.int .u8)) ∧ Below base V w') := by
  obtain ⟨i0, hi, hz0, hz1, hz2⟩ := info_parts Try.info5
  cases a with
  | none =>
    have hy : ys = [] := row_none hr
    have hm0 : m = 0 := by rw [← hl, hy]; rfl
    have hrun := run_append_owned_none (P := Try.prog) (w := V) base 27 27 5 i0 1 Try.underlying27 hi v n (xs.map (Value.int .u8)) hV
    rw [hn rfl, hm0, hy, List.append_nil]
    exact ⟨_, _, hrun, hV, Below.refl _ _⟩
  | some ad =>
    obtain ⟨v', w', h1, h2, h3, _⟩ := run_append_own (P := Try.prog) V base 27 27 5 i0 (.int .u8 0) 1 1 Try.underlying27 hi hz0 hz1 hz2 rfl (by decide) v n (xs.map (Value.int .u8)) hV ad m c (ys.map (Value.int .u8)) (by simp [hl]) (row_cells hr) (ints_one _ _) (by unfold maxLen; omega) (by omega) hb
    rw [← List.map_append] at h2
    exact ⟨_, _, h1, h2, (Below.refl base V).grown h3 hb (fun k e => (hV.lt k e).1)⟩
theorem refNum2_any (n : Nat) (w : World) (hn : n < 18446744073709551616) :
    Calls Try.prog 21 #[.int .i64 2, .int .u64 n] w fun e w' => ∃ a c, e = .returned (.slice a 2 c) ∧ Row .u8 w' a (numB 2 n) ∧ Below w.heap.size w w' ∧ (a = none → c = 0) := refNum_full 2 n w hn
theorem refNum4_any (n : Nat) (w : World) (hn : n < 18446744073709551616) :
    Calls Try.prog 21 #[.int .i64 4, .int .u64 n] w fun e w' => ∃ a c, e = .returned (.slice a 4 c) ∧ Row .u8 w' a (numB 4 n) ∧ Below w.heap.size w w' ∧ (a = none → c = 0) := refNum_full 4 n w hn

set_option maxRecDepth 100000 in
set_option maxHeartbeats 1600000 in
theorem rwrite_ok (w : World) (d s : Nat → UInt8) (k : Nat) (ba : Option Addr) (body : List Int) (n bc : Nat) (hr : Row .u8 w ba body) (hn : ba = none → bc = 0) (hbl : body.length = n) (h1 : n ≤ 1500) (h2 : 1536 ≤ k) (h3 : k ≤ 65535) :
    Calls Try.prog 11 #[.agg #[.int .u8 ((d 0).toNat : Int), .int .u8 ((d 1).toNat : Int), .int .u8 ((d 2).toNat : Int), .int .u8 ((d 3).toNat : Int), .int .u8 ((d 4).toNat : Int), .int .u8 ((d 5).toNat : Int), .int .u8 ((s 0).toNat : Int), .int .u8 ((s 1).toNat : Int), .int .u8 ((s 2).toNat : Int), .int .u8 ((s 3).toNat : Int), .int .u8 ((s 4).toNat : Int), .int .u8 ((s 5).toNat : Int), .int .u16 (k : Int), .slice ba n bc]] w fun e w' => ∃ a c,
      e = .returned (.tuple #[.slice a (14 + n) c, .int .i64 0]) ∧ w'.ownsRow w.heap.size 5 1 (.slice a (14 + n) c) (14 + n) (([((d 0).toNat : Int), ((d 1).toNat : Int), ((d 2).toNat : Int), ((d 3).toNat : Int), ((d 4).toNat : Int), ((d 5).toNat : Int)] ++ [((s 0).toNat : Int), ((s 1).toNat : Int), ((s 2).toNat : Int), ((s 3).toNat : Int), ((s 4).toNat : Int), ((s 5).toNat : Int)] ++ numB 2 k ++ body).map (Value.int .u8)) ∧ Below w.heap.size w w' := by
  have HR := hide hr
  have HN := hide hn
  have HL := hide hbl
  clear hr hn hbl
  go_enter Try.func11, Try.ntmps11
  go_wp2_with fail
  obtain ⟨B0, wq, hB, hq, hlt, hbel, hheap⟩ : ∃ B0 wq, w.heap.size = B0 ∧ w.alloc (.cells #[.int .u8 ((d 0).toNat : Int), .int .u8 ((d 1).toNat : Int), .int .u8 ((d 2).toNat : Int), .int .u8 ((d 3).toNat : Int), .int .u8 ((d 4).toNat : Int), .int .u8 ((d 5).toNat : Int), .int .u8 ((s 0).toNat : Int), .int .u8 ((s 1).toNat : Int), .int .u8 ((s 2).toNat : Int), .int .u8 ((s 3).toNat : Int), .int .u8 ((s 4).toNat : Int), .int .u8 ((s 5).toNat : Int), .int .u16 (k : Int), .slice ba n bc] 29) = wq ∧ B0 < wq.heap.size ∧ Below w.heap.size w wq ∧
      wq.heap[B0]? = some (.cells #[.int .u8 ((d 0).toNat : Int), .int .u8 ((d 1).toNat : Int), .int .u8 ((d 2).toNat : Int), .int .u8 ((d 3).toNat : Int), .int .u8 ((d 4).toNat : Int), .int .u8 ((d 5).toNat : Int), .int .u8 ((s 0).toNat : Int), .int .u8 ((s 1).toNat : Int), .int .u8 ((s 2).toNat : Int), .int .u8 ((s 3).toNat : Int), .int .u8 ((s 4).toNat : Int), .int .u8 ((s 5).toNat : Int), .int .u16 (k : Int), .slice ba n bc] 29 (0, 0)) := ⟨_, _, rfl, rfl, by simp, (Below.refl _ _).alloc (Nat.le_refl _) _, heap_alloc_new _ _⟩
  rw [hq, hB]
  have HB := hide hB
  have R0 := hide (frame_dst hheap)
  have R1 := hide (frame_src hheap)
  have R2 := hide (HR.out.below hbel (Nat.le_refl _))
  have HH := hide hheap
  have hcw : IntKind.u64.wrap (k : Int) = (k : Int) := wraps_u64 _ (by omega) (by omega)
  clear hq hB hheap
  have hap1 : ∀ V, Below wq.heap.size wq V → ∀ v, V.ownsRow wq.heap.size 5 1 v 0 (([] : List Int).map (Value.int .u8)) → ∃ v' w', (Builtin.append_ #[27, 27] 27 #[v, .slice (some ⟨B0, 0, none⟩) 6 6]).run Try.prog V = .ok v' w' ∧ Hid (w'.ownsRow wq.heap.size 5 1 v' (0 + 6) (([] ++ [((d 0).toNat : Int), ((d 1).toNat : Int), ((d 2).toNat : Int), ((d 3).toNat : Int), ((d 4).toNat : Int), ((d 5).toNat : Int)]).map (Value.int .u8)) ∧ Below wq.heap.size wq w') := fun V hV v hv => by
    obtain ⟨v', w', g1, g2, g3⟩ := app_own V wq.heap.size v 0 [] hv (some ⟨B0, 0, none⟩) [((d 0).toNat : Int), ((d 1).toNat : Int), ((d 2).toNat : Int), ((d 3).toNat : Int), ((d 4).toNat : Int), ((d 5).toNat : Int)] 6 6 (R0.out.below hV (Nat.le_refl _)) rfl (fun h => by cases h) (by omega) hV.size
    exact ⟨v', w', g1, g2, hV.trans g3⟩
  have hap2 : ∀ V, Below wq.heap.size wq V → ∀ v, V.ownsRow wq.heap.size 5 1 v (0 + 6) (([] ++ [((d 0).toNat : Int), ((d 1).toNat : Int), ((d 2).toNat : Int), ((d 3).toNat : Int), ((d 4).toNat : Int), ((d 5).toNat : Int)]).map (Value.int .u8)) → ∃ v' w', (Builtin.append_ #[27, 27] 27 #[v, .slice (some ⟨B0, 6, none⟩) 6 6]).run Try.prog V = .ok v' w' ∧ Hid (w'.ownsRow wq.heap.size 5 1 v' (0 + 6 + 6) (([] ++ [((d 0).toNat : Int), ((d 1).toNat : Int), ((d 2).toNat : Int), ((d 3).toNat : Int), ((d 4).toNat : Int), ((d 5).toNat : Int)] ++ [((s 0).toNat : Int), ((s 1).toNat : Int), ((s 2).toNat : Int), ((s 3).toNat : Int), ((s 4).toNat : Int), ((s 5).toNat : Int)]).map (Value.int .u8)) ∧ Below wq.heap.size wq w') := fun V hV v hv => by
    obtain ⟨v', w', g1, g2, g3⟩ := app_own V wq.heap.size v (0 + 6) _ hv (some ⟨B0, 6, none⟩) [((s 0).toNat : Int), ((s 1).toNat : Int), ((s 2).toNat : Int), ((s 3).toNat : Int), ((s 4).toNat : Int), ((s 5).toNat : Int)] 6 6 (R1.out.below hV (Nat.le_refl _)) rfl (fun h => by cases h) (by omega) hV.size
    exact ⟨v', w', g1, g2, hV.trans g3⟩
  have HA1 := hide hap1
  have HA2 := hide hap2
  clear hap1 hap2
  have hown0 := (World.ownsRow_lit (base := wq.heap.size) (e := 5) (size := 1) wq #[] 0 (Nat.le_refl _) (by unfold maxLen; omega) rfl).drew
  have hb0 : Below wq.heap.size wq (wq.alloc (.cells #[] 5)).drew := ((Below.refl _ _).alloc (Nat.le_refl _) _).drew
  have HX1 := hide (HA1.out _ hb0 _ hown0)
  clear hown0 hb0
  go_region_held3 (fun w' => True) (trivial) (first
    | (refine step_append_ex rfl (.tmp 14) (.tmp 16) 27 27 rfl _ _ rfl rfl _ HX1.out ?_; rintro v1 w1 HP1; have HX2 := hide (HA2.out w1 HP1.out.2 v1 HP1.out.1))
    | (refine step_append_ex rfl (.tmp 17) (.tmp 19) 27 27 rfl _ _ rfl rfl _ HX2.out ?_; rintro v2 w2 HP2))
  have c12 : w2.cell? ⟨B0, 12, none⟩ = some (.int .u16 k) := (bcell HP2.out.2 B0 12 hlt).trans (by simp only [World.cell?, HH.out]; rfl)
  have c13 : w2.cell? ⟨B0, 13, none⟩ = some (.slice ba n bc) := (bcell HP2.out.2 B0 13 hlt).trans (by simp only [World.cell?, HH.out]; rfl)
  have hap3 : ∀ V, Below w2.heap.size w2 V → ∀ a c, Row .u8 V a (numB 2 k) → (a = none → c = 0) → ∃ v' w', (Builtin.append_ #[27, 27] 27 #[v2, .slice a 2 c]).run Try.prog V = .ok v' w' ∧ Hid (w'.ownsRow wq.heap.size 5 1 v' (0 + 6 + 6 + 2) (([] ++ [((d 0).toNat : Int), ((d 1).toNat : Int), ((d 2).toNat : Int), ((d 3).toNat : Int), ((d 4).toNat : Int), ((d 5).toNat : Int)] ++ [((s 0).toNat : Int), ((s 1).toNat : Int), ((s 2).toNat : Int), ((s 3).toNat : Int), ((s 4).toNat : Int), ((s 5).toNat : Int)] ++ numB 2 k).map (Value.int .u8)) ∧ Below wq.heap.size wq w') := fun V hV a c hr hn => by
    have hqv := HP2.out.2.trans (hV.mono HP2.out.2.size)
    obtain ⟨v', w', g1, g2, g3⟩ := app_own V wq.heap.size v2 (0 + 6 + 6) _ (owns_below HP2.out.1 hV (Nat.le_refl _)) a (numB 2 k) 2 c hr (numB_len _ _) hn (by omega) hqv.size
    exact ⟨v', w', g1, g2, hqv.trans g3⟩
  have hap4 : ∀ V, Below wq.heap.size wq V → ∀ v, V.ownsRow wq.heap.size 5 1 v (0 + 6 + 6 + 2) (([] ++ [((d 0).toNat : Int), ((d 1).toNat : Int), ((d 2).toNat : Int), ((d 3).toNat : Int), ((d 4).toNat : Int), ((d 5).toNat : Int)] ++ [((s 0).toNat : Int), ((s 1).toNat : Int), ((s 2).toNat : Int), ((s 3).toNat : Int), ((s 4).toNat : Int), ((s 5).toNat : Int)] ++ numB 2 k).map (Value.int .u8)) → ∃ v' w', (Builtin.append_ #[27, 27] 27 #[v, .slice ba n bc]).run Try.prog V = .ok v' w' ∧ Hid (w'.ownsRow wq.heap.size 5 1 v' (0 + 6 + 6 + 2 + n) (([] ++ [((d 0).toNat : Int), ((d 1).toNat : Int), ((d 2).toNat : Int), ((d 3).toNat : Int), ((d 4).toNat : Int), ((d 5).toNat : Int)] ++ [((s 0).toNat : Int), ((s 1).toNat : Int), ((s 2).toNat : Int), ((s 3).toNat : Int), ((s 4).toNat : Int), ((s 5).toNat : Int)] ++ numB 2 k ++ body).map (Value.int .u8)) ∧ Below wq.heap.size wq w') := fun V hV v hv => by
    obtain ⟨v', w', g1, g2, g3⟩ := app_own V wq.heap.size v _ _ hv ba body n bc (R2.out.below hV (Nat.le_refl _)) HL.out HN.out (by omega) hV.size
    exact ⟨v', w', g1, g2, hV.trans g3⟩
  have HA3 := hide hap3
  have HA4 := hide hap4
  clear hap3 hap4
  have hlt2 : B0 < w2.heap.size := Nat.lt_of_lt_of_le hlt HP2.out.2.size
  go_wp2_with fail
  go_region_held3 (fun w' => w'.cell? ⟨B0, 12, none⟩ = some (.int .u16 k) ∧ w'.cell? ⟨B0, 13, none⟩ = some (.slice ba n bc)) (go_keep) (first
    | (go_at_call 21; (with_reducible refine (refNum2_any k _ ?_).mono ?_); omega; rintro e w3 ⟨a3, c3, rfl, hr3, hb3, hn3⟩; have k12 := (bcell hb3 B0 12 hlt2).trans c12; have k13 := (bcell hb3 B0 13 hlt2).trans c13; have hb3' : Below w2.heap.size w2 w3 := (Below.refl _ _).drew.trans hb3; have HX3 := hide (HA3.out w3 hb3' a3 c3 hr3 hn3); clear hr3 hb3 hn3 hb3')
    | (refine step_append_ex rfl (.tmp 21) (.tmp 25) 27 27 rfl _ _ rfl rfl _ HX3.out ?_; rintro v4 w4 HP4; have k12' : w4.cell? ⟨B0, 12, none⟩ = some (.int .u16 k) := (bcell HP4.out.2 B0 12 hlt).trans (by simp only [World.cell?, HH.out]; rfl); have k13' : w4.cell? ⟨B0, 13, none⟩ = some (.slice ba n bc) := (bcell HP4.out.2 B0 13 hlt).trans (by simp only [World.cell?, HH.out]; rfl); have HX4 := hide (HA4.out w4 HP4.out.2 v4 HP4.out.1))
    | (refine step_append_ex rfl (.tmp 26) (.tmp 28) 27 27 rfl _ _ rfl rfl _ HX4.out ?_; rintro v5 w5 HP5; have k12'' : w5.cell? ⟨B0, 12, none⟩ = some (.int .u16 k) := (bcell HP5.out.2 B0 12 hlt).trans (by simp only [World.cell?, HH.out]; rfl); have k13'' : w5.cell? ⟨B0, 13, none⟩ = some (.slice ba n bc) := (bcell HP5.out.2 B0 13 hlt).trans (by simp only [World.cell?, HH.out]; rfl)))
  obtain ⟨a5, c5, rfl⟩ := slice_form HP5.out.1
  have hfin := HP5.out
  rw [show 0 + 6 + 6 + 2 + n = 14 + n by omega, List.nil_append] at hfin
  have hbw : Below w.heap.size w w5 := hbel.trans (hfin.2.mono hbel.size)
  have HO := hide (owns_mono hfin.1 hbel.size)
  clear hfin c12 c13 k12 k13 k12' k13' k12'' k13''
  rw [show 0 + 6 + 6 + 2 + n = 14 + n by omega]
  go_wp2
  go_ret2
  exact ⟨a5, c5, rfl, HO.out, hbw⟩
set_option maxHeartbeats 800000 in
theorem rwrite_long (w : World) (d s : Nat → UInt8) (k : Int) (ba : Option Addr) (n bc : Nat) (h1 : 1500 < n) :
    Calls Try.prog 11 #[.agg #[.int .u8 ((d 0).toNat : Int), .int .u8 ((d 1).toNat : Int), .int .u8 ((d 2).toNat : Int), .int .u8 ((d 3).toNat : Int), .int .u8 ((d 4).toNat : Int), .int .u8 ((d 5).toNat : Int), .int .u8 ((s 0).toNat : Int), .int .u8 ((s 1).toNat : Int), .int .u8 ((s 2).toNat : Int), .int .u8 ((s 3).toNat : Int), .int .u8 ((s 4).toNat : Int), .int .u8 ((s 5).toNat : Int), .int .u16 k, .slice ba n bc]] w fun e w' => ∃ g, e = .returned (.tuple #[.slice (some ⟨g, 0, none⟩) 0 0, .int .i64 14]) ∧ Below w.heap.size w w' := by
  go_enter Try.func11, Try.ntmps11
  go_wp2
  go_ret2
  exact ⟨_, rfl, ((Below.refl _ _).alloc (Nat.le_refl _) _).alloc (by simp) _⟩
set_option maxHeartbeats 800000 in
theorem rwrite_arg (w : World) (d s : Nat → UInt8) (k : Int) (ba : Option Addr) (n bc : Nat) (h1 : n ≤ 1500) (h2 : k < 1536) :
    Calls Try.prog 11 #[.agg #[.int .u8 ((d 0).toNat : Int), .int .u8 ((d 1).toNat : Int), .int .u8 ((d 2).toNat : Int), .int .u8 ((d 3).toNat : Int), .int .u8 ((d 4).toNat : Int), .int .u8 ((d 5).toNat : Int), .int .u8 ((s 0).toNat : Int), .int .u8 ((s 1).toNat : Int), .int .u8 ((s 2).toNat : Int), .int .u8 ((s 3).toNat : Int), .int .u8 ((s 4).toNat : Int), .int .u8 ((s 5).toNat : Int), .int .u16 k, .slice ba n bc]] w fun e w' => ∃ g, e = .returned (.tuple #[.slice (some ⟨g, 0, none⟩) 0 0, .int .i64 1]) ∧ Below w.heap.size w w' := by
  go_enter Try.func11, Try.ntmps11
  go_wp2
  go_ret2
  exact ⟨_, rfl, ((Below.refl _ _).alloc (Nat.le_refl _) _).alloc (by simp) _⟩
set_option maxHeartbeats 800000 in
theorem ewrite_long (w : World) (d s : Nat → UInt8) (k : Int) (ba : Option Addr) (n bc : Nat) (h1 : 1500 < n) :
    Calls Try.prog 10 #[.agg #[.int .u8 ((d 0).toNat : Int), .int .u8 ((d 1).toNat : Int), .int .u8 ((d 2).toNat : Int), .int .u8 ((d 3).toNat : Int), .int .u8 ((d 4).toNat : Int), .int .u8 ((d 5).toNat : Int), .int .u8 ((s 0).toNat : Int), .int .u8 ((s 1).toNat : Int), .int .u8 ((s 2).toNat : Int), .int .u8 ((s 3).toNat : Int), .int .u8 ((s 4).toNat : Int), .int .u8 ((s 5).toNat : Int), .int .u16 k, .slice ba n bc]] w fun e w' => e = .returned (.tuple #[.slice none 0 0, .int .i64 14]) ∧ Below w.heap.size w w' := by
  go_enter Try.func10, Try.ntmps10
  go_wp2
  go_ret2
  exact ⟨rfl, (Below.refl _ _).alloc (Nat.le_refl _) _⟩
set_option maxHeartbeats 800000 in
theorem ewrite_arg (w : World) (d s : Nat → UInt8) (k : Int) (ba : Option Addr) (n bc : Nat) (h1 : n ≤ 1500) (h2 : k < 1536) :
    Calls Try.prog 10 #[.agg #[.int .u8 ((d 0).toNat : Int), .int .u8 ((d 1).toNat : Int), .int .u8 ((d 2).toNat : Int), .int .u8 ((d 3).toNat : Int), .int .u8 ((d 4).toNat : Int), .int .u8 ((d 5).toNat : Int), .int .u8 ((s 0).toNat : Int), .int .u8 ((s 1).toNat : Int), .int .u8 ((s 2).toNat : Int), .int .u8 ((s 3).toNat : Int), .int .u8 ((s 4).toNat : Int), .int .u8 ((s 5).toNat : Int), .int .u16 k, .slice ba n bc]] w fun e w' => e = .returned (.tuple #[.slice none 0 0, .int .i64 1]) ∧ Below w.heap.size w w' := by
  go_enter Try.func10, Try.ntmps10
  go_wp2
  go_ret2
  exact ⟨rfl, (Below.refl _ _).alloc (Nat.le_refl _) _⟩
end Go.Proofs.Ytebokkhaenadmaa
