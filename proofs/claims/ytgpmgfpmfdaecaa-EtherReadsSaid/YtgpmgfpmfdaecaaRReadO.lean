/- What the document's Read of frames answers of a right frame. -/
import Derived.Test.YtgpmgfpmfdaecaaRRead
namespace Go.Proofs.Ytgpmgfpmfdaecaa
open Go.RowKit
set_option linter.unusedVariables false
set_option linter.unusedSimpArgs false
set_option maxRecDepth 100000
theorem rr_owns_set {w : World} {base : Nat} {v : Value} {n : Nat} {xs : List Value} {g i : Nat} {u : Value} (h : w.ownsRow base 5 1 v n xs) (hg : g < base) : (w.setCell ⟨g, i, none⟩ u).ownsRow base 5 1 v n xs := ownsRow_setCell_below h (by show g < base; exact hg) _
theorem below_of_drew {B : Nat} {w w' : World} (h : Below B w.drew w') : Below B w w' := ((Below.refl _ w).drew).trans h
theorem below_block {w w' : World} {R B : Nat} {o : Obj} (h : Below B w w') (ho : w.heap[R]? = some o) (hB : w.heap.size ≤ B) : w'.heap[R]? = some o := (h.block R (Nat.lt_of_lt_of_le (lt_of_block ho) hB)).trans ho
theorem frame_cells {w : World} {R : Nat} {t : TypeId} {v0 v1 v2 v3 v4 v5 v6 v7 v8 v9 v10 v11 v12 v13 : Value} (h : w.heap[R]? = some (.cells #[v0, v1, v2, v3, v4, v5, v6, v7, v8, v9, v10, v11, v12, v13] t (0, 0))) : (w.cell? ⟨R, 0, none⟩ = some (v0) ∧ w.cell? ⟨R, 1, none⟩ = some (v1) ∧ w.cell? ⟨R, 2, none⟩ = some (v2) ∧ w.cell? ⟨R, 3, none⟩ = some (v3) ∧ w.cell? ⟨R, 4, none⟩ = some (v4) ∧ w.cell? ⟨R, 5, none⟩ = some (v5) ∧ w.cell? ⟨R, 6, none⟩ = some (v6) ∧ w.cell? ⟨R, 7, none⟩ = some (v7) ∧ w.cell? ⟨R, 8, none⟩ = some (v8) ∧ w.cell? ⟨R, 9, none⟩ = some (v9) ∧ w.cell? ⟨R, 10, none⟩ = some (v10) ∧ w.cell? ⟨R, 11, none⟩ = some (v11) ∧ w.cell? ⟨R, 12, none⟩ = some (v12) ∧ w.cell? ⟨R, 13, none⟩ = some (v13)) ∧ ∀ i, w.frozen? ⟨R, i, none⟩ = false := by
  refine ⟨⟨?_, ?_, ?_, ?_, ?_, ?_, ?_, ?_, ?_, ?_, ?_, ?_, ?_, ?_⟩, fun i => ?_⟩ <;> simp [World.cell?, World.frozen?, h]
set_option maxHeartbeats 2000000 in
theorem rread_ok (w : World) (a : Option Addr) (xs : List Int) (n cap : Nat) (d s : Nat → UInt8) (k : Nat) (hr : Row .u8 w a xs) (hn : xs.length = n) (h1 : 14 ≤ n) (h2 : n ≤ 1514) (hb : ∀ x ∈ xs, 0 ≤ x ∧ x ≤ 255) (hnc : n ≤ cap)
    (hd : xs.take 6 = [((d 0).toNat : Int), ((d 1).toNat : Int), ((d 2).toNat : Int), ((d 3).toNat : Int), ((d 4).toNat : Int), ((d 5).toNat : Int)]) (hs : (xs.drop 6).take 6 = [((s 0).toNat : Int), ((s 1).toNat : Int), ((s 2).toNat : Int), ((s 3).toNat : Int), ((s 4).toNat : Int), ((s 5).toNat : Int)]) (hk : 256 * xs[12]?.getD 0 + xs[13]?.getD 0 = (k : Int)) (h3 : 1536 ≤ k) (h4 : k ≤ 65535) :
    Calls Try.prog 8 #[.slice a n cap] w fun e w' => ∃ a' c, e = .returned (.tuple #[.agg #[.int .u8 ((d 0).toNat : Int), .int .u8 ((d 1).toNat : Int), .int .u8 ((d 2).toNat : Int), .int .u8 ((d 3).toNat : Int), .int .u8 ((d 4).toNat : Int), .int .u8 ((d 5).toNat : Int), .int .u8 ((s 0).toNat : Int), .int .u8 ((s 1).toNat : Int), .int .u8 ((s 2).toNat : Int), .int .u8 ((s 3).toNat : Int), .int .u8 ((s 4).toNat : Int), .int .u8 ((s 5).toNat : Int), .int .u16 (k : Int), .slice a' (n - 14) c], .int .i64 0]) ∧ w'.ownsRow w.heap.size 5 1 (.slice a' (n - 14) c) (n - 14) ((xs.drop 14).map (Value.int .u8)) ∧ Below w.heap.size w w' := by
  obtain ⟨b, off, rfl, hbl, hc⟩ := hr.at (i := 0) (by omega)
  have c12 := hc 12 (by omega)
  have c13 := hc 13 (by omega)
  obtain ⟨hx1, hx2⟩ := byte_at hb 12
  obtain ⟨hy1, hy2⟩ := byte_at hb 13
  have HR := hide hr
  have HL := hide hn
  have HD := hide hd
  have HS := hide hs
  obtain ⟨A6, s6, r6, n6⟩ := drop_run (some ⟨b, off, none⟩) xs n cap 6 6 w hr hn hnc (fun h => by cases h) (by omega) rfl
  obtain ⟨A14, s14, r14, n14⟩ := drop_run (some ⟨b, off, none⟩) xs n cap 14 14 w hr hn hnc (fun h => by cases h) (by omega) rfl
  have R6 := hide r6
  have R14 := hide r14
  have N14 := hide n14
  generalize xs[12]?.getD 0 = x12 at *
  generalize xs[13]?.getD 0 = x13 at *
  have hk' : 256 * x12 + x13 = (k : Int) := hk
  have q1 : IntKind.u16.wrap x12 = x12 := wraps_u16 _ (by omega) (by omega)
  have q2 : IntKind.u16.wrap x13 = x13 := wraps_u16 _ (by omega) (by omega)
  have q3 : IntKind.u16.wrap (256 * x12) = 256 * x12 := wraps_u16 _ (by omega) (by omega)
  have q4 : IntKind.u16.wrap (256 * x12 + x13) = (k : Int) := by rw [wraps_u16 _ (by omega) (by omega)]; exact hk'
  have hne : ¬ b = w.heap.size := by omega
  have hne2 : ¬ w.heap.size = b := by omega
  have hge : ¬ ((k : Int) < 1536) := by omega
  have HK := hide hk'
  clear hr hn hd hs hc hb r6 n6 r14 n14 hk hk'
  go_enter Try.func8, Try.ntmps8
  go_wp2_with fail
  go_quiet (fail)
  go_wp2_with fail
  obtain ⟨R, wq, hR, hq, hbel, hRh⟩ : ∃ R wq, w.heap.size = R ∧ (w.alloc (.cells #[.int .u8 0, .int .u8 0, .int .u8 0, .int .u8 0, .int .u8 0, .int .u8 0, .int .u8 0, .int .u8 0, .int .u8 0, .int .u8 0, .int .u8 0, .int .u8 0, .int .u16 0, .slice none 0 0] 28)).drewN nq = wq ∧ Below w.heap.size w wq ∧ wq.heap[R]? = some (.cells #[.int .u8 0, .int .u8 0, .int .u8 0, .int .u8 0, .int .u8 0, .int .u8 0, .int .u8 0, .int .u8 0, .int .u8 0, .int .u8 0, .int .u8 0, .int .u8 0, .int .u16 0, .slice none 0 0] 28 (0, 0)) :=
    ⟨_, _, rfl, rfl, bdrewN ((Below.refl _ _).alloc (Nat.le_refl _) _) _, heap_alloc_new w _⟩
  rw [hq, hR]
  have HRW := hide hR
  have HBW := hide hbel
  have hRw : w.heap.size ≤ R := by omega
  have hRl := lt_of_block hRh
  have HRH := hide hRh
  have hwq : w.heap.size ≤ wq.heap.size := hbel.size
  clear hq hR hRh hbel hne hne2 c12 c13 hwq
  have hwq : w.heap.size ≤ wq.heap.size := HBW.out.size
  have HM1 := hide (fun (V : World) (hV : Below wq.heap.size wq V) => (mac_any V (some ⟨b, off, none⟩) xs n cap d ((HR.out.below HBW.out (Nat.le_refl _)).below hV (Nat.le_refl _)) HL.out (by omega) HD.out))
  have HM2 := hide (fun (V : World) (hV : Below wq.heap.size wq V) => (mac_any V A6 (xs.drop 6) (n - 6) (cap - 6) s ((R6.out.below HBW.out (Nat.le_refl _)).below hV (Nat.le_refl _)) (by rw [List.length_drop, HL.out]) (by omega) HS.out))
  have HA := hide (fun (V : World) (L : Nat) (hL : V.heap[L]? = some (.cells #[] 5 (0, 0))) (hLb : wq.heap.size ≤ L) (hV : Below wq.heap.size wq V) => by
    obtain ⟨v', w', g1, g2, g3⟩ := app_own V wq.heap.size _ 0 [] (owns_nil_at hL hLb) A14 (xs.drop 14) (n - 14) (cap - 14) ((R14.out.below HBW.out (Nat.le_refl _)).below hV (Nat.le_refl _)) (by rw [List.length_drop, HL.out]) N14.out (by omega) hV.size
    obtain ⟨a8, c8, rfl⟩ := slice_form g2
    simp only [Nat.zero_add, List.nil_append] at g2 g1
    exact (⟨_, w', g1, a8, c8, rfl, g2, hV.trans g3⟩ : ∃ v' w', (Builtin.append_ #[22, 22] 22 #[.slice (some ⟨L, 0, none⟩) 0 0, .slice A14 (n - 14) (cap - 14)]).run Try.prog V = .ok v' w' ∧ ∃ a8 c8, v' = .slice a8 (n - 14) c8 ∧ w'.ownsRow wq.heap.size 5 1 (.slice a8 (n - 14) c8) (n - 14) ((xs.drop 14).map (Value.int .u8)) ∧ Below wq.heap.size wq w'))
  have HDR := hide (Below.refl wq.heap.size wq)
  have HAL := hide (show Below wq.heap.size wq (wq.alloc (.cells #[] 5)) from (Below.refl _ _).alloc (Nat.le_refl _) _)
  go_region_held3 (fun w' => True) (trivial) (first
    | (go_at_call 31; (with_reducible refine (HM1.out _ ?_).mono ?_); (first | exact HDR.out.drew | exact HAL.out.drew); rintro e w1 ⟨rfl, b1⟩;
        have B1 := hide (show Below wq.heap.size wq w1 from (by first | exact below_of_drew b1 | exact HAL.out.trans ((below_of_drew b1).mono HAL.out.size)));
        (first | (have LT := hide (below_block b1 (by exact heap_alloc_new wq (.cells #[] 5)) (Nat.le_refl _))) | skip);
        clear b1)
    | (go_at_call 31; (with_reducible refine (HM2.out _ ?_).mono ?_); (first | exact B1.out | exact B1.out.alloc (B1.out.size) _); rintro e w2 ⟨rfl, b2⟩;
        have B2 := hide (show Below wq.heap.size wq w2 from (by first | exact B1.out.trans (b2.mono B1.out.size) | exact (B1.out.alloc B1.out.size _).trans (b2.mono (B1.out.alloc B1.out.size _).size)));
        (first | (have LT := hide (below_block b2 LT.out (Nat.le_refl _))) | (have LT := hide (below_block b2 (by exact heap_alloc_new w1 (.cells #[] 5)) (Nat.le_refl _))) | skip);
        (first
          | (have HX := hide (HA.out w2 _ LT.out (by first | exact Nat.le_refl _ | exact B1.out.size) B2.out))
          | (have HX := hide (HA.out (w2.alloc (.cells #[] 5)) _ (heap_alloc_new w2 _) B2.out.size (B2.out.alloc B2.out.size _))));
        clear b2)
    | (refine step_append_ex rfl (.tmp 32) (.tmp 34) 22 22 rfl _ _ rfl rfl _ HX.out ?_; rintro v9 w9 ⟨a8, c8, rfl, o9, b9⟩;
        obtain ⟨⟨q0, q1, q2, q3, q4, q5, q6, q7, q8, q9, q10, q11, q12, q13⟩, qf⟩ := frame_cells (below_block b9 HRH.out (Nat.le_refl _));
        have HO9 := hide o9; have HB9 := hide (HBW.out.trans (b9.mono hwq));
        clear o9 b9)
    | fail)
  all_goals
    go_wp2
    refine bodyPost_ret (v := .tuple #[.agg #[.int .u8 ((d 0).toNat : Int), .int .u8 ((d 1).toNat : Int), .int .u8 ((d 2).toNat : Int), .int .u8 ((d 3).toNat : Int), .int .u8 ((d 4).toNat : Int), .int .u8 ((d 5).toNat : Int), .int .u8 ((s 0).toNat : Int), .int .u8 ((s 1).toNat : Int), .int .u8 ((s 2).toNat : Int), .int .u8 ((s 3).toNat : Int), .int .u8 ((s 4).toNat : Int), .int .u8 ((s 5).toNat : Int), .int .u16 (k : Int), .slice a8 (n - 14) c8], .int .i64 0]) (by simp [results, Try.results8, go_sem, q0, q1, q2, q3, q4, q5, q6, q7, q8, q9, q10, q11, q12, q13]) rfl ⟨a8, c8, rfl, ?_, ?_⟩
    · refine owns_mono (base := wq.heap.size) ?_ hwq
      repeat (with_reducible refine rr_owns_set ?_ (by assumption))
      exact HO9.out
    · repeat (with_reducible refine Below.setCell ?_ (by assumption) _)
      exact HB9.out
end Go.Proofs.Ytgpmgfpmfdaecaa
