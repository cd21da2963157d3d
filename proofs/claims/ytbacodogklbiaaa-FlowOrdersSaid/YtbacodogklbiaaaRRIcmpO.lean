/- What the document's ReadICMP answers of a right message. -/
import Derived.Test.YtbacodogklbiaaaRRIcmp
import Derived.Test.YtbacodogklbiaaaSameUI
import Derived.Test.YtbacodogklbiaaaIcmpR
import Derived.Deep.RegionHeld3
namespace Go.Proofs.Ytbacodogklbiaaa
open Go.RowKit
set_option linter.unusedVariables false
set_option linter.unusedSimpArgs false
set_option maxRecDepth 100000

set_option maxHeartbeats 1600000 in
theorem rricmp_ok (w : World) (a : Option Addr) (xs : List Int) (n cap p q r : Nat) (hr : Row .u8 w a xs) (hno : a = none → cap = 0) (hl : xs.length = n) (hbb : ∀ x ∈ xs, 0 ≤ x ∧ x ≤ 255) (h1 : 8 ≤ n) (h2 : n ≤ 1480) (hnc : n ≤ cap) (hcm : cap ≤ 9223372036854775807) (HV0 : Hid (fld xs 0 1 = p)) (HV1 : Hid (fld xs 1 1 = q)) (HV4 : Hid (fld xs 4 4 = r)) (HCS : Hid (csum xs = 0)) :
    Calls Try.prog 25 #[.slice a n cap] w fun e w' => ∃ a' c, e = .returned (.tuple #[.agg #[.int .u8 (p : Int), .int .u8 (q : Int), .int .u32 (r : Int), .slice a' (n - 8) c], .int .i64 0]) ∧ w'.ownsRow w.heap.size 5 1 (.slice a' (n - 8) c) (n - 8) ((xs.drop 8).map (Value.int .u8)) ∧ Below w.heap.size w w' := by
  have HR := hide hr
  have HL := hide hl
  have HB := hide hbb
  have hl1 : 8 ≤ xs.length := by omega
  have hb1 : Below w.heap.size w (w.alloc (.cells #[.int .u8 0, .int .u8 0, .int .u32 0, .slice none 0 0] 56)) := (Below.refl _ _).alloc (Nat.le_refl _) _
  have hrs := refSum_any a xs cap (w.alloc (.cells #[.int .u8 0, .int .u8 0, .int .u32 0, .slice none 0 0] 56)) (HR.out.below hb1 (Nat.le_refl _)) hbb (by omega)
  rw [HL.out] at hrs
  rw [HCS.out] at hrs
  have HRS := hide hrs
  have HB1 := hide hb1
  have HZ := hide (heap_alloc_new w (.cells #[.int .u8 0, .int .u8 0, .int .u32 0, .slice none 0 0] 56))
  clear hr hl hbb hrs hb1
  have hn1 : ¬ ((n : Int) < 8) := by omega
  have hn2 : ¬ ((1480 : Int) < (n : Int)) := by omega
  have HNO := hide hno
  clear hno
  obtain ⟨b0, o0, rfl, hlt0, hc0⟩ := HR.out (by intro e; subst e; simp at hl1)
  clear hc0
  have hbr := fld_lt xs 4 4 HB.out
  rw [HV4.out] at hbr
  have hbp := fld_lt xs 0 1 HB.out
  rw [HV0.out] at hbp
  have hbq := fld_lt xs 1 1 HB.out
  rw [HV1.out] at hbq
  have hwr : IntKind.u32.wrap (r : Int) = (r : Int) := by rw [IntKind.wrap_u32]; omega
  go_enter Try.func25, Try.ntmps25
  go_wp2_with fail
  refine HRS.out.mono ?_
  rintro e w2 ⟨rfl, b2⟩
  have hR2 := below_block b2 HZ.out (Nat.le_refl _)
  have hB2 := HB1.out.trans (b2.mono HB1.out.size)
  have hRl := lt_of_block hR2
  go_wp2_with fail
  obtain ⟨E, w3, hE, hw3, HE, HRR, HBW, hRE, h3s⟩ : ∃ E wt, w2.heap.size = E ∧ w2.alloc (.cells #[.slice (some ⟨b0, o0, none⟩) n cap, .int .i64 (4 : Int), .bool false] 94) = wt ∧ Hid (REye wt E (some ⟨b0, o0, none⟩) n cap 4 false) ∧ Hid (wt.heap[w.heap.size]? = some (.cells #[.int .u8 0, .int .u8 0, .int .u32 0, .slice none 0 0] 56 (0, 0))) ∧ Hid (Below w.heap.size w wt) ∧ w.heap.size < E ∧ wt.heap.size = E + 1 :=
    ⟨_, _, rfl, rfl, hide (heap_alloc_new w2 _), hide ((Below.heap_alloc _ _ _ (by omega)).trans hR2), hide (hB2.alloc hB2.size _), hRl, by simp⟩
  rw [hw3, hE]
  have hE3 : E < w3.heap.size := by omega
  have H3S := hide h3s
  have HRW := hide (HR.out.below HBW.out (Nat.le_refl _))
  clear b2 hR2 hB2 hRl hw3 hE HZ HRS HB1 h3s
  have hls : w.heap.size ≤ w3.heap.size := HBW.out.size
  have hlt3 : w.heap.size < w3.heap.size := lt_of_block HRR.out
  obtain ⟨bx, ox, hbe, hlt1, hc1⟩ := HRW.out (by intro e; have := HL.out; subst e; simp at hl1)
  cases hbe
  have c0 := hc1 0 (by omega)
  have c1 := hc1 1 (by omega)
  rw [fld_one xs 0 HB.out (by omega), HV0.out] at c0
  rw [fld_one xs 1 HB.out (by omega), HV1.out] at c1
  simp only [Nat.add_zero] at c0
  clear hc1 hlt1
  have hb0w : ¬ b0 = w.heap.size := by omega
  have hb0w2 : ¬ w.heap.size = b0 := by omega
  have hn0 : (0 : Int) < (n : Int) := by omega
  have hn0n : 0 < n := by omega
  have hn1p : (1 : Int) < (n : Int) := by omega
  have hn8 : (8 : Int) ≤ (n : Int) := by omega
  obtain ⟨A1, hs1, hrA1, hnA1⟩ := tail_cut (some ⟨b0, o0, none⟩) xs n cap 8 w HR.out HL.out hnc (fun h => by cases h) (by omega)
  rw [show ((8 : Nat) : Int) = 8 from rfl] at hs1
  have HRA := hide hrA1
  have HNA := hide hnA1
  clear hrA1 hnA1
  -- the number, in whatever memory that holds the Eye
  have HN := hide (fun (V : World) (hV : Below w3.heap.size w3 V) => by
    have hVE : V.heap[E]? = some (.cells #[.slice (some ⟨b0, o0, none⟩) n cap, .int .i64 (4 : Int), .bool false] 94 (0, 0)) := below_block hV HE.out (Nat.le_refl _)
    have h := rEye_at E 4 4 (some ⟨b0, o0, none⟩) xs n cap V hVE (HRW.out.below hV (Nat.le_refl _)) HB.out HL.out hnc hcm (fun h => by cases h) (by omega) (by omega) (by omega)
    rw [HV4.out, show ((4 : Nat) : Int) = 4 from rfl] at h
    exact (h.mono fun e w' ⟨g1, g2, g3⟩ => ⟨g1, g3⟩ : Calls Try.prog 44 #[.pointer (some ⟨E, 0, none⟩), .int .i64 4] V fun e w' => e = .returned (.int .u64 (r : Int)) ∧ V.grownBy w' (some E)))
  -- the append, onto a row of its own
  have HA := hide (fun (V : World) (L : Nat) (hL : V.heap[L]? = some (.cells #[] 5 (0, 0))) (hLb : w3.heap.size ≤ L) (hV : Below (w.heap.size + 1) w3 V ∧ w3.heap.size ≤ V.heap.size ∧ w.heap.size < E) (hro : Row .u8 V A1 (xs.drop 8)) => by
    obtain ⟨v', w', g1, g2, g3⟩ := app_own V w3.heap.size _ 0 [] (owns_nil_at hL hLb) A1 (xs.drop 8) (n - 8) (cap - 8) hro (by rw [List.length_drop, HL.out]) HNA.out (by omega) hV.2.1
    obtain ⟨a8, c8, rfl⟩ := slice_form g2
    simp only [Nat.zero_add, List.nil_append] at g2 g1
    exact (⟨_, w', g1, a8, c8, rfl, g2, hV.1.trans (g3.mono (by have := hV.2.1; omega)), g3⟩ : ∃ v' w', (Builtin.append_ #[25, 25] 25 #[.slice (some ⟨L, 0, none⟩) 0 0, .slice A1 (n - 8) (cap - 8)]).run Try.prog V = .ok v' w' ∧ ∃ a8 c8, v' = .slice a8 (n - 8) c8 ∧ w'.ownsRow w3.heap.size 5 1 (.slice a8 (n - 8) c8) (n - 8) ((xs.drop 8).map (Value.int .u8)) ∧ Below (w.heap.size + 1) w3 w' ∧ Below w3.heap.size V w'))
  have hdr : Below w3.heap.size w3 w3 := Below.refl _ _
  have hal : Below w3.heap.size w3 (w3.alloc (.cells #[] 5)) := (Below.refl _ _).alloc (Nat.le_refl _) _
  have HDR := hide hdr
  have HAL := hide hal
  have HC0 := hide c0
  have HC1 := hide c1
  clear hdr hal
  go_region_held3 (fun w' => w'.cell? ⟨b0, o0, none⟩ = some (.int .u8 p) ∧ w'.cell? ⟨b0, o0 + 1, none⟩ = some (.int .u8 q)) (go_keep) (first
    | (go_at_call 44; (with_reducible refine (HN.out _ ?_).mono ?_); (first | exact HDR.out.drew | exact HAL.out.drew); rintro e w4 ⟨rfl, g4⟩; have B4 : Below w3.heap.size w3 w3 := HDR.out;
        have b4 : Below (w.heap.size + 1) w3 w4 := (by first | exact below_of_drew (grownBy_below g4 (by omega) (by simp; omega)) | exact (HAL.out.mono (by omega)).trans (below_of_drew (grownBy_below g4 (by omega) (by simp; omega))));
        have z4 : w3.heap.size ≤ w4.heap.size := (by have := g4.size; simp at this; omega);
        have k0 : w4.cell? ⟨b0, o0, none⟩ = some (.int .u8 p) := (b4.cell (p := ⟨b0, o0, none⟩) (by show b0 < _; omega)).trans HC0.out;
        have k1 : w4.cell? ⟨b0, o0 + 1, none⟩ = some (.int .u8 q) := (b4.cell (p := ⟨b0, o0 + 1, none⟩) (by show b0 < _; omega)).trans HC1.out;
        have r4 : Row .u8 w4 A1 (xs.drop 8) := HRA.out.below (HBW.out.trans (b4.mono (by omega))) (Nat.le_refl _);
        (first
          | (have HX := hide (HA.out w4 w3.heap.size (gb_block g4 (by exact heap_alloc_new w3 _) (by omega)) (Nat.le_refl _) ⟨b4, z4, hRE⟩ r4))
          | (have HX := hide (HA.out (w4.alloc (.cells #[] 5)) w4.heap.size (heap_alloc_new w4 _) z4 ⟨b4.alloc (by omega) _, (by simp; omega), hRE⟩ (Row.below r4 ((Below.refl _ _).alloc (Nat.le_refl _) _) (Nat.le_refl _)))));
        clear g4 b4 r4 B4)
    | (refine step_append_ex rfl (.tmp 29) (.tmp 31) 25 25 rfl _ _ rfl rfl _ HX.out ?_; rintro v9 w9 ⟨a8, c8, rfl, o9, b9, b9x⟩;
        obtain ⟨q0, q1, q2, q3, qf⟩ := four_cells ((b9.block w.heap.size (by omega)).trans HRR.out);
        have j0 : w9.cell? ⟨b0, o0, none⟩ = some (.int .u8 p) := (b9.cell (p := ⟨b0, o0, none⟩) (by show b0 < _; omega)).trans HC0.out;
        have j1 : w9.cell? ⟨b0, o0 + 1, none⟩ = some (.int .u8 q) := (b9.cell (p := ⟨b0, o0 + 1, none⟩) (by show b0 < _; omega)).trans HC1.out;
        have HO9 := hide o9; have HB9 := hide (HBW.out.trans (b9.mono (by omega)));
        clear o9 b9 b9x)
    | fail)
  all_goals
    go_wp2
    refine bodyPost_ret (v := .tuple #[.agg #[.int .u8 (p : Int), .int .u8 (q : Int), .int .u32 (r : Int), .slice a8 (n - 8) c8], .int .i64 0]) (by simp [results, Try.results25, go_sem, q0, q1, q2, q3]) rfl ⟨a8, c8, rfl, ?_, ?_⟩
    · refine owns_mono (base := w3.heap.size) ?_ hls
      repeat (with_reducible refine owns_set ?_ (by assumption))
      exact HO9.out
    · have hw0 : w.heap.size ≤ w.heap.size := Nat.le_refl _
      repeat (with_reducible refine Below.setCell ?_ (by assumption) _)
      exact HB9.out
end Go.Proofs.Ytbacodogklbiaaa
