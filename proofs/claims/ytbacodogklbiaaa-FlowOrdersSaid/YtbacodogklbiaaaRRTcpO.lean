/- What the document's ReadTCP answers of bytes that are a segment. -/
import Derived.Test.YtbacodogklbiaaaRRTcp
import Derived.Test.YtbacodogklbiaaaTRef
import Derived.Test.YtbacodogklbiaaaTcpR
namespace Go.Proofs.Ytbacodogklbiaaa
open Go.RowKit
set_option linter.unusedVariables false
set_option linter.unusedSimpArgs false
set_option maxRecDepth 100000
theorem tail_cut (a : Option Addr) (xs : List Int) (n cap I : Nat) (w : World) (hr : Row .u8 w a xs) (hxn : xs.length = n) (hnc : n ≤ cap) (hnil : a = none → cap = 0) (hm : I ≤ n) :
    ∃ A, (∀ W, (Instr.slice 25 (.slice a n cap) (some (.int .i64 (I : Int))) none none).run Try.prog W = .ok (.slice A (n - I) (cap - I)) W) ∧ Row .u8 w A (xs.drop I) ∧ (A = none → cap - I = 0) := by
  have hz : ∀ W, (sizeOf 5).run Try.prog W = .ok 1 W := fun W => by
    obtain ⟨i0, hi, _, hs, _⟩ := info_parts Try.info5
    simp [sizeOf, typeInfo, hi, hs]
  have he : Try.prog.elem 25 = 5 := by kernel_rfl
  refine ⟨if cap = I then a else a.map (·.add I), fun W => ?_, ?_, ?_⟩
  · rw [run_slice_l (P := Try.prog) W 25 _ n cap (by rw [he]; exact Try.underlying25) .i64 (I : Int) (by omega) (by omega), he, hz]
    simp [sliced, Result.andThen]
  · intro hne
    have hmp : I < xs.length := by
      rcases Nat.lt_or_ge I xs.length with h | h
      · exact h
      · exact absurd (List.drop_eq_nil_of_le h) hne
    obtain ⟨b, off, rfl, hlt, hc⟩ := hr.at (i := 0) (by omega)
    rw [if_neg (by omega)]
    refine ⟨b, off + I, by simp [Addr.add_lit], hlt, fun i hi => ?_⟩
    have hi2 := hi
    rw [List.length_drop] at hi2
    rw [Nat.add_assoc, hc (I + i) (by omega), List.getElem?_drop]
  · intro h
    cases a with
    | none => have := hnil rfl; omega
    | some ad =>
      by_cases hc : cap = I
      · omega
      · rw [if_neg hc] at h; simp at h
theorem owns_nil2 (V : World) : (V.alloc (.cells #[] 5)).ownsRow V.heap.size 5 1 (.slice (some ⟨V.heap.size, 0, none⟩) 0 0) 0 (([] : List Int).map (Value.int .u8)) := World.ownsRow_lit _ #[] 0 (Nat.le_refl _) (by unfold maxLen; omega) rfl

set_option maxHeartbeats 3000000 in
theorem rrtcp_ok (w : World) (src dst : Nat) (a : Option Addr) (xs : List Int) (n cap p q u v hb f g h H : Nat) (hr : Row .u8 w a xs) (hno : a = none → cap = 0) (hl : xs.length = n) (hbb : ∀ x ∈ xs, 0 ≤ x ∧ x ≤ 255) (h1 : 20 ≤ n) (h2 : n ≤ 1480) (hcap : n ≤ cap) (hcap2 : cap ≤ 9223372036854775807) (HV0 : Hid (fld xs 0 2 = p)) (HV2 : Hid (fld xs 2 2 = q)) (HV4 : Hid (fld xs 4 4 = u)) (HV8 : Hid (fld xs 8 4 = v)) (HV13 : Hid (fld xs 13 1 = f)) (HV14 : Hid (fld xs 14 2 = g)) (HV18 : Hid (fld xs 18 2 = h)) (HV12 : Hid (fld xs 12 1 = hb)) (HH : Hid (4 * (hb / 16) = H)) (hf1 : 20 ≤ H) (hf2 : H ≤ n) (hsrc : src ≤ 4294967295) (hdst : dst ≤ 4294967295) (HCS : Hid (csum (psB src dst 6 n ++ xs) = 0)) :
    Calls Try.prog 23 #[.int .u32 src, .int .u32 dst, .slice a n cap] w fun e w' => ∃ a7 c7 a8 c8, e = .returned (.tuple #[.agg #[.int .u16 (p : Int), .int .u16 (q : Int), .int .u32 (u : Int), .int .u32 (v : Int), .int .u8 (f : Int), .int .u16 (g : Int), .int .u16 (h : Int), .slice a7 (H - 20) c7, .slice a8 (n - H) c8], .int .i64 0]) ∧ w'.ownsRow w.heap.size 5 1 (.slice a7 (H - 20) c7) (H - 20) (((xs.drop 20).take (H - 20)).map (Value.int .u8)) ∧ w'.ownsRow w.heap.size 5 1 (.slice a8 (n - H) c8) (n - H) ((xs.drop H).map (Value.int .u8)) ∧ Below w.heap.size w w' := by
  have HR := hide hr
  have hl1 : 20 ≤ xs.length := by omega
  have HL := hide hl
  have HB := hide hbb
  have HNO := hide hno
  obtain ⟨b0, o0, rfl, hlt0, hc0⟩ := hr (by intro e; subst e; simp at hl1)
  have c12 := hc0 12 (by omega)
  rw [fld_one xs 12 hbb (by omega), HV12.out] at c12
  have hbl := fld_lt xs 12 1 hbb
  rw [HV12.out] at hbl
  have hH : 4 * (hb / 16) = H := HH.out
  have hHe : 4 * ((hb : Int) / 16) = (H : Int) := by omega
  have hHw : IntKind.i64.wrap ((hb : Int) / 16) = (hb : Int) / 16 := IntWalk.i64_in _ (by omega)
  have hHx : IntKind.i64.wrap (H : Int) = (H : Int) := IntWalk.i64_in _ (by omega)
  have hb_p := fld_lt xs 0 2 hbb
  rw [HV0.out] at hb_p
  have hb_q := fld_lt xs 2 2 hbb
  rw [HV2.out] at hb_q
  have hb_u := fld_lt xs 4 4 hbb
  rw [HV4.out] at hb_u
  have hb_v := fld_lt xs 8 4 hbb
  rw [HV8.out] at hb_v
  have hb_f := fld_lt xs 13 1 hbb
  rw [HV13.out] at hb_f
  have hb_g := fld_lt xs 14 2 hbb
  rw [HV14.out] at hb_g
  have hb_h := fld_lt xs 18 2 hbb
  rw [HV18.out] at hb_h
  have hw_p : IntKind.u16.wrap (p : Int) = (p : Int) := wraps_u16 _ (by omega) (by omega)
  have hw_q : IntKind.u16.wrap (q : Int) = (q : Int) := wraps_u16 _ (by omega) (by omega)
  have hw_g : IntKind.u16.wrap (g : Int) = (g : Int) := wraps_u16 _ (by omega) (by omega)
  have hw_h : IntKind.u16.wrap (h : Int) = (h : Int) := wraps_u16 _ (by omega) (by omega)
  have hw_u : IntKind.u32.wrap (u : Int) = (u : Int) := by rw [IntKind.wrap_u32]; omega
  have hw_v : IntKind.u32.wrap (v : Int) = (v : Int) := by rw [IntKind.wrap_u32]; omega
  have c13 := hc0 13 (by omega)
  rw [fld_one xs 13 hbb (by omega), HV13.out] at c13
  clear hr hno hl hbb hH hc0
  have hn1 : ¬ ((n : Int) < 20) := by omega
  have hn2 : ¬ ((1480 : Int) < (n : Int)) := by omega
  have h12 : (12 : Int) < (n : Int) := by omega
  have hd1 : decide ((H : Int) < 20) = false := by simp; omega
  have hd2 : decide ((n : Int) < (H : Int)) = false := by simp; omega
  have C13 := hide c13
  have hb1 : Below w.heap.size w (w.alloc (.cells #[.int .u16 0, .int .u16 0, .int .u32 0, .int .u32 0, .int .u8 0, .int .u16 0, .int .u16 0, .slice none 0 0, .slice none 0 0] 52)) := (Below.refl _ _).alloc (Nat.le_refl _) _
  have hrs := rsum_any src dst 6 n cap (some ⟨b0, o0, none⟩) xs (w.alloc (.cells #[.int .u16 0, .int .u16 0, .int .u32 0, .int .u32 0, .int .u8 0, .int .u16 0, .int .u16 0, .slice none 0 0, .slice none 0 0] 52)) (HR.out.below hb1 (Nat.le_refl _)) HNO.out HL.out HB.out hsrc hdst (by omega) (by omega)
  rw [HCS.out] at hrs
  have HRS := hide hrs
  have HB1 := hide hb1
  have hz := heap_alloc_new w (.cells #[.int .u16 0, .int .u16 0, .int .u32 0, .int .u32 0, .int .u8 0, .int .u16 0, .int .u16 0, .slice none 0 0, .slice none 0 0] 52)
  have HZ := hide hz
  clear hrs hb1 hz c13
  go_enter Try.func23, Try.ntmps23
  go_wp2_with fail
  refine HRS.out.mono ?_
  rintro e w2 ⟨rfl, b2⟩
  clear c12
  have hR2 := below_block b2 HZ.out (Nat.le_refl _)
  have hB2 := HB1.out.trans (b2.mono HB1.out.size)
  have hRl := lt_of_block hR2
  go_wp2_with fail
  obtain ⟨R, E, F, w3, hR, hE, hF, hw3, HE, HF, HRR, HBW, hRE, hEF, hwE, hwF, hwR⟩ : ∃ R E F wt, w.heap.size = R ∧ w2.heap.size = E ∧ w2.heap.size + 1 = F ∧ (w2.alloc (.cells #[.slice (some ⟨b0, o0, none⟩) n cap, .int .i64 (0 : Int), .bool false] 94)).alloc (.cells #[.int .u16 0, .int .u16 0, .int .u32 0, .int .u32 0, .int .u8 0, .int .u16 0, .int .u16 0, .slice none 0 0, .slice none 0 0] 52) = wt ∧ Hid (REye wt E (some ⟨b0, o0, none⟩) n cap 0 false) ∧ Hid (wt.heap[F]? = some (.cells #[.int .u16 0, .int .u16 0, .int .u32 0, .int .u32 0, .int .u8 0, .int .u16 0, .int .u16 0, .slice none 0 0, .slice none 0 0] 52 (0, 0))) ∧ Hid (wt.heap[R]? = some (.cells #[.int .u16 0, .int .u16 0, .int .u32 0, .int .u32 0, .int .u8 0, .int .u16 0, .int .u16 0, .slice none 0 0, .slice none 0 0] 52 (0, 0))) ∧ Hid (Below w.heap.size w wt) ∧ R < E ∧ E < F ∧ w.heap.size ≤ E ∧ w.heap.size ≤ F ∧ w.heap.size ≤ R := by
    refine ⟨_, _, _, _, rfl, rfl, rfl, rfl, hide ?_, hide ?_, hide ?_, hide ((hB2.alloc hB2.size _).alloc (by have := hB2.size; simp; omega) _), by omega, by omega, hB2.size, by have := hB2.size; omega, Nat.le_refl _⟩
    · exact (Below.heap_alloc _ _ _ (by simp)).trans (heap_alloc_new w2 _)
    · have h := heap_alloc_new (w2.alloc (.cells #[.slice (some ⟨b0, o0, none⟩) n cap, .int .i64 (0 : Int), .bool false] 94)) (.cells #[.int .u16 0, .int .u16 0, .int .u32 0, .int .u32 0, .int .u8 0, .int .u16 0, .int .u16 0, .slice none 0 0, .slice none 0 0] 52)
      rw [show (w2.alloc (.cells #[.slice (some ⟨b0, o0, none⟩) n cap, .int .i64 (0 : Int), .bool false] 94)).heap.size = w2.heap.size + 1 by simp] at h
      exact h
    · exact (Below.heap_alloc _ _ _ (by simp; omega)).trans ((Below.heap_alloc _ _ _ (by omega)).trans hR2)
  rw [hw3, hF, hE]
  try rw [hR]
  clear b2 hR2 hB2 hRl hw3 hR hE hF HZ HRS HB1
  have HN := hide (rEye_at E 0 2 (some ⟨b0, o0, none⟩) xs n cap w3 HE.out (HR.out.below HBW.out (Nat.le_refl _)) HB.out HL.out hcap hcap2 (fun h => by cases h) (by omega) (by omega) (by omega))
  rw [HV0.out] at HN
  refine HN.out.mono ?_
  rintro e w4 ⟨rfl, he, hg⟩
  have HE := hide he
  have hFx := gb_block hg HF.out (by omega)
  have hRx := gb_block hg HRR.out (by omega)
  have HBW := hide (HBW.out.trans (grownBy_below hg hwE HBW.out.size))
  have HF := hide hFx
  have HRR := hide hRx
  obtain ⟨⟨m0, m1, m2, m3, m4, m5, m6, m7, m8⟩, mf⟩ := nine_cells HF.out
  have hE3 : w4.heap[E]? = some (.cells #[.slice (some ⟨b0, o0, none⟩) n cap, .int .i64 (2 : Int), .bool false] 94 (0, 0)) := HE.out
  have y1 := tri_cell1 hE3
  have yf := tri_free hE3 1
  clear he hg hFx hRx hE3 HN
  obtain ⟨w5, hq, HF, HRR, HE, HBW⟩ : ∃ wt, (w4.setCell ⟨F, 0, none⟩ (.int .u16 (p : Int))) = wt ∧ Hid (wt.heap[F]? = some (.cells #[.int .u16 (p : Int), .int .u16 0, .int .u32 0, .int .u32 0, .int .u8 0, .int .u16 0, .int .u16 0, .slice none 0 0, .slice none 0 0] 52 (0, 0))) ∧ Hid (wt.heap[R]? = some (.cells #[.int .u16 0, .int .u16 0, .int .u32 0, .int .u32 0, .int .u8 0, .int .u16 0, .int .u16 0, .slice none 0 0, .slice none 0 0] 52 (0, 0))) ∧ Hid (REye wt E (some ⟨b0, o0, none⟩) n cap 2 false) ∧ Hid (Below w.heap.size w wt) :=
    ⟨_, rfl, hide (nine_set HF.out), hide (set_ne_block HRR.out (by omega)), hide (set_ne_block HE.out (by omega)), hide (HBW.out.setCell (by simpa using hwF) _)⟩
  go_wp2_with fail
  try rw [hq]
  clear hq m0 m1 m2 m3 m4 m5 m6 m7 m8 mf y1 yf
  have HN := hide (rEye_at E 2 2 (some ⟨b0, o0, none⟩) xs n cap w5 HE.out (HR.out.below HBW.out (Nat.le_refl _)) HB.out HL.out hcap hcap2 (fun h => by cases h) (by omega) (by omega) (by omega))
  rw [HV2.out] at HN
  refine HN.out.mono ?_
  rintro e w6 ⟨rfl, he, hg⟩
  have HE := hide he
  have hFx := gb_block hg HF.out (by omega)
  have hRx := gb_block hg HRR.out (by omega)
  have HBW := hide (HBW.out.trans (grownBy_below hg hwE HBW.out.size))
  have HF := hide hFx
  have HRR := hide hRx
  obtain ⟨⟨m0, m1, m2, m3, m4, m5, m6, m7, m8⟩, mf⟩ := nine_cells HF.out
  have hE3 : w6.heap[E]? = some (.cells #[.slice (some ⟨b0, o0, none⟩) n cap, .int .i64 (4 : Int), .bool false] 94 (0, 0)) := HE.out
  have y1 := tri_cell1 hE3
  have yf := tri_free hE3 1
  clear he hg hFx hRx hE3 HN
  obtain ⟨w7, hq, HF, HRR, HE, HBW⟩ : ∃ wt, (w6.setCell ⟨F, 1, none⟩ (.int .u16 (q : Int))) = wt ∧ Hid (wt.heap[F]? = some (.cells #[.int .u16 (p : Int), .int .u16 (q : Int), .int .u32 0, .int .u32 0, .int .u8 0, .int .u16 0, .int .u16 0, .slice none 0 0, .slice none 0 0] 52 (0, 0))) ∧ Hid (wt.heap[R]? = some (.cells #[.int .u16 0, .int .u16 0, .int .u32 0, .int .u32 0, .int .u8 0, .int .u16 0, .int .u16 0, .slice none 0 0, .slice none 0 0] 52 (0, 0))) ∧ Hid (REye wt E (some ⟨b0, o0, none⟩) n cap 4 false) ∧ Hid (Below w.heap.size w wt) :=
    ⟨_, rfl, hide (nine_set HF.out), hide (set_ne_block HRR.out (by omega)), hide (set_ne_block HE.out (by omega)), hide (HBW.out.setCell (by simpa using hwF) _)⟩
  go_wp2_with fail
  try rw [hq]
  clear hq m0 m1 m2 m3 m4 m5 m6 m7 m8 mf y1 yf
  have HN := hide (rEye_at E 4 4 (some ⟨b0, o0, none⟩) xs n cap w7 HE.out (HR.out.below HBW.out (Nat.le_refl _)) HB.out HL.out hcap hcap2 (fun h => by cases h) (by omega) (by omega) (by omega))
  rw [HV4.out] at HN
  refine HN.out.mono ?_
  rintro e w8 ⟨rfl, he, hg⟩
  have HE := hide he
  have hFx := gb_block hg HF.out (by omega)
  have hRx := gb_block hg HRR.out (by omega)
  have HBW := hide (HBW.out.trans (grownBy_below hg hwE HBW.out.size))
  have HF := hide hFx
  have HRR := hide hRx
  obtain ⟨⟨m0, m1, m2, m3, m4, m5, m6, m7, m8⟩, mf⟩ := nine_cells HF.out
  have hE3 : w8.heap[E]? = some (.cells #[.slice (some ⟨b0, o0, none⟩) n cap, .int .i64 (8 : Int), .bool false] 94 (0, 0)) := HE.out
  have y1 := tri_cell1 hE3
  have yf := tri_free hE3 1
  clear he hg hFx hRx hE3 HN
  obtain ⟨w9, hq, HF, HRR, HE, HBW⟩ : ∃ wt, (w8.setCell ⟨F, 2, none⟩ (.int .u32 (u : Int))) = wt ∧ Hid (wt.heap[F]? = some (.cells #[.int .u16 (p : Int), .int .u16 (q : Int), .int .u32 (u : Int), .int .u32 0, .int .u8 0, .int .u16 0, .int .u16 0, .slice none 0 0, .slice none 0 0] 52 (0, 0))) ∧ Hid (wt.heap[R]? = some (.cells #[.int .u16 0, .int .u16 0, .int .u32 0, .int .u32 0, .int .u8 0, .int .u16 0, .int .u16 0, .slice none 0 0, .slice none 0 0] 52 (0, 0))) ∧ Hid (REye wt E (some ⟨b0, o0, none⟩) n cap 8 false) ∧ Hid (Below w.heap.size w wt) :=
    ⟨_, rfl, hide (nine_set HF.out), hide (set_ne_block HRR.out (by omega)), hide (set_ne_block HE.out (by omega)), hide (HBW.out.setCell (by simpa using hwF) _)⟩
  go_wp2_with fail
  try rw [hq]
  clear hq m0 m1 m2 m3 m4 m5 m6 m7 m8 mf y1 yf
  have HN := hide (rEye_at E 8 4 (some ⟨b0, o0, none⟩) xs n cap w9 HE.out (HR.out.below HBW.out (Nat.le_refl _)) HB.out HL.out hcap hcap2 (fun h => by cases h) (by omega) (by omega) (by omega))
  rw [HV8.out] at HN
  refine HN.out.mono ?_
  rintro e w10 ⟨rfl, he, hg⟩
  have HE := hide he
  have hFx := gb_block hg HF.out (by omega)
  have hRx := gb_block hg HRR.out (by omega)
  have HBW := hide (HBW.out.trans (grownBy_below hg hwE HBW.out.size))
  have HF := hide hFx
  have HRR := hide hRx
  obtain ⟨⟨m0, m1, m2, m3, m4, m5, m6, m7, m8⟩, mf⟩ := nine_cells HF.out
  have hE3 : w10.heap[E]? = some (.cells #[.slice (some ⟨b0, o0, none⟩) n cap, .int .i64 (12 : Int), .bool false] 94 (0, 0)) := HE.out
  have y1 := tri_cell1 hE3
  have yf := tri_free hE3 1
  clear he hg hFx hRx hE3 HN
  have c13 : w10.cell? ⟨b0, o0 + 13, none⟩ = some (.int .u8 (f : Int)) := (HBW.out.cell (p := ⟨b0, o0 + 13, none⟩) hlt0).trans C13.out
  have hb0F : ¬ b0 = F := by omega
  have h13 : (13 : Int) < (n : Int) := by omega
  obtain ⟨w11, hq, HF, HRR, HE, HBW⟩ : ∃ wt, (((w10.setCell ⟨F, 3, none⟩ (.int .u32 (v : Int))).setCell ⟨F, 4, none⟩ (.int .u8 (f : Int))).setCell ⟨E, 1, none⟩ (.int .i64 14)) = wt ∧ Hid (wt.heap[F]? = some (.cells #[.int .u16 (p : Int), .int .u16 (q : Int), .int .u32 (u : Int), .int .u32 (v : Int), .int .u8 (f : Int), .int .u16 0, .int .u16 0, .slice none 0 0, .slice none 0 0] 52 (0, 0))) ∧ Hid (wt.heap[R]? = some (.cells #[.int .u16 0, .int .u16 0, .int .u32 0, .int .u32 0, .int .u8 0, .int .u16 0, .int .u16 0, .slice none 0 0, .slice none 0 0] 52 (0, 0))) ∧ Hid (REye wt E (some ⟨b0, o0, none⟩) n cap 14 false) ∧ Hid (Below w.heap.size w wt) :=
    ⟨_, rfl, hide (set_ne_block (nine_set (nine_set HF.out)) (by omega)), hide (set_ne_block (set_ne_block (set_ne_block HRR.out (by omega)) (by omega)) (by omega)), hide (tri_set1 (set_ne_block (set_ne_block HE.out (by omega)) (by omega))), hide (((HBW.out.setCell (by simpa using hwF) _).setCell (by simpa using hwF) _).setCell (by simpa using hwE) _)⟩
  go_wp2_with fail
  try rw [hq]
  clear hq m0 m1 m2 m3 m4 m5 m6 m7 m8 mf y1 yf
  clear c13
  have HN := hide (rEye_at E 14 2 (some ⟨b0, o0, none⟩) xs n cap w11 HE.out (HR.out.below HBW.out (Nat.le_refl _)) HB.out HL.out hcap hcap2 (fun h => by cases h) (by omega) (by omega) (by omega))
  rw [HV14.out] at HN
  refine HN.out.mono ?_
  rintro e w12 ⟨rfl, he, hg⟩
  have HE := hide he
  have hFx := gb_block hg HF.out (by omega)
  have hRx := gb_block hg HRR.out (by omega)
  have HBW := hide (HBW.out.trans (grownBy_below hg hwE HBW.out.size))
  have HF := hide hFx
  have HRR := hide hRx
  obtain ⟨⟨m0, m1, m2, m3, m4, m5, m6, m7, m8⟩, mf⟩ := nine_cells HF.out
  have hE3 : w12.heap[E]? = some (.cells #[.slice (some ⟨b0, o0, none⟩) n cap, .int .i64 (16 : Int), .bool false] 94 (0, 0)) := HE.out
  have y1 := tri_cell1 hE3
  have yf := tri_free hE3 1
  clear he hg hFx hRx hE3 HN
  obtain ⟨w13, hq, HF, HRR, HE, HBW⟩ : ∃ wt, ((w12.setCell ⟨F, 5, none⟩ (.int .u16 (g : Int))).setCell ⟨E, 1, none⟩ (.int .i64 18)) = wt ∧ Hid (wt.heap[F]? = some (.cells #[.int .u16 (p : Int), .int .u16 (q : Int), .int .u32 (u : Int), .int .u32 (v : Int), .int .u8 (f : Int), .int .u16 (g : Int), .int .u16 0, .slice none 0 0, .slice none 0 0] 52 (0, 0))) ∧ Hid (wt.heap[R]? = some (.cells #[.int .u16 0, .int .u16 0, .int .u32 0, .int .u32 0, .int .u8 0, .int .u16 0, .int .u16 0, .slice none 0 0, .slice none 0 0] 52 (0, 0))) ∧ Hid (REye wt E (some ⟨b0, o0, none⟩) n cap 18 false) ∧ Hid (Below w.heap.size w wt) :=
    ⟨_, rfl, hide (set_ne_block (nine_set HF.out) (by omega)), hide (set_ne_block (set_ne_block HRR.out (by omega)) (by omega)), hide (tri_set1 (set_ne_block HE.out (by omega))), hide ((HBW.out.setCell (by simpa using hwF) _).setCell (by simpa using hwE) _)⟩
  go_wp2_with fail
  try rw [hq]
  clear hq m0 m1 m2 m3 m4 m5 m6 m7 m8 mf y1 yf
  have HN := hide (rEye_at E 18 2 (some ⟨b0, o0, none⟩) xs n cap w13 HE.out (HR.out.below HBW.out (Nat.le_refl _)) HB.out HL.out hcap hcap2 (fun h => by cases h) (by omega) (by omega) (by omega))
  rw [HV18.out] at HN
  refine HN.out.mono ?_
  rintro e w14 ⟨rfl, he, hg⟩
  have HE := hide he
  have hFx := gb_block hg HF.out (by omega)
  have hRx := gb_block hg HRR.out (by omega)
  have HBW := hide (HBW.out.trans (grownBy_below hg hwE HBW.out.size))
  have HF := hide hFx
  have HRR := hide hRx
  obtain ⟨⟨m0, m1, m2, m3, m4, m5, m6, m7, m8⟩, mf⟩ := nine_cells HF.out
  have hE3 : w14.heap[E]? = some (.cells #[.slice (some ⟨b0, o0, none⟩) n cap, .int .i64 (20 : Int), .bool false] 94 (0, 0)) := HE.out
  have y1 := tri_cell1 hE3
  have yf := tri_free hE3 1
  clear he hg hFx hRx hE3 HN
  obtain ⟨w15, hq15, HF, HRR, HE, HBW⟩ : ∃ wt, w14.setCell ⟨F, 6, none⟩ (.int .u16 (h : Int)) = wt ∧ Hid (wt.heap[F]? = some (.cells #[.int .u16 (p : Int), .int .u16 (q : Int), .int .u32 (u : Int), .int .u32 (v : Int), .int .u8 (f : Int), .int .u16 (g : Int), .int .u16 (h : Int), .slice none 0 0, .slice none 0 0] 52 (0, 0))) ∧ Hid (wt.heap[R]? = some (.cells #[.int .u16 0, .int .u16 0, .int .u32 0, .int .u32 0, .int .u8 0, .int .u16 0, .int .u16 0, .slice none 0 0, .slice none 0 0] 52 (0, 0))) ∧ Hid (REye wt E (some ⟨b0, o0, none⟩) n cap 20 false) ∧ Hid (Below w.heap.size w wt) :=
    ⟨_, rfl, hide (nine_set HF.out), hide (set_ne_block HRR.out (by omega)), hide (set_ne_block HE.out (by omega)), hide (HBW.out.setCell (by simpa using hwF) _)⟩
  have hF15 := lt_of_block HF.out
  have hbw15 := HBW.out.size
  have hR15 := lt_of_block HRR.out
  obtain ⟨A1, hs1, hrA1, hnA1⟩ := cut_run (some ⟨b0, o0, none⟩) xs n cap 20 (H - 20) w15 (HR.out.below HBW.out (Nat.le_refl _)) HL.out hcap (fun h => by cases h) (by omega)
  rw [show ((20 : Nat) : Int) = 20 from rfl, show (20 : Int) + ((H - 20 : Nat) : Int) = (H : Int) by omega] at hs1
  have hal1 : Below w15.heap.size w15 (w15.alloc (.cells #[] 5)) := (Below.refl _ _).alloc (Nat.le_refl _) _
  obtain ⟨v7, w16, hrun1, o16, b16⟩ := app_own (w15.alloc (.cells #[] 5)) w15.heap.size _ 0 [] (owns_nil2 w15) A1 ((xs.drop 20).take (H - 20)) (H - 20) (cap - 20) (hrA1.below hal1 (Nat.le_refl _)) (by rw [List.length_take, List.length_drop, HL.out]; omega) hnA1 (by omega) hal1.size
  obtain ⟨a7, c7, rfl⟩ := slice_form o16
  simp only [Nat.zero_add, List.nil_append] at o16 hrun1
  have hb16 := hal1.trans b16
  obtain ⟨⟨m0, m1, m2, m3, m4, m5, m6, m7, m8⟩, mf16⟩ := nine_cells (below_block hb16 HF.out (Nat.le_refl _))
  have mf7 := mf16 7
  have hm7 := m7
  obtain ⟨w17, hq17, HF, HRR, HBW, HO7⟩ : ∃ wt, w16.setCell ⟨F, 7, none⟩ (.slice a7 (H - 20) c7) = wt ∧ Hid (wt.heap[F]? = some (.cells #[.int .u16 (p : Int), .int .u16 (q : Int), .int .u32 (u : Int), .int .u32 (v : Int), .int .u8 (f : Int), .int .u16 (g : Int), .int .u16 (h : Int), .slice a7 (H - 20) c7, .slice none 0 0] 52 (0, 0))) ∧ Hid (wt.heap[R]? = some (.cells #[.int .u16 0, .int .u16 0, .int .u32 0, .int .u32 0, .int .u8 0, .int .u16 0, .int .u16 0, .slice none 0 0, .slice none 0 0] 52 (0, 0))) ∧ Hid (Below w.heap.size w wt) ∧ Hid (wt.ownsRow w15.heap.size 5 1 (.slice a7 (H - 20) c7) (H - 20) (((xs.drop 20).take (H - 20)).map (Value.int .u8))) :=
    ⟨_, rfl, hide (nine_set (below_block hb16 HF.out (Nat.le_refl _))), hide (set_ne_block (below_block hb16 HRR.out (Nat.le_refl _)) (by omega)), hide ((HBW.out.trans (hb16.mono HBW.out.size)).setCell (by simpa using hwF) _), hide (owns_set o16 hF15)⟩
  have hF17 := lt_of_block HF.out
  have hbw17 := HBW.out.size
  have hR17 := lt_of_block HRR.out
  have h1517 : w15.heap.size ≤ w17.heap.size := by rw [← hq17]; simpa using hb16.size
  obtain ⟨A2, hs2, hrA2, hnA2⟩ := tail_cut (some ⟨b0, o0, none⟩) xs n cap H w17 (HR.out.below HBW.out (Nat.le_refl _)) HL.out hcap (fun h => by cases h) (by omega)
  have hal2 : Below w17.heap.size w17 (w17.alloc (.cells #[] 5)) := (Below.refl _ _).alloc (Nat.le_refl _) _
  obtain ⟨v8, w18, hrun2, o18, b18⟩ := app_own (w17.alloc (.cells #[] 5)) w17.heap.size _ 0 [] (owns_nil2 w17) A2 (xs.drop H) (n - H) (cap - H) (hrA2.below hal2 (Nat.le_refl _)) (by rw [List.length_drop, HL.out]) hnA2 (by omega) hal2.size
  obtain ⟨a8, c8, rfl⟩ := slice_form o18
  simp only [Nat.zero_add, List.nil_append] at o18 hrun2
  have hb18 := hal2.trans b18
  obtain ⟨⟨k0, k1, k2, k3, k4, k5, k6, k7, k8⟩, kf18⟩ := nine_cells (below_block hb18 HF.out (Nat.le_refl _))
  have kf8 := kf18 8
  obtain ⟨w19, hq19, HF, HRR, HBW, HO7, HO8⟩ : ∃ wt, w18.setCell ⟨F, 8, none⟩ (.slice a8 (n - H) c8) = wt ∧ Hid (wt.heap[F]? = some (.cells #[.int .u16 (p : Int), .int .u16 (q : Int), .int .u32 (u : Int), .int .u32 (v : Int), .int .u8 (f : Int), .int .u16 (g : Int), .int .u16 (h : Int), .slice a7 (H - 20) c7, .slice a8 (n - H) c8] 52 (0, 0))) ∧ Hid (wt.heap[R]? = some (.cells #[.int .u16 0, .int .u16 0, .int .u32 0, .int .u32 0, .int .u8 0, .int .u16 0, .int .u16 0, .slice none 0 0, .slice none 0 0] 52 (0, 0))) ∧ Hid (Below w.heap.size w wt) ∧ Hid (wt.ownsRow w15.heap.size 5 1 (.slice a7 (H - 20) c7) (H - 20) (((xs.drop 20).take (H - 20)).map (Value.int .u8))) ∧ Hid (wt.ownsRow w17.heap.size 5 1 (.slice a8 (n - H) c8) (n - H) ((xs.drop H).map (Value.int .u8))) :=
    ⟨_, rfl, hide (nine_set (below_block hb18 HF.out (Nat.le_refl _))), hide (set_ne_block (below_block hb18 HRR.out (Nat.le_refl _)) (by omega)), hide ((HBW.out.trans (hb18.mono HBW.out.size)).setCell (by simpa using hwF) _), hide (owns_set (owns_below HO7.out hb18 (Nat.le_refl _)) hF15), hide (owns_set o18 hF17)⟩
  obtain ⟨⟨n0, n1, n2, n3, n4, n5, n6, n7, n8⟩, nf⟩ := nine_cells HF.out
  obtain ⟨⟨r0, r1, r2, r3, r4, r5, r6, r7, r8⟩, rf⟩ := nine_cells HRR.out
  have HR1 := hide hrun1
  have HR2 := hide hrun2
  clear hrun1 hrun2 o16 o18 b16 b18 hb16 hb18 hal1 hal2 hrA1 hrA2 mf16 kf18 m0 m1 m2 m3 m4 m5 m6 m8 k0 k1 k2 k3 k4 k5 k6 k7
  go_wp2_with (first
    | (at_builtin; refine Lib.wpList_append_run (o := ⟨some 82, _, _, _, _, _⟩) _ rfl _ _ _ _ rfl _ _ rfl rfl _ _ HR1.out ?_)
    | (at_builtin; refine Lib.wpList_append_run (o := ⟨some 88, _, _, _, _, _⟩) _ rfl _ _ _ _ rfl _ _ rfl rfl _ _ HR2.out ?_))
  refine bodyPost_ret (v := .tuple #[.agg #[.int .u16 (p : Int), .int .u16 (q : Int), .int .u32 (u : Int), .int .u32 (v : Int), .int .u8 (f : Int), .int .u16 (g : Int), .int .u16 (h : Int), .slice a7 (H - 20) c7, .slice a8 (n - H) c8], .int .i64 0]) (by simp [results, Try.results23, go_sem, r0, r1, r2, r3, r4, r5, r6, r7, r8, n0, n1, n2, n3, n4, n5, n6, n7, n8]) rfl ⟨a7, c7, a8, c8, rfl, ?_, ?_, ?_⟩
  · refine owns_mono (base := w15.heap.size) ?_ hbw15
    repeat (with_reducible refine owns_set ?_ (by assumption))
    exact HO7.out
  · refine owns_mono (base := w17.heap.size) ?_ hbw17
    repeat (with_reducible refine owns_set ?_ (by assumption))
    exact HO8.out
  · repeat (with_reducible refine Below.setCell ?_ (by assumption) _)
    exact HBW.out
end Go.Proofs.Ytbacodogklbiaaa
