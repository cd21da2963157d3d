/- What the document's ReadTCP answers of bytes that are a segment. -/
import Derived.Test.YtgggcapgaikbeaaPk05
import Derived.Test.YtgggcapgaikbeaaPk04
import Derived.Test.YtgggcapgaikbeaaPk01
import Derived.Test.YtgggcapgaikbeaaRows
import Derived.WalkKit
import Derived.Deep.RegionHeld3
import Derived.Deep.DeepCutAuto
import Derived.Test.YtgggcapgaikbeaaPk03
namespace Go.Proofs.Ytgggcapgaikbeaa
open Go.RowKit
set_option linter.unusedVariables false
set_option linter.unusedSimpArgs false
set_option maxRecDepth 100000
theorem tail_cut (a : Option Addr) (xs : List Int) (n cap I : Nat) (w : World) (hr : Row .u8 w a xs) (hxn : xs.length = n) (hnc : n ≤ cap) (hnil : a = none → cap = 0) (hm : I ≤ n) :
    ∃ A, (∀ W, (Instr.slice 25 (.slice a n cap) (some (.int .i64 (I : Int))) none none).run Try.prog W = .ok (.slice A (n - I) (cap - I)) W) ∧ Row .u8 w A (xs.drop I) ∧ (A = none → cap - I = 0) := by
  have hz : ∀ W, (sizeOf 5).run Try.prog W = .ok 1 W := fun W => by
    obtain ⟨i0, hi, _, hs, _⟩ := info_parts Try.info5
    simp [sizeOf, typeInfo, hi, hs]
  have he : Try.prog.elem 25 = 5 := by kernel_rfl
  refine ⟨if cap = I then a else a.map (·.add I), fun W => ?_, ?_, ?_⟩
  · rw [run_slice_l (P := Try.prog) W 25 _ n cap (by rw [he]; exact Try.underlying25) .i64 (I : Int) (by omega) (by omega), he, hz]
    simp [sliced, Result.andThen]
  · intro hne
    have hmp : I < xs.length := by
      rcases Nat.lt_or_ge I xs.length with h | h
      · exact h
      · exact absurd (List.drop_eq_nil_of_le h) hne
    obtain ⟨b, off, rfl, hlt, hc⟩ := hr.at (i := 0) (by omega)
    rw [if_neg (by omega)]
    refine ⟨b, off + I, by simp [Addr.add_lit], hlt, fun i hi => ?_⟩
    have hi2 := hi
    rw [List.length_drop] at hi2
    rw [Nat.add_assoc, hc (I + i) (by omega), List.getElem?_drop]
  · intro h
    cases a with
    | none => have := hnil rfl; omega
    | some ad =>
      by_cases hc : cap = I
      · omega
      · rw [if_neg hc] at h; simp at h
theorem owns_nil2 (V : World) : (V.alloc (.cells #[] 5)).ownsRow V.heap.size 5 1 (.slice (some ⟨V.heap.size, 0, none⟩) 0 0) 0 (([] : List Int).map (Value.int .u8)) := World.ownsRow_lit _ #[] 0 (Nat.le_refl _) (by unfold maxLen; omega) rfl

set_option maxHeartbeats 3000000 in
theorem rrtcp_ok (w : World) (src dst : Nat) (a : Option Addr) (xs : List Int) (n cap p q u v hb f g h H : Nat) (hr : Row .u8 w a xs) (hno : a = none → cap = 0) (hl : xs.length = n) (hbb : ∀ x ∈ xs, 0 ≤ x ∧ x ≤ 255) (h1 : 20 ≤ n) (h2 : n ≤ 1480) (hcap : n ≤ cap) (hcap2 : cap ≤ 9223372036854775807) (HV0 : Hid (fld xs 0 2 = p)) (HV2 : Hid (fld xs 2 2 = q)) (HV4 : Hid (fld xs 4 4 = u)) (HV8 : Hid (fld xs 8 4 = v)) (HV13 : Hid (fld xs 13 1 = f)) (HV14 : Hid (fld xs 14 2 = g)) (HV18 : Hid (fld xs 18 2 = h)) (HV12 : Hid (fld xs 12 1 = hb)) (HH : Hid (4 * (hb / 16) = H)) (hf1 : 20 ≤ H) (hf2 : H ≤ n) (hsrc : src ≤ 4294967295) (hdst : dst ≤ 4294967295) (HCS : Hid (csum (psB src dst 6 n ++ xs) = 0)) :
    Calls Try.prog 33 #[.int .u32 src, .int .u32 dst, .slice a n cap] w fun e w' => ∃ a7 c7 a8 c8, e = .returned (.tuple #[.agg #[.int .u16 (p : Int), .int .u16 (q : Int), .int .u32 (u : Int), .int .u32 (v : Int), .int .u8 (f : Int), .int .u16 (g : Int), .int .u16 (h : Int), .slice a7 (H - 20) c7, .slice a8 (n - H) c8], .int .i64 0]) ∧ w'.ownsRow w.heap.size 5 1 (.slice a7 (H - 20) c7) (H - 20) (((xs.drop 20).take (H - 20)).map (Value.int .u8)) ∧ w'.ownsRow w.heap.size 5 1 (.slice a8 (n - H) c8) (n - H) ((xs.drop H).map (Value.int .u8)) ∧ Below w.heap.size w w' := by
  have HR := hide hr
  have hl1 : 20 ≤ xs.length := by omega
  have HL := hide hl
  have HB := hide hbb
  have HNO := hide hno
  obtain ⟨b0, o0, rfl, hlt0, hc0⟩ := hr (by intro e; subst e; simp at hl1)
  have c12 := hc0 12 (by omega)
  rw [fld_one xs 12 hbb (by omega), HV12.out] at c12
  have hbl := fld_lt xs 12 1 hbb
  rw [HV12.out] at hbl
  have hH : 4 * (hb / 16) = H := HH.out
  have hHe : 4 * ((hb : Int) / 16) = (H : Int) := by omega
  have hHw : IntKind.i64.wrap ((hb : Int) / 16) = (hb : Int) / 16 := IntWalk.i64_in _ (by omega)
  have hHx : IntKind.i64.wrap (H : Int) = (H : Int) := IntWalk.i64_in _ (by omega)
  have hb_p := fld_lt xs 0 2 hbb
  rw [HV0.out] at hb_p
  have hb_q := fld_lt xs 2 2 hbb
  rw [HV2.out] at hb_q
  have hb_u := fld_lt xs 4 4 hbb
  rw [HV4.out] at hb_u
  have hb_v := fld_lt xs 8 4 hbb
  rw [HV8.out] at hb_v
  have hb_f := fld_lt xs 13 1 hbb
  rw [HV13.out] at hb_f
  have hb_g := fld_lt xs 14 2 hbb
  rw [HV14.out] at hb_g
  have hb_h := fld_lt xs 18 2 hbb
  rw [HV18.out] at hb_h
  have hw_p : IntKind.u16.wrap (p : Int) = (p : Int) := wraps_u16 _ (by omega) (by omega)
  have hw_q : IntKind.u16.wrap (q : Int) = (q : Int) := wraps_u16 _ (by omega) (by omega)
  have hw_g : IntKind.u16.wrap (g : Int) = (g : Int) := wraps_u16 _ (by omega) (by omega)
  have hw_h : IntKind.u16.wrap (h : Int) = (h : Int) := wraps_u16 _ (by omega) (by omega)
  have hw_u : IntKind.u32.wrap (u : Int) = (u : Int) := by rw [IntKind.wrap_u32]; omega
  have hw_v : IntKind.u32.wrap (v : Int) = (v : Int) := by rw [IntKind.wrap_u32]; omega
  have c13 := hc0 13 (by omega)
  rw [fld_one xs 13 hbb (by omega), HV13.out] at c13
  clear hr hno hl hbb hH hc0
  have hn1 : ¬ ((n : Int) < 20) := by omega
  have hn2 : ¬ ((1480 : Int) < (n : Int)) := by omega
  have h12 : (12 : Int) < (n : Int) := by omega
  have hd1 : decide ((H : Int) < 20) = false := by simp; omega
  have hd2 : decide ((n : Int) < (H : Int)) = false := by simp; omega
  have C13 := hide c13
  have hb1 : Below w.heap.size w (w.alloc (.cells #[.int .u16 0, .int .u16 0, .int .u32 0, .int .u32 0, .int .u8 0, .int .u16 0, .int .u16 0, .slice none 0 0, .slice none 0 0] 61)) := (Below.refl _ _).alloc (Nat.le_refl _) _
  have hrs := rsum_any src dst 6 n cap (some ⟨b0, o0, none⟩) xs (w.alloc (.cells #[.int .u16 0, .int .u16 0, .int .u32 0, .int .u32 0, .int .u8 0, .int .u16 0, .int .u16 0, .slice none 0 0, .slice none 0 0] 61)) (HR.out.below hb1 (Nat.le_refl _)) HNO.out HL.out HB.out hsrc hdst (by omega) (by omega)
  rw [HCS.out] at hrs
  have HRS := hide hrs
  have HB1 := hide hb1
  have hz := heap_alloc_new w (.cells #[.int .u16 0, .int .u16 0, .int .u32 0, .int .u32 0, .int .u8 0, .int .u16 0, .int .u16 0, .slice none 0 0, .slice none 0 0] 61)
  have HZ := hide hz
  clear hrs hb1 hz c13
  go_enter Try.func33, Try.ntmps33
  go_wp2_with fail
  refine HRS.out.mono ?_
  rintro e w2 ⟨rfl, b2⟩
  clear c12
  have hR2 := below_block b2 HZ.out (Nat.le_refl _)
  have hB2 := HB1.out.trans (b2.mono HB1.out.size)
  have hRl := lt_of_block hR2
  go_wp2_with fail
  obtain ⟨R, E, F, w3, hR, hE, hF, hw3, HE, HF, HRR, HBW, hRE, hEF, hwE, hwF, hwR⟩ : ∃ R E F wt, w.heap.size = R ∧ w2.heap.size = E ∧ w2.heap.size + 1 = F ∧ (w2.alloc (.cells #[.slice (some ⟨b0, o0, none⟩) n cap, .int .i64 (0 : Int), .bool false] 93)).alloc (.cells #[.int .u16 0, .int .u16 0, .int .u32 0, .int .u32 0, .int .u8 0, .int .u16 0, .int .u16 0, .slice none 0 0, .slice none 0 0] 61) = wt ∧ Hid (REye wt E (some ⟨b0, o0, none⟩) n cap 0 false) ∧ Hid (wt.heap[F]? = some (.cells #[.int .u16 0, .int .u16 0, .int .u32 0, .int .u32 0, .int .u8 0, .int .u16 0, .int .u16 0, .slice none 0 0, .slice none 0 0] 61 (0, 0))) ∧ Hid (wt.heap[R]? = some (.cells #[.int .u16 0, .int .u16 0, .int .u32 0, .int .u32 0, .int .u8 0, .int .u16 0, .int .u16 0, .slice none 0 0, .slice none 0 0] 61 (0, 0))) ∧ Hid (Below w.heap.size w wt) ∧ R < E ∧ E < F ∧ w.heap.size ≤ E ∧ w.heap.size ≤ F ∧ w.heap.size ≤ R := by
    refine ⟨_, _, _, _, rfl, rfl, rfl, rfl, hide ?_, hide ?_, hide ?_, hide ((hB2.alloc hB2.size _).alloc (by have := hB2.size; simp; omega) _), by omega, by omega, hB2.size, by have := hB2.size; omega, Nat.le_refl _⟩
    · exact (Below.heap_alloc _ _ _ (by simp)).trans (heap_alloc_new w2 _)
    · have h := heap_alloc_new (w2.alloc (.cells #[.slice (some ⟨b0, o0, none⟩) n cap, .int .i64 (0 : Int), .bool false] 93)) (.cells #[.int .u16 0, .int .u16 0, .int .u32 0, .int .u32 0, .int .u8 0, .int .u16 0, .int .u16 0, .slice none 0 0, .slice none 0 0] 61)
      rw [show (w2.alloc (.cells #[.slice (some ⟨b0, o0, none⟩) n cap, .int .i64 (0 : Int), .bool false] 93)).heap.size = w2.heap.size + 1 by simp] at h
      exact h
    · exact (Below.heap_alloc _ _ _ (by simp; omega)).trans ((Below.heap_alloc _ _ _ (by omega)).trans hR2)
  rw [hw3, hF, hE]
  try rw [hR]
  clear b2 hR2 hB2 hRl hw3 hR hE hF HZ HRS HB1
  have HN := hide (rEye_at E 0 2 (some ⟨b0, o0, none⟩) xs n cap w3 HE.out (HR.out.below HBW.out (Nat.le_refl _)) HB.out HL.out hcap hcap2 (fun h => by cases h) (by omega) (by omega) (by omega))
  rw [HV0.out] at HN
  refine HN.out.mono ?_
  rintro e w4 ⟨rfl, he, hg⟩
  have HE := hide he
  have hFx := gb_block hg HF.out (by omega)
  have hRx := gb_block hg HRR.out (by omega)
  have HBW := hide (HBW.out.trans (grownBy_below hg hwE HBW.out.size))
  have HF := hide hFx
  have HRR := hide hRx
  obtain ⟨⟨m0, m1, m2, m3, m4, m5, m6, m7, m8⟩, mf⟩ := nine_cells HF.out
  have hE3 : w4.heap[E]? = some (.cells #[.slice (some ⟨b0, o0, none⟩) n cap, .int .i64 (2 : Int), .bool false] 93 (0, 0)) := HE.out
  have y1 := tri_cell1 hE3
  have yf := tri_free hE3 1
  clear he hg hFx hRx hE3 HN
  obtain ⟨w5, hq, HF, HRR, HE, HBW⟩ : ∃ wt, (w4.setCell ⟨F, 0, none⟩ (.int .u16 (p : Int))) = wt ∧ Hid (wt.heap[F]? = some (.cells #[.int .u16 (p : Int), .int .u16 0, .int .u32 0, .int .u32 0, .int .u8 0, .int .u16 0, .int .u16 0, .slice none 0 0, .slice none 0 0] 61 (0, 0))) ∧ Hid (wt.heap[R]? = some (.cells #[.int .u16 0, .int .u16 0, .int .u32 0, .int .u32 0, .int .u8 0, .int .u16 0, .int .u16 0, .slice none 0 0, .slice none 0 0] 61 (0, 0))) ∧ Hid (REye wt E (some ⟨b0, o0, none⟩) n cap 2 false) ∧ Hid (Below w.heap.size w wt) :=
    ⟨_, rfl, hide (nine_set HF.out), hide (set_ne_block HRR.out (by omega)), hide (set_ne_block HE.out (by omega)), hide (HBW.out.setCell (by simpa using hwF) _)⟩
  go_wp2_with fail
  try rw [hq]
  clear hq m0 m1 m2 m3 m4 m5 m6 m7 m8 mf y1 yf
  have HN := hide (rEye_at E 2 2 (some ⟨b0, o0, none⟩) xs n cap w5 HE.out (HR.out.below HBW.out (Nat.le_refl _)) HB.out HL.out hcap hcap2 (fun h => by cases h) (by omega) (by omega) (by omega))
  rw [HV2.out] at HN
  refine HN.out.mono ?_
  rintro e w6 ⟨rfl, he, hg⟩
  have HE := hide he
  have hFx := gb_block hg HF.out (by omega)
  have hRx := gb_block hg HRR.out (by omega)
  have HBW := hide (HBW.out.trans (grownBy_below hg hwE HBW.out.size))
  have HF := hide hFx
  have HRR := hide hRx
  obtain ⟨⟨m0, m1, m2, m3, m4, m5, m6, m7, m8⟩, mf⟩ := nine_cells HF.out
  have hE3 : w6.heap[E]? = some (.cells #[.slice (some ⟨b0, o0, none⟩) n cap, .int .i64 (4 : Int), .bool false] 93 (0, 0)) := HE.out
  have y1 := tri_cell1 hE3
  have yf := tri_free hE3 1
  clear he hg hFx hRx hE3 HN
  obtain ⟨w7, hq, HF, HRR, HE, HBW⟩ : ∃ wt, (w6.setCell ⟨F, 1, none⟩ (.int .u16 (q : Int))) = wt ∧ Hid (wt.heap[F]? = some (.cells #[.int .u16 (p : Int), .int .u16 (q : Int), .int .u32 0, .int .u32 0, .int .u8 0, .int .u16 0, .int .u16 0, .slice none 0 0, .slice none 0 0] 61 (0, 0))) ∧ Hid (wt.heap[R]? = some (.cells #[.int .u16 0, .int .u16 0, .int .u32 0, .int .u32 0, .int .u8 0, .int .u16 0, .int .u16 0, .slice none 0 0, .slice none 0 0] 61 (0, 0))) ∧ Hid (REye wt E (some ⟨b0, o0, none⟩) n cap 4 false) ∧ Hid (Below w.heap.size w wt) :=
    ⟨_, rfl, hide (nine_set HF.out), hide (set_ne_block HRR.out (by omega)), hide (set_ne_block HE.out (by omega)), hide (HBW.out.setCell (by simpa using hwF) _)⟩
  go_wp2_with fail
  try rw [hq]
  clear hq m0 m1 m2 m3 m4 m5 m6 m7 m8 mf y1 yf
  have HN := hide (rEye_at E 4 4 (some ⟨b0, o0, none⟩) xs n cap w7 HE.out (HR.out.below HBW.out (Nat.le_refl _)) HB.out HL.out hcap hcap2 (fun h => by cases h) (by omega) (by omega) (by omega))
  rw [HV4.out] at HN
  refine HN.out.mono ?_
  rintro e w8 ⟨rfl, he, hg⟩
  have HE := hide he
  have hFx := gb_block hg HF.out (by omega)
  have hRx := gb_block hg HRR.out (by omega)
  have HBW := hide (HBW.out.trans (grownBy_below hg hwE HBW.out.size))
  have HF := hide hFx
  have HRR := hide hRx
  obtain ⟨⟨m0, m1, m2, m3, m4, m5, m6, m7, m8⟩, mf⟩ := nine_cells HF.out
  have hE3 : w8.heap[E]? = some (.cells #[.slice (some ⟨b0, o0, none⟩) n cap, .int .i64 (8 : Int), .bool false] 93 (0, 0)) := HE.out
  have y1 := tri_cell1 hE3
  have yf := tri_free hE3 1
  clear he hg hFx hRx hE3 HN
  obtain ⟨w9, hq, HF, HRR, HE, HBW⟩ : ∃ wt, (w8.setCell ⟨F, 2, none⟩ (.int .u32 (u : Int))) = wt ∧ Hid (wt.heap[F]? = some (.cells #[.int .u16 (p : Int), .int .u16 (q : Int), .int .u32 (u : Int), .int .u32 0, .int .u8 0, .int .u16 0, .int .u16 0, .slice none 0 0, .slice none 0 0] 61 (0, 0))) ∧ Hid (wt.heap[R]? = some (.cells #[.int .u16 0, .int .u16 0, .int .u32 0, .int .u32 0, .int .u8 0, .int .u16 0, .int .u16 0, .slice none 0 0, .slice none 0 0] 61 (0, 0))) ∧ Hid (REye wt E (some ⟨b0, o0, none⟩) n cap 8 false) ∧ Hid (Below w.heap.size w wt) :=
    ⟨_, rfl, hide (nine_set HF.out), hide (set_ne_block HRR.out (by omega)), hide (set_ne_block HE.out (by omega)), hide (HBW.out.setCell (by simpa using hwF) _)⟩
  go_wp2_with fail
  try rw [hq]
  clear hq m0 m1 m2 m3 m4 m5 m6 m7 m8 mf y1 yf
  have HN := hide (rEye_at E 8 4 (some ⟨b0, o0, none⟩) xs n cap w9 HE.out (HR.out.below HBW.out (Nat.le_refl _)) HB.out HL.out hcap hcap2 (fun h => by cases h) (by omega) (by omega) (by omega))
  rw [HV8.out] at HN
  refine HN.out.mono ?_
  rintro e w10 ⟨rfl, he, hg⟩
  have HE := hide he
  have hFx := gb_block hg HF.out (by omega)
  have hRx := gb_block hg HRR.out (by omega)
  have HBW := hide (HBW.out.trans (grownBy_below hg hwE HBW.out.size))
  have HF := hide hFx
  have HRR := hide hRx
  obtain ⟨⟨m0, m1, m2, m3, m4, m5, m6, m7, m8⟩, mf⟩ := nine_cells HF.out
  have hE3 : w10.heap[E]? = some (.cells #[.slice (some ⟨b0, o0, none⟩) n cap, .int .i64 (12 : Int), .bool false] 93 (0, 0)) := HE.out
  have y1 := tri_cell1 hE3
  have yf := tri_free hE3 1
  clear he hg hFx hRx hE3 HN
  have c13 : w10.cell? ⟨b0, o0 + 13, none⟩ = some (.int .u8 (f : Int)) := (HBW.out.cell (p := ⟨b0, o0 + 13, none⟩) hlt0).trans C13.out
  have hb0F : ¬ b0 = F := by omega
  have h13 : (13 : Int) < (n : Int) := by omega
  obtain ⟨w11, hq, HF, HRR, HE, HBW⟩ : ∃ wt, (((w10.setCell ⟨F, 3, none⟩ (.int .u32 (v : Int))).setCell ⟨F, 4, none⟩ (.int .u8 (f : Int))).setCell ⟨E, 1, none⟩ (.int .i64 14)) = wt ∧ Hid (wt.heap[F]? = some (.cells #[.int .u16 (p : Int), .int .u16 (q : Int), .int .u32 (u : Int), .int .u32 (v : Int), .int .u8 (f : Int), .int .u16 0, .int .u16 0, .slice none 0 0, .slice none 0 0] 61 (0, 0))) ∧ Hid (wt.heap[R]? = some (.cells #[.int .u16 0, .int .u16 0, .int .u32 0, .int .u32 0, .int .u8 0, .int .u16 0, .int .u16 0, .slice none 0 0, .slice none 0 0] 61 (0, 0))) ∧ Hid (REye wt E (some ⟨b0, o0, none⟩) n cap 14 false) ∧ Hid (Below w.heap.size w wt) :=
    ⟨_, rfl, hide (set_ne_block (nine_set (nine_set HF.out)) (by omega)), hide (set_ne_block (set_ne_block (set_ne_block HRR.out (by omega)) (by omega)) (by omega)), hide (tri_set1 (set_ne_block (set_ne_block HE.out (by omega)) (by omega))), hide (((HBW.out.setCell (by simpa using hwF) _).setCell (by simpa using hwF) _).setCell (by simpa using hwE) _)⟩
  go_wp2_with fail
  try rw [hq]
  clear hq m0 m1 m2 m3 m4 m5 m6 m7 m8 mf y1 yf
  clear c13
  have HN := hide (rEye_at E 14 2 (some ⟨b0, o0, none⟩) xs n cap w11 HE.out (HR.out.below HBW.out (Nat.le_refl _)) HB.out HL.out hcap hcap2 (fun h => by cases h) (by omega) (by omega) (by omega))
  rw [HV14.out] at HN
  refine HN.out.mono ?_
  rintro e w12 ⟨rfl, he, hg⟩
  have HE := hide he
  have hFx := gb_block hg HF.out (by omega)
  have hRx := gb_block hg HRR.out (by omega)
  have HBW := hide (HBW.out.trans (grownBy_below hg hwE HBW.out.size))
  have HF := hide hFx
  have HRR := hide hRx
  obtain ⟨⟨m0, m1, m2, m3, m4, m5, m6, m7, m8⟩, mf⟩ := nine_cells HF.out
  have hE3 : w12.heap[E]? = some (.cells #[.slice (some ⟨b0, o0, none⟩) n cap, .int .i64 (16 : Int), .bool false] 93 (0, 0)) := HE.out
  have y1 := tri_cell1 hE3
  have yf := tri_free hE3 1
  clear he hg hFx hRx hE3 HN
  obtain ⟨w13, hq, HF, HRR, HE, HBW⟩ : ∃ wt, ((w12.setCell ⟨F, 5, none⟩ (.int .u16 (g : Int))).setCell ⟨E, 1, none⟩ (.int .i64 18)) = wt ∧ Hid (wt.heap[F]? = some (.cells #[.int .u16 (p : Int), .int .u16 (q : Int), .int .u32 (u : Int), .int .u32 (v : Int), .int .u8 (f : Int), .int .u16 (g : Int), .int .u16 0, .slice none 0 0, .slice none 0 0] 61 (0, 0))) ∧ Hid (wt.heap[R]? = some (.cells #[.int .u16 0, .int .u16 0, .int .u32 0, .int .u32 0, .int .u8 0, .int .u16 0, .int .u16 0, .slice none 0 0, .slice none 0 0] 61 (0, 0))) ∧ Hid (REye wt E (some ⟨b0, o0, none⟩) n cap 18 false) ∧ Hid (Below w.heap.size w wt) :=
    ⟨_, rfl, hide (set_ne_block (nine_set HF.out) (by omega)), hide (set_ne_block (set_ne_block HRR.out (by omega)) (by omega)), hide (tri_set1 (set_ne_block HE.out (by omega))), hide ((HBW.out.setCell (by simpa using hwF) _).setCell (by simpa using hwE) _)⟩
  go_wp2_with fail
  try rw [hq]
  clear hq m0 m1 m2 m3 m4 m5 m6 m7 m8 mf y1 yf
  have HN := hide (rEye_at E 18 2 (some ⟨b0, o0, none⟩) xs n cap w13 HE.out (HR.out.below HBW.out (Nat.le_refl _)) HB.out HL.out hcap hcap2 (fun h => by cases h) (by omega) (by omega) (by omega))
  rw [HV18.out] at HN
  refine HN.out.mono ?_
  rintro e w14 ⟨rfl, he, hg⟩
  have HE := hide he
  have hFx := gb_block hg HF.out (by omega)
  have hRx := gb_block hg HRR.out (by omega)
  have HBW := hide (HBW.out.trans (grownBy_below hg hwE HBW.out.size))
  have HF := hide hFx
  have HRR := hide hRx
  obtain ⟨⟨m0, m1, m2, m3, m4, m5, m6, m7, m8⟩, mf⟩ := nine_cells HF.out
  have hE3 : w14.heap[E]? = some (.cells #[.slice (some ⟨b0, o0, none⟩) n cap, .int .i64 (20 : Int), .bool false] 93 (0, 0)) := HE.out
  have y1 := tri_cell1 hE3
  have yf := tri_free hE3 1
  clear he hg hFx hRx hE3 HN
  obtain ⟨w15, hq15, HF, HRR, HE, HBW⟩ : ∃ wt, w14.setCell ⟨F, 6, none⟩ (.int .u16 (h : Int)) = wt ∧ Hid (wt.heap[F]? = some (.cells #[.int .u16 (p : Int), .int .u16 (q : Int), .int .u32 (u : Int), .int .u32 (v : Int), .int .u8 (f : Int), .int .u16 (g : Int), .int .u16 (h : Int), .slice none 0 0, .slice none 0 0] 61 (0, 0))) ∧ Hid (wt.heap[R]? = some (.cells #[.int .u16 0, .int .u16 0, .int .u32 0, .int .u32 0, .int .u8 0, .int .u16 0, .int .u16 0, .slice none 0 0, .slice none 0 0] 61 (0, 0))) ∧ Hid (REye wt E (some ⟨b0, o0, none⟩) n cap 20 false) ∧ Hid (Below w.heap.size w wt) :=
    ⟨_, rfl, hide (nine_set HF.out), hide (set_ne_block HRR.out (by omega)), hide (set_ne_block HE.out (by omega)), hide (HBW.out.setCell (by simpa using hwF) _)⟩
  have hF15 := lt_of_block HF.out
  have hbw15 := HBW.out.size
  have hR15 := lt_of_block HRR.out
  obtain ⟨A1, hs1, hrA1, hnA1⟩ := cut_run (some ⟨b0, o0, none⟩) xs n cap 20 (H - 20) w15 (HR.out.below HBW.out (Nat.le_refl _)) HL.out hcap (fun h => by cases h) (by omega)
  rw [show ((20 : Nat) : Int) = 20 from rfl, show (20 : Int) + ((H - 20 : Nat) : Int) = (H : Int) by omega] at hs1
  have hal1 : Below w15.heap.size w15 (w15.alloc (.cells #[] 5)) := (Below.refl _ _).alloc (Nat.le_refl _) _
  obtain ⟨v7, w16, hrun1, o16, b16⟩ := app_own (w15.alloc (.cells #[] 5)) w15.heap.size _ 0 [] (owns_nil2 w15) A1 ((xs.drop 20).take (H - 20)) (H - 20) (cap - 20) (hrA1.below hal1 (Nat.le_refl _)) (by rw [List.length_take, List.length_drop, HL.out]; omega) hnA1 (by omega) hal1.size
  obtain ⟨a7, c7, rfl⟩ := slice_form o16
  simp only [Nat.zero_add, List.nil_append] at o16 hrun1
  have hb16 := hal1.trans b16
  obtain ⟨⟨m0, m1, m2, m3, m4, m5, m6, m7, m8⟩, mf16⟩ := nine_cells (below_block hb16 HF.out (Nat.le_refl _))
  have mf7 := mf16 7
  have hm7 := m7
  obtain ⟨w17, hq17, HF, HRR, HBW, HO7⟩ : ∃ wt, w16.setCell ⟨F, 7, none⟩ (.slice a7 (H - 20) c7) = wt ∧ Hid (wt.heap[F]? = some (.cells #[.int .u16 (p : Int), .int .u16 (q : Int), .int .u32 (u : Int), .int .u32 (v : Int), .int .u8 (f : Int), .int .u16 (g : Int), .int .u16 (h : Int), .slice a7 (H - 20) c7, .slice none 0 0] 61 (0, 0))) ∧ Hid (wt.heap[R]? = some (.cells #[.int .u16 0, .int .u16 0, .int .u32 0, .int .u32 0, .int .u8 0, .int .u16 0, .int .u16 0, .slice none 0 0, .slice none 0 0] 61 (0, 0))) ∧ Hid (Below w.heap.size w wt) ∧ Hid (wt.ownsRow w15.heap.size 5 1 (.slice a7 (H - 20) c7) (H - 20) (((xs.drop 20).take (H - 20)).map (Value.int .u8))) :=
    ⟨_, rfl, hide (nine_set (below_block hb16 HF.out (Nat.le_refl _))), hide (set_ne_block (below_block hb16 HRR.out (Nat.le_refl _)) (by omega)), hide ((HBW.out.trans (hb16.mono HBW.out.size)).setCell (by simpa using hwF) _), hide (owns_set o16 hF15)⟩
  have hF17 := lt_of_block HF.out
  have hbw17 := HBW.out.size
  have hR17 := lt_of_block HRR.out
  have h1517 : w15.heap.size ≤ w17.heap.size := by rw [← hq17]; simpa using hb16.size
  obtain ⟨A2, hs2, hrA2, hnA2⟩ := tail_cut (some ⟨b0, o0, none⟩) xs n cap H w17 (HR.out.below HBW.out (Nat.le_refl _)) HL.out hcap (fun h => by cases h) (by omega)
  have hal2 : Below w17.heap.size w17 (w17.alloc (.cells #[] 5)) := (Below.refl _ _).alloc (Nat.le_refl _) _
  obtain ⟨v8, w18, hrun2, o18, b18⟩ := app_own (w17.alloc (.cells #[] 5)) w17.heap.size _ 0 [] (owns_nil2 w17) A2 (xs.drop H) (n - H) (cap - H) (hrA2.below hal2 (Nat.le_refl _)) (by rw [List.length_drop, HL.out]) hnA2 (by omega) hal2.size
  obtain ⟨a8, c8, rfl⟩ := slice_form o18
  simp only [Nat.zero_add, List.nil_append] at o18 hrun2
  have hb18 := hal2.trans b18
  obtain ⟨⟨k0, k1, k2, k3, k4, k5, k6, k7, k8⟩, kf18⟩ := nine_cells (below_block hb18 HF.out (Nat.le_refl _))
  have kf8 := kf18 8
  obtain ⟨w19, hq19, HF, HRR, HBW, HO7, HO8⟩ : ∃ wt, w18.setCell ⟨F, 8, none⟩ (.slice a8 (n - H) c8) = wt ∧ Hid (wt.heap[F]? = some (.cells #[.int .u16 (p : Int), .int .u16 (q : Int), .int .u32 (u : Int), .int .u32 (v : Int), .int .u8 (f : Int), .int .u16 (g : Int), .int .u16 (h : Int), .slice a7 (H - 20) c7, .slice a8 (n - H) c8] 61 (0, 0))) ∧ Hid (wt.heap[R]? = some (.cells #[.int .u16 0, .int .u16 0, .int .u32 0, .int .u32 0, .int .u8 0, .int .u16 0, .int .u16 0, .slice none 0 0, .slice none 0 0] 61 (0, 0))) ∧ Hid (Below w.heap.size w wt) ∧ Hid (wt.ownsRow w15.heap.size 5 1 (.slice a7 (H - 20) c7) (H - 20) (((xs.drop 20).take (H - 20)).map (Value.int .u8))) ∧ Hid (wt.ownsRow w17.heap.size 5 1 (.slice a8 (n - H) c8) (n - H) ((xs.drop H).map (Value.int .u8))) :=
    ⟨_, rfl, hide (nine_set (below_block hb18 HF.out (Nat.le_refl _))), hide (set_ne_block (below_block hb18 HRR.out (Nat.le_refl _)) (by omega)), hide ((HBW.out.trans (hb18.mono HBW.out.size)).setCell (by simpa using hwF) _), hide (owns_set (owns_below HO7.out hb18 (Nat.le_refl _)) hF15), hide (owns_set o18 hF17)⟩
  obtain ⟨⟨n0, n1, n2, n3, n4, n5, n6, n7, n8⟩, nf⟩ := nine_cells HF.out
  obtain ⟨⟨r0, r1, r2, r3, r4, r5, r6, r7, r8⟩, rf⟩ := nine_cells HRR.out
  have HR1 := hide hrun1
  have HR2 := hide hrun2
  clear hrun1 hrun2 o16 o18 b16 b18 hb16 hb18 hal1 hal2 hrA1 hrA2 mf16 kf18 m0 m1 m2 m3 m4 m5 m6 m8 k0 k1 k2 k3 k4 k5 k6 k7
  go_wp2_with (first
    | (at_builtin; refine Lib.wpList_append_run (o := ⟨some 82, _, _, _, _, _⟩) _ rfl _ _ _ _ rfl _ _ rfl rfl _ _ HR1.out ?_)
    | (at_builtin; refine Lib.wpList_append_run (o := ⟨some 88, _, _, _, _, _⟩) _ rfl _ _ _ _ rfl _ _ rfl rfl _ _ HR2.out ?_))
  refine bodyPost_ret (v := .tuple #[.agg #[.int .u16 (p : Int), .int .u16 (q : Int), .int .u32 (u : Int), .int .u32 (v : Int), .int .u8 (f : Int), .int .u16 (g : Int), .int .u16 (h : Int), .slice a7 (H - 20) c7, .slice a8 (n - H) c8], .int .i64 0]) (by simp [results, Try.results33, go_sem, r0, r1, r2, r3, r4, r5, r6, r7, r8, n0, n1, n2, n3, n4, n5, n6, n7, n8]) rfl ⟨a7, c7, a8, c8, rfl, ?_, ?_, ?_⟩
  · refine owns_mono (base := w15.heap.size) ?_ hbw15
    repeat (with_reducible refine owns_set ?_ (by assumption))
    exact HO7.out
  · refine owns_mono (base := w17.heap.size) ?_ hbw17
    repeat (with_reducible refine owns_set ?_ (by assumption))
    exact HO8.out
  · repeat (with_reducible refine Below.setCell ?_ (by assumption) _)
    exact HBW.out
end Go.Proofs.Ytgggcapgaikbeaa

/- A slice of bytes as a string. -/
namespace Go.Proofs.Ytgggcapgaikbeaa
open Go.RowKit
set_option linter.unusedVariables false
set_option linter.unusedSimpArgs false
theorem conv_any (a : Option Addr) (xs : List Int) (cap : Nat) (w : World) (hr : Row .u8 w a xs) :
    (convert 25 9 (.slice a xs.length cap)).run Try.prog w = .ok (.string (strOfNums xs)) w := by
  cases xs with
  | nil =>
    cases a with
    | none => rw [List.length_nil, run_convert_bytes_nil (P := Try.prog) w 25 5 Try.underlying25 Try.underlying5 0 cap 9 Try.underlying9]; rfl
    | some ad =>
      rw [List.length_nil, run_convert_bytes_string w 25 9 5 _ 0 cap Try.underlying25 Try.underlying5 Try.underlying9]
      rw [run_bytesToString w ad 0 cap [] (by simp [loadCells, loadCellsFrom])]
      rfl
  | cons x r =>
    obtain ⟨b, off, rfl, _, hc⟩ := hr (by simp)
    exact run_convert_bytes_arg (P := Try.prog) w 25 5 Try.underlying25 Try.underlying5 b off _ cap (x :: r) rfl (fun i hi => by rw [hc i hi, List.getD_eq_getElem?_getD]) 9 Try.underlying9

end Go.Proofs.Ytgggcapgaikbeaa

/- SameUDP and SameICMP of equal values; an append's step. -/
namespace Go.Proofs.Ytgggcapgaikbeaa
open Go.RowKit
set_option linter.unusedVariables false
set_option linter.unusedSimpArgs false
set_option maxRecDepth 100000
theorem app_own2 (V : World) (base : Nat) (v : Value) (n : Nat) (xs : List Int) (hV : V.ownsRow base 5 1 v n (xs.map (Value.int .u8))) (a : Option Addr) (ys : List Int) (m c : Nat) (hr : Row .u8 V a ys) (hl : ys.length = m) (hn : a = none → c = 0)
    (hs : n + m ≤ 1099511627776) (hb : base ≤ V.heap.size) :
    ∃ v' w', (Builtin.append_ #[25, 25] 25 #[v, .slice a m c]).run Try.prog V = .ok v' w' ∧ (w'.ownsRow base 5 1 v' (n + m) ((xs ++ ys).map (Value.int .u8)) ∧ Below base V w' ∧ ∀ (L : Nat) (o : Obj), V.heap[L]? = some o → v.ownBlock ≠ some L → w'.heap[L]? = some o) := by
  obtain ⟨i0, hi, hz0, hz1, hz2⟩ := info_parts Try.info5
  cases a with
  | none =>
    have hy : ys = [] := row_none hr
    have hm0 : m = 0 := by rw [← hl, hy]; rfl
    have hrun := run_append_owned_none (P := Try.prog) (w := V) base 25 25 5 i0 1 Try.underlying25 hi v n (xs.map (Value.int .u8)) hV
    rw [hn rfl, hm0, hy, List.append_nil]
    exact ⟨_, _, hrun, hV, Below.refl _ _, fun _ _ h _ => h⟩
  | some ad =>
    obtain ⟨v', w', h1, h2, h3, _⟩ := run_append_own (P := Try.prog) V base 25 25 5 i0 (.int .u8 0) 1 1 Try.underlying25 hi hz0 hz1 hz2 rfl (by decide) v n (xs.map (Value.int .u8)) hV ad m c (ys.map (Value.int .u8)) (by simp [hl]) (row_cells hr) (ints_one _ _) (by unfold maxLen; omega) (by omega) hb
    rw [← List.map_append] at h2
    exact ⟨_, _, h1, h2, (Below.refl base V).grown h3 hb (fun k e => (hV.lt k e).1), fun L o h hne => (h3.block L (lt_of_block h) hne.symm).trans h⟩
theorem litB {V w' : World} {o : Obj} (h : Below (V.alloc o).heap.size (V.alloc o) w') : w'.heap[V.heap.size]? = some o := (h.block V.heap.size (by simp)).trans (heap_alloc_new V o)
theorem litB_d {V w' : World} {o : Obj} (h : Below (V.alloc o).drew.heap.size (V.alloc o).drew w') : w'.heap[V.heap.size]? = some o := litB (below_of_drew h)
theorem row_two {w : World} {L : Nat} {x y : Int} (h : w.heap[L]? = some (.cells #[.int .u8 x, .int .u8 y] 5 (0, 0))) : Row .u8 w (some ⟨L, 0, none⟩) [x, y] := by
  intro _
  refine ⟨L, 0, rfl, lt_of_block h, fun i hi => ?_⟩
  simp only [World.cell?, h]
  match i, hi with
  | 0, _ => rfl
  | 1, _ => rfl
theorem own_ne {w : World} {base : Nat} {v : Value} {n : Nat} {xs : List Value} {L : Nat} (h : w.ownsRow base 5 1 v n xs) (hL : w.heap.size ≤ L) : v.ownBlock ≠ some L := by
  intro e
  rcases h.2 with ⟨h, _⟩ | ⟨g, c', cur, hv, hg, hh, _⟩
  · rw [h] at e; simp [Value.ownBlock] at e
  · rw [hv] at e; simp [Value.ownBlock] at e; subst e; have := lt_of_block hh; omega
end Go.Proofs.Ytgggcapgaikbeaa

/- What trans.ReadICMP answers. -/
namespace Go.Proofs.Ytgggcapgaikbeaa
open Go.RowKit
set_option linter.unusedVariables false
set_option linter.unusedSimpArgs false
set_option maxRecDepth 100000

set_option maxHeartbeats 800000 in
theorem ricmp_short (w : World) (a : Option Addr) (n cap : Nat) (h : n < 8) :
    Calls Try.prog 42 #[.slice a n cap] w fun e w' => e = .returned (.tuple #[.agg #[.int .u8 0, .int .u8 0, .int .u32 0, .slice none 0 0], .int .i64 10]) ∧ Below w.heap.size w w' := by
  go_enter Try.func42, Try.ntmps42
  go_wp2_with fail
  refine (fit_short n 8 _ h).mono ?_
  rintro e w1 ⟨rfl, rfl⟩
  go_wp2
  refine bodyPost_ret (v := .tuple #[.agg #[.int .u8 0, .int .u8 0, .int .u32 0, .slice none 0 0], .int .i64 10]) (by simp [results, Try.results42, go_sem]) rfl ⟨rfl, ?_⟩
  repeat (first | exact Below.refl _ _ | refine Below.setCell ?_ (Nat.le_refl _) _ | exact Below.alloc (Below.refl _ _) (Nat.le_refl _) _)

set_option maxHeartbeats 800000 in
theorem ricmp_long (w : World) (a : Option Addr) (n cap : Nat) (h : 1480 < n) :
    Calls Try.prog 42 #[.slice a n cap] w fun e w' => e = .returned (.tuple #[.agg #[.int .u8 0, .int .u8 0, .int .u32 0, .slice none 0 0], .int .i64 14]) ∧ Below w.heap.size w w' := by
  go_enter Try.func42, Try.ntmps42
  go_wp2_with fail
  refine (fit_long n 8 _ (by omega) h).mono ?_
  rintro e w1 ⟨rfl, rfl⟩
  go_wp2
  refine bodyPost_ret (v := .tuple #[.agg #[.int .u8 0, .int .u8 0, .int .u32 0, .slice none 0 0], .int .i64 14]) (by simp [results, Try.results42, go_sem]) rfl ⟨rfl, ?_⟩
  repeat (first | exact Below.refl _ _ | refine Below.setCell ?_ (Nat.le_refl _) _ | exact Below.alloc (Below.refl _ _) (Nat.le_refl _) _)

set_option maxHeartbeats 1600000 in
theorem ricmp_bad (w : World) (a : Option Addr) (xs : List Int) (n cap p q ck r : Nat) (hr : Row .u8 w a xs) (hno : a = none → cap = 0) (hl : xs.length = n) (hb : ∀ x ∈ xs, 0 ≤ x ∧ x ≤ 255) (h1 : 8 ≤ n) (h2 : n ≤ 1480)
     (HCS : Hid ((csum xs == 0) = false)) :
    Calls Try.prog 42 #[.slice a n cap] w fun e w' => e = .returned (.tuple #[.agg #[.int .u8 0, .int .u8 0, .int .u32 0, .slice none 0 0], .int .i64 12]) ∧ Below w.heap.size w w' := by
  have HR := hide hr
  have HNO := hide hno
  have hl1 : 8 ≤ xs.length := by omega
  have hl2 : xs.length ≤ 1480 := by omega
  have HL := hide hl
  have HB := hide hb
  clear hr hl hb hno
  go_enter Try.func42, Try.ntmps42
  go_wp2_with fail
  refine (fit_ok n 8 _ h1 h2).mono ?_
  rintro e wz ⟨rfl, rfl⟩
  go_wp2_with fail
  obtain ⟨R, wq, hR, hq1, hRs, hbel, hRh⟩ : ∃ R wq, w.heap.size = R ∧ w.alloc (.cells #[.int .u8 0, .int .u8 0, .int .u32 0, .slice none 0 0] 55) = wq ∧ wq.heap.size = R + 1 ∧ Below w.heap.size w wq ∧ wq.heap[R]? = some (.cells #[.int .u8 0, .int .u8 0, .int .u32 0, .slice none 0 0] 55 (0, 0)) :=
    ⟨_, _, rfl, rfl, by simp, (Below.refl _ _).alloc (Nat.le_refl _) _, heap_alloc_new w _⟩
  rw [hq1, hR]
  have HRW := hide hR
  have HRq := hide (HR.out.below hbel (Nat.le_refl _))
  clear hq1 hR
  have hrt := rightL wq [(a, xs, cap)] #[.slice a n cap] 1 _ hRs rfl (by simp [Part.v, HL.out]) (rows_cons HRq.out HNO.out (rows_nil _)) (by simp [flat]; omega) (by simp [flat]; exact HB.out) (by omega)
  rw [show flat [(a, xs, cap)] = xs by simp [flat], HCS.out] at hrt
  have HRT := hide hrt
  clear hrt hRs
  refine HRT.out.mono ?_
  rintro e wb ⟨rfl, hbb⟩
  have hRb := below_block hbb hRh (Nat.le_refl _)
  have HRb := hide (HRq.out.below hbb (Nat.le_refl _))
  have hBb := hbel.trans (hbb.mono hbel.size)
  clear hbel hRh hbb HRq
  obtain ⟨r0, r1, r2, r3, rf⟩ := four_cells hRb
  have hRw : w.heap.size ≤ R := by have := HRW.out; omega
  have hBz := hide hBb
  clear hBb hRb
  go_wp2
  refine bodyPost_ret (v := .tuple #[.agg #[.int .u8 0, .int .u8 0, .int .u32 0, .slice none 0 0], .int .i64 12]) (by simp [results, Try.results42, go_sem, r0, r1, r2, r3]) rfl ⟨rfl, ?_⟩
  repeat (with_reducible refine Below.setCell ?_ (by assumption) _)
  exact hBz.out

set_option maxHeartbeats 1600000 in
theorem ricmp_ok (w : World) (a : Option Addr) (xs : List Int) (n cap p q ck r : Nat) (hr : Row .u8 w a xs) (hno : a = none → cap = 0) (hl : xs.length = n) (hb : ∀ x ∈ xs, 0 ≤ x ∧ x ≤ 255) (h1 : 8 ≤ n) (h2 : n ≤ 1480)
    (HV0 : Hid (fld xs 0 1 = p)) (HV1 : Hid (fld xs 1 1 = q)) (HV2 : Hid (fld xs 2 2 = ck)) (HV4 : Hid (fld xs 4 4 = r)) (HCS : Hid ((csum xs == 0) = true)) :
    Calls Try.prog 42 #[.slice a n cap] w fun e w' => ∃ a' c, e = .returned (.tuple #[.agg #[.int .u8 (p : Int), .int .u8 (q : Int), .int .u32 (r : Int), .slice a' (n - 8) c], .int .i64 0]) ∧ w'.ownsRow w.heap.size 5 1 (.slice a' (n - 8) c) (n - 8) ((xs.drop 8).map (Value.int .u8)) ∧ Below w.heap.size w w' := by
  have HR := hide hr
  have HNO := hide hno
  have hl1 : 8 ≤ xs.length := by omega
  have hl2 : xs.length ≤ 1480 := by omega
  have HL := hide hl
  have HB := hide hb
  clear hr hl hb hno
  go_enter Try.func42, Try.ntmps42
  go_wp2_with fail
  refine (fit_ok n 8 _ h1 h2).mono ?_
  rintro e wz ⟨rfl, rfl⟩
  go_wp2_with fail
  obtain ⟨R, wq, hR, hq1, hRs, hbel, hRh⟩ : ∃ R wq, w.heap.size = R ∧ w.alloc (.cells #[.int .u8 0, .int .u8 0, .int .u32 0, .slice none 0 0] 55) = wq ∧ wq.heap.size = R + 1 ∧ Below w.heap.size w wq ∧ wq.heap[R]? = some (.cells #[.int .u8 0, .int .u8 0, .int .u32 0, .slice none 0 0] 55 (0, 0)) :=
    ⟨_, _, rfl, rfl, by simp, (Below.refl _ _).alloc (Nat.le_refl _) _, heap_alloc_new w _⟩
  rw [hq1, hR]
  have HRW := hide hR
  have HRq := hide (HR.out.below hbel (Nat.le_refl _))
  clear hq1 hR
  have hrt := rightL wq [(a, xs, cap)] #[.slice a n cap] 1 _ hRs rfl (by simp [Part.v, HL.out]) (rows_cons HRq.out HNO.out (rows_nil _)) (by simp [flat]; omega) (by simp [flat]; exact HB.out) (by omega)
  rw [show flat [(a, xs, cap)] = xs by simp [flat], HCS.out] at hrt
  have HRT := hide hrt
  clear hrt hRs
  refine HRT.out.mono ?_
  rintro e wb ⟨rfl, hbb⟩
  have hRb := below_block hbb hRh (Nat.le_refl _)
  have HRb := hide (HRq.out.below hbb (Nat.le_refl _))
  have hBb := hbel.trans (hbb.mono hbel.size)
  clear hbel hRh hbb HRq
  have hp := fld_lt xs 0 1 HB.out
  have hq := fld_lt xs 1 1 HB.out
  have hk := fld_lt xs 2 2 HB.out
  have hr4 := fld_lt xs 4 4 HB.out
  rw [HV0.out] at hp
  rw [HV1.out] at hq
  rw [HV2.out] at hk
  rw [HV4.out] at hr4
  have hw8p : IntKind.u8.wrap (p : Int) = (p : Int) := by rw [IntKind.wrap_u8]; omega
  have hw8q : IntKind.u8.wrap (q : Int) = (q : Int) := by rw [IntKind.wrap_u8]; omega
  have hw32 : IntKind.u32.wrap (r : Int) = (r : Int) := by rw [IntKind.wrap_u32]; omega
  have hne := newEye_any a xs cap wb HRb.out (by omega)
  rw [HL.out] at hne
  have HNE := hide hne
  clear hne
  have HRbb := hide hRb
  have HBb := hide hBb
  clear hRb hBb
  go_wp2_with fail
  refine HNE.out.mono ?_
  rintro e w1 ⟨E, rfl, hE, heye, hb1⟩
  have hRE : R < E := Nat.lt_of_lt_of_le (lt_of_block HRbb.out) hE
  have hR1 := hide (below_block hb1 HRbb.out (Nat.le_refl _))
  have hB1 := hide (HBb.out.trans (hb1.mono HBb.out.size))
  have HE1 := hide (show EyeAt w1 E E (xs.drop 0) false by simpa using heye)
  clear heye hb1 hE HRbb HBb
  have hh1 := eyeNum_at E E 0 1 xs w1 HE1.out HB.out (by omega) (by omega) (by omega)
  rw [HV0.out] at hh1
  have HH1 := hide hh1
  clear hh1
  go_wp2_with fail
  refine HH1.out.mono ?_
  rintro e w2 ⟨rfl, he2, hg2⟩
  have HE2 := hide he2
  have HG2 := hide hg2
  clear he2 hg2
  have hh2 := eyeNum_at E E 1 1 xs w2 HE2.out HB.out (by omega) (by omega) (by omega)
  rw [HV1.out] at hh2
  have HH2 := hide hh2
  clear hh2
  go_wp2_with fail
  refine HH2.out.mono ?_
  rintro e w3 ⟨rfl, he3, hg3⟩
  have HE3 := hide he3
  have HG3 := hide hg3
  clear he3 hg3
  go_wp2_with fail
  obtain ⟨F, wf, hF, hq1, hbf, hFh⟩ : ∃ F wf, w3.heap.size = F ∧ w3.alloc (.cells #[.int .u8 (p : Int), .int .u8 (q : Int), .int .u32 0, .slice none 0 0] 55) = wf ∧ Below w3.heap.size w3 wf ∧ wf.heap[F]? = some (.cells #[.int .u8 (p : Int), .int .u8 (q : Int), .int .u32 0, .slice none 0 0] 55 (0, 0)) :=
    ⟨_, _, rfl, rfl, (Below.refl _ _).alloc (Nat.le_refl _) _, heap_alloc_new w3 _⟩
  rw [hq1, hF]
  have hEF : E < F := by have := HE3.out.lt; omega
  have HEf := hide (HE3.out.below hbf (Nat.le_refl _))
  have hG1f := gb_trans (gb_trans HG2.out HG3.out) (gb_of_below hbf)
  have hRf := hide (gb_block hG1f hR1.out (by omega))
  have hB0 := hB1.out
  have hBf := hide (hB0.trans (grownBy_below hG1f (show w.heap.size ≤ E by have := HRW.out; omega) hB0.size))
  have HFh := hide hFh
  clear hq1 hF hbf hFh hG1f hB0 HE1 HE2 HE3 HG2 HG3 hR1 hB1
  have hh4 := half_at E E 2 xs wf HEf.out HB.out (by omega) (by omega)
  rw [HV2.out] at hh4
  have HH4 := hide hh4
  clear hh4
  go_wp2_with fail
  refine HH4.out.mono ?_
  rintro e w5 ⟨rfl, he5, hg5⟩
  have HE5 := hide he5
  have HG5 := hide hg5
  clear he5 hg5
  have hh5 := eyeNum_at E E 4 4 xs w5 HE5.out HB.out (by omega) (by omega) (by omega)
  rw [HV4.out] at hh5
  have HH5 := hide hh5
  clear hh5
  go_wp2_with fail
  refine HH5.out.mono ?_
  rintro e w6 ⟨rfl, he6, hg6⟩
  have HE6 := hide he6
  have HG6 := hide hg6
  clear he6 hg6
  have hlf := left_at E E 8 xs n w6 HE6.out HL.out
  have hby := bytes_at E E 8 (n - 8) xs w6 HE6.out (by omega) (by have := HL.out; omega)
  rw [List.take_of_length_le (by rw [List.length_drop, HL.out]; omega)] at hby
  have HLF := hide hlf
  have HBY := hide hby
  clear hlf hby
  go_wp2_with fail
  refine HLF.out.mono ?_
  rintro e wl ⟨rfl, rfl⟩
  go_wp2_with fail
  refine HBY.out.mono ?_
  rintro e w8 ⟨a8, c8, rfl, o8, he8, hg8⟩
  have hGf := gb_trans (gb_trans HG5.out HG6.out) hg8
  have hF8 := gb_block hGf HFh.out (by omega)
  have hR8 := gb_block hGf hRf.out (by omega)
  obtain ⟨m0, m1, m2, m3, mf⟩ := four_cells hF8
  obtain ⟨r0, r1, r2, r3, rf⟩ := four_cells hR8
  have hBz := hide (hBf.out.trans (grownBy_below hGf (show w.heap.size ≤ E by have := HRW.out; omega) hBf.out.size))
  have hRw : w.heap.size ≤ R := by have := HRW.out; omega
  have hFw : w.heap.size ≤ F := by have := HRW.out; omega
  have hG46 := gb_trans HG5.out HG6.out
  have hF6 := gb_block hG46 HFh.out (by omega)
  have hR6 := gb_block hG46 hRf.out (by omega)
  have hFlt := lt_of_block hF6
  have hRlt := lt_of_block hR6
  have hbase : w.heap.size ≤ w6.heap.size := Nat.le_trans hBf.out.size hG46.size
  have hO8b := hide o8
  clear o8 he8 hg8 hF8 hR8 hF6 hR6 hGf hG46
  go_wp2
  refine bodyPost_ret (v := .tuple #[.agg #[.int .u8 (p : Int), .int .u8 (q : Int), .int .u32 (r : Int), .slice a8 (n - 8) c8], .int .i64 0]) (by simp [results, Try.results42, go_sem, r0, r1, r2, r3, m0, m1, m2, m3]) rfl ⟨a8, c8, rfl, ?_, ?_⟩
  · refine owns_mono (base := w6.heap.size) ?_ hbase
    repeat (with_reducible refine owns_set ?_ (by assumption))
    exact hO8b.out
  · repeat (with_reducible refine Below.setCell ?_ (by assumption) _)
    exact hBz.out
end Go.Proofs.Ytgggcapgaikbeaa

/- What the document's ReadICMP answers. -/
namespace Go.Proofs.Ytgggcapgaikbeaa
open Go.RowKit
set_option linter.unusedVariables false
set_option linter.unusedSimpArgs false
set_option maxRecDepth 100000
theorem owns_nil_at {w : World} {L base : Nat} (h : w.heap[L]? = some (.cells #[] 5 (0, 0))) (hb : base ≤ L) : w.ownsRow base 5 1 (.slice (some ⟨L, 0, none⟩) 0 0) 0 (([] : List Int).map (Value.int .u8)) :=
  ⟨by simp, .inr ⟨L, 0, #[], rfl, hb, h, Nat.le_refl _, by unfold maxLen; omega, rfl, rfl⟩⟩

set_option maxHeartbeats 800000 in
theorem rricmp_short (w : World) (a : Option Addr) (n cap : Nat) (h : n < 8) :
    Calls Try.prog 27 #[.slice a n cap] w fun e w' => e = .returned (.tuple #[.agg #[.int .u8 0, .int .u8 0, .int .u32 0, .slice none 0 0], .int .i64 10]) ∧ Below w.heap.size w w' := by
  go_enter Try.func27, Try.ntmps27
  go_wp2
  refine bodyPost_ret (v := .tuple #[.agg #[.int .u8 0, .int .u8 0, .int .u32 0, .slice none 0 0], .int .i64 10]) (by simp [results, Try.results27, go_sem]) rfl ⟨rfl, ?_⟩
  repeat (first | exact Below.refl _ _ | refine Below.setCell ?_ (Nat.le_refl _) _ | exact Below.alloc (Below.refl _ _) (Nat.le_refl _) _)

set_option maxHeartbeats 800000 in
theorem rricmp_long (w : World) (a : Option Addr) (n cap : Nat) (h : 1480 < n) :
    Calls Try.prog 27 #[.slice a n cap] w fun e w' => e = .returned (.tuple #[.agg #[.int .u8 0, .int .u8 0, .int .u32 0, .slice none 0 0], .int .i64 14]) ∧ Below w.heap.size w w' := by
  go_enter Try.func27, Try.ntmps27
  go_wp2
  refine bodyPost_ret (v := .tuple #[.agg #[.int .u8 0, .int .u8 0, .int .u32 0, .slice none 0 0], .int .i64 14]) (by simp [results, Try.results27, go_sem]) rfl ⟨rfl, ?_⟩
  repeat (first | exact Below.refl _ _ | refine Below.setCell ?_ (Nat.le_refl _) _ | exact Below.alloc (Below.refl _ _) (Nat.le_refl _) _)

set_option maxHeartbeats 800000 in
theorem rricmp_bad (w : World) (a : Option Addr) (xs : List Int) (n cap : Nat) (hr : Row .u8 w a xs) (hno : a = none → cap = 0) (hl : xs.length = n) (hbb : ∀ x ∈ xs, 0 ≤ x ∧ x ≤ 255) (h1 : 8 ≤ n) (h2 : n ≤ 1480) (HCS : Hid (csum xs ≠ 0)) :
    Calls Try.prog 27 #[.slice a n cap] w fun e w' => e = .returned (.tuple #[.agg #[.int .u8 0, .int .u8 0, .int .u32 0, .slice none 0 0], .int .i64 12]) ∧ Below w.heap.size w w' := by
  have HR := hide hr
  have HL := hide hl
  have HB := hide hbb
  have hl1 : 8 ≤ xs.length := by omega
  have hb1 : Below w.heap.size w (w.alloc (.cells #[.int .u8 0, .int .u8 0, .int .u32 0, .slice none 0 0] 55)) := (Below.refl _ _).alloc (Nat.le_refl _) _
  have hrs := refSum_any a xs cap (w.alloc (.cells #[.int .u8 0, .int .u8 0, .int .u32 0, .slice none 0 0] 55)) (HR.out.below hb1 (Nat.le_refl _)) hbb (by omega)
  rw [HL.out] at hrs
  obtain ⟨K, HK⟩ : ∃ K, Hid (csum xs = K) := ⟨_, rfl⟩
  rw [HK.out] at hrs HCS
  have hKn : (K != 0) = true := by have := HCS.out; simpa using this
  have HRS := hide hrs
  have HB1 := hide hb1
  have HZ := hide (heap_alloc_new w (.cells #[.int .u8 0, .int .u8 0, .int .u32 0, .slice none 0 0] 55))
  clear hr hl hbb hrs hb1
  have hn1 : ¬ ((n : Int) < 8) := by omega
  have hn2 : ¬ ((1480 : Int) < (n : Int)) := by omega
  go_enter Try.func27, Try.ntmps27
  go_wp2_with fail
  refine HRS.out.mono ?_
  rintro e w2 ⟨rfl, b2⟩
  obtain ⟨q0, q1, q2, q3, qf⟩ := four_cells (below_block b2 HZ.out (Nat.le_refl _))
  have HB2 := hide (HB1.out.trans (b2.mono HB1.out.size))
  have hw0 : w.heap.size ≤ w.heap.size := Nat.le_refl _
  clear b2
  go_wp2
  refine bodyPost_ret (v := .tuple #[.agg #[.int .u8 0, .int .u8 0, .int .u32 0, .slice none 0 0], .int .i64 12]) (by simp [results, Try.results27, go_sem, q0, q1, q2, q3]) rfl ⟨rfl, ?_⟩
  repeat (with_reducible refine Below.setCell ?_ (by assumption) _)
  exact HB2.out
end Go.Proofs.Ytgggcapgaikbeaa

/- What the document's ReadICMP answers of a right message. -/
namespace Go.Proofs.Ytgggcapgaikbeaa
open Go.RowKit
set_option linter.unusedVariables false
set_option linter.unusedSimpArgs false
set_option maxRecDepth 100000

set_option maxHeartbeats 1600000 in
theorem rricmp_ok (w : World) (a : Option Addr) (xs : List Int) (n cap p q r : Nat) (hr : Row .u8 w a xs) (hno : a = none → cap = 0) (hl : xs.length = n) (hbb : ∀ x ∈ xs, 0 ≤ x ∧ x ≤ 255) (h1 : 8 ≤ n) (h2 : n ≤ 1480) (hnc : n ≤ cap) (hcm : cap ≤ 9223372036854775807) (HV0 : Hid (fld xs 0 1 = p)) (HV1 : Hid (fld xs 1 1 = q)) (HV4 : Hid (fld xs 4 4 = r)) (HCS : Hid (csum xs = 0)) :
    Calls Try.prog 27 #[.slice a n cap] w fun e w' => ∃ a' c, e = .returned (.tuple #[.agg #[.int .u8 (p : Int), .int .u8 (q : Int), .int .u32 (r : Int), .slice a' (n - 8) c], .int .i64 0]) ∧ w'.ownsRow w.heap.size 5 1 (.slice a' (n - 8) c) (n - 8) ((xs.drop 8).map (Value.int .u8)) ∧ Below w.heap.size w w' := by
  have HR := hide hr
  have HL := hide hl
  have HB := hide hbb
  have hl1 : 8 ≤ xs.length := by omega
  have hb1 : Below w.heap.size w (w.alloc (.cells #[.int .u8 0, .int .u8 0, .int .u32 0, .slice none 0 0] 55)) := (Below.refl _ _).alloc (Nat.le_refl _) _
  have hrs := refSum_any a xs cap (w.alloc (.cells #[.int .u8 0, .int .u8 0, .int .u32 0, .slice none 0 0] 55)) (HR.out.below hb1 (Nat.le_refl _)) hbb (by omega)
  rw [HL.out] at hrs
  rw [HCS.out] at hrs
  have HRS := hide hrs
  have HB1 := hide hb1
  have HZ := hide (heap_alloc_new w (.cells #[.int .u8 0, .int .u8 0, .int .u32 0, .slice none 0 0] 55))
  clear hr hl hbb hrs hb1
  have hn1 : ¬ ((n : Int) < 8) := by omega
  have hn2 : ¬ ((1480 : Int) < (n : Int)) := by omega
  have HNO := hide hno
  clear hno
  obtain ⟨b0, o0, rfl, hlt0, hc0⟩ := HR.out (by intro e; subst e; simp at hl1)
  clear hc0
  have hbr := fld_lt xs 4 4 HB.out
  rw [HV4.out] at hbr
  have hbp := fld_lt xs 0 1 HB.out
  rw [HV0.out] at hbp
  have hbq := fld_lt xs 1 1 HB.out
  rw [HV1.out] at hbq
  have hwr : IntKind.u32.wrap (r : Int) = (r : Int) := by rw [IntKind.wrap_u32]; omega
  go_enter Try.func27, Try.ntmps27
  go_wp2_with fail
  refine HRS.out.mono ?_
  rintro e w2 ⟨rfl, b2⟩
  have hR2 := below_block b2 HZ.out (Nat.le_refl _)
  have hB2 := HB1.out.trans (b2.mono HB1.out.size)
  have hRl := lt_of_block hR2
  go_wp2_with fail
  obtain ⟨E, w3, hE, hw3, HE, HRR, HBW, hRE, h3s⟩ : ∃ E wt, w2.heap.size = E ∧ w2.alloc (.cells #[.slice (some ⟨b0, o0, none⟩) n cap, .int .i64 (4 : Int), .bool false] 93) = wt ∧ Hid (REye wt E (some ⟨b0, o0, none⟩) n cap 4 false) ∧ Hid (wt.heap[w.heap.size]? = some (.cells #[.int .u8 0, .int .u8 0, .int .u32 0, .slice none 0 0] 55 (0, 0))) ∧ Hid (Below w.heap.size w wt) ∧ w.heap.size < E ∧ wt.heap.size = E + 1 :=
    ⟨_, _, rfl, rfl, hide (heap_alloc_new w2 _), hide ((Below.heap_alloc _ _ _ (by omega)).trans hR2), hide (hB2.alloc hB2.size _), hRl, by simp⟩
  rw [hw3, hE]
  have hE3 : E < w3.heap.size := by omega
  have H3S := hide h3s
  have HRW := hide (HR.out.below HBW.out (Nat.le_refl _))
  clear b2 hR2 hB2 hRl hw3 hE HZ HRS HB1 h3s
  have hls : w.heap.size ≤ w3.heap.size := HBW.out.size
  have hlt3 : w.heap.size < w3.heap.size := lt_of_block HRR.out
  obtain ⟨bx, ox, hbe, hlt1, hc1⟩ := HRW.out (by intro e; have := HL.out; subst e; simp at hl1)
  cases hbe
  have c0 := hc1 0 (by omega)
  have c1 := hc1 1 (by omega)
  rw [fld_one xs 0 HB.out (by omega), HV0.out] at c0
  rw [fld_one xs 1 HB.out (by omega), HV1.out] at c1
  simp only [Nat.add_zero] at c0
  clear hc1 hlt1
  have hb0w : ¬ b0 = w.heap.size := by omega
  have hb0w2 : ¬ w.heap.size = b0 := by omega
  have hn0 : (0 : Int) < (n : Int) := by omega
  have hn0n : 0 < n := by omega
  have hn1p : (1 : Int) < (n : Int) := by omega
  have hn8 : (8 : Int) ≤ (n : Int) := by omega
  obtain ⟨A1, hs1, hrA1, hnA1⟩ := tail_cut (some ⟨b0, o0, none⟩) xs n cap 8 w HR.out HL.out hnc (fun h => by cases h) (by omega)
  rw [show ((8 : Nat) : Int) = 8 from rfl] at hs1
  have HRA := hide hrA1
  have HNA := hide hnA1
  clear hrA1 hnA1
  -- the number, in whatever memory that holds the Eye
  have HN := hide (fun (V : World) (hV : Below w3.heap.size w3 V) => by
    have hVE : V.heap[E]? = some (.cells #[.slice (some ⟨b0, o0, none⟩) n cap, .int .i64 (4 : Int), .bool false] 93 (0, 0)) := below_block hV HE.out (Nat.le_refl _)
    have h := rEye_at E 4 4 (some ⟨b0, o0, none⟩) xs n cap V hVE (HRW.out.below hV (Nat.le_refl _)) HB.out HL.out hnc hcm (fun h => by cases h) (by omega) (by omega) (by omega)
    rw [HV4.out, show ((4 : Nat) : Int) = 4 from rfl] at h
    exact (h.mono fun e w' ⟨g1, g2, g3⟩ => ⟨g1, g3⟩ : Calls Try.prog 51 #[.pointer (some ⟨E, 0, none⟩), .int .i64 4] V fun e w' => e = .returned (.int .u64 (r : Int)) ∧ V.grownBy w' (some E)))
  -- the append, onto a row of its own
  have HA := hide (fun (V : World) (L : Nat) (hL : V.heap[L]? = some (.cells #[] 5 (0, 0))) (hLb : w3.heap.size ≤ L) (hV : Below (w.heap.size + 1) w3 V ∧ w3.heap.size ≤ V.heap.size ∧ w.heap.size < E) (hro : Row .u8 V A1 (xs.drop 8)) => by
    obtain ⟨v', w', g1, g2, g3⟩ := app_own V w3.heap.size _ 0 [] (owns_nil_at hL hLb) A1 (xs.drop 8) (n - 8) (cap - 8) hro (by rw [List.length_drop, HL.out]) HNA.out (by omega) hV.2.1
    obtain ⟨a8, c8, rfl⟩ := slice_form g2
    simp only [Nat.zero_add, List.nil_append] at g2 g1
    exact (⟨_, w', g1, a8, c8, rfl, g2, hV.1.trans (g3.mono (by have := hV.2.1; omega)), g3⟩ : ∃ v' w', (Builtin.append_ #[25, 25] 25 #[.slice (some ⟨L, 0, none⟩) 0 0, .slice A1 (n - 8) (cap - 8)]).run Try.prog V = .ok v' w' ∧ ∃ a8 c8, v' = .slice a8 (n - 8) c8 ∧ w'.ownsRow w3.heap.size 5 1 (.slice a8 (n - 8) c8) (n - 8) ((xs.drop 8).map (Value.int .u8)) ∧ Below (w.heap.size + 1) w3 w' ∧ Below w3.heap.size V w'))
  have hdr : Below w3.heap.size w3 w3 := Below.refl _ _
  have hal : Below w3.heap.size w3 (w3.alloc (.cells #[] 5)) := (Below.refl _ _).alloc (Nat.le_refl _) _
  have HDR := hide hdr
  have HAL := hide hal
  have HC0 := hide c0
  have HC1 := hide c1
  clear hdr hal
  go_region_held3 (fun w' => w'.cell? ⟨b0, o0, none⟩ = some (.int .u8 p) ∧ w'.cell? ⟨b0, o0 + 1, none⟩ = some (.int .u8 q)) (go_keep) (first
    | (go_at_call 51; (with_reducible refine (HN.out _ ?_).mono ?_); (first | exact HDR.out.drew | exact HAL.out.drew); rintro e w4 ⟨rfl, g4⟩; have B4 : Below w3.heap.size w3 w3 := HDR.out;
        have b4 : Below (w.heap.size + 1) w3 w4 := (by first | exact below_of_drew (grownBy_below g4 (by omega) (by simp; omega)) | exact (HAL.out.mono (by omega)).trans (below_of_drew (grownBy_below g4 (by omega) (by simp; omega))));
        have z4 : w3.heap.size ≤ w4.heap.size := (by have := g4.size; simp at this; omega);
        have k0 : w4.cell? ⟨b0, o0, none⟩ = some (.int .u8 p) := (b4.cell (p := ⟨b0, o0, none⟩) (by show b0 < _; omega)).trans HC0.out;
        have k1 : w4.cell? ⟨b0, o0 + 1, none⟩ = some (.int .u8 q) := (b4.cell (p := ⟨b0, o0 + 1, none⟩) (by show b0 < _; omega)).trans HC1.out;
        have r4 : Row .u8 w4 A1 (xs.drop 8) := HRA.out.below (HBW.out.trans (b4.mono (by omega))) (Nat.le_refl _);
        (first
          | (have HX := hide (HA.out w4 w3.heap.size (gb_block g4 (by exact heap_alloc_new w3 _) (by omega)) (Nat.le_refl _) ⟨b4, z4, hRE⟩ r4))
          | (have HX := hide (HA.out (w4.alloc (.cells #[] 5)) w4.heap.size (heap_alloc_new w4 _) z4 ⟨b4.alloc (by omega) _, (by simp; omega), hRE⟩ (Row.below r4 ((Below.refl _ _).alloc (Nat.le_refl _) _) (Nat.le_refl _)))));
        clear g4 b4 r4 B4)
    | (refine step_append_ex rfl (.tmp 29) (.tmp 31) 25 25 rfl _ _ rfl rfl _ HX.out ?_; rintro v9 w9 ⟨a8, c8, rfl, o9, b9, b9x⟩;
        obtain ⟨q0, q1, q2, q3, qf⟩ := four_cells ((b9.block w.heap.size (by omega)).trans HRR.out);
        have j0 : w9.cell? ⟨b0, o0, none⟩ = some (.int .u8 p) := (b9.cell (p := ⟨b0, o0, none⟩) (by show b0 < _; omega)).trans HC0.out;
        have j1 : w9.cell? ⟨b0, o0 + 1, none⟩ = some (.int .u8 q) := (b9.cell (p := ⟨b0, o0 + 1, none⟩) (by show b0 < _; omega)).trans HC1.out;
        have HO9 := hide o9; have HB9 := hide (HBW.out.trans (b9.mono (by omega)));
        clear o9 b9 b9x)
    | fail)
  all_goals
    go_wp2
    refine bodyPost_ret (v := .tuple #[.agg #[.int .u8 (p : Int), .int .u8 (q : Int), .int .u32 (r : Int), .slice a8 (n - 8) c8], .int .i64 0]) (by simp [results, Try.results27, go_sem, q0, q1, q2, q3]) rfl ⟨a8, c8, rfl, ?_, ?_⟩
    · refine owns_mono (base := w3.heap.size) ?_ hls
      repeat (with_reducible refine owns_set ?_ (by assumption))
      exact HO9.out
    · have hw0 : w.heap.size ≤ w.heap.size := Nat.le_refl _
      repeat (with_reducible refine Below.setCell ?_ (by assumption) _)
      exact HB9.out
end Go.Proofs.Ytgggcapgaikbeaa
