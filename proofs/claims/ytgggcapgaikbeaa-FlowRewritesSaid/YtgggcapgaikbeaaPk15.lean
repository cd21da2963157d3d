/- Between which ends a packet goes: the document's answer. -/
import Derived.Test.YtgggcapgaikbeaaPk12
namespace Go.Proofs.Ytgggcapgaikbeaa
open Go.RowKit
set_option linter.unusedVariables false
set_option linter.unusedSimpArgs false
set_option maxRecDepth 100000
theorem tg_any {w W : World} {R B : Nat} {p s d f t : Int} (h : TG w R B p s d f t W) (p' s' d' f' t' : Int) : ∃ W2, ((((W.setCell ⟨R, 0, none⟩ (.int .u8 p')).setCell ⟨R, 1, none⟩ (.int .u32 s')).setCell ⟨R, 2, none⟩ (.int .u32 d')).setCell ⟨R, 3, none⟩ (.int .u16 f')).setCell ⟨R, 4, none⟩ (.int .u16 t') = W2 ∧ FB W2 R p' s' d' f' t' ∧ Below w.heap.size w W2 :=
  ⟨_, rfl, h.fr.store p' s' d' f' t', below5 h.below h.le _ _ _ _ _⟩
set_option maxHeartbeats 4000000 in
theorem rof_other (w : World) (ttl pid : Int) (P S D : Nat) (a : Option Addr) (n cap : Nat) (xs : List Int) (hLx : Lies w a xs n cap) (hl : xs.length = n) (hb : ∀ x ∈ xs, 0 ≤ x ∧ x ≤ 255) (hS : S ≤ 4294967295) (hD : D ≤ 4294967295) (h6 : P ≠ 6) (h17 : P ≠ 17) (h1 : P ≠ 1) :
    Calls Try.prog 14 #[.agg #[.int .u8 ttl, .int .u8 (P : Int), .int .u16 pid, .int .u32 (S : Int), .int .u32 (D : Int), .slice a n cap]] w fun e w' => e = .returned (.tuple #[(ofFl P S D xs).v, .int .i64 (ofKind P S D xs), .int .i64 (ofErr P S D xs : Nat)]) ∧ Below w.heap.size w w' := by
  have d6 : ((P : Int) == 6) = false := by simp; omega
  have d17 : ((P : Int) == 17) = false := by simp; omega
  have d1 : ((P : Int) != 1) = true := by simp; omega
  have he : ofErr P S D xs = 11 := by unfold ofErr; rw [if_neg h6, if_neg h17, if_neg h1]
  have HANS := hide (show ofFl P S D xs = zeroF ∧ ofKind P S D xs = 0 ∧ ofErr P S D xs = 11 by unfold ofFl ofKind; rw [he]; exact ⟨rfl, rfl, rfl⟩)
  clear he h6 h17 h1 hLx hl hb
  obtain ⟨V1, hV1⟩ : ∃ V, w.alloc (.cells (#[.int .u8 ttl, .int .u8 (P : Int), .int .u16 pid, .int .u32 (S : Int), .int .u32 (D : Int), .slice a n cap]) 27) = V := ⟨_, rfl⟩
  obtain ⟨V2, hV2⟩ : ∃ V, V1.alloc (.cells (#[.int .u8 0, .int .u32 0, .int .u32 0, .int .u16 0, .int .u16 0]) 29) = V := ⟨_, rfl⟩
  obtain ⟨V3, hV3⟩ : ∃ V, V2.alloc (.cells (#[.int .u8 (P : Int), .int .u32 (S : Int), .int .u32 (D : Int), .int .u16 0, .int .u16 0]) 29) = V := ⟨_, rfl⟩
  have hz1 : V1.heap.size = w.heap.size + 1 := by rw [← hV1]; simp
  have hz2 : V2.heap.size = w.heap.size + 1 + 1 := by rw [← hV2]; simp [hz1]
  have hb1 : Below w.heap.size w V1 := by rw [← hV1]; exact (Below.refl _ _).alloc (Nat.le_refl _) _
  have hb12 : Below V1.heap.size V1 V2 := by rw [← hV2]; exact (Below.refl _ _).alloc (Nat.le_refl _) _
  have hb23 : Below V2.heap.size V2 V3 := by rw [← hV3]; exact (Below.refl _ _).alloc (Nat.le_refl _) _
  have hb2 := hb1.trans (hb12.mono hb1.size)
  have hb3 := hb2.trans (hb23.mono hb2.size)
  have hp1 : V1.heap[w.heap.size]? = some (.cells (#[.int .u8 ttl, .int .u8 (P : Int), .int .u16 pid, .int .u32 (S : Int), .int .u32 (D : Int), .slice a n cap]) 27 (0, 0)) := by rw [← hV1]; exact heap_alloc_new _ _
  have hp2 := below_block hb12 hp1 (Nat.le_refl _)
  have hp3 := below_block hb23 hp2 (Nat.le_refl _)
  have hr2 : V2.heap[w.heap.size + 1]? = some (.cells (#[.int .u8 0, .int .u32 0, .int .u32 0, .int .u16 0, .int .u16 0]) 29 (0, 0)) := by rw [← hV2, ← hz1]; exact heap_alloc_new _ _
  have hr3 := below_block hb23 hr2 (Nat.le_refl _)
  have hf3 : V3.heap[w.heap.size + 1 + 1]? = some (.cells (#[.int .u8 (P : Int), .int .u32 (S : Int), .int .u32 (D : Int), .int .u16 0, .int .u16 0]) 29 (0, 0)) := by rw [← hV3, ← hz2]; exact heap_alloc_new _ _
  obtain ⟨PB, hPB⟩ : ∃ B, w.heap.size = B := ⟨_, rfl⟩
  obtain ⟨RB, hRB⟩ : ∃ B, w.heap.size + 1 = B := ⟨_, rfl⟩
  obtain ⟨FBk, hFB⟩ : ∃ B, w.heap.size + 1 + 1 = B := ⟨_, rfl⟩
  rw [hPB] at hp2 hp3
  rw [hRB] at hr3
  rw [hFB] at hf3
  have hwR : w.heap.size ≤ RB := by omega
  have hRF : RB < FBk := by omega
  have hPF : PB ≠ FBk := by omega
  have hPR : PB ≠ RB := by omega
  have hTG : TG w RB FBk P S D 0 0 V3 := ⟨hRF, hwR, hf3, hr3, hb3⟩
  have HE := hide (And.intro hV1 (And.intro hV2 (And.intro hV3 (And.intro hPB (And.intro hRB (And.intro hFB hz2))))))
  have HT3 := hide hTG
  have HP3 := hide hp3
  have e1' : V2.cell? ⟨PB, 1, none⟩ = some (.int .u8 (P : Int)) := cell_at hp2 1 rfl
  have e3' : V2.cell? ⟨PB, 3, none⟩ = some (.int .u32 (S : Int)) := cell_at hp2 3 rfl
  have e4' : V2.cell? ⟨PB, 4, none⟩ = some (.int .u32 (D : Int)) := cell_at hp2 4 rfl
  have e1 : V3.cell? ⟨PB, 1, none⟩ = some (.int .u8 (P : Int)) := cell_at hp3 1 rfl
  have e3 : V3.cell? ⟨PB, 3, none⟩ = some (.int .u32 (S : Int)) := cell_at hp3 3 rfl
  have e4 : V3.cell? ⟨PB, 4, none⟩ = some (.int .u32 (D : Int)) := cell_at hp3 4 rfl
  have e5 : V3.cell? ⟨PB, 5, none⟩ = some (.slice a n cap) := cell_at hp3 5 rfl
  clear hV1 hV2 hV3 hz1 hz2 hb1 hb12 hb23 hb2 hb3 hp1 hp2 hp3 hr2 hr3 hf3 hPB hRB hFB hTG
  go_enter Try.func14, Try.ntmps14
  go_upto_region 1 with (fail)
  rw [HE.out.1, HE.out.2.1, HE.out.2.2.2.2.1, HE.out.2.2.2.1]
  go_upto_region 2 with (fail)
  rw [HE.out.2.2.1, HE.out.2.2.2.2.2.2, HE.out.2.2.2.2.2.1]
  clear HE e1' e3' e4'
  obtain ⟨y0, y1, y2, y3, y4, yf⟩ := five_cells HT3.out.fr
  obtain ⟨w10, h10, hfb, hbb⟩ := TG.none HT3.out.le HT3.out.fr HT3.out.below
  have HFE := hide hfb
  have HB10 := hide hbb
  clear hfb hbb
  go_wp2_with fail
  try rw [h10]
  exact bodyPost_ret (v := .tuple #[.agg #[.int .u8 0, .int .u32 0, .int .u32 0, .int .u16 0, .int .u16 0], .int .i64 0, .int .i64 11]) (results_cell_tmp2 Try.results14 _ w10 RB _ _ _ _ rfl HFE.out Try.underlying29 rfl (by kernel_rfl) _ _ rfl rfl) rfl ⟨by rw [HANS.out.1, HANS.out.2.1, HANS.out.2.2]; rfl, HB10.out⟩
set_option maxHeartbeats 4000000 in
theorem rof_tcp (w : World) (ttl pid : Int) (P S D : Nat) (a : Option Addr) (n cap : Nat) (xs : List Int) (hLx : Lies w a xs n cap) (hl : xs.length = n) (hb : ∀ x ∈ xs, 0 ≤ x ∧ x ≤ 255) (hS : S ≤ 4294967295) (hD : D ≤ 4294967295) (hP : P = 6) :
    Calls Try.prog 14 #[.agg #[.int .u8 ttl, .int .u8 (P : Int), .int .u16 pid, .int .u32 (S : Int), .int .u32 (D : Int), .slice a n cap]] w fun e w' => e = .returned (.tuple #[(ofFl P S D xs).v, .int .i64 (ofKind P S D xs), .int .i64 (ofErr P S D xs : Nat)]) ∧ Below w.heap.size w w' := by
  have d6 : ((P : Int) == 6) = true := by simp [hP]
  have HT := hide (fun (W : World) (hW : Below w.heap.size w W) => (readTCP_both S D xs n hl hb hS hD).2 W a cap (hLx.below hW (Nat.le_refl _)))
  have he : ofErr P S D xs = segCode S D xs := by unfold ofErr; rw [if_pos hP]
  obtain ⟨sg, hsg⟩ : ∃ sg, segOf S D xs = sg := ⟨_, rfl⟩
  obtain ⟨code, hcode⟩ : ∃ sg, segCode S D xs = sg := ⟨_, rfl⟩
  rw [hcode] at he
  rw [hsg, hcode] at HT
  have hf0 : code ≠ 0 → ofFl P S D xs = zeroF ∧ ofKind P S D xs = 0 ∧ ofErr P S D xs = code := fun h => by unfold ofFl ofKind; rw [he, if_neg h, if_neg h]; exact ⟨rfl, rfl, rfl⟩
  have hf1 : code = 0 → ofFl P S D xs = ⟨P, S, D, sg.p, sg.q⟩ ∧ ofKind P S D xs = 1 ∧ ofErr P S D xs = 0 := fun h => by
    unfold ofFl ofKind
    rw [he, if_pos h, if_pos h, if_pos hP, if_pos (by omega), hsg, h, hP]
    exact ⟨rfl, rfl, rfl⟩
  obtain ⟨p, q, u, v, f, g, h, os, ds⟩ := sg
  unfold SegAns TcpAns at HT
  dsimp only at HT hf1
  by_cases h0 : code = 0
  · have d0 : ((code : Int) != 0) = false := by simp [h0]
    have HANS := hide (hf1 h0)
    clear hf0 hf1 h0 he hsg hcode hP hLx hl hb
    obtain ⟨V1, hV1⟩ : ∃ V, w.alloc (.cells (#[.int .u8 ttl, .int .u8 (P : Int), .int .u16 pid, .int .u32 (S : Int), .int .u32 (D : Int), .slice a n cap]) 27) = V := ⟨_, rfl⟩
    obtain ⟨V2, hV2⟩ : ∃ V, V1.alloc (.cells (#[.int .u8 0, .int .u32 0, .int .u32 0, .int .u16 0, .int .u16 0]) 29) = V := ⟨_, rfl⟩
    obtain ⟨V3, hV3⟩ : ∃ V, V2.alloc (.cells (#[.int .u8 (P : Int), .int .u32 (S : Int), .int .u32 (D : Int), .int .u16 0, .int .u16 0]) 29) = V := ⟨_, rfl⟩
    have hz1 : V1.heap.size = w.heap.size + 1 := by rw [← hV1]; simp
    have hz2 : V2.heap.size = w.heap.size + 1 + 1 := by rw [← hV2]; simp [hz1]
    have hb1 : Below w.heap.size w V1 := by rw [← hV1]; exact (Below.refl _ _).alloc (Nat.le_refl _) _
    have hb12 : Below V1.heap.size V1 V2 := by rw [← hV2]; exact (Below.refl _ _).alloc (Nat.le_refl _) _
    have hb23 : Below V2.heap.size V2 V3 := by rw [← hV3]; exact (Below.refl _ _).alloc (Nat.le_refl _) _
    have hb2 := hb1.trans (hb12.mono hb1.size)
    have hb3 := hb2.trans (hb23.mono hb2.size)
    have hp1 : V1.heap[w.heap.size]? = some (.cells (#[.int .u8 ttl, .int .u8 (P : Int), .int .u16 pid, .int .u32 (S : Int), .int .u32 (D : Int), .slice a n cap]) 27 (0, 0)) := by rw [← hV1]; exact heap_alloc_new _ _
    have hp2 := below_block hb12 hp1 (Nat.le_refl _)
    have hp3 := below_block hb23 hp2 (Nat.le_refl _)
    have hr2 : V2.heap[w.heap.size + 1]? = some (.cells (#[.int .u8 0, .int .u32 0, .int .u32 0, .int .u16 0, .int .u16 0]) 29 (0, 0)) := by rw [← hV2, ← hz1]; exact heap_alloc_new _ _
    have hr3 := below_block hb23 hr2 (Nat.le_refl _)
    have hf3 : V3.heap[w.heap.size + 1 + 1]? = some (.cells (#[.int .u8 (P : Int), .int .u32 (S : Int), .int .u32 (D : Int), .int .u16 0, .int .u16 0]) 29 (0, 0)) := by rw [← hV3, ← hz2]; exact heap_alloc_new _ _
    obtain ⟨PB, hPB⟩ : ∃ B, w.heap.size = B := ⟨_, rfl⟩
    obtain ⟨RB, hRB⟩ : ∃ B, w.heap.size + 1 = B := ⟨_, rfl⟩
    obtain ⟨FBk, hFB⟩ : ∃ B, w.heap.size + 1 + 1 = B := ⟨_, rfl⟩
    rw [hPB] at hp2 hp3
    rw [hRB] at hr3
    rw [hFB] at hf3
    have hwR : w.heap.size ≤ RB := by omega
    have hRF : RB < FBk := by omega
    have hPF : PB ≠ FBk := by omega
    have hPR : PB ≠ RB := by omega
    have hTG : TG w RB FBk P S D 0 0 V3 := ⟨hRF, hwR, hf3, hr3, hb3⟩
    have HE := hide (And.intro hV1 (And.intro hV2 (And.intro hV3 (And.intro hPB (And.intro hRB (And.intro hFB hz2))))))
    have HT3 := hide hTG
    have HP3 := hide hp3
    have e1' : V2.cell? ⟨PB, 1, none⟩ = some (.int .u8 (P : Int)) := cell_at hp2 1 rfl
    have e3' : V2.cell? ⟨PB, 3, none⟩ = some (.int .u32 (S : Int)) := cell_at hp2 3 rfl
    have e4' : V2.cell? ⟨PB, 4, none⟩ = some (.int .u32 (D : Int)) := cell_at hp2 4 rfl
    have e1 : V3.cell? ⟨PB, 1, none⟩ = some (.int .u8 (P : Int)) := cell_at hp3 1 rfl
    have e3 : V3.cell? ⟨PB, 3, none⟩ = some (.int .u32 (S : Int)) := cell_at hp3 3 rfl
    have e4 : V3.cell? ⟨PB, 4, none⟩ = some (.int .u32 (D : Int)) := cell_at hp3 4 rfl
    have e5 : V3.cell? ⟨PB, 5, none⟩ = some (.slice a n cap) := cell_at hp3 5 rfl
    clear hV1 hV2 hV3 hz1 hz2 hb1 hb12 hb23 hb2 hb3 hp1 hp2 hp3 hr2 hr3 hf3 hPB hRB hFB hTG
    go_enter Try.func14, Try.ntmps14
    go_upto_region 1 with (fail)
    rw [HE.out.1, HE.out.2.1, HE.out.2.2.2.2.1, HE.out.2.2.2.1]
    go_upto_region 2 with (fail)
    rw [HE.out.2.2.1, HE.out.2.2.2.2.2.2, HE.out.2.2.2.2.2.1]
    clear HE e1' e3' e4'
    go_wp2_with fail
    refine (HT.out V3 HT3.out.below).mono ?_
    rintro e w4 ⟨a1, c1, a2, c2, rfl, o1, o2, b4⟩
    have HT4 := hide (HT3.out.below' b4)
    have hsb := heap_alloc_new w4 (.cells #[.int .u16 (p : Int), .int .u16 (q : Int), .int .u32 (u : Int), .int .u32 (v : Int), .int .u8 (f : Int), .int .u16 (g : Int), .int .u16 (h : Int), .slice a1 os.length c1, .slice a2 ds.length c2] 61)
    have hal := (Below.refl w4.heap.size w4).alloc (Nat.le_refl _) (.cells #[.int .u16 (p : Int), .int .u16 (q : Int), .int .u32 (u : Int), .int .u32 (v : Int), .int .u8 (f : Int), .int .u16 (g : Int), .int .u16 (h : Int), .slice a1 os.length c1, .slice a2 ds.length c2] 61)
    have hFl := lt_of_block HT4.out.fb
    obtain ⟨w5, hw5, HT5, s0, s1, hne⟩ : ∃ wt, w4.alloc (.cells #[.int .u16 (p : Int), .int .u16 (q : Int), .int .u32 (u : Int), .int .u32 (v : Int), .int .u8 (f : Int), .int .u16 (g : Int), .int .u16 (h : Int), .slice a1 os.length c1, .slice a2 ds.length c2] 61) = wt ∧ Hid (TG w RB FBk P S D 0 0 wt) ∧ wt.cell? ⟨w4.heap.size, 0, none⟩ = some (.int .u16 (p : Int)) ∧ wt.cell? ⟨w4.heap.size, 1, none⟩ = some (.int .u16 (q : Int)) ∧ w4.heap.size ≠ FBk := ⟨_, rfl, hide (HT4.out.below' hal), cell_at hsb 0 rfl, cell_at hsb 1 rfl, by omega⟩
    obtain ⟨X, hX⟩ : ∃ X, w4.heap.size = X := ⟨_, rfl⟩
    rw [hX] at s0 s1 hne
    have HX := hide hX
    clear b4 o1 o2 hsb hal e1 e3 e4 e5 HT3 HP3 HT hX HT4 hFl
    go_upto_region 4 with (fail)
    try rw [hw5]
    rw [HX.out]
    clear hw5 HX
    obtain ⟨x0, x1, x2, x3, x4, xf⟩ := five_cells HT5.out.fb
    have hneF : FBk ≠ X := fun h => hne h.symm
    obtain ⟨w6, hw6, HT6⟩ : ∃ wt, (w5.setCell ⟨FBk, 3, none⟩ (.int .u16 (p : Int))).setCell ⟨FBk, 4, none⟩ (.int .u16 (q : Int)) = wt ∧ Hid (TG w RB FBk P S D p q wt) := ⟨_, rfl, hide (HT5.out.ports p q)⟩
    go_upto_region 8 with (fail)
    try rw [hw6]
    clear hw6 x0 x1 x2 x3 x4 xf s0 s1 HT5
    obtain ⟨x0, x1, x2, x3, x4, xf⟩ := five_cells HT6.out.fb
    obtain ⟨y0, y1, y2, y3, y4, yf⟩ := five_cells HT6.out.fr
    obtain ⟨w10, h10, hfb, hbb⟩ := HT6.out.answer
    have HFE := hide hfb
    have HB10 := hide hbb
    clear hfb hbb
    go_wp2_with fail
    try rw [h10]
    exact bodyPost_ret (v := .tuple #[.agg #[.int .u8 (P : Int), .int .u32 (S : Int), .int .u32 (D : Int), .int .u16 (p : Int), .int .u16 (q : Int)], .int .i64 1, .int .i64 0]) (results_cell_tmp2 Try.results14 _ w10 RB _ _ _ _ rfl HFE.out Try.underlying29 rfl (by kernel_rfl) _ _ rfl rfl) rfl ⟨by rw [HANS.out.1, HANS.out.2.1, HANS.out.2.2]; rfl, HB10.out⟩
  · have d0 : ((code : Int) != 0) = true := by simp; omega
    have HANS := hide (hf0 h0)
    clear hf0 hf1 h0 he hsg hcode hP hLx hl hb
    obtain ⟨V1, hV1⟩ : ∃ V, w.alloc (.cells (#[.int .u8 ttl, .int .u8 (P : Int), .int .u16 pid, .int .u32 (S : Int), .int .u32 (D : Int), .slice a n cap]) 27) = V := ⟨_, rfl⟩
    obtain ⟨V2, hV2⟩ : ∃ V, V1.alloc (.cells (#[.int .u8 0, .int .u32 0, .int .u32 0, .int .u16 0, .int .u16 0]) 29) = V := ⟨_, rfl⟩
    obtain ⟨V3, hV3⟩ : ∃ V, V2.alloc (.cells (#[.int .u8 (P : Int), .int .u32 (S : Int), .int .u32 (D : Int), .int .u16 0, .int .u16 0]) 29) = V := ⟨_, rfl⟩
    have hz1 : V1.heap.size = w.heap.size + 1 := by rw [← hV1]; simp
    have hz2 : V2.heap.size = w.heap.size + 1 + 1 := by rw [← hV2]; simp [hz1]
    have hb1 : Below w.heap.size w V1 := by rw [← hV1]; exact (Below.refl _ _).alloc (Nat.le_refl _) _
    have hb12 : Below V1.heap.size V1 V2 := by rw [← hV2]; exact (Below.refl _ _).alloc (Nat.le_refl _) _
    have hb23 : Below V2.heap.size V2 V3 := by rw [← hV3]; exact (Below.refl _ _).alloc (Nat.le_refl _) _
    have hb2 := hb1.trans (hb12.mono hb1.size)
    have hb3 := hb2.trans (hb23.mono hb2.size)
    have hp1 : V1.heap[w.heap.size]? = some (.cells (#[.int .u8 ttl, .int .u8 (P : Int), .int .u16 pid, .int .u32 (S : Int), .int .u32 (D : Int), .slice a n cap]) 27 (0, 0)) := by rw [← hV1]; exact heap_alloc_new _ _
    have hp2 := below_block hb12 hp1 (Nat.le_refl _)
    have hp3 := below_block hb23 hp2 (Nat.le_refl _)
    have hr2 : V2.heap[w.heap.size + 1]? = some (.cells (#[.int .u8 0, .int .u32 0, .int .u32 0, .int .u16 0, .int .u16 0]) 29 (0, 0)) := by rw [← hV2, ← hz1]; exact heap_alloc_new _ _
    have hr3 := below_block hb23 hr2 (Nat.le_refl _)
    have hf3 : V3.heap[w.heap.size + 1 + 1]? = some (.cells (#[.int .u8 (P : Int), .int .u32 (S : Int), .int .u32 (D : Int), .int .u16 0, .int .u16 0]) 29 (0, 0)) := by rw [← hV3, ← hz2]; exact heap_alloc_new _ _
    obtain ⟨PB, hPB⟩ : ∃ B, w.heap.size = B := ⟨_, rfl⟩
    obtain ⟨RB, hRB⟩ : ∃ B, w.heap.size + 1 = B := ⟨_, rfl⟩
    obtain ⟨FBk, hFB⟩ : ∃ B, w.heap.size + 1 + 1 = B := ⟨_, rfl⟩
    rw [hPB] at hp2 hp3
    rw [hRB] at hr3
    rw [hFB] at hf3
    have hwR : w.heap.size ≤ RB := by omega
    have hRF : RB < FBk := by omega
    have hPF : PB ≠ FBk := by omega
    have hPR : PB ≠ RB := by omega
    have hTG : TG w RB FBk P S D 0 0 V3 := ⟨hRF, hwR, hf3, hr3, hb3⟩
    have HE := hide (And.intro hV1 (And.intro hV2 (And.intro hV3 (And.intro hPB (And.intro hRB (And.intro hFB hz2))))))
    have HT3 := hide hTG
    have HP3 := hide hp3
    have e1' : V2.cell? ⟨PB, 1, none⟩ = some (.int .u8 (P : Int)) := cell_at hp2 1 rfl
    have e3' : V2.cell? ⟨PB, 3, none⟩ = some (.int .u32 (S : Int)) := cell_at hp2 3 rfl
    have e4' : V2.cell? ⟨PB, 4, none⟩ = some (.int .u32 (D : Int)) := cell_at hp2 4 rfl
    have e1 : V3.cell? ⟨PB, 1, none⟩ = some (.int .u8 (P : Int)) := cell_at hp3 1 rfl
    have e3 : V3.cell? ⟨PB, 3, none⟩ = some (.int .u32 (S : Int)) := cell_at hp3 3 rfl
    have e4 : V3.cell? ⟨PB, 4, none⟩ = some (.int .u32 (D : Int)) := cell_at hp3 4 rfl
    have e5 : V3.cell? ⟨PB, 5, none⟩ = some (.slice a n cap) := cell_at hp3 5 rfl
    clear hV1 hV2 hV3 hz1 hz2 hb1 hb12 hb23 hb2 hb3 hp1 hp2 hp3 hr2 hr3 hf3 hPB hRB hFB hTG
    go_enter Try.func14, Try.ntmps14
    go_upto_region 1 with (fail)
    rw [HE.out.1, HE.out.2.1, HE.out.2.2.2.2.1, HE.out.2.2.2.1]
    go_upto_region 2 with (fail)
    rw [HE.out.2.2.1, HE.out.2.2.2.2.2.2, HE.out.2.2.2.2.2.1]
    clear HE e1' e3' e4'
    go_wp2_with fail
    refine (HT.out V3 HT3.out.below).mono ?_
    rintro e w4 ⟨a1, c1, a2, c2, rfl, o1, o2, b4⟩
    have HT4 := hide (HT3.out.below' b4)
    have hal := (Below.refl w4.heap.size w4).alloc (Nat.le_refl _) (.cells #[.int .u16 (p : Int), .int .u16 (q : Int), .int .u32 (u : Int), .int .u32 (v : Int), .int .u8 (f : Int), .int .u16 (g : Int), .int .u16 (h : Int), .slice a1 os.length c1, .slice a2 ds.length c2] 61)
    obtain ⟨w5, hw5, HT5⟩ : ∃ wt, w4.alloc (.cells #[.int .u16 (p : Int), .int .u16 (q : Int), .int .u32 (u : Int), .int .u32 (v : Int), .int .u8 (f : Int), .int .u16 (g : Int), .int .u16 (h : Int), .slice a1 os.length c1, .slice a2 ds.length c2] 61) = wt ∧ Hid (TG w RB FBk P S D 0 0 wt) := ⟨_, rfl, hide (HT4.out.below' hal)⟩
    clear b4 o1 o2 hal e1 e3 e4 e5 HT3 HP3 HT HT4
    go_upto_region 4 with (fail)
    try rw [hw5]
    clear hw5
    obtain ⟨y0, y1, y2, y3, y4, yf⟩ := five_cells HT5.out.fr
    obtain ⟨w10, h10, hfb, hbb⟩ := TG.none HT5.out.le HT5.out.fr HT5.out.below
    have HFE := hide hfb
    have HB10 := hide hbb
    clear hfb hbb
    go_wp2_with fail
    try rw [h10]
    exact bodyPost_ret (v := .tuple #[.agg #[.int .u8 0, .int .u32 0, .int .u32 0, .int .u16 0, .int .u16 0], .int .i64 0, .int .i64 (code : Nat)]) (results_cell_tmp2 Try.results14 _ w10 RB _ _ _ _ rfl HFE.out Try.underlying29 rfl (by kernel_rfl) _ _ rfl rfl) rfl ⟨by rw [HANS.out.1, HANS.out.2.1, HANS.out.2.2]; rfl, HB10.out⟩
set_option maxHeartbeats 4000000 in
theorem rof_udp (w : World) (ttl pid : Int) (P S D : Nat) (a : Option Addr) (n cap : Nat) (xs : List Int) (hLx : Lies w a xs n cap) (hl : xs.length = n) (hb : ∀ x ∈ xs, 0 ≤ x ∧ x ≤ 255) (hS : S ≤ 4294967295) (hD : D ≤ 4294967295) (hP : P = 17) :
    Calls Try.prog 14 #[.agg #[.int .u8 ttl, .int .u8 (P : Int), .int .u16 pid, .int .u32 (S : Int), .int .u32 (D : Int), .slice a n cap]] w fun e w' => e = .returned (.tuple #[(ofFl P S D xs).v, .int .i64 (ofKind P S D xs), .int .i64 (ofErr P S D xs : Nat)]) ∧ Below w.heap.size w w' := by
  have d6 : ((P : Int) == 6) = false := by simp [hP]
  have d17 : ((P : Int) == 17) = true := by simp [hP]
  have HT := hide (fun (W : World) (hW : Below w.heap.size w W) => (readUDP_both S D xs n hl hb hS hD).2 W a cap (hLx.below hW (Nat.le_refl _)))
  have he : ofErr P S D xs = dgmCode S D xs := by unfold ofErr; rw [if_neg (by omega), if_pos hP]
  obtain ⟨sg, hsg⟩ : ∃ sg, dgmOf S D xs = sg := ⟨_, rfl⟩
  obtain ⟨code, hcode⟩ : ∃ sg, dgmCode S D xs = sg := ⟨_, rfl⟩
  rw [hcode] at he
  rw [hsg, hcode] at HT
  have hf0 : code ≠ 0 → ofFl P S D xs = zeroF ∧ ofKind P S D xs = 0 ∧ ofErr P S D xs = code := fun h => by unfold ofFl ofKind; rw [he, if_neg h, if_neg h]; exact ⟨rfl, rfl, rfl⟩
  have hf1 : code = 0 → ofFl P S D xs = ⟨P, S, D, sg.p, sg.q⟩ ∧ ofKind P S D xs = 1 ∧ ofErr P S D xs = 0 := fun h => by
    unfold ofFl ofKind
    rw [he, if_pos h, if_pos h, if_neg (by omega), if_pos hP, if_pos (by omega), hsg, h, hP]
    exact ⟨rfl, rfl, rfl⟩
  obtain ⟨p, q, pl, ds⟩ := sg
  unfold DgmAns UdpAns at HT
  dsimp only at HT hf1
  by_cases h0 : code = 0
  · have d0 : ((code : Int) != 0) = false := by simp [h0]
    have HANS := hide (hf1 h0)
    clear hf0 hf1 h0 he hsg hcode hP hLx hl hb
    obtain ⟨V1, hV1⟩ : ∃ V, w.alloc (.cells (#[.int .u8 ttl, .int .u8 (P : Int), .int .u16 pid, .int .u32 (S : Int), .int .u32 (D : Int), .slice a n cap]) 27) = V := ⟨_, rfl⟩
    obtain ⟨V2, hV2⟩ : ∃ V, V1.alloc (.cells (#[.int .u8 0, .int .u32 0, .int .u32 0, .int .u16 0, .int .u16 0]) 29) = V := ⟨_, rfl⟩
    obtain ⟨V3, hV3⟩ : ∃ V, V2.alloc (.cells (#[.int .u8 (P : Int), .int .u32 (S : Int), .int .u32 (D : Int), .int .u16 0, .int .u16 0]) 29) = V := ⟨_, rfl⟩
    have hz1 : V1.heap.size = w.heap.size + 1 := by rw [← hV1]; simp
    have hz2 : V2.heap.size = w.heap.size + 1 + 1 := by rw [← hV2]; simp [hz1]
    have hb1 : Below w.heap.size w V1 := by rw [← hV1]; exact (Below.refl _ _).alloc (Nat.le_refl _) _
    have hb12 : Below V1.heap.size V1 V2 := by rw [← hV2]; exact (Below.refl _ _).alloc (Nat.le_refl _) _
    have hb23 : Below V2.heap.size V2 V3 := by rw [← hV3]; exact (Below.refl _ _).alloc (Nat.le_refl _) _
    have hb2 := hb1.trans (hb12.mono hb1.size)
    have hb3 := hb2.trans (hb23.mono hb2.size)
    have hp1 : V1.heap[w.heap.size]? = some (.cells (#[.int .u8 ttl, .int .u8 (P : Int), .int .u16 pid, .int .u32 (S : Int), .int .u32 (D : Int), .slice a n cap]) 27 (0, 0)) := by rw [← hV1]; exact heap_alloc_new _ _
    have hp2 := below_block hb12 hp1 (Nat.le_refl _)
    have hp3 := below_block hb23 hp2 (Nat.le_refl _)
    have hr2 : V2.heap[w.heap.size + 1]? = some (.cells (#[.int .u8 0, .int .u32 0, .int .u32 0, .int .u16 0, .int .u16 0]) 29 (0, 0)) := by rw [← hV2, ← hz1]; exact heap_alloc_new _ _
    have hr3 := below_block hb23 hr2 (Nat.le_refl _)
    have hf3 : V3.heap[w.heap.size + 1 + 1]? = some (.cells (#[.int .u8 (P : Int), .int .u32 (S : Int), .int .u32 (D : Int), .int .u16 0, .int .u16 0]) 29 (0, 0)) := by rw [← hV3, ← hz2]; exact heap_alloc_new _ _
    obtain ⟨PB, hPB⟩ : ∃ B, w.heap.size = B := ⟨_, rfl⟩
    obtain ⟨RB, hRB⟩ : ∃ B, w.heap.size + 1 = B := ⟨_, rfl⟩
    obtain ⟨FBk, hFB⟩ : ∃ B, w.heap.size + 1 + 1 = B := ⟨_, rfl⟩
    rw [hPB] at hp2 hp3
    rw [hRB] at hr3
    rw [hFB] at hf3
    have hwR : w.heap.size ≤ RB := by omega
    have hRF : RB < FBk := by omega
    have hPF : PB ≠ FBk := by omega
    have hPR : PB ≠ RB := by omega
    have hTG : TG w RB FBk P S D 0 0 V3 := ⟨hRF, hwR, hf3, hr3, hb3⟩
    have HE := hide (And.intro hV1 (And.intro hV2 (And.intro hV3 (And.intro hPB (And.intro hRB (And.intro hFB hz2))))))
    have HT3 := hide hTG
    have HP3 := hide hp3
    have e1' : V2.cell? ⟨PB, 1, none⟩ = some (.int .u8 (P : Int)) := cell_at hp2 1 rfl
    have e3' : V2.cell? ⟨PB, 3, none⟩ = some (.int .u32 (S : Int)) := cell_at hp2 3 rfl
    have e4' : V2.cell? ⟨PB, 4, none⟩ = some (.int .u32 (D : Int)) := cell_at hp2 4 rfl
    have e1 : V3.cell? ⟨PB, 1, none⟩ = some (.int .u8 (P : Int)) := cell_at hp3 1 rfl
    have e3 : V3.cell? ⟨PB, 3, none⟩ = some (.int .u32 (S : Int)) := cell_at hp3 3 rfl
    have e4 : V3.cell? ⟨PB, 4, none⟩ = some (.int .u32 (D : Int)) := cell_at hp3 4 rfl
    have e5 : V3.cell? ⟨PB, 5, none⟩ = some (.slice a n cap) := cell_at hp3 5 rfl
    clear hV1 hV2 hV3 hz1 hz2 hb1 hb12 hb23 hb2 hb3 hp1 hp2 hp3 hr2 hr3 hf3 hPB hRB hFB hTG
    go_enter Try.func14, Try.ntmps14
    go_upto_region 1 with (fail)
    rw [HE.out.1, HE.out.2.1, HE.out.2.2.2.2.1, HE.out.2.2.2.1]
    go_upto_region 2 with (fail)
    rw [HE.out.2.2.1, HE.out.2.2.2.2.2.2, HE.out.2.2.2.2.2.1]
    clear HE e1' e3' e4'
    go_wp2_with fail
    refine (HT.out V3 HT3.out.below).mono ?_
    rintro e w4 ⟨a2, c2, rfl, o2, b4⟩
    have HT4 := hide (HT3.out.below' b4)
    have hsb := heap_alloc_new w4 (.cells #[.int .u16 (p : Int), .int .u16 (q : Int), .bool pl, .slice a2 ds.length c2] 63)
    have hal := (Below.refl w4.heap.size w4).alloc (Nat.le_refl _) (.cells #[.int .u16 (p : Int), .int .u16 (q : Int), .bool pl, .slice a2 ds.length c2] 63)
    have hFl := lt_of_block HT4.out.fb
    obtain ⟨w5, hw5, HT5, s0, s1, hne⟩ : ∃ wt, w4.alloc (.cells #[.int .u16 (p : Int), .int .u16 (q : Int), .bool pl, .slice a2 ds.length c2] 63) = wt ∧ Hid (TG w RB FBk P S D 0 0 wt) ∧ wt.cell? ⟨w4.heap.size, 0, none⟩ = some (.int .u16 (p : Int)) ∧ wt.cell? ⟨w4.heap.size, 1, none⟩ = some (.int .u16 (q : Int)) ∧ w4.heap.size ≠ FBk := ⟨_, rfl, hide (HT4.out.below' hal), cell_at hsb 0 rfl, cell_at hsb 1 rfl, by omega⟩
    obtain ⟨X, hX⟩ : ∃ X, w4.heap.size = X := ⟨_, rfl⟩
    rw [hX] at s0 s1 hne
    have HX := hide hX
    clear b4 o2 hsb hal e1 e3 e4 e5 HT3 HP3 HT hX HT4 hFl
    go_upto_region 11 with (fail)
    try rw [hw5]
    rw [HX.out]
    clear hw5 HX
    obtain ⟨x0, x1, x2, x3, x4, xf⟩ := five_cells HT5.out.fb
    have hneF : FBk ≠ X := fun h => hne h.symm
    obtain ⟨w6, hw6, HT6⟩ : ∃ wt, (w5.setCell ⟨FBk, 3, none⟩ (.int .u16 (p : Int))).setCell ⟨FBk, 4, none⟩ (.int .u16 (q : Int)) = wt ∧ Hid (TG w RB FBk P S D p q wt) := ⟨_, rfl, hide (HT5.out.ports p q)⟩
    go_upto_region 15 with (fail)
    try rw [hw6]
    clear hw6 x0 x1 x2 x3 x4 xf s0 s1 HT5
    obtain ⟨x0, x1, x2, x3, x4, xf⟩ := five_cells HT6.out.fb
    obtain ⟨y0, y1, y2, y3, y4, yf⟩ := five_cells HT6.out.fr
    obtain ⟨w10, h10, hfb, hbb⟩ := HT6.out.answer
    have HFE := hide hfb
    have HB10 := hide hbb
    clear hfb hbb
    go_wp2_with fail
    try rw [h10]
    exact bodyPost_ret (v := .tuple #[.agg #[.int .u8 (P : Int), .int .u32 (S : Int), .int .u32 (D : Int), .int .u16 (p : Int), .int .u16 (q : Int)], .int .i64 1, .int .i64 0]) (results_cell_tmp2 Try.results14 _ w10 RB _ _ _ _ rfl HFE.out Try.underlying29 rfl (by kernel_rfl) _ _ rfl rfl) rfl ⟨by rw [HANS.out.1, HANS.out.2.1, HANS.out.2.2]; rfl, HB10.out⟩
  · have d0 : ((code : Int) != 0) = true := by simp; omega
    have HANS := hide (hf0 h0)
    clear hf0 hf1 h0 he hsg hcode hP hLx hl hb
    obtain ⟨V1, hV1⟩ : ∃ V, w.alloc (.cells (#[.int .u8 ttl, .int .u8 (P : Int), .int .u16 pid, .int .u32 (S : Int), .int .u32 (D : Int), .slice a n cap]) 27) = V := ⟨_, rfl⟩
    obtain ⟨V2, hV2⟩ : ∃ V, V1.alloc (.cells (#[.int .u8 0, .int .u32 0, .int .u32 0, .int .u16 0, .int .u16 0]) 29) = V := ⟨_, rfl⟩
    obtain ⟨V3, hV3⟩ : ∃ V, V2.alloc (.cells (#[.int .u8 (P : Int), .int .u32 (S : Int), .int .u32 (D : Int), .int .u16 0, .int .u16 0]) 29) = V := ⟨_, rfl⟩
    have hz1 : V1.heap.size = w.heap.size + 1 := by rw [← hV1]; simp
    have hz2 : V2.heap.size = w.heap.size + 1 + 1 := by rw [← hV2]; simp [hz1]
    have hb1 : Below w.heap.size w V1 := by rw [← hV1]; exact (Below.refl _ _).alloc (Nat.le_refl _) _
    have hb12 : Below V1.heap.size V1 V2 := by rw [← hV2]; exact (Below.refl _ _).alloc (Nat.le_refl _) _
    have hb23 : Below V2.heap.size V2 V3 := by rw [← hV3]; exact (Below.refl _ _).alloc (Nat.le_refl _) _
    have hb2 := hb1.trans (hb12.mono hb1.size)
    have hb3 := hb2.trans (hb23.mono hb2.size)
    have hp1 : V1.heap[w.heap.size]? = some (.cells (#[.int .u8 ttl, .int .u8 (P : Int), .int .u16 pid, .int .u32 (S : Int), .int .u32 (D : Int), .slice a n cap]) 27 (0, 0)) := by rw [← hV1]; exact heap_alloc_new _ _
    have hp2 := below_block hb12 hp1 (Nat.le_refl _)
    have hp3 := below_block hb23 hp2 (Nat.le_refl _)
    have hr2 : V2.heap[w.heap.size + 1]? = some (.cells (#[.int .u8 0, .int .u32 0, .int .u32 0, .int .u16 0, .int .u16 0]) 29 (0, 0)) := by rw [← hV2, ← hz1]; exact heap_alloc_new _ _
    have hr3 := below_block hb23 hr2 (Nat.le_refl _)
    have hf3 : V3.heap[w.heap.size + 1 + 1]? = some (.cells (#[.int .u8 (P : Int), .int .u32 (S : Int), .int .u32 (D : Int), .int .u16 0, .int .u16 0]) 29 (0, 0)) := by rw [← hV3, ← hz2]; exact heap_alloc_new _ _
    obtain ⟨PB, hPB⟩ : ∃ B, w.heap.size = B := ⟨_, rfl⟩
    obtain ⟨RB, hRB⟩ : ∃ B, w.heap.size + 1 = B := ⟨_, rfl⟩
    obtain ⟨FBk, hFB⟩ : ∃ B, w.heap.size + 1 + 1 = B := ⟨_, rfl⟩
    rw [hPB] at hp2 hp3
    rw [hRB] at hr3
    rw [hFB] at hf3
    have hwR : w.heap.size ≤ RB := by omega
    have hRF : RB < FBk := by omega
    have hPF : PB ≠ FBk := by omega
    have hPR : PB ≠ RB := by omega
    have hTG : TG w RB FBk P S D 0 0 V3 := ⟨hRF, hwR, hf3, hr3, hb3⟩
    have HE := hide (And.intro hV1 (And.intro hV2 (And.intro hV3 (And.intro hPB (And.intro hRB (And.intro hFB hz2))))))
    have HT3 := hide hTG
    have HP3 := hide hp3
    have e1' : V2.cell? ⟨PB, 1, none⟩ = some (.int .u8 (P : Int)) := cell_at hp2 1 rfl
    have e3' : V2.cell? ⟨PB, 3, none⟩ = some (.int .u32 (S : Int)) := cell_at hp2 3 rfl
    have e4' : V2.cell? ⟨PB, 4, none⟩ = some (.int .u32 (D : Int)) := cell_at hp2 4 rfl
    have e1 : V3.cell? ⟨PB, 1, none⟩ = some (.int .u8 (P : Int)) := cell_at hp3 1 rfl
    have e3 : V3.cell? ⟨PB, 3, none⟩ = some (.int .u32 (S : Int)) := cell_at hp3 3 rfl
    have e4 : V3.cell? ⟨PB, 4, none⟩ = some (.int .u32 (D : Int)) := cell_at hp3 4 rfl
    have e5 : V3.cell? ⟨PB, 5, none⟩ = some (.slice a n cap) := cell_at hp3 5 rfl
    clear hV1 hV2 hV3 hz1 hz2 hb1 hb12 hb23 hb2 hb3 hp1 hp2 hp3 hr2 hr3 hf3 hPB hRB hFB hTG
    go_enter Try.func14, Try.ntmps14
    go_upto_region 1 with (fail)
    rw [HE.out.1, HE.out.2.1, HE.out.2.2.2.2.1, HE.out.2.2.2.1]
    go_upto_region 2 with (fail)
    rw [HE.out.2.2.1, HE.out.2.2.2.2.2.2, HE.out.2.2.2.2.2.1]
    clear HE e1' e3' e4'
    go_wp2_with fail
    refine (HT.out V3 HT3.out.below).mono ?_
    rintro e w4 ⟨a2, c2, rfl, o2, b4⟩
    have HT4 := hide (HT3.out.below' b4)
    have hal := (Below.refl w4.heap.size w4).alloc (Nat.le_refl _) (.cells #[.int .u16 (p : Int), .int .u16 (q : Int), .bool pl, .slice a2 ds.length c2] 63)
    obtain ⟨w5, hw5, HT5⟩ : ∃ wt, w4.alloc (.cells #[.int .u16 (p : Int), .int .u16 (q : Int), .bool pl, .slice a2 ds.length c2] 63) = wt ∧ Hid (TG w RB FBk P S D 0 0 wt) := ⟨_, rfl, hide (HT4.out.below' hal)⟩
    clear b4 o2 hal e1 e3 e4 e5 HT3 HP3 HT HT4
    go_upto_region 11 with (fail)
    try rw [hw5]
    clear hw5
    obtain ⟨y0, y1, y2, y3, y4, yf⟩ := five_cells HT5.out.fr
    obtain ⟨w10, h10, hfb, hbb⟩ := TG.none HT5.out.le HT5.out.fr HT5.out.below
    have HFE := hide hfb
    have HB10 := hide hbb
    clear hfb hbb
    go_wp2_with fail
    try rw [h10]
    exact bodyPost_ret (v := .tuple #[.agg #[.int .u8 0, .int .u32 0, .int .u32 0, .int .u16 0, .int .u16 0], .int .i64 0, .int .i64 (code : Nat)]) (results_cell_tmp2 Try.results14 _ w10 RB _ _ _ _ rfl HFE.out Try.underlying29 rfl (by kernel_rfl) _ _ rfl rfl) rfl ⟨by rw [HANS.out.1, HANS.out.2.1, HANS.out.2.2]; rfl, HB10.out⟩
end Go.Proofs.Ytgggcapgaikbeaa

/- Between which ends a packet goes: the document's answer of a message. -/
namespace Go.Proofs.Ytgggcapgaikbeaa
open Go.RowKit
set_option linter.unusedVariables false
set_option linter.unusedSimpArgs false
set_option maxRecDepth 100000
set_option maxHeartbeats 4000000 in
theorem rof_icmp (w : World) (ttl pid : Int) (P S D : Nat) (a : Option Addr) (n cap : Nat) (xs : List Int) (hLx : Lies w a xs n cap) (hl : xs.length = n) (hb : ∀ x ∈ xs, 0 ≤ x ∧ x ≤ 255) (hS : S ≤ 4294967295) (hD : D ≤ 4294967295) (hP : P = 1) :
    Calls Try.prog 14 #[.agg #[.int .u8 ttl, .int .u8 (P : Int), .int .u16 pid, .int .u32 (S : Int), .int .u32 (D : Int), .slice a n cap]] w fun e w' => e = .returned (.tuple #[(ofFl P S D xs).v, .int .i64 (ofKind P S D xs), .int .i64 (ofErr P S D xs : Nat)]) ∧ Below w.heap.size w w' := by
  have d6 : ((P : Int) == 6) = false := by simp [hP]
  have d17 : ((P : Int) == 17) = false := by simp [hP]
  have d1 : ((P : Int) != 1) = false := by simp [hP]
  have HT := hide (fun (W : World) (hW : Below w.heap.size w W) => (readICMP_both xs n hl hb).2 W a cap (hLx.below hW (Nat.le_refl _)))
  have he : ofErr P S D xs = icErr xs := by unfold ofErr; rw [if_neg (by omega), if_neg (by omega), if_pos hP]
  have hFF : ofFl P S D xs = if icErr xs = 0 then icFl S D xs else zeroF := by
    unfold ofFl; rw [he, if_neg (show ¬ P = 6 by omega), if_neg (show ¬ P = 17 by omega)]
  have hKK : ofKind P S D xs = if icErr xs = 0 then icKind xs else 0 := by
    unfold ofKind; rw [he, if_neg (show ¬ (P = 6 ∨ P = 17) by omega)]
  obtain ⟨k1, k2, k3, k4, k5⟩ := msgOf_ok xs hb
  unfold icErr at hFF hKK he
  unfold icFl at hFF
  unfold icKind at hKK
  obtain ⟨sg, hsg⟩ : ∃ sg, msgOf xs = sg := ⟨_, rfl⟩
  obtain ⟨code, hcode⟩ : ∃ sg, msgCode xs = sg := ⟨_, rfl⟩
  rw [hsg] at k1 k2 k3 k4 k5
  rw [hsg, hcode] at HT hFF hKK he
  obtain ⟨p, q, r, ds⟩ := sg
  unfold MsgAns IcmpAns at HT
  dsimp only at HT k1 k2 k3 k4 k5 hFF hKK he
  have HK4 := hide k4
  clear hsg hcode hLx hl hb k4
  by_cases h0 : code = 0
  · have d0 : ((code : Int) != 0) = false := by simp [h0]
    rw [if_pos h0] at he hFF hKK
    rw [if_pos h0] at hFF hKK
    have hIn := fun (W : World) a c (h : Lies W a ds ds.length c) => inner_any W a ds ds.length c h rfl HK4.out (by omega)
    have HIN := hide hIn
    clear hIn
    obtain ⟨id, hid⟩ : ∃ id, r / 65536 = id := ⟨_, rfl⟩
    have hid2 : (r : Int) / 65536 = (id : Int) := by omega
    have hidl : id ≤ 65535 := by omega
    by_cases hA : p = 8 ∧ q = 0
    · have t1 : ((p : Int) == 8) = true := by simp [hA.1]
      have t2 : ((q : Int) == 0) = true := by simp [hA.2]
      have HANS := hide (show ofFl P S D xs = ⟨P, S, D, id, 0⟩ ∧ ofKind P S D xs = 2 ∧ ofErr P S D xs = 0 by
        obtain ⟨rfl, rfl⟩ := hA
        rw [hFF, hKK, he, hP, ← hid]
        unfold msgOk msgFl msgKind isErr qok qfrom qto
        simp)
      clear he hFF hKK hP hA hid h0 HIN
      obtain ⟨V1, hV1⟩ : ∃ V, w.alloc (.cells (#[.int .u8 ttl, .int .u8 (P : Int), .int .u16 pid, .int .u32 (S : Int), .int .u32 (D : Int), .slice a n cap]) 27) = V := ⟨_, rfl⟩
      obtain ⟨V2, hV2⟩ : ∃ V, V1.alloc (.cells (#[.int .u8 0, .int .u32 0, .int .u32 0, .int .u16 0, .int .u16 0]) 29) = V := ⟨_, rfl⟩
      obtain ⟨V3, hV3⟩ : ∃ V, V2.alloc (.cells (#[.int .u8 (P : Int), .int .u32 (S : Int), .int .u32 (D : Int), .int .u16 0, .int .u16 0]) 29) = V := ⟨_, rfl⟩
      have hz1 : V1.heap.size = w.heap.size + 1 := by rw [← hV1]; simp
      have hz2 : V2.heap.size = w.heap.size + 1 + 1 := by rw [← hV2]; simp [hz1]
      have hb1 : Below w.heap.size w V1 := by rw [← hV1]; exact (Below.refl _ _).alloc (Nat.le_refl _) _
      have hb12 : Below V1.heap.size V1 V2 := by rw [← hV2]; exact (Below.refl _ _).alloc (Nat.le_refl _) _
      have hb23 : Below V2.heap.size V2 V3 := by rw [← hV3]; exact (Below.refl _ _).alloc (Nat.le_refl _) _
      have hb2 := hb1.trans (hb12.mono hb1.size)
      have hb3 := hb2.trans (hb23.mono hb2.size)
      have hp1 : V1.heap[w.heap.size]? = some (.cells (#[.int .u8 ttl, .int .u8 (P : Int), .int .u16 pid, .int .u32 (S : Int), .int .u32 (D : Int), .slice a n cap]) 27 (0, 0)) := by rw [← hV1]; exact heap_alloc_new _ _
      have hp2 := below_block hb12 hp1 (Nat.le_refl _)
      have hp3 := below_block hb23 hp2 (Nat.le_refl _)
      have hr2 : V2.heap[w.heap.size + 1]? = some (.cells (#[.int .u8 0, .int .u32 0, .int .u32 0, .int .u16 0, .int .u16 0]) 29 (0, 0)) := by rw [← hV2, ← hz1]; exact heap_alloc_new _ _
      have hr3 := below_block hb23 hr2 (Nat.le_refl _)
      have hf3 : V3.heap[w.heap.size + 1 + 1]? = some (.cells (#[.int .u8 (P : Int), .int .u32 (S : Int), .int .u32 (D : Int), .int .u16 0, .int .u16 0]) 29 (0, 0)) := by rw [← hV3, ← hz2]; exact heap_alloc_new _ _
      obtain ⟨PB, hPB⟩ : ∃ B, w.heap.size = B := ⟨_, rfl⟩
      obtain ⟨RB, hRB⟩ : ∃ B, w.heap.size + 1 = B := ⟨_, rfl⟩
      obtain ⟨FBk, hFB⟩ : ∃ B, w.heap.size + 1 + 1 = B := ⟨_, rfl⟩
      rw [hPB] at hp2 hp3
      rw [hRB] at hr3
      rw [hFB] at hf3
      have hwR : w.heap.size ≤ RB := by omega
      have hRF : RB < FBk := by omega
      have hPF : PB ≠ FBk := by omega
      have hPR : PB ≠ RB := by omega
      have hTG : TG w RB FBk P S D 0 0 V3 := ⟨hRF, hwR, hf3, hr3, hb3⟩
      have HE := hide (And.intro hV1 (And.intro hV2 (And.intro hV3 (And.intro hPB (And.intro hRB (And.intro hFB hz2))))))
      have HT3 := hide hTG
      have HP3 := hide hp3
      have e1' : V2.cell? ⟨PB, 1, none⟩ = some (.int .u8 (P : Int)) := cell_at hp2 1 rfl
      have e3' : V2.cell? ⟨PB, 3, none⟩ = some (.int .u32 (S : Int)) := cell_at hp2 3 rfl
      have e4' : V2.cell? ⟨PB, 4, none⟩ = some (.int .u32 (D : Int)) := cell_at hp2 4 rfl
      have e1 : V3.cell? ⟨PB, 1, none⟩ = some (.int .u8 (P : Int)) := cell_at hp3 1 rfl
      have e3 : V3.cell? ⟨PB, 3, none⟩ = some (.int .u32 (S : Int)) := cell_at hp3 3 rfl
      have e4 : V3.cell? ⟨PB, 4, none⟩ = some (.int .u32 (D : Int)) := cell_at hp3 4 rfl
      have e5 : V3.cell? ⟨PB, 5, none⟩ = some (.slice a n cap) := cell_at hp3 5 rfl
      clear hV1 hV2 hV3 hz1 hz2 hb1 hb12 hb23 hb2 hb3 hp1 hp2 hp3 hr2 hr3 hf3 hPB hRB hFB hTG
      go_enter Try.func14, Try.ntmps14
      go_upto_region 1 with (fail)
      rw [HE.out.1, HE.out.2.1, HE.out.2.2.2.2.1, HE.out.2.2.2.1]
      go_upto_region 2 with (fail)
      rw [HE.out.2.2.1, HE.out.2.2.2.2.2.2, HE.out.2.2.2.2.2.1]
      clear HE e1' e3' e4'
      go_upto_region 18 with (fail)
      go_wp2_with fail
      refine (HT.out V3 HT3.out.below).mono ?_
      rintro e w4 ⟨a2, c2, rfl, o2, b4⟩
      have HT4 := hide (HT3.out.below' b4)
      have hsb := heap_alloc_new w4 (.cells #[.int .u8 (p : Int), .int .u8 (q : Int), .int .u32 (r : Int), .slice a2 ds.length c2] 55)
      have hal := (Below.refl w4.heap.size w4).alloc (Nat.le_refl _) (.cells #[.int .u8 (p : Int), .int .u8 (q : Int), .int .u32 (r : Int), .slice a2 ds.length c2] 55)
      have hFl := lt_of_block HT4.out.fb
      have hw3 := HT3.out.below.size
      obtain ⟨w5, hw5, HT5, HM5, HO5, hne⟩ : ∃ wt, w4.alloc (.cells #[.int .u8 (p : Int), .int .u8 (q : Int), .int .u32 (r : Int), .slice a2 ds.length c2] 55) = wt ∧ Hid (TG w RB FBk P S D 0 0 wt) ∧ Hid (wt.heap[w4.heap.size]? = some (.cells #[.int .u8 (p : Int), .int .u8 (q : Int), .int .u32 (r : Int), .slice a2 ds.length c2] 55 (0, 0))) ∧ Hid (Lies wt a2 ds ds.length c2) ∧ w4.heap.size ≠ FBk := ⟨_, rfl, hide (HT4.out.below' hal), hide hsb, hide ((Lies.of_owns o2).below hal (Nat.le_refl _)), by omega⟩
      obtain ⟨X, hX⟩ : ∃ X, w4.heap.size = X := ⟨_, rfl⟩
      rw [hX] at HM5 hne
      have HX := hide hX
      have hneF : FBk ≠ X := fun h => hne h.symm
      clear b4 o2 hsb hal e1 e3 e4 e5 HT3 HP3 HT hX HT4 hFl hw3
      go_upto_region 19 with (fail)
      try rw [hw5]
      rw [HX.out]
      clear hw5 HX
      obtain ⟨s0, s1, s2, s3⟩ := four_of HM5.out
      obtain ⟨x0, x1, x2, x3, x4, xf⟩ := five_cells HT5.out.fb
      have hneR : RB ≠ FBk := by omega
      have hle : w.heap.size ≤ FBk := by omega
      obtain ⟨w6, hw6, HT6⟩ : ∃ wt, w5.setCell ⟨FBk, 3, none⟩ (.int .u16 (id : Int)) = wt ∧ Hid (TG w RB FBk P S D id 0 wt) := ⟨_, rfl, hide ⟨HT5.out.lt, HT5.out.le, HT5.out.fb.set3 id, HT5.out.fr.other hneR, HT5.out.below.setCell (p := ⟨FBk, 3, none⟩) hle _⟩⟩
      go_upto_region 23 with (fail)
      try rw [hw6]
      clear hw6 x0 x1 x2 x3 x4 xf s0 s1 s2 s3 HT5 HM5 HO5
      obtain ⟨x0, x1, x2, x3, x4, xf⟩ := five_cells HT6.out.fb
      obtain ⟨y0, y1, y2, y3, y4, yf⟩ := five_cells HT6.out.fr
      obtain ⟨w10, h10, hfb, hbb⟩ := HT6.out.answer
      have HFE := hide hfb
      have HB10 := hide hbb
      clear hfb hbb
      go_wp2_with fail
      try rw [h10]
      exact bodyPost_ret (v := .tuple #[.agg #[.int .u8 (P : Int), .int .u32 (S : Int), .int .u32 (D : Int), .int .u16 (id : Int), .int .u16 0], .int .i64 2, .int .i64 0]) (results_cell_tmp2 Try.results14 _ w10 RB _ _ _ _ rfl HFE.out Try.underlying29 rfl (by kernel_rfl) _ _ rfl rfl) rfl ⟨by rw [HANS.out.1, HANS.out.2.1, HANS.out.2.2]; rfl, HB10.out⟩
    by_cases hB : p = 0 ∧ q = 0
    · have t1 : ((p : Int) == 8) = false := by simp; omega
      have t3 : ((p : Int) == 0) = true := by simp [hB.1]
      have t2 : ((q : Int) == 0) = true := by simp [hB.2]
      have HANS := hide (show ofFl P S D xs = ⟨P, S, D, 0, id⟩ ∧ ofKind P S D xs = 2 ∧ ofErr P S D xs = 0 by
        obtain ⟨rfl, rfl⟩ := hB
        rw [hFF, hKK, he, hP, ← hid]
        unfold msgOk msgFl msgKind isErr qok qfrom qto
        simp)
      clear he hFF hKK hP hA hB hid h0 HIN
      obtain ⟨V1, hV1⟩ : ∃ V, w.alloc (.cells (#[.int .u8 ttl, .int .u8 (P : Int), .int .u16 pid, .int .u32 (S : Int), .int .u32 (D : Int), .slice a n cap]) 27) = V := ⟨_, rfl⟩
      obtain ⟨V2, hV2⟩ : ∃ V, V1.alloc (.cells (#[.int .u8 0, .int .u32 0, .int .u32 0, .int .u16 0, .int .u16 0]) 29) = V := ⟨_, rfl⟩
      obtain ⟨V3, hV3⟩ : ∃ V, V2.alloc (.cells (#[.int .u8 (P : Int), .int .u32 (S : Int), .int .u32 (D : Int), .int .u16 0, .int .u16 0]) 29) = V := ⟨_, rfl⟩
      have hz1 : V1.heap.size = w.heap.size + 1 := by rw [← hV1]; simp
      have hz2 : V2.heap.size = w.heap.size + 1 + 1 := by rw [← hV2]; simp [hz1]
      have hb1 : Below w.heap.size w V1 := by rw [← hV1]; exact (Below.refl _ _).alloc (Nat.le_refl _) _
      have hb12 : Below V1.heap.size V1 V2 := by rw [← hV2]; exact (Below.refl _ _).alloc (Nat.le_refl _) _
      have hb23 : Below V2.heap.size V2 V3 := by rw [← hV3]; exact (Below.refl _ _).alloc (Nat.le_refl _) _
      have hb2 := hb1.trans (hb12.mono hb1.size)
      have hb3 := hb2.trans (hb23.mono hb2.size)
      have hp1 : V1.heap[w.heap.size]? = some (.cells (#[.int .u8 ttl, .int .u8 (P : Int), .int .u16 pid, .int .u32 (S : Int), .int .u32 (D : Int), .slice a n cap]) 27 (0, 0)) := by rw [← hV1]; exact heap_alloc_new _ _
      have hp2 := below_block hb12 hp1 (Nat.le_refl _)
      have hp3 := below_block hb23 hp2 (Nat.le_refl _)
      have hr2 : V2.heap[w.heap.size + 1]? = some (.cells (#[.int .u8 0, .int .u32 0, .int .u32 0, .int .u16 0, .int .u16 0]) 29 (0, 0)) := by rw [← hV2, ← hz1]; exact heap_alloc_new _ _
      have hr3 := below_block hb23 hr2 (Nat.le_refl _)
      have hf3 : V3.heap[w.heap.size + 1 + 1]? = some (.cells (#[.int .u8 (P : Int), .int .u32 (S : Int), .int .u32 (D : Int), .int .u16 0, .int .u16 0]) 29 (0, 0)) := by rw [← hV3, ← hz2]; exact heap_alloc_new _ _
      obtain ⟨PB, hPB⟩ : ∃ B, w.heap.size = B := ⟨_, rfl⟩
      obtain ⟨RB, hRB⟩ : ∃ B, w.heap.size + 1 = B := ⟨_, rfl⟩
      obtain ⟨FBk, hFB⟩ : ∃ B, w.heap.size + 1 + 1 = B := ⟨_, rfl⟩
      rw [hPB] at hp2 hp3
      rw [hRB] at hr3
      rw [hFB] at hf3
      have hwR : w.heap.size ≤ RB := by omega
      have hRF : RB < FBk := by omega
      have hPF : PB ≠ FBk := by omega
      have hPR : PB ≠ RB := by omega
      have hTG : TG w RB FBk P S D 0 0 V3 := ⟨hRF, hwR, hf3, hr3, hb3⟩
      have HE := hide (And.intro hV1 (And.intro hV2 (And.intro hV3 (And.intro hPB (And.intro hRB (And.intro hFB hz2))))))
      have HT3 := hide hTG
      have HP3 := hide hp3
      have e1' : V2.cell? ⟨PB, 1, none⟩ = some (.int .u8 (P : Int)) := cell_at hp2 1 rfl
      have e3' : V2.cell? ⟨PB, 3, none⟩ = some (.int .u32 (S : Int)) := cell_at hp2 3 rfl
      have e4' : V2.cell? ⟨PB, 4, none⟩ = some (.int .u32 (D : Int)) := cell_at hp2 4 rfl
      have e1 : V3.cell? ⟨PB, 1, none⟩ = some (.int .u8 (P : Int)) := cell_at hp3 1 rfl
      have e3 : V3.cell? ⟨PB, 3, none⟩ = some (.int .u32 (S : Int)) := cell_at hp3 3 rfl
      have e4 : V3.cell? ⟨PB, 4, none⟩ = some (.int .u32 (D : Int)) := cell_at hp3 4 rfl
      have e5 : V3.cell? ⟨PB, 5, none⟩ = some (.slice a n cap) := cell_at hp3 5 rfl
      clear hV1 hV2 hV3 hz1 hz2 hb1 hb12 hb23 hb2 hb3 hp1 hp2 hp3 hr2 hr3 hf3 hPB hRB hFB hTG
      go_enter Try.func14, Try.ntmps14
      go_upto_region 1 with (fail)
      rw [HE.out.1, HE.out.2.1, HE.out.2.2.2.2.1, HE.out.2.2.2.1]
      go_upto_region 2 with (fail)
      rw [HE.out.2.2.1, HE.out.2.2.2.2.2.2, HE.out.2.2.2.2.2.1]
      clear HE e1' e3' e4'
      go_upto_region 18 with (fail)
      go_wp2_with fail
      refine (HT.out V3 HT3.out.below).mono ?_
      rintro e w4 ⟨a2, c2, rfl, o2, b4⟩
      have HT4 := hide (HT3.out.below' b4)
      have hsb := heap_alloc_new w4 (.cells #[.int .u8 (p : Int), .int .u8 (q : Int), .int .u32 (r : Int), .slice a2 ds.length c2] 55)
      have hal := (Below.refl w4.heap.size w4).alloc (Nat.le_refl _) (.cells #[.int .u8 (p : Int), .int .u8 (q : Int), .int .u32 (r : Int), .slice a2 ds.length c2] 55)
      have hFl := lt_of_block HT4.out.fb
      have hw3 := HT3.out.below.size
      obtain ⟨w5, hw5, HT5, HM5, HO5, hne⟩ : ∃ wt, w4.alloc (.cells #[.int .u8 (p : Int), .int .u8 (q : Int), .int .u32 (r : Int), .slice a2 ds.length c2] 55) = wt ∧ Hid (TG w RB FBk P S D 0 0 wt) ∧ Hid (wt.heap[w4.heap.size]? = some (.cells #[.int .u8 (p : Int), .int .u8 (q : Int), .int .u32 (r : Int), .slice a2 ds.length c2] 55 (0, 0))) ∧ Hid (Lies wt a2 ds ds.length c2) ∧ w4.heap.size ≠ FBk := ⟨_, rfl, hide (HT4.out.below' hal), hide hsb, hide ((Lies.of_owns o2).below hal (Nat.le_refl _)), by omega⟩
      obtain ⟨X, hX⟩ : ∃ X, w4.heap.size = X := ⟨_, rfl⟩
      rw [hX] at HM5 hne
      have HX := hide hX
      have hneF : FBk ≠ X := fun h => hne h.symm
      clear b4 o2 hsb hal e1 e3 e4 e5 HT3 HP3 HT hX HT4 hFl hw3
      go_upto_region 19 with (fail)
      try rw [hw5]
      rw [HX.out]
      clear hw5 HX
      obtain ⟨s0, s1, s2, s3⟩ := four_of HM5.out
      obtain ⟨x0, x1, x2, x3, x4, xf⟩ := five_cells HT5.out.fb
      have hneR : RB ≠ FBk := by omega
      have hle : w.heap.size ≤ FBk := by omega
      obtain ⟨w6, hw6, HT6⟩ : ∃ wt, w5.setCell ⟨FBk, 4, none⟩ (.int .u16 (id : Int)) = wt ∧ Hid (TG w RB FBk P S D 0 id wt) := ⟨_, rfl, hide ⟨HT5.out.lt, HT5.out.le, HT5.out.fb.set4 id, HT5.out.fr.other hneR, HT5.out.below.setCell (p := ⟨FBk, 4, none⟩) hle _⟩⟩
      go_upto_region 26 with (fail)
      try rw [hw6]
      clear hw6 x0 x1 x2 x3 x4 xf s0 s1 s2 s3 HT5 HM5 HO5
      obtain ⟨x0, x1, x2, x3, x4, xf⟩ := five_cells HT6.out.fb
      obtain ⟨y0, y1, y2, y3, y4, yf⟩ := five_cells HT6.out.fr
      obtain ⟨w10, h10, hfb, hbb⟩ := HT6.out.answer
      have HFE := hide hfb
      have HB10 := hide hbb
      clear hfb hbb
      go_wp2_with fail
      try rw [h10]
      exact bodyPost_ret (v := .tuple #[.agg #[.int .u8 (P : Int), .int .u32 (S : Int), .int .u32 (D : Int), .int .u16 0, .int .u16 (id : Int)], .int .i64 2, .int .i64 0]) (results_cell_tmp2 Try.results14 _ w10 RB _ _ _ _ rfl HFE.out Try.underlying29 rfl (by kernel_rfl) _ _ rfl rfl) rfl ⟨by rw [HANS.out.1, HANS.out.2.1, HANS.out.2.2]; rfl, HB10.out⟩
    have hq : qok p q = false := by unfold qok; simp; omega
    have hAB : (((p : Int) == 8) = false ∨ (((p : Int) == 8) = true ∧ ((q : Int) == 0) = false)) ∧ (((p : Int) == 0) = false ∨ (((p : Int) == 0) = true ∧ ((q : Int) == 0) = false)) := by
      refine ⟨?_, ?_⟩
      · by_cases h : p = 8
        · right; exact ⟨by simp [h], by simp; omega⟩
        · left; simp; omega
      · by_cases h : p = 0
        · right; exact ⟨by simp [h], by simp; omega⟩
        · left; simp; omega
    obtain ⟨y, hy⟩ : ∃ y, innFl ds ds.length = y := ⟨_, rfl⟩
    obtain ⟨O, hO⟩ : ∃ y, tok ds ds.length = y := ⟨_, rfl⟩
    rw [hy, hO] at HIN
    have hyy : O = true → y = tfl ds ds.length := fun h => by rw [← hy]; unfold innFl; rw [hO, if_pos h]
    have HTU := hide (fun V : World => turnR_any y V)
    have hE3 : isErr p = true → (((p : Int) != 3) = false ∨ (((p : Int) != 3) = true ∧ ((p : Int) != 11) = false) ∨ (((p : Int) != 3) = true ∧ ((p : Int) != 11) = true ∧ ((p : Int) != 12) = false)) := fun h => by
      unfold isErr at h
      simp at h
      by_cases h3 : p = 3
      · left; simp [h3]
      · by_cases h11 : p = 11
        · right; left; simp [h11]
        · right; right; have h12 : p = 12 := by omega
          simp [h12]
    have hN3 : isErr p = false → ((p : Int) != 3) = true ∧ ((p : Int) != 11) = true ∧ ((p : Int) != 12) = true := fun h => by
      unfold isErr at h
      simp at h
      exact ⟨by simp; omega, by simp; omega, by simp; omega⟩
    obtain ⟨E, hE⟩ : ∃ E, isErr p = E := ⟨_, rfl⟩
    have hres : (E && O) = true → ofFl P S D xs = y.turn ∧ ofKind P S D xs = 3 ∧ ofErr P S D xs = 0 := fun h => by
      rw [Bool.and_eq_true] at h
      rw [hFF, hKK, he]
      unfold msgOk msgFl msgKind
      rw [hE, h.1, hO, h.2, hyy h.2]
      exact ⟨rfl, rfl, rfl⟩
    have hres0 : (E && O) = false → ofFl P S D xs = zeroF ∧ ofKind P S D xs = 0 ∧ ofErr P S D xs = 11 := fun h => by
      rw [hFF, hKK, he]
      unfold msgOk
      rw [hE, hO, hq]
      cases E
      · exact ⟨rfl, rfl, rfl⟩
      · rw [show O = false by simpa using h]
        exact ⟨rfl, rfl, rfl⟩
    rw [hE] at hE3 hN3
    clear hy hO hyy hq hA hB he hFF hKK hP hid h0 hE
    cases E with
    | false =>
      have HANS := hide (hres0 (by rfl))
      obtain ⟨n3, n11, n12⟩ := hN3 rfl
      clear hres hres0 hE3 hN3 HTU
      have HAB := hide hAB
      have HN := hide (And.intro n3 (And.intro n11 n12))
      clear hAB n3 n11 n12
      obtain ⟨V1, hV1⟩ : ∃ V, w.alloc (.cells (#[.int .u8 ttl, .int .u8 (P : Int), .int .u16 pid, .int .u32 (S : Int), .int .u32 (D : Int), .slice a n cap]) 27) = V := ⟨_, rfl⟩
      obtain ⟨V2, hV2⟩ : ∃ V, V1.alloc (.cells (#[.int .u8 0, .int .u32 0, .int .u32 0, .int .u16 0, .int .u16 0]) 29) = V := ⟨_, rfl⟩
      obtain ⟨V3, hV3⟩ : ∃ V, V2.alloc (.cells (#[.int .u8 (P : Int), .int .u32 (S : Int), .int .u32 (D : Int), .int .u16 0, .int .u16 0]) 29) = V := ⟨_, rfl⟩
      have hz1 : V1.heap.size = w.heap.size + 1 := by rw [← hV1]; simp
      have hz2 : V2.heap.size = w.heap.size + 1 + 1 := by rw [← hV2]; simp [hz1]
      have hb1 : Below w.heap.size w V1 := by rw [← hV1]; exact (Below.refl _ _).alloc (Nat.le_refl _) _
      have hb12 : Below V1.heap.size V1 V2 := by rw [← hV2]; exact (Below.refl _ _).alloc (Nat.le_refl _) _
      have hb23 : Below V2.heap.size V2 V3 := by rw [← hV3]; exact (Below.refl _ _).alloc (Nat.le_refl _) _
      have hb2 := hb1.trans (hb12.mono hb1.size)
      have hb3 := hb2.trans (hb23.mono hb2.size)
      have hp1 : V1.heap[w.heap.size]? = some (.cells (#[.int .u8 ttl, .int .u8 (P : Int), .int .u16 pid, .int .u32 (S : Int), .int .u32 (D : Int), .slice a n cap]) 27 (0, 0)) := by rw [← hV1]; exact heap_alloc_new _ _
      have hp2 := below_block hb12 hp1 (Nat.le_refl _)
      have hp3 := below_block hb23 hp2 (Nat.le_refl _)
      have hr2 : V2.heap[w.heap.size + 1]? = some (.cells (#[.int .u8 0, .int .u32 0, .int .u32 0, .int .u16 0, .int .u16 0]) 29 (0, 0)) := by rw [← hV2, ← hz1]; exact heap_alloc_new _ _
      have hr3 := below_block hb23 hr2 (Nat.le_refl _)
      have hf3 : V3.heap[w.heap.size + 1 + 1]? = some (.cells (#[.int .u8 (P : Int), .int .u32 (S : Int), .int .u32 (D : Int), .int .u16 0, .int .u16 0]) 29 (0, 0)) := by rw [← hV3, ← hz2]; exact heap_alloc_new _ _
      obtain ⟨PB, hPB⟩ : ∃ B, w.heap.size = B := ⟨_, rfl⟩
      obtain ⟨RB, hRB⟩ : ∃ B, w.heap.size + 1 = B := ⟨_, rfl⟩
      obtain ⟨FBk, hFB⟩ : ∃ B, w.heap.size + 1 + 1 = B := ⟨_, rfl⟩
      rw [hPB] at hp2 hp3
      rw [hRB] at hr3
      rw [hFB] at hf3
      have hwR : w.heap.size ≤ RB := by omega
      have hRF : RB < FBk := by omega
      have hPF : PB ≠ FBk := by omega
      have hPR : PB ≠ RB := by omega
      have hTG : TG w RB FBk P S D 0 0 V3 := ⟨hRF, hwR, hf3, hr3, hb3⟩
      have HE := hide (And.intro hV1 (And.intro hV2 (And.intro hV3 (And.intro hPB (And.intro hRB (And.intro hFB hz2))))))
      have HT3 := hide hTG
      have HP3 := hide hp3
      have e1' : V2.cell? ⟨PB, 1, none⟩ = some (.int .u8 (P : Int)) := cell_at hp2 1 rfl
      have e3' : V2.cell? ⟨PB, 3, none⟩ = some (.int .u32 (S : Int)) := cell_at hp2 3 rfl
      have e4' : V2.cell? ⟨PB, 4, none⟩ = some (.int .u32 (D : Int)) := cell_at hp2 4 rfl
      have e1 : V3.cell? ⟨PB, 1, none⟩ = some (.int .u8 (P : Int)) := cell_at hp3 1 rfl
      have e3 : V3.cell? ⟨PB, 3, none⟩ = some (.int .u32 (S : Int)) := cell_at hp3 3 rfl
      have e4 : V3.cell? ⟨PB, 4, none⟩ = some (.int .u32 (D : Int)) := cell_at hp3 4 rfl
      have e5 : V3.cell? ⟨PB, 5, none⟩ = some (.slice a n cap) := cell_at hp3 5 rfl
      clear hV1 hV2 hV3 hz1 hz2 hb1 hb12 hb23 hb2 hb3 hp1 hp2 hp3 hr2 hr3 hf3 hPB hRB hFB hTG
      go_enter Try.func14, Try.ntmps14
      go_upto_region 1 with (fail)
      rw [HE.out.1, HE.out.2.1, HE.out.2.2.2.2.1, HE.out.2.2.2.1]
      go_upto_region 2 with (fail)
      rw [HE.out.2.2.1, HE.out.2.2.2.2.2.2, HE.out.2.2.2.2.2.1]
      clear HE e1' e3' e4'
      go_upto_region 18 with (fail)
      go_wp2_with fail
      refine (HT.out V3 HT3.out.below).mono ?_
      rintro e w4 ⟨a2, c2, rfl, o2, b4⟩
      have HT4 := hide (HT3.out.below' b4)
      have hsb := heap_alloc_new w4 (.cells #[.int .u8 (p : Int), .int .u8 (q : Int), .int .u32 (r : Int), .slice a2 ds.length c2] 55)
      have hal := (Below.refl w4.heap.size w4).alloc (Nat.le_refl _) (.cells #[.int .u8 (p : Int), .int .u8 (q : Int), .int .u32 (r : Int), .slice a2 ds.length c2] 55)
      have hFl := lt_of_block HT4.out.fb
      have hw3 := HT3.out.below.size
      obtain ⟨w5, hw5, HT5, HM5, HO5, hne⟩ : ∃ wt, w4.alloc (.cells #[.int .u8 (p : Int), .int .u8 (q : Int), .int .u32 (r : Int), .slice a2 ds.length c2] 55) = wt ∧ Hid (TG w RB FBk P S D 0 0 wt) ∧ Hid (wt.heap[w4.heap.size]? = some (.cells #[.int .u8 (p : Int), .int .u8 (q : Int), .int .u32 (r : Int), .slice a2 ds.length c2] 55 (0, 0))) ∧ Hid (Lies wt a2 ds ds.length c2) ∧ w4.heap.size ≠ FBk := ⟨_, rfl, hide (HT4.out.below' hal), hide hsb, hide ((Lies.of_owns o2).below hal (Nat.le_refl _)), by omega⟩
      obtain ⟨X, hX⟩ : ∃ X, w4.heap.size = X := ⟨_, rfl⟩
      rw [hX] at HM5 hne
      have HX := hide hX
      have hneF : FBk ≠ X := fun h => hne h.symm
      clear b4 o2 hsb hal e1 e3 e4 e5 HT3 HP3 HT hX HT4 hFl hw3
      go_upto_region 19 with (fail)
      try rw [hw5]
      rw [HX.out]
      clear hw5 HX
      obtain ⟨s0, s1, s2, s3⟩ := four_of HM5.out
      obtain ⟨n3, n11, n12⟩ := HN.out
      obtain ⟨h8, h0'⟩ := HAB.out
      clear HAB HN
      rcases h8 with h8 | ⟨h8, h8q⟩ <;> rcases h0' with h0' | ⟨h0', h0q⟩
      all_goals
        go_wp2_with fail
        refine (HIN.out w5 a2 c2 HO5.out).mono ?_
        rintro e w6 ⟨rfl, b6⟩
        have HT6 := hide (HT5.out.below' b6)
        have hm6 := below_block b6 HM5.out (Nat.le_refl _)
        have hlX := lt_of_block HM5.out
        have hs6 := b6.size
        clear b6 HT5 HO5 s0 s1 s2 s3 HIN
        obtain ⟨yp, ys, yd, yf, yt⟩ := y
        unfold Fl.v
        dsimp only
        have hal7 := (Below.refl w6.heap.size w6).alloc (Nat.le_refl _) (.cells (#[.int .u8 (yp : Int), .int .u32 (ys : Int), .int .u32 (yd : Int), .int .u16 (yf : Int), .int .u16 (yt : Int)]) 29)
        obtain ⟨w7, hw7, HT7, HM7⟩ : ∃ wt, w6.alloc (.cells (#[.int .u8 (yp : Int), .int .u32 (ys : Int), .int .u32 (yd : Int), .int .u16 (yf : Int), .int .u16 (yt : Int)]) 29) = wt ∧ Hid (TG w RB FBk P S D 0 0 wt) ∧ Hid (wt.heap[X]? = some (.cells #[.int .u8 (p : Int), .int .u8 (q : Int), .int .u32 (r : Int), .slice a2 ds.length c2] 55 (0, 0))) := ⟨_, rfl, hide (HT6.out.below' hal7), hide (below_block hal7 hm6 (Nat.le_refl _))⟩
        clear hm6 hal7 HT6 HM5
        go_upto_region 28 with (fail)
        try rw [hw7]
        clear hw7
        obtain ⟨s0, s1, s2, s3⟩ := four_of HM7.out
        obtain ⟨y0, y1, y2, y3, y4, yf⟩ := five_cells HT7.out.fr
        obtain ⟨w10, h10, hfb, hbb⟩ := TG.none HT7.out.le HT7.out.fr HT7.out.below
        have HFE := hide hfb
        have HB10 := hide hbb
        clear hfb hbb
        go_wp2_with fail
        try rw [h10]
        exact bodyPost_ret (v := .tuple #[.agg #[.int .u8 0, .int .u32 0, .int .u32 0, .int .u16 0, .int .u16 0], .int .i64 0, .int .i64 11]) (results_cell_tmp2 Try.results14 _ w10 RB _ _ _ _ rfl HFE.out Try.underlying29 rfl (by kernel_rfl) _ _ rfl rfl) rfl ⟨by rw [HANS.out.1, HANS.out.2.1, HANS.out.2.2]; rfl, HB10.out⟩
    | true =>
      clear hN3
      cases O with
      | false =>
        have HANS := hide (hres0 (by rfl))
        clear hres hres0 HTU
        have hE4 := hE3 rfl
        clear hE3
        have HAB := hide hAB
        have HE4 := hide hE4
        clear hAB hE4
        obtain ⟨V1, hV1⟩ : ∃ V, w.alloc (.cells (#[.int .u8 ttl, .int .u8 (P : Int), .int .u16 pid, .int .u32 (S : Int), .int .u32 (D : Int), .slice a n cap]) 27) = V := ⟨_, rfl⟩
        obtain ⟨V2, hV2⟩ : ∃ V, V1.alloc (.cells (#[.int .u8 0, .int .u32 0, .int .u32 0, .int .u16 0, .int .u16 0]) 29) = V := ⟨_, rfl⟩
        obtain ⟨V3, hV3⟩ : ∃ V, V2.alloc (.cells (#[.int .u8 (P : Int), .int .u32 (S : Int), .int .u32 (D : Int), .int .u16 0, .int .u16 0]) 29) = V := ⟨_, rfl⟩
        have hz1 : V1.heap.size = w.heap.size + 1 := by rw [← hV1]; simp
        have hz2 : V2.heap.size = w.heap.size + 1 + 1 := by rw [← hV2]; simp [hz1]
        have hb1 : Below w.heap.size w V1 := by rw [← hV1]; exact (Below.refl _ _).alloc (Nat.le_refl _) _
        have hb12 : Below V1.heap.size V1 V2 := by rw [← hV2]; exact (Below.refl _ _).alloc (Nat.le_refl _) _
        have hb23 : Below V2.heap.size V2 V3 := by rw [← hV3]; exact (Below.refl _ _).alloc (Nat.le_refl _) _
        have hb2 := hb1.trans (hb12.mono hb1.size)
        have hb3 := hb2.trans (hb23.mono hb2.size)
        have hp1 : V1.heap[w.heap.size]? = some (.cells (#[.int .u8 ttl, .int .u8 (P : Int), .int .u16 pid, .int .u32 (S : Int), .int .u32 (D : Int), .slice a n cap]) 27 (0, 0)) := by rw [← hV1]; exact heap_alloc_new _ _
        have hp2 := below_block hb12 hp1 (Nat.le_refl _)
        have hp3 := below_block hb23 hp2 (Nat.le_refl _)
        have hr2 : V2.heap[w.heap.size + 1]? = some (.cells (#[.int .u8 0, .int .u32 0, .int .u32 0, .int .u16 0, .int .u16 0]) 29 (0, 0)) := by rw [← hV2, ← hz1]; exact heap_alloc_new _ _
        have hr3 := below_block hb23 hr2 (Nat.le_refl _)
        have hf3 : V3.heap[w.heap.size + 1 + 1]? = some (.cells (#[.int .u8 (P : Int), .int .u32 (S : Int), .int .u32 (D : Int), .int .u16 0, .int .u16 0]) 29 (0, 0)) := by rw [← hV3, ← hz2]; exact heap_alloc_new _ _
        obtain ⟨PB, hPB⟩ : ∃ B, w.heap.size = B := ⟨_, rfl⟩
        obtain ⟨RB, hRB⟩ : ∃ B, w.heap.size + 1 = B := ⟨_, rfl⟩
        obtain ⟨FBk, hFB⟩ : ∃ B, w.heap.size + 1 + 1 = B := ⟨_, rfl⟩
        rw [hPB] at hp2 hp3
        rw [hRB] at hr3
        rw [hFB] at hf3
        have hwR : w.heap.size ≤ RB := by omega
        have hRF : RB < FBk := by omega
        have hPF : PB ≠ FBk := by omega
        have hPR : PB ≠ RB := by omega
        have hTG : TG w RB FBk P S D 0 0 V3 := ⟨hRF, hwR, hf3, hr3, hb3⟩
        have HE := hide (And.intro hV1 (And.intro hV2 (And.intro hV3 (And.intro hPB (And.intro hRB (And.intro hFB hz2))))))
        have HT3 := hide hTG
        have HP3 := hide hp3
        have e1' : V2.cell? ⟨PB, 1, none⟩ = some (.int .u8 (P : Int)) := cell_at hp2 1 rfl
        have e3' : V2.cell? ⟨PB, 3, none⟩ = some (.int .u32 (S : Int)) := cell_at hp2 3 rfl
        have e4' : V2.cell? ⟨PB, 4, none⟩ = some (.int .u32 (D : Int)) := cell_at hp2 4 rfl
        have e1 : V3.cell? ⟨PB, 1, none⟩ = some (.int .u8 (P : Int)) := cell_at hp3 1 rfl
        have e3 : V3.cell? ⟨PB, 3, none⟩ = some (.int .u32 (S : Int)) := cell_at hp3 3 rfl
        have e4 : V3.cell? ⟨PB, 4, none⟩ = some (.int .u32 (D : Int)) := cell_at hp3 4 rfl
        have e5 : V3.cell? ⟨PB, 5, none⟩ = some (.slice a n cap) := cell_at hp3 5 rfl
        clear hV1 hV2 hV3 hz1 hz2 hb1 hb12 hb23 hb2 hb3 hp1 hp2 hp3 hr2 hr3 hf3 hPB hRB hFB hTG
        go_enter Try.func14, Try.ntmps14
        go_upto_region 1 with (fail)
        rw [HE.out.1, HE.out.2.1, HE.out.2.2.2.2.1, HE.out.2.2.2.1]
        go_upto_region 2 with (fail)
        rw [HE.out.2.2.1, HE.out.2.2.2.2.2.2, HE.out.2.2.2.2.2.1]
        clear HE e1' e3' e4'
        go_upto_region 18 with (fail)
        go_wp2_with fail
        refine (HT.out V3 HT3.out.below).mono ?_
        rintro e w4 ⟨a2, c2, rfl, o2, b4⟩
        have HT4 := hide (HT3.out.below' b4)
        have hsb := heap_alloc_new w4 (.cells #[.int .u8 (p : Int), .int .u8 (q : Int), .int .u32 (r : Int), .slice a2 ds.length c2] 55)
        have hal := (Below.refl w4.heap.size w4).alloc (Nat.le_refl _) (.cells #[.int .u8 (p : Int), .int .u8 (q : Int), .int .u32 (r : Int), .slice a2 ds.length c2] 55)
        have hFl := lt_of_block HT4.out.fb
        have hw3 := HT3.out.below.size
        obtain ⟨w5, hw5, HT5, HM5, HO5, hne⟩ : ∃ wt, w4.alloc (.cells #[.int .u8 (p : Int), .int .u8 (q : Int), .int .u32 (r : Int), .slice a2 ds.length c2] 55) = wt ∧ Hid (TG w RB FBk P S D 0 0 wt) ∧ Hid (wt.heap[w4.heap.size]? = some (.cells #[.int .u8 (p : Int), .int .u8 (q : Int), .int .u32 (r : Int), .slice a2 ds.length c2] 55 (0, 0))) ∧ Hid (Lies wt a2 ds ds.length c2) ∧ w4.heap.size ≠ FBk := ⟨_, rfl, hide (HT4.out.below' hal), hide hsb, hide ((Lies.of_owns o2).below hal (Nat.le_refl _)), by omega⟩
        obtain ⟨X, hX⟩ : ∃ X, w4.heap.size = X := ⟨_, rfl⟩
        rw [hX] at HM5 hne
        have HX := hide hX
        have hneF : FBk ≠ X := fun h => hne h.symm
        clear b4 o2 hsb hal e1 e3 e4 e5 HT3 HP3 HT hX HT4 hFl hw3
        go_upto_region 19 with (fail)
        try rw [hw5]
        rw [HX.out]
        clear hw5 HX
        obtain ⟨s0, s1, s2, s3⟩ := four_of HM5.out
        obtain ⟨h8, h0'⟩ := HAB.out
        have hE4 := HE4.out
        clear HAB HE4
        rcases h8 with h8 | ⟨h8, h8q⟩ <;> rcases h0' with h0' | ⟨h0', h0q⟩
        all_goals
          go_wp2_with fail
          refine (HIN.out w5 a2 c2 HO5.out).mono ?_
          rintro e w6 ⟨rfl, b6⟩
          have HT6 := hide (HT5.out.below' b6)
          have hm6 := below_block b6 HM5.out (Nat.le_refl _)
          clear b6 HT5 HO5 s0 s1 s2 s3 HIN
          obtain ⟨yp, ys, yd, yf, yt⟩ := y
          unfold Fl.v
          dsimp only
          have hal7 := (Below.refl w6.heap.size w6).alloc (Nat.le_refl _) (.cells (#[.int .u8 (yp : Int), .int .u32 (ys : Int), .int .u32 (yd : Int), .int .u16 (yf : Int), .int .u16 (yt : Int)]) 29)
          obtain ⟨w7, hw7, HT7, HM7⟩ : ∃ wt, w6.alloc (.cells (#[.int .u8 (yp : Int), .int .u32 (ys : Int), .int .u32 (yd : Int), .int .u16 (yf : Int), .int .u16 (yt : Int)]) 29) = wt ∧ Hid (TG w RB FBk P S D 0 0 wt) ∧ Hid (wt.heap[X]? = some (.cells #[.int .u8 (p : Int), .int .u8 (q : Int), .int .u32 (r : Int), .slice a2 ds.length c2] 55 (0, 0))) := ⟨_, rfl, hide (HT6.out.below' hal7), hide (below_block hal7 hm6 (Nat.le_refl _))⟩
          clear hm6 hal7 HT6 HM5
          go_upto_region 28 with (fail)
          try rw [hw7]
          clear hw7
          rcases hE4 with n3 | ⟨n3, n11⟩ | ⟨n3, n11, n12⟩
          all_goals
            obtain ⟨s0, s1, s2, s3⟩ := four_of HM7.out
            obtain ⟨y0, y1, y2, y3, y4, yf⟩ := five_cells HT7.out.fr
            obtain ⟨w10, h10, hfb, hbb⟩ := TG.none HT7.out.le HT7.out.fr HT7.out.below
            have HFE := hide hfb
            have HB10 := hide hbb
            clear hfb hbb
            go_wp2_with fail
            try rw [h10]
            exact bodyPost_ret (v := .tuple #[.agg #[.int .u8 0, .int .u32 0, .int .u32 0, .int .u16 0, .int .u16 0], .int .i64 0, .int .i64 11]) (results_cell_tmp2 Try.results14 _ w10 RB _ _ _ _ rfl HFE.out Try.underlying29 rfl (by kernel_rfl) _ _ rfl rfl) rfl ⟨by rw [HANS.out.1, HANS.out.2.1, HANS.out.2.2]; rfl, HB10.out⟩

      | true =>
        have HANS := hide (hres (by rfl))
        clear hres hres0
        have hE4 := hE3 rfl
        clear hE3
        obtain ⟨yp, ys, yd, yf, yt⟩ := y
        unfold Fl.turn at HTU HANS
        unfold Fl.v at HTU
        unfold Fl.v at HIN
        dsimp only at HTU HANS HIN
        have HAB := hide hAB
        have HE4 := hide hE4
        clear hAB hE4
        obtain ⟨V1, hV1⟩ : ∃ V, w.alloc (.cells (#[.int .u8 ttl, .int .u8 (P : Int), .int .u16 pid, .int .u32 (S : Int), .int .u32 (D : Int), .slice a n cap]) 27) = V := ⟨_, rfl⟩
        obtain ⟨V2, hV2⟩ : ∃ V, V1.alloc (.cells (#[.int .u8 0, .int .u32 0, .int .u32 0, .int .u16 0, .int .u16 0]) 29) = V := ⟨_, rfl⟩
        obtain ⟨V3, hV3⟩ : ∃ V, V2.alloc (.cells (#[.int .u8 (P : Int), .int .u32 (S : Int), .int .u32 (D : Int), .int .u16 0, .int .u16 0]) 29) = V := ⟨_, rfl⟩
        have hz1 : V1.heap.size = w.heap.size + 1 := by rw [← hV1]; simp
        have hz2 : V2.heap.size = w.heap.size + 1 + 1 := by rw [← hV2]; simp [hz1]
        have hb1 : Below w.heap.size w V1 := by rw [← hV1]; exact (Below.refl _ _).alloc (Nat.le_refl _) _
        have hb12 : Below V1.heap.size V1 V2 := by rw [← hV2]; exact (Below.refl _ _).alloc (Nat.le_refl _) _
        have hb23 : Below V2.heap.size V2 V3 := by rw [← hV3]; exact (Below.refl _ _).alloc (Nat.le_refl _) _
        have hb2 := hb1.trans (hb12.mono hb1.size)
        have hb3 := hb2.trans (hb23.mono hb2.size)
        have hp1 : V1.heap[w.heap.size]? = some (.cells (#[.int .u8 ttl, .int .u8 (P : Int), .int .u16 pid, .int .u32 (S : Int), .int .u32 (D : Int), .slice a n cap]) 27 (0, 0)) := by rw [← hV1]; exact heap_alloc_new _ _
        have hp2 := below_block hb12 hp1 (Nat.le_refl _)
        have hp3 := below_block hb23 hp2 (Nat.le_refl _)
        have hr2 : V2.heap[w.heap.size + 1]? = some (.cells (#[.int .u8 0, .int .u32 0, .int .u32 0, .int .u16 0, .int .u16 0]) 29 (0, 0)) := by rw [← hV2, ← hz1]; exact heap_alloc_new _ _
        have hr3 := below_block hb23 hr2 (Nat.le_refl _)
        have hf3 : V3.heap[w.heap.size + 1 + 1]? = some (.cells (#[.int .u8 (P : Int), .int .u32 (S : Int), .int .u32 (D : Int), .int .u16 0, .int .u16 0]) 29 (0, 0)) := by rw [← hV3, ← hz2]; exact heap_alloc_new _ _
        obtain ⟨PB, hPB⟩ : ∃ B, w.heap.size = B := ⟨_, rfl⟩
        obtain ⟨RB, hRB⟩ : ∃ B, w.heap.size + 1 = B := ⟨_, rfl⟩
        obtain ⟨FBk, hFB⟩ : ∃ B, w.heap.size + 1 + 1 = B := ⟨_, rfl⟩
        rw [hPB] at hp2 hp3
        rw [hRB] at hr3
        rw [hFB] at hf3
        have hwR : w.heap.size ≤ RB := by omega
        have hRF : RB < FBk := by omega
        have hPF : PB ≠ FBk := by omega
        have hPR : PB ≠ RB := by omega
        have hTG : TG w RB FBk P S D 0 0 V3 := ⟨hRF, hwR, hf3, hr3, hb3⟩
        have HE := hide (And.intro hV1 (And.intro hV2 (And.intro hV3 (And.intro hPB (And.intro hRB (And.intro hFB hz2))))))
        have HT3 := hide hTG
        have HP3 := hide hp3
        have e1' : V2.cell? ⟨PB, 1, none⟩ = some (.int .u8 (P : Int)) := cell_at hp2 1 rfl
        have e3' : V2.cell? ⟨PB, 3, none⟩ = some (.int .u32 (S : Int)) := cell_at hp2 3 rfl
        have e4' : V2.cell? ⟨PB, 4, none⟩ = some (.int .u32 (D : Int)) := cell_at hp2 4 rfl
        have e1 : V3.cell? ⟨PB, 1, none⟩ = some (.int .u8 (P : Int)) := cell_at hp3 1 rfl
        have e3 : V3.cell? ⟨PB, 3, none⟩ = some (.int .u32 (S : Int)) := cell_at hp3 3 rfl
        have e4 : V3.cell? ⟨PB, 4, none⟩ = some (.int .u32 (D : Int)) := cell_at hp3 4 rfl
        have e5 : V3.cell? ⟨PB, 5, none⟩ = some (.slice a n cap) := cell_at hp3 5 rfl
        clear hV1 hV2 hV3 hz1 hz2 hb1 hb12 hb23 hb2 hb3 hp1 hp2 hp3 hr2 hr3 hf3 hPB hRB hFB hTG
        go_enter Try.func14, Try.ntmps14
        go_upto_region 1 with (fail)
        rw [HE.out.1, HE.out.2.1, HE.out.2.2.2.2.1, HE.out.2.2.2.1]
        go_upto_region 2 with (fail)
        rw [HE.out.2.2.1, HE.out.2.2.2.2.2.2, HE.out.2.2.2.2.2.1]
        clear HE e1' e3' e4'
        go_upto_region 18 with (fail)
        go_wp2_with fail
        refine (HT.out V3 HT3.out.below).mono ?_
        rintro e w4 ⟨a2, c2, rfl, o2, b4⟩
        have HT4 := hide (HT3.out.below' b4)
        have hsb := heap_alloc_new w4 (.cells #[.int .u8 (p : Int), .int .u8 (q : Int), .int .u32 (r : Int), .slice a2 ds.length c2] 55)
        have hal := (Below.refl w4.heap.size w4).alloc (Nat.le_refl _) (.cells #[.int .u8 (p : Int), .int .u8 (q : Int), .int .u32 (r : Int), .slice a2 ds.length c2] 55)
        have hFl := lt_of_block HT4.out.fb
        have hw3 := HT3.out.below.size
        obtain ⟨w5, hw5, HT5, HM5, HO5, hne⟩ : ∃ wt, w4.alloc (.cells #[.int .u8 (p : Int), .int .u8 (q : Int), .int .u32 (r : Int), .slice a2 ds.length c2] 55) = wt ∧ Hid (TG w RB FBk P S D 0 0 wt) ∧ Hid (wt.heap[w4.heap.size]? = some (.cells #[.int .u8 (p : Int), .int .u8 (q : Int), .int .u32 (r : Int), .slice a2 ds.length c2] 55 (0, 0))) ∧ Hid (Lies wt a2 ds ds.length c2) ∧ w4.heap.size ≠ FBk := ⟨_, rfl, hide (HT4.out.below' hal), hide hsb, hide ((Lies.of_owns o2).below hal (Nat.le_refl _)), by omega⟩
        obtain ⟨X, hX⟩ : ∃ X, w4.heap.size = X := ⟨_, rfl⟩
        rw [hX] at HM5 hne
        have HX := hide hX
        have hneF : FBk ≠ X := fun h => hne h.symm
        clear b4 o2 hsb hal e1 e3 e4 e5 HT3 HP3 HT hX HT4 hFl hw3
        go_upto_region 19 with (fail)
        try rw [hw5]
        rw [HX.out]
        clear hw5 HX
        obtain ⟨s0, s1, s2, s3⟩ := four_of HM5.out
        obtain ⟨h8, h0'⟩ := HAB.out
        have hE4 := HE4.out
        clear HAB HE4
        rcases h8 with h8 | ⟨h8, h8q⟩ <;> rcases h0' with h0' | ⟨h0', h0q⟩
        all_goals
          go_wp2_with fail
          refine (HIN.out w5 a2 c2 HO5.out).mono ?_
          rintro e w6 ⟨rfl, b6⟩
          have HT6 := hide (HT5.out.below' b6)
          have hm6 := below_block b6 HM5.out (Nat.le_refl _)
          clear b6 HT5 HO5 s0 s1 s2 s3 HIN
          have hal7 := (Below.refl w6.heap.size w6).alloc (Nat.le_refl _) (.cells (#[.int .u8 (yp : Int), .int .u32 (ys : Int), .int .u32 (yd : Int), .int .u16 (yf : Int), .int .u16 (yt : Int)]) 29)
          have hn7 := heap_alloc_new w6 (.cells (#[.int .u8 (yp : Int), .int .u32 (ys : Int), .int .u32 (yd : Int), .int .u16 (yf : Int), .int .u16 (yt : Int)]) 29)
          obtain ⟨w7, hw7, HT7, HM7, HI7⟩ : ∃ wt, w6.alloc (.cells (#[.int .u8 (yp : Int), .int .u32 (ys : Int), .int .u32 (yd : Int), .int .u16 (yf : Int), .int .u16 (yt : Int)]) 29) = wt ∧ Hid (TG w RB FBk P S D 0 0 wt) ∧ Hid (wt.heap[X]? = some (.cells #[.int .u8 (p : Int), .int .u8 (q : Int), .int .u32 (r : Int), .slice a2 ds.length c2] 55 (0, 0))) ∧ Hid (wt.heap[w6.heap.size]? = some (.cells (#[.int .u8 (yp : Int), .int .u32 (ys : Int), .int .u32 (yd : Int), .int .u16 (yf : Int), .int .u16 (yt : Int)]) 29 (0, 0))) := ⟨_, rfl, hide (HT6.out.below' hal7), hide (below_block hal7 hm6 (Nat.le_refl _)), hide hn7⟩
          clear hm6 hal7 HT6 HM5 hn7
          go_upto_region 28 with (fail)
          try rw [hw7]
          clear hw7
          rcases hE4 with n3 | ⟨n3, n11⟩ | ⟨n3, n11, n12⟩
          all_goals
            obtain ⟨s0, s1, s2, s3⟩ := four_of HM7.out
            obtain ⟨z0, z1, z2, z3, z4, zf⟩ := five_cells HI7.out
            go_wp2_with fail
            refine (HTU.out _).mono ?_
            rintro e w8 ⟨rfl, b8⟩
            have HT8 := hide (HT7.out.below' b8)
            clear b8 s0 s1 s2 s3 z0 z1 z2 z3 z4 zf HT7 HI7 HM7 HTU
            obtain ⟨y0, y1, y2, y3, y4, yf'⟩ := five_cells HT8.out.fr
            obtain ⟨w10, h10, hfb, hbb⟩ := tg_any HT8.out yp yd ys yt yf
            have HFE := hide hfb
            have HB10 := hide hbb
            clear hfb hbb
            go_wp2_with fail
            try rw [h10]
            exact bodyPost_ret (v := .tuple #[.agg #[.int .u8 (yp : Int), .int .u32 (yd : Int), .int .u32 (ys : Int), .int .u16 (yt : Int), .int .u16 (yf : Int)], .int .i64 3, .int .i64 0]) (results_cell_tmp2 Try.results14 _ w10 RB _ _ _ _ rfl HFE.out Try.underlying29 rfl (by kernel_rfl) _ _ rfl rfl) rfl ⟨by rw [HANS.out.1, HANS.out.2.1, HANS.out.2.2]; rfl, HB10.out⟩
  · have d0 : ((code : Int) != 0) = true := by simp; omega
    rw [if_neg h0] at he hFF hKK
    have HANS := hide (show ofFl P S D xs = zeroF ∧ ofKind P S D xs = 0 ∧ ofErr P S D xs = code by
      rw [if_neg h0] at hFF hKK
      exact ⟨hFF, hKK, he⟩)
    clear he hFF hKK hP h0
    obtain ⟨V1, hV1⟩ : ∃ V, w.alloc (.cells (#[.int .u8 ttl, .int .u8 (P : Int), .int .u16 pid, .int .u32 (S : Int), .int .u32 (D : Int), .slice a n cap]) 27) = V := ⟨_, rfl⟩
    obtain ⟨V2, hV2⟩ : ∃ V, V1.alloc (.cells (#[.int .u8 0, .int .u32 0, .int .u32 0, .int .u16 0, .int .u16 0]) 29) = V := ⟨_, rfl⟩
    obtain ⟨V3, hV3⟩ : ∃ V, V2.alloc (.cells (#[.int .u8 (P : Int), .int .u32 (S : Int), .int .u32 (D : Int), .int .u16 0, .int .u16 0]) 29) = V := ⟨_, rfl⟩
    have hz1 : V1.heap.size = w.heap.size + 1 := by rw [← hV1]; simp
    have hz2 : V2.heap.size = w.heap.size + 1 + 1 := by rw [← hV2]; simp [hz1]
    have hb1 : Below w.heap.size w V1 := by rw [← hV1]; exact (Below.refl _ _).alloc (Nat.le_refl _) _
    have hb12 : Below V1.heap.size V1 V2 := by rw [← hV2]; exact (Below.refl _ _).alloc (Nat.le_refl _) _
    have hb23 : Below V2.heap.size V2 V3 := by rw [← hV3]; exact (Below.refl _ _).alloc (Nat.le_refl _) _
    have hb2 := hb1.trans (hb12.mono hb1.size)
    have hb3 := hb2.trans (hb23.mono hb2.size)
    have hp1 : V1.heap[w.heap.size]? = some (.cells (#[.int .u8 ttl, .int .u8 (P : Int), .int .u16 pid, .int .u32 (S : Int), .int .u32 (D : Int), .slice a n cap]) 27 (0, 0)) := by rw [← hV1]; exact heap_alloc_new _ _
    have hp2 := below_block hb12 hp1 (Nat.le_refl _)
    have hp3 := below_block hb23 hp2 (Nat.le_refl _)
    have hr2 : V2.heap[w.heap.size + 1]? = some (.cells (#[.int .u8 0, .int .u32 0, .int .u32 0, .int .u16 0, .int .u16 0]) 29 (0, 0)) := by rw [← hV2, ← hz1]; exact heap_alloc_new _ _
    have hr3 := below_block hb23 hr2 (Nat.le_refl _)
    have hf3 : V3.heap[w.heap.size + 1 + 1]? = some (.cells (#[.int .u8 (P : Int), .int .u32 (S : Int), .int .u32 (D : Int), .int .u16 0, .int .u16 0]) 29 (0, 0)) := by rw [← hV3, ← hz2]; exact heap_alloc_new _ _
    obtain ⟨PB, hPB⟩ : ∃ B, w.heap.size = B := ⟨_, rfl⟩
    obtain ⟨RB, hRB⟩ : ∃ B, w.heap.size + 1 = B := ⟨_, rfl⟩
    obtain ⟨FBk, hFB⟩ : ∃ B, w.heap.size + 1 + 1 = B := ⟨_, rfl⟩
    rw [hPB] at hp2 hp3
    rw [hRB] at hr3
    rw [hFB] at hf3
    have hwR : w.heap.size ≤ RB := by omega
    have hRF : RB < FBk := by omega
    have hPF : PB ≠ FBk := by omega
    have hPR : PB ≠ RB := by omega
    have hTG : TG w RB FBk P S D 0 0 V3 := ⟨hRF, hwR, hf3, hr3, hb3⟩
    have HE := hide (And.intro hV1 (And.intro hV2 (And.intro hV3 (And.intro hPB (And.intro hRB (And.intro hFB hz2))))))
    have HT3 := hide hTG
    have HP3 := hide hp3
    have e1' : V2.cell? ⟨PB, 1, none⟩ = some (.int .u8 (P : Int)) := cell_at hp2 1 rfl
    have e3' : V2.cell? ⟨PB, 3, none⟩ = some (.int .u32 (S : Int)) := cell_at hp2 3 rfl
    have e4' : V2.cell? ⟨PB, 4, none⟩ = some (.int .u32 (D : Int)) := cell_at hp2 4 rfl
    have e1 : V3.cell? ⟨PB, 1, none⟩ = some (.int .u8 (P : Int)) := cell_at hp3 1 rfl
    have e3 : V3.cell? ⟨PB, 3, none⟩ = some (.int .u32 (S : Int)) := cell_at hp3 3 rfl
    have e4 : V3.cell? ⟨PB, 4, none⟩ = some (.int .u32 (D : Int)) := cell_at hp3 4 rfl
    have e5 : V3.cell? ⟨PB, 5, none⟩ = some (.slice a n cap) := cell_at hp3 5 rfl
    clear hV1 hV2 hV3 hz1 hz2 hb1 hb12 hb23 hb2 hb3 hp1 hp2 hp3 hr2 hr3 hf3 hPB hRB hFB hTG
    go_enter Try.func14, Try.ntmps14
    go_upto_region 1 with (fail)
    rw [HE.out.1, HE.out.2.1, HE.out.2.2.2.2.1, HE.out.2.2.2.1]
    go_upto_region 2 with (fail)
    rw [HE.out.2.2.1, HE.out.2.2.2.2.2.2, HE.out.2.2.2.2.2.1]
    clear HE e1' e3' e4'
    go_upto_region 18 with (fail)
    go_wp2_with fail
    refine (HT.out V3 HT3.out.below).mono ?_
    rintro e w4 ⟨a2, c2, rfl, o2, b4⟩
    have HT4 := hide (HT3.out.below' b4)
    have hsb := heap_alloc_new w4 (.cells #[.int .u8 (p : Int), .int .u8 (q : Int), .int .u32 (r : Int), .slice a2 ds.length c2] 55)
    have hal := (Below.refl w4.heap.size w4).alloc (Nat.le_refl _) (.cells #[.int .u8 (p : Int), .int .u8 (q : Int), .int .u32 (r : Int), .slice a2 ds.length c2] 55)
    have hFl := lt_of_block HT4.out.fb
    have hw3 := HT3.out.below.size
    obtain ⟨w5, hw5, HT5, HM5, HO5, hne⟩ : ∃ wt, w4.alloc (.cells #[.int .u8 (p : Int), .int .u8 (q : Int), .int .u32 (r : Int), .slice a2 ds.length c2] 55) = wt ∧ Hid (TG w RB FBk P S D 0 0 wt) ∧ Hid (wt.heap[w4.heap.size]? = some (.cells #[.int .u8 (p : Int), .int .u8 (q : Int), .int .u32 (r : Int), .slice a2 ds.length c2] 55 (0, 0))) ∧ Hid (Lies wt a2 ds ds.length c2) ∧ w4.heap.size ≠ FBk := ⟨_, rfl, hide (HT4.out.below' hal), hide hsb, hide ((Lies.of_owns o2).below hal (Nat.le_refl _)), by omega⟩
    obtain ⟨X, hX⟩ : ∃ X, w4.heap.size = X := ⟨_, rfl⟩
    rw [hX] at HM5 hne
    have HX := hide hX
    have hneF : FBk ≠ X := fun h => hne h.symm
    clear b4 o2 hsb hal e1 e3 e4 e5 HT3 HP3 HT hX HT4 hFl hw3
    go_upto_region 19 with (fail)
    try rw [hw5]
    rw [HX.out]
    clear hw5 HX
    obtain ⟨s0, s1, s2, s3⟩ := four_of HM5.out
    clear s0 s1 s2 s3 HO5 HM5
    obtain ⟨y0, y1, y2, y3, y4, yf⟩ := five_cells HT5.out.fr
    obtain ⟨w10, h10, hfb, hbb⟩ := TG.none HT5.out.le HT5.out.fr HT5.out.below
    have HFE := hide hfb
    have HB10 := hide hbb
    clear hfb hbb
    go_wp2_with fail
    try rw [h10]
    exact bodyPost_ret (v := .tuple #[.agg #[.int .u8 0, .int .u32 0, .int .u32 0, .int .u16 0, .int .u16 0], .int .i64 0, .int .i64 (code : Nat)]) (results_cell_tmp2 Try.results14 _ w10 RB _ _ _ _ rfl HFE.out Try.underlying29 rfl (by kernel_rfl) _ _ rfl rfl) rfl ⟨by rw [HANS.out.1, HANS.out.2.1, HANS.out.2.2]; rfl, HB10.out⟩
end Go.Proofs.Ytgggcapgaikbeaa
