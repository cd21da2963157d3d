/- What trans.WriteTCP answers. -/
import Derived.Test.YtgggcapgaikbeaaPk13
import Derived.Test.YtgggcapgaikbeaaPk05
namespace Go.Proofs.Ytgggcapgaikbeaa
open Go.RowKit
set_option linter.unusedVariables false
set_option linter.unusedSimpArgs false
set_option maxRecDepth 100000
/-- The byte that tells a segment's head. -/
def hdB (m : Nat) : Int := ((16 * (5 + m / 4) : Nat) : Int)
/-- A segment's bytes with k in its check sum's place. -/
def tcpG (p q u v f g h : Nat) (os xs : List Int) (k : Nat) : List Int := numB 2 p ++ (numB 2 q ++ (numB 4 u ++ (numB 4 v ++ ([hdB os.length, (f : Int)] ++ (numB 2 g ++ (numB 2 k ++ (numB 2 h ++ (os ++ xs))))))))
theorem tcpG_len (p q u v f g h : Nat) (os xs : List Int) (k : Nat) : (tcpG p q u v f g h os xs k).length = 20 + os.length + xs.length := by simp [tcpG, numB_len]; omega
theorem tcpG_rng (p q u v f g h : Nat) (os xs : List Int) (k : Nat) (hf : f ≤ 255) (ho : os.length ≤ 40) (hbo : ∀ x ∈ os, 0 ≤ x ∧ x ≤ 255) (hb : ∀ x ∈ xs, 0 ≤ x ∧ x ≤ 255) : ∀ x ∈ tcpG p q u v f g h os xs k, 0 ≤ x ∧ x ≤ 255 := by
  intro x hx
  simp only [tcpG, List.mem_append, List.mem_cons, List.not_mem_nil, or_false] at hx
  rcases hx with h | h | h | h | (h | h) | h | h | h | h | h
  · exact numB_rng _ _ x h
  · exact numB_rng _ _ x h
  · exact numB_rng _ _ x h
  · exact numB_rng _ _ x h
  · subst h; unfold hdB; omega
  · omega
  · exact numB_rng _ _ x h
  · exact numB_rng _ _ x h
  · exact numB_rng _ _ x h
  · exact hbo x h
  · exact hb x h
theorem tcp_spl (p q u v f g h : Nat) (os xs : List Int) (k m : Nat) : spl (tcpG p q u v f g h os xs k) 16 (numB 2 m) = tcpG p q u v f g h os xs m := by
  have e : ∀ j, tcpG p q u v f g h os xs j = (numB 2 p ++ (numB 2 q ++ (numB 4 u ++ (numB 4 v ++ ([hdB os.length, (f : Int)] ++ numB 2 g))))) ++ (numB 2 j ++ (numB 2 h ++ (os ++ xs))) := fun j => by simp [tcpG]
  have l6 : (numB 2 p ++ (numB 2 q ++ (numB 4 u ++ (numB 4 v ++ ([hdB os.length, (f : Int)] ++ numB 2 g))))).length = 16 := by simp [numB_len]
  unfold spl
  rw [e k, numB_len, List.take_left' l6, List.drop_append, l6]
  have l8 : List.drop (16 + 2) (numB 2 p ++ (numB 2 q ++ (numB 4 u ++ (numB 4 v ++ ([hdB os.length, (f : Int)] ++ numB 2 g))))) = [] := List.drop_eq_nil_of_le (by rw [l6]; omega)
  rw [l8, List.nil_append, show 16 + 2 - 16 = 2 from rfl, List.drop_left' (numB_len 2 k), e m, List.append_assoc]
def tcpK (src dst p q u v f g h : Nat) (os xs : List Int) : Int := csum (psB src dst 6 (20 + os.length + xs.length) ++ tcpG p q u v f g h os xs 0)

theorem rs_below {w w' : World} {B : Nat} {oa da : Option Addr} {os xs : List Int} (h : Row .u8 w oa os ∧ Row .u8 w da xs) (hb : Below B w w') (hB : w.heap.size ≤ B) : Row .u8 w' oa os ∧ Row .u8 w' da xs := ⟨h.1.below hb hB, h.2.below hb hB⟩
set_option maxHeartbeats 4000000 in
theorem wtcp_ok (w : World) (src dst p q u v f g h : Nat) (oa : Option Addr) (os : List Int) (m oc : Nat) (da : Option Addr) (xs : List Int) (n dc : Nat) (hro : Row .u8 w oa os) (hno : oa = none → oc = 0) (hlo : os.length = m) (hr : Row .u8 w da xs) (hn : da = none → dc = 0) (hl : xs.length = n) (hbo : ∀ x ∈ os, 0 ≤ x ∧ x ≤ 255) (hb : ∀ x ∈ xs, 0 ≤ x ∧ x ≤ 255) (h1 : m ≤ 40) (h2 : m % 4 = 0) (h3 : n ≤ 1460 - m) (hs : src ≤ 4294967295) (hd : dst ≤ 4294967295) (hp : p ≤ 65535) (hq : q ≤ 65535) (hu : u ≤ 4294967295) (hv : v ≤ 4294967295) (hf : f ≤ 255) (hg : g ≤ 65535) (hh : h ≤ 65535) :
    Calls Try.prog 57 #[.int .u32 src, .int .u32 dst, .agg #[.int .u16 (p : Int), .int .u16 (q : Int), .int .u32 (u : Int), .int .u32 (v : Int), .int .u8 (f : Int), .int .u16 (g : Int), .int .u16 (h : Int), .slice oa m oc, .slice da n dc]] w fun e w' => ∃ a c,
      e = .returned (.tuple #[.slice a (20 + m + n) c, .int .i64 0]) ∧ w'.ownsRow w.heap.size 5 1 (.slice a (20 + m + n) c) (20 + m + n) ((tcpG p q u v f g h os xs (tcpK src dst p q u v f g h os xs).toNat).map (Value.int .u8)) ∧ Below w.heap.size w w' := by
  have HRO := hide hro
  have HR := hide hr
  have HN := hide (And.intro hno hn)
  have HL := hide (And.intro hlo hl)
  have HBR := hide (tcpG_rng p q u v f g h os xs 0 hf (by omega) hbo hb)
  have hZL := tcpG_len p q u v f g h os xs 0
  rw [HL.out.1, HL.out.2] at hZL
  have HZL := hide hZL
  have hdm : ((m : Int) % 4 != 0) = false := by simp; omega
  have hdm2 : decide ((40 : Int) < (m : Int)) = false := by simp; omega
  clear hro hno hlo hr hn hl hbo hb hZL
  go_enter Try.func57, Try.ntmps57
  go_wp2_with fail
  obtain ⟨B0, w0, hB, hqq, hl0, hbel, hheap⟩ : ∃ B0 wq, w.heap.size = B0 ∧ w.alloc (.cells #[.int .u16 (p : Int), .int .u16 (q : Int), .int .u32 (u : Int), .int .u32 (v : Int), .int .u8 (f : Int), .int .u16 (g : Int), .int .u16 (h : Int), .slice oa m oc, .slice da n dc] 61) = wq ∧ B0 < wq.heap.size ∧ Below w.heap.size w wq ∧
      wq.heap[B0]? = some (.cells #[.int .u16 (p : Int), .int .u16 (q : Int), .int .u32 (u : Int), .int .u32 (v : Int), .int .u8 (f : Int), .int .u16 (g : Int), .int .u16 (h : Int), .slice oa m oc, .slice da n dc] 61 (0, 0)) := ⟨_, _, rfl, rfl, by simp, (Below.refl _ _).alloc (Nat.le_refl _) _, heap_alloc_new _ _⟩
  rw [hqq, hB]
  have HB := hide hB
  have HH := hide hheap
  have k0_0 : w0.cell? ⟨B0, 0, none⟩ = some (.int .u16 (p : Int)) := by simp only [World.cell?, hheap]; rfl
  have k0_1 : w0.cell? ⟨B0, 1, none⟩ = some (.int .u16 (q : Int)) := by simp only [World.cell?, hheap]; rfl
  have k0_2 : w0.cell? ⟨B0, 2, none⟩ = some (.int .u32 (u : Int)) := by simp only [World.cell?, hheap]; rfl
  have k0_3 : w0.cell? ⟨B0, 3, none⟩ = some (.int .u32 (v : Int)) := by simp only [World.cell?, hheap]; rfl
  have k0_4 : w0.cell? ⟨B0, 4, none⟩ = some (.int .u8 (f : Int)) := by simp only [World.cell?, hheap]; rfl
  have k0_5 : w0.cell? ⟨B0, 5, none⟩ = some (.int .u16 (g : Int)) := by simp only [World.cell?, hheap]; rfl
  have k0_6 : w0.cell? ⟨B0, 6, none⟩ = some (.int .u16 (h : Int)) := by simp only [World.cell?, hheap]; rfl
  have k0_7 : w0.cell? ⟨B0, 7, none⟩ = some (.slice oa m oc) := by simp only [World.cell?, hheap]; rfl
  have k0_8 : w0.cell? ⟨B0, 8, none⟩ = some (.slice da n dc) := by simp only [World.cell?, hheap]; rfl
  have RS := hide (And.intro (HRO.out.below hbel (Nat.le_refl _)) (HR.out.below hbel (Nat.le_refl _)))
  have BW := hide hbel
  have hw_p : IntKind.u64.wrap (p : Int) = (p : Int) := wraps_u64 _ (by omega) (by omega)
  have hw_q : IntKind.u64.wrap (q : Int) = (q : Int) := wraps_u64 _ (by omega) (by omega)
  have hw_u : IntKind.u64.wrap (u : Int) = (u : Int) := wraps_u64 _ (by omega) (by omega)
  have hw_v : IntKind.u64.wrap (v : Int) = (v : Int) := wraps_u64 _ (by omega) (by omega)
  have hw_g : IntKind.u64.wrap (g : Int) = (g : Int) := wraps_u64 _ (by omega) (by omega)
  have hw_h : IntKind.u64.wrap (h : Int) = (h : Int) := wraps_u64 _ (by omega) (by omega)
  have hhd : IntKind.u8.wrap (IntKind.i64.wrap (IntKind.i64.wrap (((20 : Int) + (m : Int)).tdiv 4) * 16)) = hdB m := by
    rw [Int.tdiv_eq_ediv_of_nonneg (by omega), IntWalk.i64_in ((20 + (m : Int)) / 4) (by omega), IntWalk.i64_in _ (by omega), IntKind.wrap_u8]
    unfold hdB
    omega
  clear hqq hB hheap hbel h2
  go_cut [9] (fun bv wx => ∃ a c, bv = .slice a (20 + m + n) c ∧ Hid (wx.ownsRow w.heap.size 5 1 (.slice a (20 + m + n) c) (20 + m + n) ((tcpG p q u v f g h os xs 0).map (Value.int .u8))) ∧ Hid (Below w.heap.size w wx))
  case first =>
    go_region_held3 (fun w' => w'.cell? ⟨B0, 0, none⟩ = some (.int .u16 (p : Int)) ∧ w'.cell? ⟨B0, 1, none⟩ = some (.int .u16 (q : Int)) ∧ w'.cell? ⟨B0, 2, none⟩ = some (.int .u32 (u : Int)) ∧ w'.cell? ⟨B0, 3, none⟩ = some (.int .u32 (v : Int)) ∧ w'.cell? ⟨B0, 4, none⟩ = some (.int .u8 (f : Int)) ∧ w'.cell? ⟨B0, 5, none⟩ = some (.int .u16 (g : Int)) ∧ w'.cell? ⟨B0, 6, none⟩ = some (.int .u16 (h : Int)) ∧ w'.cell? ⟨B0, 7, none⟩ = some (.slice oa m oc) ∧ w'.cell? ⟨B0, 8, none⟩ = some (.slice da n dc)) (go_keep) (first
    | (go_at_call 74; (with_reducible refine (num2_any p _ ?_).mono ?_); omega; rintro e w1 ⟨rfl, o, b⟩; have B1 : Below w0.heap.size w0 w1 := (by first | exact b | exact below_of_drew b | exact bel_lit b | exact below_of_drew (bel_lit b) | exact bel_lit (below_of_drew b)); have k1_0 : w1.cell? ⟨B0, 0, none⟩ = some (.int .u16 (p : Int)) := (bcell B1 B0 0 hl0).trans k0_0; have k1_1 : w1.cell? ⟨B0, 1, none⟩ = some (.int .u16 (q : Int)) := (bcell B1 B0 1 hl0).trans k0_1; have k1_2 : w1.cell? ⟨B0, 2, none⟩ = some (.int .u32 (u : Int)) := (bcell B1 B0 2 hl0).trans k0_2; have k1_3 : w1.cell? ⟨B0, 3, none⟩ = some (.int .u32 (v : Int)) := (bcell B1 B0 3 hl0).trans k0_3; have k1_4 : w1.cell? ⟨B0, 4, none⟩ = some (.int .u8 (f : Int)) := (bcell B1 B0 4 hl0).trans k0_4; have k1_5 : w1.cell? ⟨B0, 5, none⟩ = some (.int .u16 (g : Int)) := (bcell B1 B0 5 hl0).trans k0_5; have k1_6 : w1.cell? ⟨B0, 6, none⟩ = some (.int .u16 (h : Int)) := (bcell B1 B0 6 hl0).trans k0_6; have k1_7 : w1.cell? ⟨B0, 7, none⟩ = some (.slice oa m oc) := (bcell B1 B0 7 hl0).trans k0_7; have k1_8 : w1.cell? ⟨B0, 8, none⟩ = some (.slice da n dc) := (bcell B1 B0 8 hl0).trans k0_8; have hl1 : B0 < w1.heap.size := Nat.lt_of_lt_of_le hl0 B1.size; have R1 := hide (Row.of_owns o); have RS := hide (rs_below RS.out B1 (Nat.le_refl _)); have BW := hide (BW.out.trans (B1.mono BW.out.size)); (first | (have RL := hide (RL.out.below B1 (Nat.le_refl _))) | (have RL := hide (lit_row b)) | (have RL := hide (lit_row_d b)) | skip); clear o b B1 k0_0 k0_1 k0_2 k0_3 k0_4 k0_5 k0_6 k0_7 k0_8)
    | (go_at_call 74; (with_reducible refine (num2_any q _ ?_).mono ?_); omega; rintro e w2 ⟨rfl, o, b⟩; have B2 : Below w1.heap.size w1 w2 := (by first | exact b | exact below_of_drew b | exact bel_lit b | exact below_of_drew (bel_lit b) | exact bel_lit (below_of_drew b)); have k2_0 : w2.cell? ⟨B0, 0, none⟩ = some (.int .u16 (p : Int)) := (bcell B2 B0 0 hl1).trans k1_0; have k2_1 : w2.cell? ⟨B0, 1, none⟩ = some (.int .u16 (q : Int)) := (bcell B2 B0 1 hl1).trans k1_1; have k2_2 : w2.cell? ⟨B0, 2, none⟩ = some (.int .u32 (u : Int)) := (bcell B2 B0 2 hl1).trans k1_2; have k2_3 : w2.cell? ⟨B0, 3, none⟩ = some (.int .u32 (v : Int)) := (bcell B2 B0 3 hl1).trans k1_3; have k2_4 : w2.cell? ⟨B0, 4, none⟩ = some (.int .u8 (f : Int)) := (bcell B2 B0 4 hl1).trans k1_4; have k2_5 : w2.cell? ⟨B0, 5, none⟩ = some (.int .u16 (g : Int)) := (bcell B2 B0 5 hl1).trans k1_5; have k2_6 : w2.cell? ⟨B0, 6, none⟩ = some (.int .u16 (h : Int)) := (bcell B2 B0 6 hl1).trans k1_6; have k2_7 : w2.cell? ⟨B0, 7, none⟩ = some (.slice oa m oc) := (bcell B2 B0 7 hl1).trans k1_7; have k2_8 : w2.cell? ⟨B0, 8, none⟩ = some (.slice da n dc) := (bcell B2 B0 8 hl1).trans k1_8; have hl2 : B0 < w2.heap.size := Nat.lt_of_lt_of_le hl1 B2.size; have R1 := hide (R1.out.below B2 (Nat.le_refl _)); have R2 := hide (Row.of_owns o); have RS := hide (rs_below RS.out B2 (Nat.le_refl _)); have BW := hide (BW.out.trans (B2.mono BW.out.size)); (first | (have RL := hide (RL.out.below B2 (Nat.le_refl _))) | (have RL := hide (lit_row b)) | (have RL := hide (lit_row_d b)) | skip); clear o b B2 k1_0 k1_1 k1_2 k1_3 k1_4 k1_5 k1_6 k1_7 k1_8)
    | (go_at_call 74; (with_reducible refine (num4_any u _ ?_).mono ?_); omega; rintro e w3 ⟨rfl, o, b⟩; have B3 : Below w2.heap.size w2 w3 := (by first | exact b | exact below_of_drew b | exact bel_lit b | exact below_of_drew (bel_lit b) | exact bel_lit (below_of_drew b)); have k3_0 : w3.cell? ⟨B0, 0, none⟩ = some (.int .u16 (p : Int)) := (bcell B3 B0 0 hl2).trans k2_0; have k3_1 : w3.cell? ⟨B0, 1, none⟩ = some (.int .u16 (q : Int)) := (bcell B3 B0 1 hl2).trans k2_1; have k3_2 : w3.cell? ⟨B0, 2, none⟩ = some (.int .u32 (u : Int)) := (bcell B3 B0 2 hl2).trans k2_2; have k3_3 : w3.cell? ⟨B0, 3, none⟩ = some (.int .u32 (v : Int)) := (bcell B3 B0 3 hl2).trans k2_3; have k3_4 : w3.cell? ⟨B0, 4, none⟩ = some (.int .u8 (f : Int)) := (bcell B3 B0 4 hl2).trans k2_4; have k3_5 : w3.cell? ⟨B0, 5, none⟩ = some (.int .u16 (g : Int)) := (bcell B3 B0 5 hl2).trans k2_5; have k3_6 : w3.cell? ⟨B0, 6, none⟩ = some (.int .u16 (h : Int)) := (bcell B3 B0 6 hl2).trans k2_6; have k3_7 : w3.cell? ⟨B0, 7, none⟩ = some (.slice oa m oc) := (bcell B3 B0 7 hl2).trans k2_7; have k3_8 : w3.cell? ⟨B0, 8, none⟩ = some (.slice da n dc) := (bcell B3 B0 8 hl2).trans k2_8; have hl3 : B0 < w3.heap.size := Nat.lt_of_lt_of_le hl2 B3.size; have R1 := hide (R1.out.below B3 (Nat.le_refl _)); have R2 := hide (R2.out.below B3 (Nat.le_refl _)); have R3 := hide (Row.of_owns o); have RS := hide (rs_below RS.out B3 (Nat.le_refl _)); have BW := hide (BW.out.trans (B3.mono BW.out.size)); (first | (have RL := hide (RL.out.below B3 (Nat.le_refl _))) | (have RL := hide (lit_row b)) | (have RL := hide (lit_row_d b)) | skip); clear o b B3 k2_0 k2_1 k2_2 k2_3 k2_4 k2_5 k2_6 k2_7 k2_8)
    | (go_at_call 74; (with_reducible refine (num4_any v _ ?_).mono ?_); omega; rintro e w4 ⟨rfl, o, b⟩; have B4 : Below w3.heap.size w3 w4 := (by first | exact b | exact below_of_drew b | exact bel_lit b | exact below_of_drew (bel_lit b) | exact bel_lit (below_of_drew b)); have k4_0 : w4.cell? ⟨B0, 0, none⟩ = some (.int .u16 (p : Int)) := (bcell B4 B0 0 hl3).trans k3_0; have k4_1 : w4.cell? ⟨B0, 1, none⟩ = some (.int .u16 (q : Int)) := (bcell B4 B0 1 hl3).trans k3_1; have k4_2 : w4.cell? ⟨B0, 2, none⟩ = some (.int .u32 (u : Int)) := (bcell B4 B0 2 hl3).trans k3_2; have k4_3 : w4.cell? ⟨B0, 3, none⟩ = some (.int .u32 (v : Int)) := (bcell B4 B0 3 hl3).trans k3_3; have k4_4 : w4.cell? ⟨B0, 4, none⟩ = some (.int .u8 (f : Int)) := (bcell B4 B0 4 hl3).trans k3_4; have k4_5 : w4.cell? ⟨B0, 5, none⟩ = some (.int .u16 (g : Int)) := (bcell B4 B0 5 hl3).trans k3_5; have k4_6 : w4.cell? ⟨B0, 6, none⟩ = some (.int .u16 (h : Int)) := (bcell B4 B0 6 hl3).trans k3_6; have k4_7 : w4.cell? ⟨B0, 7, none⟩ = some (.slice oa m oc) := (bcell B4 B0 7 hl3).trans k3_7; have k4_8 : w4.cell? ⟨B0, 8, none⟩ = some (.slice da n dc) := (bcell B4 B0 8 hl3).trans k3_8; have hl4 : B0 < w4.heap.size := Nat.lt_of_lt_of_le hl3 B4.size; have R1 := hide (R1.out.below B4 (Nat.le_refl _)); have R2 := hide (R2.out.below B4 (Nat.le_refl _)); have R3 := hide (R3.out.below B4 (Nat.le_refl _)); have R4 := hide (Row.of_owns o); have RS := hide (rs_below RS.out B4 (Nat.le_refl _)); have BW := hide (BW.out.trans (B4.mono BW.out.size)); (first | (have RL := hide (RL.out.below B4 (Nat.le_refl _))) | (have RL := hide (lit_row b)) | (have RL := hide (lit_row_d b)) | skip); clear o b B4 k3_0 k3_1 k3_2 k3_3 k3_4 k3_5 k3_6 k3_7 k3_8)
    | (go_at_call 74; (with_reducible refine (num2_any g _ ?_).mono ?_); omega; rintro e w5 ⟨rfl, o, b⟩; have B5 : Below w4.heap.size w4 w5 := (by first | exact b | exact below_of_drew b | exact bel_lit b | exact below_of_drew (bel_lit b) | exact bel_lit (below_of_drew b)); have k5_0 : w5.cell? ⟨B0, 0, none⟩ = some (.int .u16 (p : Int)) := (bcell B5 B0 0 hl4).trans k4_0; have k5_1 : w5.cell? ⟨B0, 1, none⟩ = some (.int .u16 (q : Int)) := (bcell B5 B0 1 hl4).trans k4_1; have k5_2 : w5.cell? ⟨B0, 2, none⟩ = some (.int .u32 (u : Int)) := (bcell B5 B0 2 hl4).trans k4_2; have k5_3 : w5.cell? ⟨B0, 3, none⟩ = some (.int .u32 (v : Int)) := (bcell B5 B0 3 hl4).trans k4_3; have k5_4 : w5.cell? ⟨B0, 4, none⟩ = some (.int .u8 (f : Int)) := (bcell B5 B0 4 hl4).trans k4_4; have k5_5 : w5.cell? ⟨B0, 5, none⟩ = some (.int .u16 (g : Int)) := (bcell B5 B0 5 hl4).trans k4_5; have k5_6 : w5.cell? ⟨B0, 6, none⟩ = some (.int .u16 (h : Int)) := (bcell B5 B0 6 hl4).trans k4_6; have k5_7 : w5.cell? ⟨B0, 7, none⟩ = some (.slice oa m oc) := (bcell B5 B0 7 hl4).trans k4_7; have k5_8 : w5.cell? ⟨B0, 8, none⟩ = some (.slice da n dc) := (bcell B5 B0 8 hl4).trans k4_8; have hl5 : B0 < w5.heap.size := Nat.lt_of_lt_of_le hl4 B5.size; have R1 := hide (R1.out.below B5 (Nat.le_refl _)); have R2 := hide (R2.out.below B5 (Nat.le_refl _)); have R3 := hide (R3.out.below B5 (Nat.le_refl _)); have R4 := hide (R4.out.below B5 (Nat.le_refl _)); have R5 := hide (Row.of_owns o); have RS := hide (rs_below RS.out B5 (Nat.le_refl _)); have BW := hide (BW.out.trans (B5.mono BW.out.size)); (first | (have RL := hide (RL.out.below B5 (Nat.le_refl _))) | (have RL := hide (lit_row b)) | (have RL := hide (lit_row_d b)) | skip); clear o b B5 k4_0 k4_1 k4_2 k4_3 k4_4 k4_5 k4_6 k4_7 k4_8)
    | (go_at_call 74; (with_reducible refine (num2_zero _).mono ?_); rintro e w6 ⟨rfl, o, b⟩; have B6 : Below w5.heap.size w5 w6 := (by first | exact b | exact below_of_drew b | exact bel_lit b | exact below_of_drew (bel_lit b) | exact bel_lit (below_of_drew b)); have k6_0 : w6.cell? ⟨B0, 0, none⟩ = some (.int .u16 (p : Int)) := (bcell B6 B0 0 hl5).trans k5_0; have k6_1 : w6.cell? ⟨B0, 1, none⟩ = some (.int .u16 (q : Int)) := (bcell B6 B0 1 hl5).trans k5_1; have k6_2 : w6.cell? ⟨B0, 2, none⟩ = some (.int .u32 (u : Int)) := (bcell B6 B0 2 hl5).trans k5_2; have k6_3 : w6.cell? ⟨B0, 3, none⟩ = some (.int .u32 (v : Int)) := (bcell B6 B0 3 hl5).trans k5_3; have k6_4 : w6.cell? ⟨B0, 4, none⟩ = some (.int .u8 (f : Int)) := (bcell B6 B0 4 hl5).trans k5_4; have k6_5 : w6.cell? ⟨B0, 5, none⟩ = some (.int .u16 (g : Int)) := (bcell B6 B0 5 hl5).trans k5_5; have k6_6 : w6.cell? ⟨B0, 6, none⟩ = some (.int .u16 (h : Int)) := (bcell B6 B0 6 hl5).trans k5_6; have k6_7 : w6.cell? ⟨B0, 7, none⟩ = some (.slice oa m oc) := (bcell B6 B0 7 hl5).trans k5_7; have k6_8 : w6.cell? ⟨B0, 8, none⟩ = some (.slice da n dc) := (bcell B6 B0 8 hl5).trans k5_8; have hl6 : B0 < w6.heap.size := Nat.lt_of_lt_of_le hl5 B6.size; have R1 := hide (R1.out.below B6 (Nat.le_refl _)); have R2 := hide (R2.out.below B6 (Nat.le_refl _)); have R3 := hide (R3.out.below B6 (Nat.le_refl _)); have R4 := hide (R4.out.below B6 (Nat.le_refl _)); have R5 := hide (R5.out.below B6 (Nat.le_refl _)); have R6 := hide (Row.of_owns o); have RS := hide (rs_below RS.out B6 (Nat.le_refl _)); have BW := hide (BW.out.trans (B6.mono BW.out.size)); (first | (have RL := hide (RL.out.below B6 (Nat.le_refl _))) | (have RL := hide (lit_row b)) | (have RL := hide (lit_row_d b)) | skip); clear o b B6 k5_0 k5_1 k5_2 k5_3 k5_4 k5_5 k5_6 k5_7 k5_8)
    | (go_at_call 74; (with_reducible refine (num2_any h _ ?_).mono ?_); omega; rintro e w7 ⟨rfl, o, b⟩; have B7 : Below w6.heap.size w6 w7 := (by first | exact b | exact below_of_drew b | exact bel_lit b | exact below_of_drew (bel_lit b) | exact bel_lit (below_of_drew b)); have k7_0 : w7.cell? ⟨B0, 0, none⟩ = some (.int .u16 (p : Int)) := (bcell B7 B0 0 hl6).trans k6_0; have k7_1 : w7.cell? ⟨B0, 1, none⟩ = some (.int .u16 (q : Int)) := (bcell B7 B0 1 hl6).trans k6_1; have k7_2 : w7.cell? ⟨B0, 2, none⟩ = some (.int .u32 (u : Int)) := (bcell B7 B0 2 hl6).trans k6_2; have k7_3 : w7.cell? ⟨B0, 3, none⟩ = some (.int .u32 (v : Int)) := (bcell B7 B0 3 hl6).trans k6_3; have k7_4 : w7.cell? ⟨B0, 4, none⟩ = some (.int .u8 (f : Int)) := (bcell B7 B0 4 hl6).trans k6_4; have k7_5 : w7.cell? ⟨B0, 5, none⟩ = some (.int .u16 (g : Int)) := (bcell B7 B0 5 hl6).trans k6_5; have k7_6 : w7.cell? ⟨B0, 6, none⟩ = some (.int .u16 (h : Int)) := (bcell B7 B0 6 hl6).trans k6_6; have k7_7 : w7.cell? ⟨B0, 7, none⟩ = some (.slice oa m oc) := (bcell B7 B0 7 hl6).trans k6_7; have k7_8 : w7.cell? ⟨B0, 8, none⟩ = some (.slice da n dc) := (bcell B7 B0 8 hl6).trans k6_8; have hl7 : B0 < w7.heap.size := Nat.lt_of_lt_of_le hl6 B7.size; have R1 := hide (R1.out.below B7 (Nat.le_refl _)); have R2 := hide (R2.out.below B7 (Nat.le_refl _)); have R3 := hide (R3.out.below B7 (Nat.le_refl _)); have R4 := hide (R4.out.below B7 (Nat.le_refl _)); have R5 := hide (R5.out.below B7 (Nat.le_refl _)); have R6 := hide (R6.out.below B7 (Nat.le_refl _)); have R7 := hide (Row.of_owns o); have RS := hide (rs_below RS.out B7 (Nat.le_refl _)); have BW := hide (BW.out.trans (B7.mono BW.out.size)); (first | (have RL := hide (RL.out.below B7 (Nat.le_refl _))) | (have RL := hide (lit_row b)) | (have RL := hide (lit_row_d b)) | skip); clear o b B7 k6_0 k6_1 k6_2 k6_3 k6_4 k6_5 k6_6 k6_7 k6_8)
    | (go_at_call 73; have hrows := hide (rows_some (c := 2) R1.out (rows_some (c := 2) R2.out (rows_some (c := 4) R3.out (rows_some (c := 4) R4.out (rows_some (c := 2) RL.out (rows_some (c := 2) R5.out (rows_some (c := 2) R6.out (rows_some (c := 2) R7.out (rows_cons (c := oc) RS.out.1 HN.out.1 (rows_cons (c := dc) RS.out.2 HN.out.2 (rows_nil _))))))))))); (with_reducible refine (joinL w7 _ _ 10 (20 + m + n) _ rfl rfl (by simp [Part.v, numB_len, HL.out.1, HL.out.2]) hrows.out (by simp [flat, numB_len, HL.out.1, HL.out.2]; omega) (by omega) (by omega)).mono ?_); rintro e wj ⟨aj, cj, rfl, oj, bj⟩; have OJ := hide (owns_mono oj BW.out.size); have BJ := hide bj; have kj_0 : wj.cell? ⟨B0, 0, none⟩ = some (.int .u16 (p : Int)) := (bcell BJ.out B0 0 hl7).trans k7_0; have kj_1 : wj.cell? ⟨B0, 1, none⟩ = some (.int .u16 (q : Int)) := (bcell BJ.out B0 1 hl7).trans k7_1; have kj_2 : wj.cell? ⟨B0, 2, none⟩ = some (.int .u32 (u : Int)) := (bcell BJ.out B0 2 hl7).trans k7_2; have kj_3 : wj.cell? ⟨B0, 3, none⟩ = some (.int .u32 (v : Int)) := (bcell BJ.out B0 3 hl7).trans k7_3; have kj_4 : wj.cell? ⟨B0, 4, none⟩ = some (.int .u8 (f : Int)) := (bcell BJ.out B0 4 hl7).trans k7_4; have kj_5 : wj.cell? ⟨B0, 5, none⟩ = some (.int .u16 (g : Int)) := (bcell BJ.out B0 5 hl7).trans k7_5; have kj_6 : wj.cell? ⟨B0, 6, none⟩ = some (.int .u16 (h : Int)) := (bcell BJ.out B0 6 hl7).trans k7_6; have kj_7 : wj.cell? ⟨B0, 7, none⟩ = some (.slice oa m oc) := (bcell BJ.out B0 7 hl7).trans k7_7; have kj_8 : wj.cell? ⟨B0, 8, none⟩ = some (.slice da n dc) := (bcell BJ.out B0 8 hl7).trans k7_8; clear oj bj)
    | (go_at_call 73; have BA : Below w7.heap.size w7 (w7.alloc (.cells #[.int .u8 (hdB m), .int .u8 (f : Int)] 5)) := (Below.refl _ _).alloc (Nat.le_refl _) _; have hrows := hide (rows_some (c := 2) (Row.below (R1.out) BA (Nat.le_refl _)) (rows_some (c := 2) (Row.below (R2.out) BA (Nat.le_refl _)) (rows_some (c := 4) (Row.below (R3.out) BA (Nat.le_refl _)) (rows_some (c := 4) (Row.below (R4.out) BA (Nat.le_refl _)) (rows_some (c := 2) (lit_row (Below.refl _ _)) (rows_some (c := 2) (Row.below (R5.out) BA (Nat.le_refl _)) (rows_some (c := 2) (Row.below (R6.out) BA (Nat.le_refl _)) (rows_some (c := 2) (Row.below (R7.out) BA (Nat.le_refl _)) (rows_cons (c := oc) (Row.below (RS.out.1) BA (Nat.le_refl _)) HN.out.1 (rows_cons (c := dc) (Row.below (RS.out.2) BA (Nat.le_refl _)) HN.out.2 (rows_nil _))))))))))); (with_reducible refine (joinL (w7.alloc (.cells #[.int .u8 (hdB m), .int .u8 (f : Int)] 5)) _ _ 10 (20 + m + n) _ ?_ rfl (by simp [Part.v, numB_len, HL.out.1, HL.out.2]) hrows.out (by simp [flat, numB_len, HL.out.1, HL.out.2]; omega) (by omega) (by omega)).mono ?_); (simp); rintro e wj ⟨aj, cj, rfl, oj, bj⟩; have OJ := hide (owns_mono oj (Nat.le_trans BW.out.size BA.size)); have BJ := hide (BA.trans (bj.mono BA.size)); have kj_0 : wj.cell? ⟨B0, 0, none⟩ = some (.int .u16 (p : Int)) := (bcell BJ.out B0 0 hl7).trans k7_0; have kj_1 : wj.cell? ⟨B0, 1, none⟩ = some (.int .u16 (q : Int)) := (bcell BJ.out B0 1 hl7).trans k7_1; have kj_2 : wj.cell? ⟨B0, 2, none⟩ = some (.int .u32 (u : Int)) := (bcell BJ.out B0 2 hl7).trans k7_2; have kj_3 : wj.cell? ⟨B0, 3, none⟩ = some (.int .u32 (v : Int)) := (bcell BJ.out B0 3 hl7).trans k7_3; have kj_4 : wj.cell? ⟨B0, 4, none⟩ = some (.int .u8 (f : Int)) := (bcell BJ.out B0 4 hl7).trans k7_4; have kj_5 : wj.cell? ⟨B0, 5, none⟩ = some (.int .u16 (g : Int)) := (bcell BJ.out B0 5 hl7).trans k7_5; have kj_6 : wj.cell? ⟨B0, 6, none⟩ = some (.int .u16 (h : Int)) := (bcell BJ.out B0 6 hl7).trans k7_6; have kj_7 : wj.cell? ⟨B0, 7, none⟩ = some (.slice oa m oc) := (bcell BJ.out B0 7 hl7).trans k7_7; have kj_8 : wj.cell? ⟨B0, 8, none⟩ = some (.slice da n dc) := (bcell BJ.out B0 8 hl7).trans k7_8; clear oj bj)
    | fail)
    all_goals
      have hfz : ∀ (A B C D E G H I : Option Addr), flat [(A, numB 2 p, 2), (B, numB 2 q, 2), (C, numB 4 u, 4), (D, numB 4 v, 4), (E, [hdB m, (f : Int)], 2), (G, numB 2 g, 2), (H, numB 2 0, 2), (I, numB 2 h, 2), (oa, os, oc), (da, xs, dc)] = tcpG p q u v f g h os xs 0 := fun _ _ _ _ _ _ _ _ => by simp [flat, tcpG, HL.out.1]
      have hz := OJ.out
      rw [hfz] at hz
      have OZ := hide hz
      have BZ := hide (BW.out.trans (BJ.out.mono BW.out.size))
      clear hz hfz
      try go_wp2_with fail
      go_meet
      exact ⟨aj, cj, rfl, OZ, BZ⟩
  case rest =>
    obtain ⟨a5, c5, rfl, OZ, BZ⟩ := hcut
    have hps := pseudo6_any src dst (20 + m + n) wc hs hd (by omega)
    have HPS := hide hps
    clear hps
    go_wp2_with fail
    rw [show 20 + (m : Int) + (n : Int) = ((20 + m + n : Nat) : Int) by omega]
    refine HPS.out.mono ?_
    rintro e w6 ⟨a6, c6, rfl, o6, b6⟩
    have OZ6 := hide (owns_below OZ.out b6 (Nat.le_refl _))
    have hb06 := hide (BZ.out.trans (b6.mono BZ.out.size))
    have hrow6 := hide (rows_cons (c := c6) (Row.of_owns o6) (none_cap o6) (rows_cons (c := c5) (Row.of_owns OZ6.out) (none_cap OZ6.out) (rows_nil w6)))
    clear o6 b6
    go_wp2_with fail
    have hfl : flat [(a6, psB src dst 6 (20 + m + n), c6), (a5, tcpG p q u v f g h os xs 0, c5)] = psB src dst 6 (20 + m + n) ++ tcpG p q u v f g h os xs 0 := by simp [flat]
    have hsm := sumL w6 [(a6, psB src dst 6 (20 + m + n), c6), (a5, tcpG p q u v f g h os xs 0, c5)] #[.slice a6 12 c6, .slice a5 (20 + m + n) c5] 2 _ rfl rfl (by simp [Part.v, psB_len, HZL.out]) hrow6.out (by rw [hfl, List.length_append, psB_len, HZL.out]; omega)
      (by rw [hfl]; intro x hx; rcases List.mem_append.1 hx with h | h; exact psB_rng _ _ _ _ (by omega) x h; exact HBR.out x h) (by omega)
    rw [hfl] at hsm
    have HSM := hide hsm
    clear hsm hfl
    refine HSM.out.mono ?_
    rintro e w7 ⟨rfl, b7⟩
    have OZ7 := hide (owns_below OZ6.out b7 (Nat.le_refl _))
    have hb07 := hide (hb06.out.trans (b7.mono hb06.out.size))
    clear b7
    have hcr := csum_rng (psB src dst 6 (20 + m + n) ++ tcpG p q u v f g h os xs 0)
    have hKd : tcpK src dst p q u v f g h os xs = csum (psB src dst 6 (20 + m + n) ++ tcpG p q u v f g h os xs 0) := by unfold tcpK; rw [HL.out.1, HL.out.2]
    have hKe : csum (psB src dst 6 (20 + m + n) ++ tcpG p q u v f g h os xs 0) = (((tcpK src dst p q u v f g h os xs).toNat : Nat) : Int) := by rw [hKd]; omega
    have hKle : (tcpK src dst p q u v f g h os xs).toNat ≤ 65535 := by rw [hKd]; omega
    rw [hKe]
    obtain ⟨k, HKK⟩ : ∃ k, Hid ((tcpK src dst p q u v f g h os xs).toNat = k) := ⟨_, rfl⟩
    rw [HKK.out] at hKle ⊢
    clear hKe hcr hKd
    have hlay := lay_any w.heap.size (20 + m + n) c5 16 a5 (tcpG p q u v f g h os xs 0) k w7 OZ7.out hb07.out.size (by omega) (by omega) hKle
    rw [tcp_spl] at hlay
    have HLY := hide hlay
    clear hlay
    go_wp2_with fail
    refine HLY.out.mono ?_
    rintro e w9 ⟨rfl, o9, b9⟩
    have O9 := hide o9
    have B9 := hide (hb07.out.trans b9)
    clear o9 b9
    go_wp2
    go_ret2
    exact ⟨a5, c5, rfl, by rw [HKK.out]; exact O9.out, B9.out⟩
end Go.Proofs.Ytgggcapgaikbeaa
