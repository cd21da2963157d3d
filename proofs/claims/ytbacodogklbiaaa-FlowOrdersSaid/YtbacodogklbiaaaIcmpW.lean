/- What trans.WriteICMP answers. -/
import Derived.Test.YtbacodogklbiaaaUdpW
import Derived.Deep.DeepCutAuto
namespace Go.Proofs.Ytbacodogklbiaaa
open Go.RowKit
set_option linter.unusedVariables false
set_option linter.unusedSimpArgs false
set_option maxRecDepth 100000
theorem bel_lit {V w' : World} {o : Obj} (h : Below (V.alloc o).heap.size (V.alloc o) w') : Below V.heap.size V w' := by
  have hb : Below V.heap.size V (V.alloc o) := (Below.refl _ _).alloc (Nat.le_refl _) _
  exact hb.trans (h.mono hb.size)
theorem lit_row {V w' : World} {x y : Int} (h : Below (V.alloc (.cells #[.int .u8 x, .int .u8 y] 5)).heap.size (V.alloc (.cells #[.int .u8 x, .int .u8 y] 5)) w') : Row .u8 w' (some ⟨V.heap.size, 0, none⟩) [x, y] :=
  (Row.of_owns (k := .u8) (xs := [x, y]) (base := V.heap.size) (e := 5) (n := 2) (cap := 2) (World.ownsRow_lit V #[.int .u8 x, .int .u8 y] 2 (Nat.le_refl _) (by unfold maxLen; omega) rfl)).below h (Nat.le_refl _)
theorem lit_row_d {V w' : World} {x y : Int} (h : Below (V.alloc (.cells #[.int .u8 x, .int .u8 y] 5)).drew.heap.size (V.alloc (.cells #[.int .u8 x, .int .u8 y] 5)).drew w') : Row .u8 w' (some ⟨V.heap.size, 0, none⟩) [x, y] := lit_row (below_of_drew h)

/-- A message's bytes without its check sum; the bytes. -/
def icmpG (p q r : Nat) (xs : List Int) (k : Nat) : List Int := [(p : Int), (q : Int)] ++ (numB 2 k ++ (numB 4 r ++ xs))
theorem icmpG_len (p q r : Nat) (xs : List Int) (k : Nat) : (icmpG p q r xs k).length = 8 + xs.length := by simp [icmpG, numB_len]; omega
theorem icmpG_rng (p q r : Nat) (xs : List Int) (k : Nat) (hp : p ≤ 255) (hq : q ≤ 255) (hb : ∀ x ∈ xs, 0 ≤ x ∧ x ≤ 255) : ∀ x ∈ icmpG p q r xs k, 0 ≤ x ∧ x ≤ 255 := by
  intro x hx
  simp only [icmpG, List.mem_append, List.mem_cons, List.not_mem_nil, or_false] at hx
  rcases hx with (h | h) | h | h | h
  · omega
  · omega
  · exact numB_rng _ _ x h
  · exact numB_rng _ _ x h
  · exact hb x h
def icmpK (p q r : Nat) (xs : List Int) : Int := csum (icmpG p q r xs 0)
theorem icmp_spl (p q r : Nat) (xs : List Int) (k m : Nat) : spl (icmpG p q r xs k) 2 (numB 2 m) = icmpG p q r xs m := by
  unfold spl icmpG
  rw [numB_len, List.take_left' (by rfl), List.drop_append]
  simp [numB_len, List.drop_append]
theorem wicmp_long (w : World) (p q r : Int) (da : Option Addr) (n dc : Nat) (h : 1472 < n) :
    Calls Try.prog 52 #[.agg #[.int .u8 p, .int .u8 q, .int .u32 r, .slice da n dc]] w fun e w' => e = .returned (.tuple #[.slice none 0 0, .int .i64 14]) ∧ Below w.heap.size w w' := by
  go_enter Try.func52, Try.ntmps52
  go_wp2
  go_ret2
  exact ⟨rfl, (Below.refl _ _).alloc (Nat.le_refl _) _⟩
set_option maxHeartbeats 1600000 in
theorem wicmp_ok (w : World) (p q r : Nat) (da : Option Addr) (xs : List Int) (n dc : Nat) (hr : Row .u8 w da xs) (hn : da = none → dc = 0) (hl : xs.length = n) (hb : ∀ x ∈ xs, 0 ≤ x ∧ x ≤ 255) (h1 : n ≤ 1472) (hp : p ≤ 255) (hq : q ≤ 255) (hrr : r ≤ 4294967295) :
    Calls Try.prog 52 #[.agg #[.int .u8 (p : Int), .int .u8 (q : Int), .int .u32 (r : Int), .slice da n dc]] w fun e w' => ∃ a c,
      e = .returned (.tuple #[.slice a (8 + n) c, .int .i64 0]) ∧ w'.ownsRow w.heap.size 5 1 (.slice a (8 + n) c) (8 + n) ((icmpG p q r xs (icmpK p q r xs).toNat).map (Value.int .u8)) ∧ Below w.heap.size w w' := by
  have HR := hide hr
  have HN := hide hn
  have HL := hide hl
  have HBR := hide (icmpG_rng p q r xs 0 hp hq hb)
  have hZL := icmpG_len p q r xs 0
  rw [HL.out] at hZL
  have HZL := hide hZL
  clear hr hn hl hb hZL
  go_enter Try.func52, Try.ntmps52
  go_wp2_with fail
  obtain ⟨B0, w0, hB, hqq, hl0, hbel, hheap⟩ : ∃ B0 wq, w.heap.size = B0 ∧ w.alloc (.cells #[.int .u8 (p : Int), .int .u8 (q : Int), .int .u32 (r : Int), .slice da n dc] 56) = wq ∧ B0 < wq.heap.size ∧ Below w.heap.size w wq ∧
      wq.heap[B0]? = some (.cells #[.int .u8 (p : Int), .int .u8 (q : Int), .int .u32 (r : Int), .slice da n dc] 56 (0, 0)) := ⟨_, _, rfl, rfl, by simp, (Below.refl _ _).alloc (Nat.le_refl _) _, heap_alloc_new _ _⟩
  rw [hqq, hB]
  have HB := hide hB
  have HH := hide hheap
  have k0_0 : w0.cell? ⟨B0, 0, none⟩ = some (.int .u8 (p : Int)) := by simp only [World.cell?, hheap]; rfl
  have k0_1 : w0.cell? ⟨B0, 1, none⟩ = some (.int .u8 (q : Int)) := by simp only [World.cell?, hheap]; rfl
  have k0_2 : w0.cell? ⟨B0, 2, none⟩ = some (.int .u32 (r : Int)) := by simp only [World.cell?, hheap]; rfl
  have k0_3 : w0.cell? ⟨B0, 3, none⟩ = some (.slice da n dc) := by simp only [World.cell?, hheap]; rfl
  have RS := hide (HR.out.below hbel (Nat.le_refl _))
  have BW := hide hbel
  have hw1 : IntKind.u64.wrap (r : Int) = (r : Int) := wraps_u64 _ (by omega) (by omega)
  clear hqq hB hheap hbel
  go_cut [4] (fun v wx => ∃ a c, v = .slice a (8 + n) c ∧ Hid (wx.ownsRow w.heap.size 5 1 (.slice a (8 + n) c) (8 + n) ((icmpG p q r xs 0).map (Value.int .u8))) ∧ Hid (Below w.heap.size w wx))
  case first =>
    go_region_held3 (fun w' => w'.cell? ⟨B0, 0, none⟩ = some (.int .u8 (p : Int)) ∧ w'.cell? ⟨B0, 1, none⟩ = some (.int .u8 (q : Int)) ∧ w'.cell? ⟨B0, 2, none⟩ = some (.int .u32 (r : Int)) ∧ w'.cell? ⟨B0, 3, none⟩ = some (.slice da n dc)) (go_keep) (first
    | (go_at_call 81; (with_reducible refine (num2_zero _).mono ?_); rintro e w1 ⟨rfl, o, b⟩; have B1 : Below w0.heap.size w0 w1 := (by first | exact b | exact below_of_drew b | exact bel_lit b | exact below_of_drew (bel_lit b) | exact bel_lit (below_of_drew b)); have k1_0 : w1.cell? ⟨B0, 0, none⟩ = some (.int .u8 (p : Int)) := (bcell B1 B0 0 hl0).trans k0_0; have k1_1 : w1.cell? ⟨B0, 1, none⟩ = some (.int .u8 (q : Int)) := (bcell B1 B0 1 hl0).trans k0_1; have k1_2 : w1.cell? ⟨B0, 2, none⟩ = some (.int .u32 (r : Int)) := (bcell B1 B0 2 hl0).trans k0_2; have k1_3 : w1.cell? ⟨B0, 3, none⟩ = some (.slice da n dc) := (bcell B1 B0 3 hl0).trans k0_3; have hl1 : B0 < w1.heap.size := Nat.lt_of_lt_of_le hl0 B1.size; have R1 := hide (Row.of_owns o); have RS := hide (RS.out.below B1 (Nat.le_refl _)); have BW := hide (BW.out.trans (B1.mono BW.out.size)); (first | (have RL := hide (RL.out.below B1 (Nat.le_refl _))) | (have RL := hide (lit_row b)) | (have RL := hide (lit_row_d b)) | skip); clear o b B1 k0_0 k0_1 k0_2 k0_3)
    | (go_at_call 81; (with_reducible refine (num4_any r _ ?_).mono ?_); omega; rintro e w2 ⟨rfl, o, b⟩; have B2 : Below w1.heap.size w1 w2 := (by first | exact b | exact below_of_drew b | exact bel_lit b | exact below_of_drew (bel_lit b) | exact bel_lit (below_of_drew b)); have k2_0 : w2.cell? ⟨B0, 0, none⟩ = some (.int .u8 (p : Int)) := (bcell B2 B0 0 hl1).trans k1_0; have k2_1 : w2.cell? ⟨B0, 1, none⟩ = some (.int .u8 (q : Int)) := (bcell B2 B0 1 hl1).trans k1_1; have k2_2 : w2.cell? ⟨B0, 2, none⟩ = some (.int .u32 (r : Int)) := (bcell B2 B0 2 hl1).trans k1_2; have k2_3 : w2.cell? ⟨B0, 3, none⟩ = some (.slice da n dc) := (bcell B2 B0 3 hl1).trans k1_3; have hl2 : B0 < w2.heap.size := Nat.lt_of_lt_of_le hl1 B2.size; have R1 := hide (R1.out.below B2 (Nat.le_refl _)); have R2 := hide (Row.of_owns o); have RS := hide (RS.out.below B2 (Nat.le_refl _)); have BW := hide (BW.out.trans (B2.mono BW.out.size)); (first | (have RL := hide (RL.out.below B2 (Nat.le_refl _))) | (have RL := hide (lit_row b)) | (have RL := hide (lit_row_d b)) | skip); clear o b B2 k1_0 k1_1 k1_2 k1_3)
    | (go_at_call 80; have hrows := hide (rows_some (c := 2) RL.out (rows_some (c := 2) R1.out (rows_some (c := 4) R2.out (rows_cons (c := dc) RS.out HN.out (rows_nil _))))); (with_reducible refine (joinL w2 _ _ 4 (8 + n) _ rfl rfl (by simp [Part.v, numB_len, HL.out]) hrows.out (by simp [flat, numB_len, HL.out]; omega) (by omega) (by omega)).mono ?_); rintro e wj ⟨aj, cj, rfl, oj, bj⟩; have OJ := hide (owns_mono oj BW.out.size); have BJ := hide bj; have kj_0 : wj.cell? ⟨B0, 0, none⟩ = some (.int .u8 (p : Int)) := (bcell BJ.out B0 0 hl2).trans k2_0; have kj_1 : wj.cell? ⟨B0, 1, none⟩ = some (.int .u8 (q : Int)) := (bcell BJ.out B0 1 hl2).trans k2_1; have kj_2 : wj.cell? ⟨B0, 2, none⟩ = some (.int .u32 (r : Int)) := (bcell BJ.out B0 2 hl2).trans k2_2; have kj_3 : wj.cell? ⟨B0, 3, none⟩ = some (.slice da n dc) := (bcell BJ.out B0 3 hl2).trans k2_3; clear oj bj)
    | (go_at_call 80; have BA : Below w2.heap.size w2 (w2.alloc (.cells #[.int .u8 (p : Int), .int .u8 (q : Int)] 5)) := (Below.refl _ _).alloc (Nat.le_refl _) _; have hrows := hide (rows_some (c := 2) (lit_row (Below.refl _ _)) (rows_some (c := 2) (Row.below (R1.out) BA (Nat.le_refl _)) (rows_some (c := 4) (Row.below (R2.out) BA (Nat.le_refl _)) (rows_cons (c := dc) (Row.below (RS.out) BA (Nat.le_refl _)) HN.out (rows_nil _))))); (with_reducible refine (joinL (w2.alloc (.cells #[.int .u8 (p : Int), .int .u8 (q : Int)] 5)) _ _ 4 (8 + n) _ ?_ rfl (by simp [Part.v, numB_len, HL.out]) hrows.out (by simp [flat, numB_len, HL.out]; omega) (by omega) (by omega)).mono ?_); (simp); rintro e wj ⟨aj, cj, rfl, oj, bj⟩; have OJ := hide (owns_mono oj (Nat.le_trans BW.out.size BA.size)); have BJ := hide (BA.trans (bj.mono BA.size)); have kj_0 : wj.cell? ⟨B0, 0, none⟩ = some (.int .u8 (p : Int)) := (bcell BJ.out B0 0 hl2).trans k2_0; have kj_1 : wj.cell? ⟨B0, 1, none⟩ = some (.int .u8 (q : Int)) := (bcell BJ.out B0 1 hl2).trans k2_1; have kj_2 : wj.cell? ⟨B0, 2, none⟩ = some (.int .u32 (r : Int)) := (bcell BJ.out B0 2 hl2).trans k2_2; have kj_3 : wj.cell? ⟨B0, 3, none⟩ = some (.slice da n dc) := (bcell BJ.out B0 3 hl2).trans k2_3; clear oj bj)
    | fail)
    all_goals
      have hfz : ∀ (A B C : Option Addr), flat [(A, [(p : Int), (q : Int)], 2), (B, numB 2 0, 2), (C, numB 4 r, 4), (da, xs, dc)] = icmpG p q r xs 0 := fun _ _ _ => by simp [flat, icmpG]
      have hz := OJ.out
      rw [hfz] at hz
      have OZ := hide hz
      have BZ := hide (BW.out.trans (BJ.out.mono BW.out.size))
      clear hz hfz
      try go_wp2_with fail
      go_meet
      exact ⟨aj, cj, rfl, OZ, BZ⟩
  case rest =>
    obtain ⟨a5, c5, rfl, OZ, BZ⟩ := hcut
    have hrow5 := hide (rows_cons (c := c5) (Row.of_owns OZ.out) (none_cap OZ.out) (rows_nil wc))
    go_wp2_with fail
    have hfl : flat [(a5, icmpG p q r xs 0, c5)] = icmpG p q r xs 0 := by simp [flat]
    have hsm := sumL wc [(a5, icmpG p q r xs 0, c5)] #[.slice a5 (8 + n) c5] 1 _ rfl rfl (by simp [Part.v, HZL.out]) hrow5.out (by rw [hfl, HZL.out]; omega) (by rw [hfl]; exact HBR.out) (by omega)
    rw [hfl] at hsm
    have HSM := hide hsm
    clear hsm hfl
    refine HSM.out.mono ?_
    rintro e w7 ⟨rfl, b7⟩
    have OZ7 := hide (owns_below OZ.out b7 (Nat.le_refl _))
    have hb07 := hide (BZ.out.trans (b7.mono BZ.out.size))
    clear b7
    have hcr := csum_rng (icmpG p q r xs 0)
    have hKe : csum (icmpG p q r xs 0) = (((icmpK p q r xs).toNat : Nat) : Int) := by unfold icmpK; omega
    have hKle : (icmpK p q r xs).toNat ≤ 65535 := by unfold icmpK; omega
    rw [hKe]
    obtain ⟨k, HKK⟩ : ∃ k, Hid ((icmpK p q r xs).toNat = k) := ⟨_, rfl⟩
    rw [HKK.out] at hKle ⊢
    clear hKe hcr
    have hlay := lay_any w.heap.size (8 + n) c5 2 a5 (icmpG p q r xs 0) k w7 OZ7.out hb07.out.size (by omega) (by omega) hKle
    rw [icmp_spl] at hlay
    have HLY := hide hlay
    clear hlay
    go_wp2_with fail
    refine HLY.out.mono ?_
    rintro e w9 ⟨rfl, o9, b9⟩
    have O9 := hide o9
    have B9 := hide (hb07.out.trans b9)
    clear o9 b9
    go_wp2
    go_ret2
    exact ⟨a5, c5, rfl, by rw [HKK.out]; exact O9.out, B9.out⟩
end Go.Proofs.Ytbacodogklbiaaa
