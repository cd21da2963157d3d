/- What trans.WriteICMP answers. -/
import Derived.Test.YtgggcapgaikbeaaPk02
import Derived.Deep.DeepCutAuto
import Derived.Test.YtgggcapgaikbeaaPk01
import Derived.Deep.RegionHeld3
namespace Go.Proofs.Ytgggcapgaikbeaa
open Go.RowKit
set_option linter.unusedVariables false
set_option linter.unusedSimpArgs false
set_option maxRecDepth 100000
theorem bel_lit {V w' : World} {o : Obj} (h : Below (V.alloc o).heap.size (V.alloc o) w') : Below V.heap.size V w' := by
  have hb : Below V.heap.size V (V.alloc o) := (Below.refl _ _).alloc (Nat.le_refl _) _
  exact hb.trans (h.mono hb.size)
theorem lit_row {V w' : World} {x y : Int} (h : Below (V.alloc (.cells #[.int .u8 x, .int .u8 y] 5)).heap.size (V.alloc (.cells #[.int .u8 x, .int .u8 y] 5)) w') : Row .u8 w' (some ⟨V.heap.size, 0, none⟩) [x, y] :=
  (Row.of_owns (k := .u8) (xs := [x, y]) (base := V.heap.size) (e := 5) (n := 2) (cap := 2) (World.ownsRow_lit V #[.int .u8 x, .int .u8 y] 2 (Nat.le_refl _) (by unfold maxLen; omega) rfl)).below h (Nat.le_refl _)
theorem lit_row_d {V w' : World} {x y : Int} (h : Below (V.alloc (.cells #[.int .u8 x, .int .u8 y] 5)).drew.heap.size (V.alloc (.cells #[.int .u8 x, .int .u8 y] 5)).drew w') : Row .u8 w' (some ⟨V.heap.size, 0, none⟩) [x, y] := lit_row (below_of_drew h)

/-- A message's bytes without its check sum; the bytes. -/
def icmpG (p q r : Nat) (xs : List Int) (k : Nat) : List Int := [(p : Int), (q : Int)] ++ (numB 2 k ++ (numB 4 r ++ xs))
theorem icmpG_len (p q r : Nat) (xs : List Int) (k : Nat) : (icmpG p q r xs k).length = 8 + xs.length := by simp [icmpG, numB_len]; omega
theorem icmpG_rng (p q r : Nat) (xs : List Int) (k : Nat) (hp : p ≤ 255) (hq : q ≤ 255) (hb : ∀ x ∈ xs, 0 ≤ x ∧ x ≤ 255) : ∀ x ∈ icmpG p q r xs k, 0 ≤ x ∧ x ≤ 255 := by
  intro x hx
  simp only [icmpG, List.mem_append, List.mem_cons, List.not_mem_nil, or_false] at hx
  rcases hx with (h | h) | h | h | h
  · omega
  · omega
  · exact numB_rng _ _ x h
  · exact numB_rng _ _ x h
  · exact hb x h
def icmpK (p q r : Nat) (xs : List Int) : Int := csum (icmpG p q r xs 0)
theorem icmp_spl (p q r : Nat) (xs : List Int) (k m : Nat) : spl (icmpG p q r xs k) 2 (numB 2 m) = icmpG p q r xs m := by
  unfold spl icmpG
  rw [numB_len, List.take_left' (by rfl), List.drop_append]
  simp [numB_len, List.drop_append]
theorem wicmp_long (w : World) (p q r : Int) (da : Option Addr) (n dc : Nat) (h : 1472 < n) :
    Calls Try.prog 59 #[.agg #[.int .u8 p, .int .u8 q, .int .u32 r, .slice da n dc]] w fun e w' => e = .returned (.tuple #[.slice none 0 0, .int .i64 14]) ∧ Below w.heap.size w w' := by
  go_enter Try.func59, Try.ntmps59
  go_wp2
  go_ret2
  exact ⟨rfl, (Below.refl _ _).alloc (Nat.le_refl _) _⟩
set_option maxHeartbeats 1600000 in
theorem wicmp_ok (w : World) (p q r : Nat) (da : Option Addr) (xs : List Int) (n dc : Nat) (hr : Row .u8 w da xs) (hn : da = none → dc = 0) (hl : xs.length = n) (hb : ∀ x ∈ xs, 0 ≤ x ∧ x ≤ 255) (h1 : n ≤ 1472) (hp : p ≤ 255) (hq : q ≤ 255) (hrr : r ≤ 4294967295) :
    Calls Try.prog 59 #[.agg #[.int .u8 (p : Int), .int .u8 (q : Int), .int .u32 (r : Int), .slice da n dc]] w fun e w' => ∃ a c,
      e = .returned (.tuple #[.slice a (8 + n) c, .int .i64 0]) ∧ w'.ownsRow w.heap.size 5 1 (.slice a (8 + n) c) (8 + n) ((icmpG p q r xs (icmpK p q r xs).toNat).map (Value.int .u8)) ∧ Below w.heap.size w w' := by
  have HR := hide hr
  have HN := hide hn
  have HL := hide hl
  have HBR := hide (icmpG_rng p q r xs 0 hp hq hb)
  have hZL := icmpG_len p q r xs 0
  rw [HL.out] at hZL
  have HZL := hide hZL
  clear hr hn hl hb hZL
  go_enter Try.func59, Try.ntmps59
  go_wp2_with fail
  obtain ⟨B0, w0, hB, hqq, hl0, hbel, hheap⟩ : ∃ B0 wq, w.heap.size = B0 ∧ w.alloc (.cells #[.int .u8 (p : Int), .int .u8 (q : Int), .int .u32 (r : Int), .slice da n dc] 55) = wq ∧ B0 < wq.heap.size ∧ Below w.heap.size w wq ∧
      wq.heap[B0]? = some (.cells #[.int .u8 (p : Int), .int .u8 (q : Int), .int .u32 (r : Int), .slice da n dc] 55 (0, 0)) := ⟨_, _, rfl, rfl, by simp, (Below.refl _ _).alloc (Nat.le_refl _) _, heap_alloc_new _ _⟩
  rw [hqq, hB]
  have HB := hide hB
  have HH := hide hheap
  have k0_0 : w0.cell? ⟨B0, 0, none⟩ = some (.int .u8 (p : Int)) := by simp only [World.cell?, hheap]; rfl
  have k0_1 : w0.cell? ⟨B0, 1, none⟩ = some (.int .u8 (q : Int)) := by simp only [World.cell?, hheap]; rfl
  have k0_2 : w0.cell? ⟨B0, 2, none⟩ = some (.int .u32 (r : Int)) := by simp only [World.cell?, hheap]; rfl
  have k0_3 : w0.cell? ⟨B0, 3, none⟩ = some (.slice da n dc) := by simp only [World.cell?, hheap]; rfl
  have RS := hide (HR.out.below hbel (Nat.le_refl _))
  have BW := hide hbel
  have hw1 : IntKind.u64.wrap (r : Int) = (r : Int) := wraps_u64 _ (by omega) (by omega)
  clear hqq hB hheap hbel
  go_cut [4] (fun v wx => ∃ a c, v = .slice a (8 + n) c ∧ Hid (wx.ownsRow w.heap.size 5 1 (.slice a (8 + n) c) (8 + n) ((icmpG p q r xs 0).map (Value.int .u8))) ∧ Hid (Below w.heap.size w wx))
  case first =>
    go_region_held3 (fun w' => w'.cell? ⟨B0, 0, none⟩ = some (.int .u8 (p : Int)) ∧ w'.cell? ⟨B0, 1, none⟩ = some (.int .u8 (q : Int)) ∧ w'.cell? ⟨B0, 2, none⟩ = some (.int .u32 (r : Int)) ∧ w'.cell? ⟨B0, 3, none⟩ = some (.slice da n dc)) (go_keep) (first
    | (go_at_call 74; (with_reducible refine (num2_zero _).mono ?_); rintro e w1 ⟨rfl, o, b⟩; have B1 : Below w0.heap.size w0 w1 := (by first | exact b | exact below_of_drew b | exact bel_lit b | exact below_of_drew (bel_lit b) | exact bel_lit (below_of_drew b)); have k1_0 : w1.cell? ⟨B0, 0, none⟩ = some (.int .u8 (p : Int)) := (bcell B1 B0 0 hl0).trans k0_0; have k1_1 : w1.cell? ⟨B0, 1, none⟩ = some (.int .u8 (q : Int)) := (bcell B1 B0 1 hl0).trans k0_1; have k1_2 : w1.cell? ⟨B0, 2, none⟩ = some (.int .u32 (r : Int)) := (bcell B1 B0 2 hl0).trans k0_2; have k1_3 : w1.cell? ⟨B0, 3, none⟩ = some (.slice da n dc) := (bcell B1 B0 3 hl0).trans k0_3; have hl1 : B0 < w1.heap.size := Nat.lt_of_lt_of_le hl0 B1.size; have R1 := hide (Row.of_owns o); have RS := hide (RS.out.below B1 (Nat.le_refl _)); have BW := hide (BW.out.trans (B1.mono BW.out.size)); (first | (have RL := hide (RL.out.below B1 (Nat.le_refl _))) | (have RL := hide (lit_row b)) | (have RL := hide (lit_row_d b)) | skip); clear o b B1 k0_0 k0_1 k0_2 k0_3)
    | (go_at_call 74; (with_reducible refine (num4_any r _ ?_).mono ?_); omega; rintro e w2 ⟨rfl, o, b⟩; have B2 : Below w1.heap.size w1 w2 := (by first | exact b | exact below_of_drew b | exact bel_lit b | exact below_of_drew (bel_lit b) | exact bel_lit (below_of_drew b)); have k2_0 : w2.cell? ⟨B0, 0, none⟩ = some (.int .u8 (p : Int)) := (bcell B2 B0 0 hl1).trans k1_0; have k2_1 : w2.cell? ⟨B0, 1, none⟩ = some (.int .u8 (q : Int)) := (bcell B2 B0 1 hl1).trans k1_1; have k2_2 : w2.cell? ⟨B0, 2, none⟩ = some (.int .u32 (r : Int)) := (bcell B2 B0 2 hl1).trans k1_2; have k2_3 : w2.cell? ⟨B0, 3, none⟩ = some (.slice da n dc) := (bcell B2 B0 3 hl1).trans k1_3; have hl2 : B0 < w2.heap.size := Nat.lt_of_lt_of_le hl1 B2.size; have R1 := hide (R1.out.below B2 (Nat.le_refl _)); have R2 := hide (Row.of_owns o); have RS := hide (RS.out.below B2 (Nat.le_refl _)); have BW := hide (BW.out.trans (B2.mono BW.out.size)); (first | (have RL := hide (RL.out.below B2 (Nat.le_refl _))) | (have RL := hide (lit_row b)) | (have RL := hide (lit_row_d b)) | skip); clear o b B2 k1_0 k1_1 k1_2 k1_3)
    | (go_at_call 73; have hrows := hide (rows_some (c := 2) RL.out (rows_some (c := 2) R1.out (rows_some (c := 4) R2.out (rows_cons (c := dc) RS.out HN.out (rows_nil _))))); (with_reducible refine (joinL w2 _ _ 4 (8 + n) _ rfl rfl (by simp [Part.v, numB_len, HL.out]) hrows.out (by simp [flat, numB_len, HL.out]; omega) (by omega) (by omega)).mono ?_); rintro e wj ⟨aj, cj, rfl, oj, bj⟩; have OJ := hide (owns_mono oj BW.out.size); have BJ := hide bj; have kj_0 : wj.cell? ⟨B0, 0, none⟩ = some (.int .u8 (p : Int)) := (bcell BJ.out B0 0 hl2).trans k2_0; have kj_1 : wj.cell? ⟨B0, 1, none⟩ = some (.int .u8 (q : Int)) := (bcell BJ.out B0 1 hl2).trans k2_1; have kj_2 : wj.cell? ⟨B0, 2, none⟩ = some (.int .u32 (r : Int)) := (bcell BJ.out B0 2 hl2).trans k2_2; have kj_3 : wj.cell? ⟨B0, 3, none⟩ = some (.slice da n dc) := (bcell BJ.out B0 3 hl2).trans k2_3; clear oj bj)
    | (go_at_call 73; have BA : Below w2.heap.size w2 (w2.alloc (.cells #[.int .u8 (p : Int), .int .u8 (q : Int)] 5)) := (Below.refl _ _).alloc (Nat.le_refl _) _; have hrows := hide (rows_some (c := 2) (lit_row (Below.refl _ _)) (rows_some (c := 2) (Row.below (R1.out) BA (Nat.le_refl _)) (rows_some (c := 4) (Row.below (R2.out) BA (Nat.le_refl _)) (rows_cons (c := dc) (Row.below (RS.out) BA (Nat.le_refl _)) HN.out (rows_nil _))))); (with_reducible refine (joinL (w2.alloc (.cells #[.int .u8 (p : Int), .int .u8 (q : Int)] 5)) _ _ 4 (8 + n) _ ?_ rfl (by simp [Part.v, numB_len, HL.out]) hrows.out (by simp [flat, numB_len, HL.out]; omega) (by omega) (by omega)).mono ?_); (simp); rintro e wj ⟨aj, cj, rfl, oj, bj⟩; have OJ := hide (owns_mono oj (Nat.le_trans BW.out.size BA.size)); have BJ := hide (BA.trans (bj.mono BA.size)); have kj_0 : wj.cell? ⟨B0, 0, none⟩ = some (.int .u8 (p : Int)) := (bcell BJ.out B0 0 hl2).trans k2_0; have kj_1 : wj.cell? ⟨B0, 1, none⟩ = some (.int .u8 (q : Int)) := (bcell BJ.out B0 1 hl2).trans k2_1; have kj_2 : wj.cell? ⟨B0, 2, none⟩ = some (.int .u32 (r : Int)) := (bcell BJ.out B0 2 hl2).trans k2_2; have kj_3 : wj.cell? ⟨B0, 3, none⟩ = some (.slice da n dc) := (bcell BJ.out B0 3 hl2).trans k2_3; clear oj bj)
    | fail)
    all_goals
      have hfz : ∀ (A B C : Option Addr), flat [(A, [(p : Int), (q : Int)], 2), (B, numB 2 0, 2), (C, numB 4 r, 4), (da, xs, dc)] = icmpG p q r xs 0 := fun _ _ _ => by simp [flat, icmpG]
      have hz := OJ.out
      rw [hfz] at hz
      have OZ := hide hz
      have BZ := hide (BW.out.trans (BJ.out.mono BW.out.size))
      clear hz hfz
      try go_wp2_with fail
      go_meet
      exact ⟨aj, cj, rfl, OZ, BZ⟩
  case rest =>
    obtain ⟨a5, c5, rfl, OZ, BZ⟩ := hcut
    have hrow5 := hide (rows_cons (c := c5) (Row.of_owns OZ.out) (none_cap OZ.out) (rows_nil wc))
    go_wp2_with fail
    have hfl : flat [(a5, icmpG p q r xs 0, c5)] = icmpG p q r xs 0 := by simp [flat]
    have hsm := sumL wc [(a5, icmpG p q r xs 0, c5)] #[.slice a5 (8 + n) c5] 1 _ rfl rfl (by simp [Part.v, HZL.out]) hrow5.out (by rw [hfl, HZL.out]; omega) (by rw [hfl]; exact HBR.out) (by omega)
    rw [hfl] at hsm
    have HSM := hide hsm
    clear hsm hfl
    refine HSM.out.mono ?_
    rintro e w7 ⟨rfl, b7⟩
    have OZ7 := hide (owns_below OZ.out b7 (Nat.le_refl _))
    have hb07 := hide (BZ.out.trans (b7.mono BZ.out.size))
    clear b7
    have hcr := csum_rng (icmpG p q r xs 0)
    have hKe : csum (icmpG p q r xs 0) = (((icmpK p q r xs).toNat : Nat) : Int) := by unfold icmpK; omega
    have hKle : (icmpK p q r xs).toNat ≤ 65535 := by unfold icmpK; omega
    rw [hKe]
    obtain ⟨k, HKK⟩ : ∃ k, Hid ((icmpK p q r xs).toNat = k) := ⟨_, rfl⟩
    rw [HKK.out] at hKle ⊢
    clear hKe hcr
    have hlay := lay_any w.heap.size (8 + n) c5 2 a5 (icmpG p q r xs 0) k w7 OZ7.out hb07.out.size (by omega) (by omega) hKle
    rw [icmp_spl] at hlay
    have HLY := hide hlay
    clear hlay
    go_wp2_with fail
    refine HLY.out.mono ?_
    rintro e w9 ⟨rfl, o9, b9⟩
    have O9 := hide o9
    have B9 := hide (hb07.out.trans b9)
    clear o9 b9
    go_wp2
    go_ret2
    exact ⟨a5, c5, rfl, by rw [HKK.out]; exact O9.out, B9.out⟩
end Go.Proofs.Ytgggcapgaikbeaa

/- What an Eye's Bytes answers. -/
namespace Go.Proofs.Ytgggcapgaikbeaa
open Go.RowKit
set_option linter.unusedVariables false
set_option linter.unusedSimpArgs false
theorem grownBy_below {w w' : World} {E B : Nat} (h : w.grownBy w' (some E)) (hE : B ≤ E) (hB : B ≤ w.heap.size) : Below B w w' := (Below.refl B w).grown h hB (fun k e => by cases e; exact hE)

theorem gb_drewN (w : World) (n : Nat) (r : Option Nat) : w.grownBy (w.drewN n) r := ⟨rfl, rfl, rfl, Nat.le_refl _, fun _ _ _ => rfl⟩
/-- 'Bytes' of an Eye: a copy in new memory. -/
theorem eyeBytes_any (E B : Nat) (rest : List Int) (bad : Bool) (s : Int) (w : World) (h : EyeAt w E B rest bad) (hl : rest.length ≤ 1099511627776) (hs : -9223372036854775808 ≤ s ∧ s ≤ 9223372036854775807) :
    Calls Try.prog 71 #[.pointer (some ⟨E, 0, none⟩), .int .i64 s] w fun e w' => ∃ w1 a c, e = .returned (.slice a (if s.toNat ≤ rest.length then s.toNat else 0) c) ∧
      w'.ownsRow w1.heap.size 5 1 (.slice a (if s.toNat ≤ rest.length then s.toNat else 0) c) (if s.toNat ≤ rest.length then s.toNat else 0) ((if s.toNat ≤ rest.length then rest.take s.toNat else []).map (Value.int .u8)) ∧
      EyeAt w1 E B (if s.toNat ≤ rest.length then rest.drop s.toNat else []) (bad || decide (rest.length < s.toNat)) ∧ w.grownBy w1 (some E) ∧ Below w1.heap.size w1 w' := by
  have ht := take_any E B rest bad s.toNat w h (by omega) hl
  have hxl : (if s.toNat ≤ rest.length then rest.take s.toNat else []).length = (if s.toNat ≤ rest.length then s.toNat else 0) := by
    split
    · rw [List.length_take]; omega
    · rfl
  have hm : (if s.toNat ≤ rest.length then s.toNat else 0) ≤ 1099511627776 := by split <;> omega
  generalize (if s.toNat ≤ rest.length then rest.take s.toNat else []) = xs at *
  generalize (if s.toNat ≤ rest.length then s.toNat else 0) = m at *
  generalize (if s.toNat ≤ rest.length then rest.drop s.toNat else []) = rest' at *
  generalize (bad || decide (rest.length < s.toNat)) = bad' at *
  obtain ⟨k, hk⟩ : ∃ k : Nat, s.toNat = k := ⟨_, rfl⟩
  rw [hk] at ht
  have HT := hide ht
  have HXL := hide hxl
  have hcl : ∀ (W : World) (a : Option Addr) (c : Nat), Row .u8 W a xs → Calls Try.prog 92 #[.slice a m c] W fun e w' => ∃ a' cap', e = .returned (.slice a' m cap') ∧ w'.ownsRow W.heap.size 5 1 (.slice a' m cap') m (xs.map (Value.int .u8)) ∧ Below W.heap.size W w' := fun W a c hr => by
    have := clone_any a xs c W hr (by rw [hxl]; omega)
    rw [hxl] at this; exact this
  have HCL := hide hcl
  clear ht hxl hcl h
  have fin : ∀ (e : Ending) (w' : World), (∃ w1 a c, e = .returned (.slice a m c) ∧ w'.ownsRow w1.heap.size 5 1 (.slice a m c) m (xs.map (Value.int .u8)) ∧ EyeAt w1 E B rest' bad' ∧ w.grownBy w1 (some E) ∧ Below w1.heap.size w1 w') →
      ∃ w1 a c, e = .returned (.slice a m c) ∧ w'.ownsRow w1.heap.size 5 1 (.slice a m c) m (xs.map (Value.int .u8)) ∧ EyeAt w1 E B rest' bad' ∧ w.grownBy w1 (some E) ∧ Below w1.heap.size w1 w' := by
    rintro e w' ⟨w1, a, c, h1, h2, h3, h4, h5⟩
    exact ⟨w1, a, c, h1, h2, h3, h4, h5⟩
  by_cases hneg : s < 0
  · have hk0 : k = 0 := by omega
    rw [hk0] at HT
    clear hk0 hk
    go_enter Try.func71, Try.ntmps71
    go_wp2_with fail
    refine HT.out.mono ?_
    rintro e w1 ⟨a1, c1, rfl, hr, heye, hg⟩
    go_wp2_with fail
    refine (HCL.out w1 a1 c1 hr).mono ?_
    rintro e w2 ⟨a2, c2, rfl, hown, hbel⟩
    go_wp2
    go_ret
    exact fin _ _ ⟨w1, a2, c2, rfl, hown, heye, hg, hbel⟩
  · have hsk : s = (k : Int) := by omega
    clear hk
    subst hsk
    go_enter Try.func71, Try.ntmps71
    go_wp2_with fail
    refine HT.out.mono ?_
    rintro e w1 ⟨a1, c1, rfl, hr, heye, hg⟩
    go_wp2_with fail
    refine (HCL.out w1 a1 c1 hr).mono ?_
    rintro e w2 ⟨a2, c2, rfl, hown, hbel⟩
    go_wp2
    go_ret
    exact fin _ _ ⟨w1, a2, c2, rfl, hown, heye, hg, hbel⟩

end Go.Proofs.Ytgggcapgaikbeaa

/- The document's Size and Num. -/
namespace Go.Proofs.Ytgggcapgaikbeaa
open Go.RowKit
set_option linter.unusedVariables false
set_option linter.unusedSimpArgs false
theorem refSize_any (n : Int) (w : World) :
    Calls Try.prog 77 #[.int .i64 n] w fun e w' => e = .returned (.int .i64 (sz n : Nat)) ∧ w = w' := by
  by_cases h : n < 0
  · have e : sz n = 0 := by unfold sz; omega
    rw [e]; clear e
    go_enter Try.func77, Try.ntmps77
    go_wp2
    go_ret
    exact ⟨rfl, rfl⟩
  · by_cases h8 : 8 < n
    · have e : sz n = 8 := by unfold sz; omega
      rw [e]; clear e
      go_enter Try.func77, Try.ntmps77
      go_wp2
      go_ret
      exact ⟨rfl, rfl⟩
    · have e : ((sz n : Nat) : Int) = n := by unfold sz; omega
      rw [e]; clear e
      go_enter Try.func77, Try.ntmps77
      go_wp2
      go_ret
      exact ⟨rfl, rfl⟩

/-- The last k bytes of n. -/
theorem numB_succ (k n : Nat) : numB (k + 1) n = byteAt n k :: numB k n := by
  unfold numB
  rw [List.range_succ_eq_map]
  simp
  intro i hi
  congr 1; omega

set_option maxHeartbeats 800000 in
theorem refNum_own (s : Int) (n : Nat) (w : World) (hn : n < 18446744073709551616) :
    Calls Try.prog 48 #[.int .i64 s, .int .u64 n] w fun e w' => ∃ g c, e = .returned (.slice (some ⟨g, 0, none⟩) (sz s) c) ∧ w'.ownsRow w.heap.size 5 1 (.slice (some ⟨g, 0, none⟩) (sz s) c) (sz s) ((numB (sz s) n).map (Value.int .u8)) ∧ Below w.heap.size w w' := by
  obtain ⟨i0, hi, hz0, hz1, hz2⟩ := info_parts Try.info5
  have hs8 := sz_le s
  have hsz : ∀ w, Calls Try.prog 77 #[.int .i64 s] w fun e w' => e = .returned (.int .i64 (sz s : Nat)) ∧ w = w' := fun w => refSize_any s w
  generalize sz s = L at *
  have HS := hide hsz
  clear hsz
  have hown0 : (w.alloc (.cells #[] 5)).ownsRow w.heap.size 5 1 (.slice (some ⟨w.heap.size, 0, none⟩) 0 0) 0 [] := World.ownsRow_lit w #[] 0 (Nat.le_refl _) (by unfold maxLen; omega) rfl
  go_enter Try.func48, Try.ntmps48
  go_wp2
  go_loopw [5, 6, 7] (fun v x i wr => ∃ k : Nat, ∃ g c', k ≤ L ∧ i = .int .i64 k ∧ x = .int .u64 ((n / 256 ^ k : Nat) : Int) ∧ v = .slice (some ⟨g, 0, none⟩) k c' ∧
      wr.ownsRow w.heap.size 5 1 (.slice (some ⟨g, 0, none⟩) k c') k ((numB k n).map (Value.int .u8)) ∧ Below w.heap.size w wr)
    (fun _ _ i _ => L - (intOf i).toNat)
  case atStart => exact ⟨0, _, _, Nat.zero_le _, rfl, by simp, rfl, hown0, (Below.refl _ _).alloc (Nat.le_refl _) _⟩
  case round =>
    clear hown0
    obtain ⟨k, g, c', hk, rfl, rfl, rfl, hown, hbel⟩ := hrel
    by_cases hlt : k < L
    · have HO := hide hown
      have hcl := (hown.alloc (.cells #[.int .u8 (byteAt n k)] 5)).cells (g := g) rfl
      have HC := hide hcl
      clear hown hcl
      have hq : n / 256 ^ k ≤ 18446744073709551615 := Nat.le_trans (Nat.div_le_self _ _) (by omega)
      have hby : ((n / 256 ^ k : Nat) : Int) % 256 = byteAt n k := by unfold byteAt; simp
      have hdv : ((n / 256 ^ k : Nat) : Int) / 256 = ((n / 256 ^ (k + 1) : Nat) : Int) := by rw [← div_step]; simp
      have hbr := byteAt_rng n k
      have HBY := hide hby
      have HDV := hide hdv
      clear hby hdv
      generalize n / 256 ^ k = q at *
      go_wp2_with fail
      refine (HS.out _).mono ?_
      rintro e w1 ⟨rfl, rfl⟩
      have hown1 := World.ownsRow_lit (base := w.heap.size) (e := 5) (size := 1) wr #[.int .u8 (byteAt n k)] 1 hbel.size (by unfold maxLen; omega) rfl
      have H1 := hide hown1
      clear hown1
      rw [← HBY.out] at H1 HC
      go_wp2_with (at_builtin; refine wpList_append_own _ rfl _ _ 25 rfl w.heap.size 5 i0 (.int .u8 0) 1 1 Try.underlying25 hi hz0 hz1 hz2 rfl (by decide) _ _ _ rfl H1.out ⟨g, 0, none⟩ k c' ((numB k n).map (Value.int .u8)) rfl (by simp [numB_len]) HC.out (ints_one _ _) (by unfold maxLen; omega) (by omega) (by have := hbel.size; simp; omega) ?_)
      intro v' w2 hown2 hgrow hnn
      have hv' : v' ≠ .slice none 0 0 := hnn
      obtain ⟨g2, c2, rfl⟩ : ∃ g2 c2, v' = .slice (some ⟨g2, 0, none⟩) (k + 1) c2 := by
        rcases hown2.2 with ⟨h, _⟩ | ⟨g, c, cur, h, _⟩
        · exact absurd h hv'
        · exact ⟨g, c, by rw [h, Nat.add_comm]⟩
      have hbel2 : Below w.heap.size w w2 := (hbel.alloc hbel.size _).grown hgrow (by have := hbel.size; simp; omega) (fun j e => by simp [Value.ownBlock] at e; have := hbel.size; omega)
      have hown3 : w2.ownsRow w.heap.size 5 1 (.slice (some ⟨g2, 0, none⟩) (k + 1) c2) (k + 1) ((numB (k + 1) n).map (Value.int .u8)) := by
        rw [numB_succ, List.map_cons, ← HBY.out]
        rw [Nat.add_comm 1 k] at hown2
        exact hown2
      have O3 := hide hown3
      have B2 := hide hbel2
      clear hown2 hown3 hbel2 hgrow hnn hv'
      go_wp2
      go_roundw
      case rel => exact ⟨k + 1, g2, c2, by omega, by go_num, by rw [HDV.out], rfl, O3.out, B2.out⟩
      case measure => simp [intOf]; omega
    · obtain rfl : k = L := by omega
      go_wp2_with fail
      refine (HS.out _).mono ?_
      rintro e w1 ⟨rfl, rfl⟩
      go_wp2
      go_ret
      exact ⟨_, _, rfl, hown, hbel⟩
theorem refNum_full (s : Int) (n : Nat) (w : World) (hn : n < 18446744073709551616) :
    Calls Try.prog 48 #[.int .i64 s, .int .u64 n] w fun e w' => ∃ a c, e = .returned (.slice a (sz s) c) ∧ Row .u8 w' a (numB (sz s) n) ∧ Below w.heap.size w w' ∧ (a = none → c = 0) :=
  (refNum_own s n w hn).mono fun _ _ ⟨g, c, h1, h2, h3⟩ => ⟨some ⟨g, 0, none⟩, c, h1, Row.of_owns h2, h3, fun h => by cases h⟩
theorem refNum_any (s : Int) (n : Nat) (w : World) (hn : n < 18446744073709551616) :
    Calls Try.prog 48 #[.int .i64 s, .int .u64 n] w fun e w' => ∃ a c, e = .returned (.slice a (sz s) c) ∧ Row .u8 w' a (numB (sz s) n) ∧ Below w.heap.size w w' :=
  (refNum_full s n w hn).mono fun _ _ ⟨a, c, h1, h2, h3, _⟩ => ⟨a, c, h1, h2, h3⟩
end Go.Proofs.Ytgggcapgaikbeaa

/- The document's Eye: Bytes and Num, at every size. -/
namespace Go.Proofs.Ytgggcapgaikbeaa
open Go.RowKit
set_option linter.unusedVariables false
set_option linter.unusedSimpArgs false
set_option maxRecDepth 100000
/-- The document's Eye at block E: all bytes, the next one's place, whether too much was read. -/
def REye (w : World) (E : Nat) (a : Option Addr) (n cap I : Nat) (bad : Bool) : Prop := w.heap[E]? = some (.cells #[.slice a n cap, .int .i64 (I : Int), .bool bad] 93 (0, 0))
theorem tri_cell0 {w : World} {b : Nat} {u v x : Value} {t : TypeId} (h : w.heap[b]? = some (.cells #[u, v, x] t (0, 0))) : w.cell? ⟨b, 0, none⟩ = some u := by simp [World.cell?, h]
theorem tri_cell1 {w : World} {b : Nat} {u v x : Value} {t : TypeId} (h : w.heap[b]? = some (.cells #[u, v, x] t (0, 0))) : w.cell? ⟨b, 1, none⟩ = some v := by simp [World.cell?, h]
theorem tri_cell2 {w : World} {b : Nat} {u v x : Value} {t : TypeId} (h : w.heap[b]? = some (.cells #[u, v, x] t (0, 0))) : w.cell? ⟨b, 2, none⟩ = some x := by simp [World.cell?, h]
theorem tri_free {w : World} {b : Nat} {u v x : Value} {t : TypeId} (h : w.heap[b]? = some (.cells #[u, v, x] t (0, 0))) (i : Nat) : w.frozen? ⟨b, i, none⟩ = false := by simp [World.frozen?, h]
theorem tri_set1 {w : World} {b : Nat} {u v x y : Value} {t : TypeId} (h : w.heap[b]? = some (.cells #[u, v, x] t (0, 0))) : (w.setCell ⟨b, 1, none⟩ y).heap[b]? = some (.cells #[u, y, x] t (0, 0)) := by
  have hlt := lt_of_block h
  have h' : w.heap[b] = .cells #[u, v, x] t (0, 0) := by simpa [Array.getElem?_eq_getElem hlt] using h
  show (w.heap.modify b _)[b]? = _
  rw [Array.getElem?_eq_getElem (by simpa using hlt), Array.getElem_modify_self, h']
  rfl
theorem tri_set2 {w : World} {b : Nat} {u v x y : Value} {t : TypeId} (h : w.heap[b]? = some (.cells #[u, v, x] t (0, 0))) : (w.setCell ⟨b, 2, none⟩ y).heap[b]? = some (.cells #[u, v, y] t (0, 0)) := by
  have hlt := lt_of_block h
  have h' : w.heap[b] = .cells #[u, v, x] t (0, 0) := by simpa [Array.getElem?_eq_getElem hlt] using h
  show (w.heap.modify b _)[b]? = _
  rw [Array.getElem?_eq_getElem (by simpa using hlt), Array.getElem_modify_self, h']
  rfl

set_option maxHeartbeats 1000000 in
theorem refBytes_more (E : Nat) (a : Option Addr) (n cap I : Nat) (bad : Bool) (s : Int) (w : World) (h : REye w E a n cap I bad) (hI : I ≤ n) (hn : n ≤ 5000) (hs0 : 0 ≤ s) (hs : (n : Int) - (I : Int) < s) (hs1 : s ≤ 9223372036854775807) :
    Calls Try.prog 80 #[.pointer (some ⟨E, 0, none⟩), .int .i64 s] w fun e w' => ∃ g, e = .returned (.slice (some ⟨g, 0, none⟩) 0 0) ∧ REye w' E a n cap n true ∧ w.grownBy w' (some E) := by
  have h' := h
  unfold REye at h'
  have c0 := tri_cell0 h'
  have c1 := tri_cell1 h'
  have c2 := tri_cell2 h'
  have f1 := tri_free h' 1
  have f2 := tri_free h' 2
  have hw1 : IntKind.i64.wrap ((n : Int) - (I : Int)) = (n : Int) - (I : Int) := IntWalk.i64_in _ (by omega)
  have hne : ¬ s < 0 := by omega
  have HH := hide h'
  clear h h'
  go_enter Try.func80, Try.ntmps80
  go_wp2_with fail
  go_quiet (fail)
  go_wp2
  go_ret
  have h1 := tri_set2 (y := .bool true) (tri_set1 (y := .int .i64 (n : Int)) HH.out)
  refine ⟨_, rfl, ?_, ?_⟩
  · exact (Below.heap_alloc _ _ E (lt_of_block h1)).trans h1
  · exact gb_trans (gb_trans (gb_trans (gb_drewN w nq _) (gb_set _ _ _ _)) (gb_set _ _ _ _)) (World.grownBy_alloc _ _ _)
theorem refBytes_neg (E : Nat) (a : Option Addr) (n cap I : Nat) (bad : Bool) (s : Int) (w : World) (h : REye w E a n cap I bad) (hs : s < 0) :
    Calls Try.prog 80 #[.pointer (some ⟨E, 0, none⟩), .int .i64 s] w fun e w' => ∃ g, e = .returned (.slice (some ⟨g, 0, none⟩) 0 0) ∧ REye w' E a n cap I bad ∧ w.grownBy w' (some E) := by
  have HH := hide h
  clear h
  go_enter Try.func80, Try.ntmps80
  go_wp2
  go_ret
  exact ⟨_, rfl, (Below.heap_alloc _ _ E (lt_of_block HH.out)).trans HH.out, World.grownBy_alloc _ _ _⟩

/-- An append whose run is known, in a region that draws its order. -/
theorem step_append_run {P : Program} {ops : Array Oper} {o : Oper} {a : Act} {w : World} {K : Act → World → Prop} {Q : Exit → Act → World → Prop} {E : Prop} (hgd : o.guard = none) (d s : Operand) (dT sT : TypeId)
    (ho : o.op = .call { callee := .builtin .append, args := #[d, s], argTypes := #[dT, sT] }) (vs vx : Value) (hd : a.eval d = vs) (hs : a.eval s = vx) (v' : Value) (w' : World)
    (hr : (Builtin.append_ #[dT, sT] o.type #[vs, vx]).run P w = .ok v' w') (h : K (a.put o.dst v') w') :
    if Region.wanted o (yielded ops a.tmps) = true then Oper.wp P o a w K Q else E := by
  have hw : Region.wanted o (yielded ops a.tmps) = true := by simp [Region.wanted, hgd]
  rw [if_pos hw]
  unfold Oper.wp
  simp [execOp, ho, resolve, invoke, builtin, hd, hs, hr, Result.andThen]
  exact h

/-- An append whose run is known to end in some way, in a region that draws its order. -/
theorem step_append_ex {P : Program} {ops : Array Oper} {o : Oper} {a : Act} {w : World} {K : Act → World → Prop} {Q : Exit → Act → World → Prop} {E : Prop} (hgd : o.guard = none) (d s : Operand) (dT sT : TypeId)
    (ho : o.op = .call { callee := .builtin .append, args := #[d, s], argTypes := #[dT, sT] }) (vs vx : Value) (hd : a.eval d = vs) (hs : a.eval s = vx) (R : Value → World → Prop)
    (hr : ∃ v' w', (Builtin.append_ #[dT, sT] o.type #[vs, vx]).run P w = .ok v' w' ∧ R v' w') (h : ∀ v' w', R v' w' → K (a.put o.dst v') w') :
    if Region.wanted o (yielded ops a.tmps) = true then Oper.wp P o a w K Q else E := by
  obtain ⟨v', w', hrun, hR⟩ := hr
  have hw : Region.wanted o (yielded ops a.tmps) = true := by simp [Region.wanted, hgd]
  rw [if_pos hw]
  unfold Oper.wp
  simp [execOp, ho, resolve, invoke, builtin, hd, hs, hrun, Result.andThen]
  exact h v' w' hR

/-- A part of a row: where it lies. -/
theorem cut_run (a : Option Addr) (xs : List Int) (n cap I m : Nat) (w : World) (hr : Row .u8 w a xs) (hxn : xs.length = n) (hnc : n ≤ cap) (hnil : a = none → cap = 0) (hm : I + m ≤ n) :
    ∃ A, (∀ W, (Instr.slice 25 (.slice a n cap) (some (.int .i64 (I : Int))) (some (.int .i64 ((I : Int) + (m : Int)))) none).run Try.prog W = .ok (.slice A m (cap - I)) W) ∧ Row .u8 w A ((xs.drop I).take m) ∧ (A = none → cap - I = 0) := by
  have hz : ∀ W, (sizeOf 5).run Try.prog W = .ok 1 W := fun W => by
    obtain ⟨i0, hi, _, hs, _⟩ := info_parts Try.info5
    simp [sizeOf, typeInfo, hi, hs]
  have he : Try.prog.elem 25 = 5 := by kernel_rfl
  refine ⟨if cap = I then a else a.map (·.add I), fun W => ?_, ?_, ?_⟩
  · rw [run_slice_lh (P := Try.prog) W 25 _ n cap (by rw [he]; exact Try.underlying25) .i64 .i64 (I : Int) ((I : Int) + (m : Int)) (by omega) (by omega) (by omega), he, hz]
    have h1 : ((I : Int) + (m : Int)).toNat = I + m := by omega
    simp [sliced, Result.andThen, h1]
  · intro hne
    have hmp : 0 < m := by
      rcases Nat.eq_zero_or_pos m with h | h
      · subst h; simp at hne
      · exact h
    obtain ⟨b, off, rfl, hlt, hc⟩ := hr.at (i := 0) (by omega)
    rw [if_neg (by omega)]
    refine ⟨b, off + I, by simp [Addr.add_lit], hlt, fun i hi => ?_⟩
    have hi2 : i < m := by have := hi; rw [List.length_take] at this; omega
    rw [Nat.add_assoc, hc (I + i) (by omega), List.getElem?_take_of_lt hi2, List.getElem?_drop]
  · intro h
    cases a with
    | none => have := hnil rfl; omega
    | some ad =>
      by_cases hc : cap = I
      · omega
      · rw [if_neg hc] at h; simp at h

theorem row_eye {w : World} {E : Nat} {a a' : Option Addr} {xs : List Int} {n cap : Nat} {I : Int} {bad : Bool} (h : Row .u8 w a xs) (hE : w.heap[E]? = some (.cells #[.slice a' n cap, .int .i64 I, .bool bad] 93 (0, 0))) (v : Value) : Row .u8 (w.setCell ⟨E, 1, none⟩ v) a xs := by
  intro hne
  obtain ⟨b, off, rfl, hlt, hc⟩ := h hne
  have hbE : b ≠ E := by
    intro e; subst e
    have h0 := hc 0 (by cases xs with | nil => exact absurd rfl hne | cons x r => simp)
    simp only [World.cell?, hE, Nat.add_zero] at h0
    match off, h0 with
    | 0, h0 => simp at h0
    | 1, h0 => simp at h0
    | 2, h0 => simp at h0
    | k + 3, h0 => simp at h0
  exact ⟨b, off, rfl, by simpa using hlt, fun i hi => by rw [cell_set_ne _ _ _ _ hbE]; exact hc i hi⟩

set_option maxHeartbeats 600000 in
theorem refBytes_some (E : Nat) (a : Option Addr) (xs : List Int) (n cap I m : Nat) (bad : Bool) (w : World) (h : REye w E a n cap I bad) (hr : Row .u8 w a xs) (hxn : xs.length = n) (hnc : n ≤ cap) (hcm : cap ≤ 9223372036854775807) (hnil : a = none → cap = 0) (hm : I + m ≤ n) (hn : n ≤ 5000) :
    Calls Try.prog 80 #[.pointer (some ⟨E, 0, none⟩), .int .i64 (m : Int)] w fun e w' => ∃ a' c, e = .returned (.slice a' m c) ∧ Row .u8 w' a' ((xs.drop I).take m) ∧
      REye w' E a n cap (I + m) bad ∧ w.grownBy w' (some E) := by
  have h' := h
  unfold REye at h'
  obtain ⟨i0, hi, hz0, hz1, hz2⟩ := info_parts Try.info5
  obtain ⟨A, hsl, hrA, hAn⟩ := cut_run a xs n cap I m w hr hxn hnc hnil hm
  have hzl : ((xs.drop I).take m).length = m := by rw [List.length_take, List.length_drop]; omega
  generalize (xs.drop I).take m = zs at *
  have hap : ∀ V : World, V.ownsRow w.heap.size 5 1 (.slice (some ⟨w.heap.size, 0, none⟩) 0 0) 0 [] → Below w.heap.size w V →
      ∃ v' w', (Builtin.append_ #[25, 25] 25 #[.slice (some ⟨w.heap.size, 0, none⟩) 0 0, .slice A m (cap - I)]).run Try.prog V = .ok v' w' ∧
        (∃ a' c, v' = .slice a' m c ∧ Hid (Row .u8 w' a' zs) ∧ Below w.heap.size w w') := fun V hV hb => by
    cases A with
    | none =>
      have hz : zs = [] := row_none hrA
      have hm0 : m = 0 := by rw [← hzl, hz]; rfl
      have hrun := run_append_owned_none (P := Try.prog) (w := V) w.heap.size 25 25 5 i0 1 Try.underlying25 hi _ 0 [] hV
      rw [hAn rfl, hm0]
      exact ⟨_, _, hrun, _, _, rfl, (by rw [hz]; exact fun h => absurd rfl h), hb⟩
    | some ad =>
      obtain ⟨v', w', h1, h2, h3, _⟩ := run_append_own (P := Try.prog) V w.heap.size 25 25 5 i0 (.int .u8 0) 1 1 Try.underlying25 hi hz0 hz1 hz2 rfl (by decide) _ 0 [] hV ad m (cap - I) (zs.map (Value.int .u8)) (by simp [hzl]) (row_cells (hrA.below hb (Nat.le_refl _))) (ints_one _ _) (by unfold maxLen; omega) (by omega) hb.size
      rw [Nat.zero_add, List.nil_append] at h2
      obtain ⟨a', c, rfl⟩ := slice_form h2
      exact ⟨_, _, h1, a', c, rfl, Row.of_owns h2, hb.grown h3 hb.size (fun k e => by cases e; exact Nat.le_refl _)⟩
  have c0 := tri_cell0 h'
  have c1 := tri_cell1 h'
  have f1 := tri_free h' 1
  have hEl := lt_of_block h'
  have hw1 : IntKind.i64.wrap ((n : Int) - (I : Int)) = (n : Int) - (I : Int) := IntWalk.i64_in _ (by omega)
  have hw2 : IntKind.i64.wrap ((I : Int) + (m : Int)) = (I : Int) + (m : Int) := IntWalk.i64_in _ (by omega)
  have hne : ¬ ((m : Int) < 0) := by omega
  have hgt : ¬ ((n : Int) - (I : Int) < (m : Int)) := by omega
  have HH := hide h'
  have HAP := hide hap
  clear h h' hr hxn hrA hAn hap hnil hzl
  go_enter Try.func80, Try.ntmps80
  go_wp2_with fail
  go_quiet (fail)
  go_wp2_with fail
  obtain ⟨W, hW, hWb, hWs, hW0, hW1, hWf⟩ : ∃ W, w.drewN nq = W ∧ Below w.heap.size w W ∧ Hid (W.heap.size = w.heap.size) ∧ W.cell? ⟨E, 0, none⟩ = some (.slice a n cap) ∧ W.cell? ⟨E, 1, none⟩ = some (.int .i64 (I : Int)) ∧ W.frozen? ⟨E, 1, none⟩ = false := ⟨_, rfl, bdrewN (Below.refl _ _) _, rfl, c0, c1, f1⟩
  rw [hW]
  clear hW c0 c1 f1
  have hap1 : ∃ v' w', (Builtin.append_ #[25, 25] 25 #[.slice (some ⟨W.heap.size, 0, none⟩) 0 0, .slice A m (cap - I)]).run Try.prog (W.alloc (.cells #[] 5)).drew = .ok v' w' ∧ (∃ a' c, v' = .slice a' m c ∧ Hid (Row .u8 w' a' zs) ∧ Below w.heap.size w w') := by
    rw [hWs.out]
    have hown : (W.alloc (.cells #[] 5)).ownsRow w.heap.size 5 1 (.slice (some ⟨W.heap.size, 0, none⟩) 0 0) 0 [] := World.ownsRow_lit W #[] 0 (by rw [hWs.out]; exact Nat.le_refl _) (by unfold maxLen; omega) rfl
    rw [hWs.out] at hown
    exact HAP.out _ hown.drew ((hWb.alloc hWb.size _).drew)
  have HAP1 := hide hap1
  clear hap1
  go_region_held3 (fun w' => w'.cell? ⟨E, 0, none⟩ = some (.slice a n cap) ∧ w'.cell? ⟨E, 1, none⟩ = some (.int .i64 (I : Int))) (go_keep) (first | (refine step_append_ex rfl (.tmp 33) (.tmp 48) 25 25 rfl _ _ rfl rfl _ HAP1.out ?_; rintro v' w4 ⟨a4, c4, rfl, HR4, hb4⟩; have hk4 := (hb4.block E hEl).trans HH.out; have k0 := tri_cell0 hk4; have k1 := tri_cell1 hk4; have kf := tri_free hk4 1; have HK4 := hide hk4; clear hk4))
  all_goals
    clear hsl hw1 hW0 hW1 hWf
    go_wp2
    go_ret
    have hk := tri_set1 (y := .int .i64 ((I : Int) + (m : Int))) HK4.out
    refine ⟨a4, c4, rfl, ?_, ?_, ?_⟩
    · exact row_eye HR4.out HK4.out _
    · unfold REye; rw [Int.natCast_add]; exact hk
    · exact gb_trans ⟨hb4.os, hb4.tape, hb4.output, hb4.size, fun k hk _ => hb4.block k hk⟩ (gb_set _ _ _ _)

/-- The document's 'Bytes', at every size. -/
theorem refBytes_any (E : Nat) (a : Option Addr) (xs : List Int) (n cap I : Nat) (bad : Bool) (s : Int) (w : World) (h : REye w E a n cap I bad) (hr : Row .u8 w a xs) (hxn : xs.length = n) (hnc : n ≤ cap) (hcm : cap ≤ 9223372036854775807) (hnil : a = none → cap = 0) (hI : I ≤ n) (hn : n ≤ 5000) (hs : s ≤ 9223372036854775807) :
    Calls Try.prog 80 #[.pointer (some ⟨E, 0, none⟩), .int .i64 s] w fun e w' => ∃ a' c, e = .returned (.slice a' (if s.toNat ≤ n - I then s.toNat else 0) c) ∧ Row .u8 w' a' (if s.toNat ≤ n - I then (xs.drop I).take s.toNat else []) ∧
      REye w' E a n cap (if s.toNat ≤ n - I then I + s.toNat else n) (bad || decide (n - I < s.toNat)) ∧ w.grownBy w' (some E) := by
  by_cases h1 : s.toNat ≤ n - I
  · rw [if_pos h1, if_pos h1, if_pos h1, show decide (n - I < s.toNat) = false from by simp; omega, Bool.or_false]
    by_cases h0 : s < 0
    · have hk : s.toNat = 0 := by omega
      rw [hk]
      refine (refBytes_neg E a n cap I bad s w h h0).mono ?_
      rintro e w' ⟨g, rfl, h2, h3⟩
      exact ⟨_, _, rfl, fun hh => absurd (by simp) hh, h2, h3⟩
    · obtain ⟨m, rfl⟩ := Int.eq_ofNat_of_zero_le (show 0 ≤ s by omega)
      simp only [Int.toNat_natCast] at h1 ⊢
      exact refBytes_some E a xs n cap I m bad w h hr hxn hnc hcm hnil (by omega) hn
  · rw [if_neg h1, if_neg h1, if_neg h1, show decide (n - I < s.toNat) = true from by simp; omega, Bool.or_true]
    refine (refBytes_more E a n cap I bad s w h hI hn (by omega) (by omega) hs).mono ?_
    rintro e w' ⟨g, rfl, h2, h3⟩
    exact ⟨_, _, rfl, fun hh => absurd rfl hh, h2, h3⟩

set_option maxHeartbeats 800000 in
/-- The document's 'Num' of an Eye. -/
theorem refEyeNum_any (E : Nat) (a : Option Addr) (xs : List Int) (n cap I : Nat) (bad : Bool) (s : Int) (w : World) (h : REye w E a n cap I bad) (hr : Row .u8 w a xs) (hb : ∀ x ∈ xs, 0 ≤ x ∧ x ≤ 255) (hxn : xs.length = n) (hnc : n ≤ cap) (hcm : cap ≤ 9223372036854775807) (hnil : a = none → cap = 0) (hI : I ≤ n) (hn : n ≤ 5000) :
    Calls Try.prog 51 #[.pointer (some ⟨E, 0, none⟩), .int .i64 s] w fun e w' => e = .returned (.int .u64 (valB (if sz s ≤ n - I then (xs.drop I).take (sz s) else []))) ∧
      REye w' E a n cap (if sz s ≤ n - I then I + sz s else n) (bad || decide (n - I < sz s)) ∧ w.grownBy w' (some E) := by
  have hs8 := sz_le s
  have ht := refBytes_any E a xs n cap I bad (sz s : Nat) w h hr hxn hnc hcm hnil hI hn (by omega)
  simp only [Int.toNat_natCast] at ht
  have hbd := refSize_any s w
  have hxb : ∀ x ∈ (if sz s ≤ n - I then (xs.drop I).take (sz s) else []), 0 ≤ x ∧ x ≤ 255 := by
    split
    · exact fun x hx => hb x (List.mem_of_mem_drop (List.mem_of_mem_take hx))
    · simp
  have hxl : (if sz s ≤ n - I then (xs.drop I).take (sz s) else []).length = (if sz s ≤ n - I then sz s else 0) := by
    split
    · rw [List.length_take, List.length_drop]; omega
    · rfl
  have hx8 : (if sz s ≤ n - I then sz s else 0) ≤ 8 := by split <;> omega
  generalize (if sz s ≤ n - I then (xs.drop I).take (sz s) else []) = zs at *
  generalize (if sz s ≤ n - I then sz s else 0) = m at *
  generalize (if sz s ≤ n - I then I + sz s else n) = I' at *
  generalize (bad || decide (n - I < sz s)) = bad' at *
  generalize sz s = S at *
  have HT := hide ht
  have HBD := hide hbd
  have HXB := hide hxb
  have HXL := hide hxl
  clear ht hbd hxb hxl h hr hb hs8 hxn hnc hcm hnil hI hn
  go_enter Try.func51, Try.ntmps51
  go_wp2_with fail
  refine HBD.out.mono ?_
  rintro e w1 ⟨rfl, rfl⟩
  go_wp2_with fail
  refine HT.out.mono ?_
  rintro e w2 ⟨a2, c2, rfl, hrow, heye, hgr⟩
  have HR := hide hrow
  have HE := hide heye
  have HG := hide hgr
  clear hrow heye hgr
  go_wp2
  go_loop [6, 7] (fun v i => ∃ k : Nat, k ≤ m ∧ i = .int .i64 k ∧ v = .int .u64 (valB (zs.take k))) (fun _ i => m - (intOf i).toNat)
  case atStart => exact ⟨0, Nat.zero_le _, rfl, rfl⟩
  case round =>
    obtain ⟨k, hk, rfl, rfl⟩ := hrel
    have HX := HXL.out
    by_cases hlt : k < m
    · obtain ⟨b, off, rfl, hbl, hc⟩ := HR.out.at (i := k) (by omega)
      have cx := hc k (by omega)
      have hv := valB_snoc zs k (by omega)
      have hr1 := valB_rng zs HXB.out k
      have hr2 := byte_at HXB.out k
      have hp : (256 : Int) ^ k ≤ 72057594037927936 := by
        have : k ≤ 7 := by omega
        have := Nat.pow_le_pow_right (show 0 < 256 by decide) this
        have h2 : ((256 ^ k : Nat) : Int) ≤ ((256 ^ 7 : Nat) : Int) := by exact_mod_cast this
        simpa using h2
      generalize zs[k]?.getD 0 = y at *
      generalize valB (zs.take k) = x at *
      have hx1 : 0 ≤ x := hr1.1
      have hx2 : x ≤ 72057594037927935 := by omega
      have hy1 := hr2.1
      have hy2 := hr2.2
      have HV := hide hv
      clear hv hr1 hr2 hp hc HX
      go_wp2
      go_round
      case rel => exact ⟨k + 1, by omega, by go_num, by rw [HV.out]⟩
      case measure => simp [intOf]; omega
    · have hkm : k = m := by omega
      subst hkm
      rw [List.take_of_length_le (by omega)]
      clear HX
      go_wp2
      go_ret
      exact ⟨rfl, HE.out, HG.out⟩
end Go.Proofs.Ytgggcapgaikbeaa
