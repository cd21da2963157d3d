/- icmp: what is told, and what is answered: the program. -/
import Derived.Test.YtgggcapgaikbeaaPk16
import Derived.Test.YtgggcapgaikbeaaPk14
namespace Go.Proofs.Ytgggcapgaikbeaa
open Go.RowKit
set_option linter.unusedVariables false
set_option linter.unusedSimpArgs false
set_option maxRecDepth 100000
set_option maxHeartbeats 1600000 in
theorem carry_any (w : World) (p q r src dst id : Nat) (da : Option Addr) (xs : List Int) (n dc : Nat) (hLx : Lies w da xs n dc) (hl : xs.length = n) (hb : ∀ x ∈ xs, 0 ≤ x ∧ x ≤ 255) (h1 : n ≤ 1472) (hp : p ≤ 255) (hq : q ≤ 255) (hr : r ≤ 4294967295) :
    Calls Try.prog 43 #[.agg #[.int .u8 (p : Int), .int .u8 (q : Int), .int .u32 (r : Int), .slice da n dc], .int .u32 (src : Int), .int .u32 (dst : Int), .int .u16 (id : Int)] w fun e w' => ∃ a c,
      e = .returned (.agg #[.int .u8 64, .int .u8 1, .int .u16 (id : Int), .int .u32 (src : Int), .int .u32 (dst : Int), .slice a (8 + n) c]) ∧ w'.ownsRow w.heap.size 5 1 (.slice a (8 + n) c) (8 + n) ((icmpB p q r xs).map (Value.int .u8)) ∧ Below w.heap.size w w' := by
  have HWI := hide (fun (W : World) (hL : Lies W da xs n dc) => wicmp_ok W p q r da xs n dc hL.row hL.no hl hb h1 hp hq hr)
  obtain ⟨V1, hV1⟩ : ∃ V, w.alloc (.cells #[.int .u8 (p : Int), .int .u8 (q : Int), .int .u32 (r : Int), .slice da n dc] 55) = V := ⟨_, rfl⟩
  obtain ⟨V2, hV2⟩ : ∃ V, V1.alloc (.cells #[.int .u8 0, .int .u8 0, .int .u16 0, .int .u32 0, .int .u32 0, .slice none 0 0] 27) = V := ⟨_, rfl⟩
  have hz1 : V1.heap.size = w.heap.size + 1 := by rw [← hV1]; simp
  have hz2 : V2.heap.size = w.heap.size + 1 + 1 := by rw [← hV2]; simp [hz1]
  have hb1 : Below w.heap.size w V1 := by rw [← hV1]; exact (Below.refl _ _).alloc (Nat.le_refl _) _
  have hc2 : Below V1.heap.size V1 V2 := by rw [← hV2]; exact (Below.refl _ _).alloc (Nat.le_refl _) _
  have hb2 := hb1.trans (hc2.mono hb1.size)
  have hp1_1 : V1.heap[w.heap.size]? = some (.cells #[.int .u8 (p : Int), .int .u8 (q : Int), .int .u32 (r : Int), .slice da n dc] 55 (0, 0)) := by rw [← hV1]; exact heap_alloc_new _ _
  have hp1_2 := below_block hc2 hp1_1 (Nat.le_refl _)
  have hp2_2 : V2.heap[w.heap.size + 1]? = some (.cells #[.int .u8 0, .int .u8 0, .int .u16 0, .int .u32 0, .int .u32 0, .slice none 0 0] 27 (0, 0)) := by rw [← hV2, ← hz1]; exact heap_alloc_new _ _
  obtain ⟨BM, hBM⟩ : ∃ B, w.heap.size = B := ⟨_, rfl⟩
  obtain ⟨BR, hBR⟩ : ∃ B, w.heap.size + 1 = B := ⟨_, rfl⟩
  have hw0 : w.heap.size ≤ BM ∧ w.heap.size ≤ BR := by omega
  have HM := hide (show V2.heap[BM]? = some (.cells #[.int .u8 (p : Int), .int .u8 (q : Int), .int .u32 (r : Int), .slice da n dc] 55 (0, 0)) by rw [← hBM]; exact hp1_2)
  have NM : Hid (w.heap.size ≤ BM) := hide hw0.1
  have HR := hide (show V2.heap[BR]? = some (.cells #[.int .u8 0, .int .u8 0, .int .u16 0, .int .u32 0, .int .u32 0, .slice none 0 0] 27 (0, 0)) by rw [← hBR]; exact hp2_2)
  have NR : Hid (w.heap.size ≤ BR) := hide hw0.2
  have RP := hide (hLx.below hb2 (Nat.le_refl _))
  have HB := hide hb2
  have HE := hide (And.intro (And.intro trivial trivial) (And.intro hV1 ( And.intro hV2 (And.intro hBM ( And.intro hBR (trivial))))))
  clear hw0 hV1 hz1 hb1 hV2 hz2 hb2 hc2 hp1_1 hp1_2 hp2_2 hBM hBR hLx
  go_enter Try.func43, Try.ntmps43
  go_upto_region 1 with (fail)
  rw [HE.out.2.1]
  try rw [HE.out.2.2.1]
  try rw [HE.out.2.2.2.2.1]
  try rw [HE.out.2.2.2.1]
  clear HE
  go_wp2_with ((refine ld_whole (o := ⟨some 12, _, _, _, _, _⟩) 55 (.tmp 4) rfl (by rfl) BM rfl #[.int .u8 (p : Int), .int .u8 (q : Int), .int .u32 (r : Int), .slice da n dc] 55 HM.out Try.underlying55 (by kernel_rfl) ?_; try simp only [Act.put, List.setIfInBounds_toArray, List.set_cons_zero, List.set_cons_succ]))
  have ltZ_R := hide (lt_of_block HR.out)
  have lbZ := hide HB.out.size
  refine (HWI.out _ RP.out).mono ?_
  rintro e w1 ⟨a, c, rfl, o, b⟩
  replace HM := hide (below_block b HM.out (Nat.le_refl _))
  replace HR := hide (below_block b HR.out (Nat.le_refl _))
  replace RP := hide (RP.out.below b (Nat.le_refl _))
  replace HB := hide (HB.out.trans (b.mono HB.out.size))
  have OZ := hide o
  clear b  o
  go_wp2_with ((refine st_part (o := ⟨none, _, _, _, _, _⟩) 27 (.tmp 8) (.tmp 20) rfl (by rfl) BR 0 rfl #[.int .u8 0, .int .u8 0, .int .u16 0, .int .u32 0, .int .u32 0, .slice none 0 0] 27 #[.int .u8 64, .int .u8 1, .int .u16 (id : Int), .int .u32 (src : Int), .int .u32 (dst : Int), .slice a (8 + n) c] rfl HR.out rfl (by kernel_rfl) (by kernel_rfl) HB.out NR.out ?_; rintro w9 w9h w9b w9o w9s; try simp only [Act.put, List.setIfInBounds_toArray, List.set_cons_zero, List.set_cons_succ]))
  rw [upd_whole (by rfl)] at w9h
  exact bodyPost_ret (v := .agg #[.int .u8 64, .int .u8 1, .int .u16 (id : Int), .int .u32 (src : Int), .int .u32 (dst : Int), .slice a (8 + n) c]) (results_cell1 Try.results43 _ w9 BR _ _ _ _ rfl w9h Try.underlying27 rfl (by kernel_rfl)) rfl ⟨a, c, rfl, owns_mono (owns_put OZ.out (gb_part HB.out w9b w9o w9s) ltZ_R.out) lbZ.out, w9b⟩
set_option maxHeartbeats 1600000 in
theorem tell_no (w : World) (own kind code : Nat) (tt P id s d : Nat) (da : Option Addr) (xs : List Int) (n dc : Nat) (hLx : Lies w da xs n dc) (hl : xs.length = n) (hb : ∀ x ∈ xs, 0 ≤ x ∧ x ≤ 255) (ht : tt ≤ 255) (hP : P ≤ 255) (hid : id ≤ 65535) (hs : s ≤ 4294967295) (hd : d ≤ 4294967295) (hm : icMay P s d xs = false) :
    Calls Try.prog 41 #[.int .u32 (own : Int), .agg #[.int .u8 (tt : Int), .int .u8 (P : Int), .int .u16 (id : Int), .int .u32 (s : Int), .int .u32 (d : Int), .slice da n dc], .int .u8 (kind : Int), .int .u8 (code : Int)] w fun e w' => e = .returned (.tuple #[.agg #[.int .u8 0, .int .u8 0, .int .u16 0, .int .u32 0, .int .u32 0, .slice none 0 0], .bool false]) ∧ Below w.heap.size w w' := by
  have HMA := hide (fun (W : World) (hL : Lies W da xs n dc) => may_any W tt P id s d da xs n dc hL hl hb ht hP hid hs hd)
  rw [hm] at HMA
  obtain ⟨V1, hV1⟩ : ∃ V, w.alloc (.cells #[.int .u8 (tt : Int), .int .u8 (P : Int), .int .u16 (id : Int), .int .u32 (s : Int), .int .u32 (d : Int), .slice da n dc] 27) = V := ⟨_, rfl⟩
  obtain ⟨V2, hV2⟩ : ∃ V, V1.alloc (.cells #[.int .u8 0, .int .u8 0, .int .u16 0, .int .u32 0, .int .u32 0, .slice none 0 0] 27) = V := ⟨_, rfl⟩
  have hz1 : V1.heap.size = w.heap.size + 1 := by rw [← hV1]; simp
  have hz2 : V2.heap.size = w.heap.size + 1 + 1 := by rw [← hV2]; simp [hz1]
  have hb1 : Below w.heap.size w V1 := by rw [← hV1]; exact (Below.refl _ _).alloc (Nat.le_refl _) _
  have hc2 : Below V1.heap.size V1 V2 := by rw [← hV2]; exact (Below.refl _ _).alloc (Nat.le_refl _) _
  have hb2 := hb1.trans (hc2.mono hb1.size)
  have hp1_1 : V1.heap[w.heap.size]? = some (.cells #[.int .u8 (tt : Int), .int .u8 (P : Int), .int .u16 (id : Int), .int .u32 (s : Int), .int .u32 (d : Int), .slice da n dc] 27 (0, 0)) := by rw [← hV1]; exact heap_alloc_new _ _
  have hp1_2 := below_block hc2 hp1_1 (Nat.le_refl _)
  have hp2_2 : V2.heap[w.heap.size + 1]? = some (.cells #[.int .u8 0, .int .u8 0, .int .u16 0, .int .u32 0, .int .u32 0, .slice none 0 0] 27 (0, 0)) := by rw [← hV2, ← hz1]; exact heap_alloc_new _ _
  obtain ⟨BX, hBX⟩ : ∃ B, w.heap.size = B := ⟨_, rfl⟩
  obtain ⟨BR, hBR⟩ : ∃ B, w.heap.size + 1 = B := ⟨_, rfl⟩
  have hw0 : w.heap.size ≤ BX ∧ w.heap.size ≤ BR := by omega
  have HX := hide (show V2.heap[BX]? = some (.cells #[.int .u8 (tt : Int), .int .u8 (P : Int), .int .u16 (id : Int), .int .u32 (s : Int), .int .u32 (d : Int), .slice da n dc] 27 (0, 0)) by rw [← hBX]; exact hp1_2)
  have NX : Hid (w.heap.size ≤ BX) := hide hw0.1
  have HR := hide (show V2.heap[BR]? = some (.cells #[.int .u8 0, .int .u8 0, .int .u16 0, .int .u32 0, .int .u32 0, .slice none 0 0] 27 (0, 0)) by rw [← hBR]; exact hp2_2)
  have NR : Hid (w.heap.size ≤ BR) := hide hw0.2
  have RP := hide (hLx.below hb2 (Nat.le_refl _))
  have HB := hide hb2
  have HE := hide (And.intro (And.intro trivial trivial) (And.intro hV1 ( And.intro hV2 (And.intro hBX ( And.intro hBR (trivial))))))
  clear hw0 hV1 hz1 hb1 hV2 hz2 hb2 hc2 hp1_1 hp1_2 hp2_2 hBX hBR hLx
  go_enter Try.func41, Try.ntmps41
  go_upto_region 1 with (fail)
  rw [HE.out.2.1]
  try rw [HE.out.2.2.1]
  try rw [HE.out.2.2.2.2.1]
  try rw [HE.out.2.2.2.1]
  clear HE
  go_wp2_with ((refine ld_whole (o := ⟨some 13, _, _, _, _, _⟩) 27 (.tmp 5) rfl (by rfl) BX rfl #[.int .u8 (tt : Int), .int .u8 (P : Int), .int .u16 (id : Int), .int .u32 (s : Int), .int .u32 (d : Int), .slice da n dc] 27 HX.out Try.underlying27 (by kernel_rfl) ?_; try simp only [Act.put, List.setIfInBounds_toArray, List.set_cons_zero, List.set_cons_succ]))
  refine (HMA.out _ RP.out).mono ?_
  rintro e w1 ⟨rfl, b⟩
  replace HX := hide (below_block b HX.out (Nat.le_refl _))
  replace HR := hide (below_block b HR.out (Nat.le_refl _))
  replace RP := hide (RP.out.below b (Nat.le_refl _))
  replace HB := hide (HB.out.trans (b.mono HB.out.size))
  clear b 
  go_wp2_with ((refine st_part (o := ⟨none, _, _, _, _, _⟩) 27 (.tmp 8) (.tmp 16) rfl (by rfl) BR 0 rfl #[.int .u8 0, .int .u8 0, .int .u16 0, .int .u32 0, .int .u32 0, .slice none 0 0] 27 #[.int .u8 0, .int .u8 0, .int .u16 0, .int .u32 0, .int .u32 0, .slice none 0 0] rfl HR.out rfl (by kernel_rfl) (by kernel_rfl) HB.out NR.out ?_; rintro w9 w9h w9b w9o w9s; try simp only [Act.put, List.setIfInBounds_toArray, List.set_cons_zero, List.set_cons_succ]))
  rw [upd_whole (by rfl)] at w9h
  exact bodyPost_ret (v := .tuple #[.agg #[.int .u8 0, .int .u8 0, .int .u16 0, .int .u32 0, .int .u32 0, .slice none 0 0], .bool false]) (results_cell_tmp Try.results41 _ w9 BR _ _ _ _ rfl w9h Try.underlying27 rfl (by kernel_rfl) _ rfl) rfl ⟨rfl, w9b⟩
set_option maxHeartbeats 1600000 in
theorem tell_yes (w : World) (own kind code M : Nat) (tt P id s d : Nat) (da : Option Addr) (xs : List Int) (n dc : Nat) (hLx : Lies w da xs n dc) (hl : xs.length = n) (hb : ∀ x ∈ xs, 0 ≤ x ∧ x ≤ 255) (ht : tt ≤ 255) (hP : P ≤ 255) (hid : id ≤ 65535) (hs : s ≤ 4294967295) (hd : d ≤ 4294967295) (hm : icMay P s d xs = true) (hM : M = min (20 + n) 28) (hk : kind ≤ 255) (hc : code ≤ 255) :
    Calls Try.prog 41 #[.int .u32 (own : Int), .agg #[.int .u8 (tt : Int), .int .u8 (P : Int), .int .u16 (id : Int), .int .u32 (s : Int), .int .u32 (d : Int), .slice da n dc], .int .u8 (kind : Int), .int .u8 (code : Int)] w fun e w' => ∃ a c,
      e = .returned (.tuple #[.agg #[.int .u8 64, .int .u8 1, .int .u16 0, .int .u32 (own : Int), .int .u32 (s : Int), .slice a (8 + M) c], .bool true]) ∧ w'.ownsRow w.heap.size 5 1 (.slice a (8 + M) c) (8 + M) ((icmpB kind code 0 ((ipG tt P id s d xs).take M)).map (Value.int .u8)) ∧ Below w.heap.size w w' := by
  have h1 : n ≤ 1480 := by unfold icMay at hm; simp at hm; omega
  have HMA := hide (fun (W : World) (hL : Lies W da xs n dc) => may_any W tt P id s d da xs n dc hL hl hb ht hP hid hs hd)
  rw [hm] at HMA
  have HWO := hide (fun (W : World) (hL : Lies W da xs n dc) => wip_ok W tt P id s d da xs n dc hL.row hL.no hl h1 ht hP hid hs hd)
  have HGL := hide (show (ipG tt P id s d xs).length = 20 + n by rw [ipG_len, hl])
  have HGR := hide (show ∀ x ∈ ipG tt P id s d xs, 0 ≤ x ∧ x ≤ 255 by
    intro x hx
    unfold ipG at hx
    rcases List.mem_append.1 hx with h | h
    · exact ipH_rng _ _ _ _ _ _ _ ht hP x h
    · exact hb x h)
  have HCA := hide (fun (W : World) (a : Option Addr) (c : Nat) (hL : Lies W a ((ipG tt P id s d xs).take M) M c) => carry_any W kind code 0 own s 0 a ((ipG tt P id s d xs).take M) M c hL (by rw [List.length_take, HGL.out]; omega) (fun x hx => HGR.out x (List.mem_of_mem_take hx)) (by omega) hk hc (by omega))
  clear hm hl hb
  obtain ⟨V1, hV1⟩ : ∃ V, w.alloc (.cells #[.int .u8 (tt : Int), .int .u8 (P : Int), .int .u16 (id : Int), .int .u32 (s : Int), .int .u32 (d : Int), .slice da n dc] 27) = V := ⟨_, rfl⟩
  obtain ⟨V2, hV2⟩ : ∃ V, V1.alloc (.cells #[.int .u8 0, .int .u8 0, .int .u16 0, .int .u32 0, .int .u32 0, .slice none 0 0] 27) = V := ⟨_, rfl⟩
  have hz1 : V1.heap.size = w.heap.size + 1 := by rw [← hV1]; simp
  have hz2 : V2.heap.size = w.heap.size + 1 + 1 := by rw [← hV2]; simp [hz1]
  have hb1 : Below w.heap.size w V1 := by rw [← hV1]; exact (Below.refl _ _).alloc (Nat.le_refl _) _
  have hc2 : Below V1.heap.size V1 V2 := by rw [← hV2]; exact (Below.refl _ _).alloc (Nat.le_refl _) _
  have hb2 := hb1.trans (hc2.mono hb1.size)
  have hp1_1 : V1.heap[w.heap.size]? = some (.cells #[.int .u8 (tt : Int), .int .u8 (P : Int), .int .u16 (id : Int), .int .u32 (s : Int), .int .u32 (d : Int), .slice da n dc] 27 (0, 0)) := by rw [← hV1]; exact heap_alloc_new _ _
  have hp1_2 := below_block hc2 hp1_1 (Nat.le_refl _)
  have hp2_2 : V2.heap[w.heap.size + 1]? = some (.cells #[.int .u8 0, .int .u8 0, .int .u16 0, .int .u32 0, .int .u32 0, .slice none 0 0] 27 (0, 0)) := by rw [← hV2, ← hz1]; exact heap_alloc_new _ _
  obtain ⟨BX, hBX⟩ : ∃ B, w.heap.size = B := ⟨_, rfl⟩
  obtain ⟨BR, hBR⟩ : ∃ B, w.heap.size + 1 = B := ⟨_, rfl⟩
  have hw0 : w.heap.size ≤ BX ∧ w.heap.size ≤ BR := by omega
  have HX := hide (show V2.heap[BX]? = some (.cells #[.int .u8 (tt : Int), .int .u8 (P : Int), .int .u16 (id : Int), .int .u32 (s : Int), .int .u32 (d : Int), .slice da n dc] 27 (0, 0)) by rw [← hBX]; exact hp1_2)
  have NX : Hid (w.heap.size ≤ BX) := hide hw0.1
  have HR := hide (show V2.heap[BR]? = some (.cells #[.int .u8 0, .int .u8 0, .int .u16 0, .int .u32 0, .int .u32 0, .slice none 0 0] 27 (0, 0)) by rw [← hBR]; exact hp2_2)
  have NR : Hid (w.heap.size ≤ BR) := hide hw0.2
  have RP := hide (hLx.below hb2 (Nat.le_refl _))
  have HB := hide hb2
  have HE := hide (And.intro (And.intro trivial trivial) (And.intro hV1 ( And.intro hV2 (And.intro hBX ( And.intro hBR (trivial))))))
  clear hw0 hV1 hz1 hb1 hV2 hz2 hb2 hc2 hp1_1 hp1_2 hp2_2 hBX hBR hLx
  go_enter Try.func41, Try.ntmps41
  go_upto_region 1 with (fail)
  rw [HE.out.2.1]
  try rw [HE.out.2.2.1]
  try rw [HE.out.2.2.2.2.1]
  try rw [HE.out.2.2.2.1]
  clear HE
  go_wp2_with ((refine ld_whole (o := ⟨some 13, _, _, _, _, _⟩) 27 (.tmp 5) rfl (by rfl) BX rfl #[.int .u8 (tt : Int), .int .u8 (P : Int), .int .u16 (id : Int), .int .u32 (s : Int), .int .u32 (d : Int), .slice da n dc] 27 HX.out Try.underlying27 (by kernel_rfl) ?_; try simp only [Act.put, List.setIfInBounds_toArray, List.set_cons_zero, List.set_cons_succ]))
  refine (HMA.out _ RP.out).mono ?_
  rintro e w1 ⟨rfl, b⟩
  replace HX := hide (below_block b HX.out (Nat.le_refl _))
  replace HR := hide (below_block b HR.out (Nat.le_refl _))
  replace RP := hide (RP.out.below b (Nat.le_refl _))
  replace HB := hide (HB.out.trans (b.mono HB.out.size))
  clear b 
  go_wp2_with ((refine ld_whole (o := ⟨some 18, _, _, _, _, _⟩) 27 (.tmp 5) rfl (by rfl) BX rfl #[.int .u8 (tt : Int), .int .u8 (P : Int), .int .u16 (id : Int), .int .u32 (s : Int), .int .u32 (d : Int), .slice da n dc] 27 HX.out Try.underlying27 (by kernel_rfl) ?_; try simp only [Act.put, List.setIfInBounds_toArray, List.set_cons_zero, List.set_cons_succ]))
  refine (HWO.out _ RP.out).mono ?_
  rintro e w2 ⟨a4, c4, rfl, o, b⟩
  replace HX := hide (below_block b HX.out (Nat.le_refl _))
  replace HR := hide (below_block b HR.out (Nat.le_refl _))
  replace RP := hide (RP.out.below b (Nat.le_refl _))
  replace HB := hide (HB.out.trans (b.mono HB.out.size))
  have RY := hide (Lies.of_owns o)
  clear b o
  have hc4 := RY.out.le
  rcases Nat.lt_or_ge 28 (20 + n) with hmn | hmn
  · skip
    obtain rfl : M = 28 := by omega
    clear hM
    have q1 : (28 : Int) < 20 + (n : Int) := by omega
    have q2 : (28 : Int) ≤ 20 + (n : Int) := by omega
    have q3 : ¬ (20 + (n : Int) < (28 : Int)) := by omega
    have q4 : ¬ (20 + (n : Int) ≤ (28 : Int)) := by omega
    have q5 : (28 : Int) ≤ (c4 : Int) := by omega
    have RYc := hide (RY.out.cut HGL.out 28 (by omega))
    clear RY RP
    obtain ⟨w3, hwn, wb, HN1⟩ : ∃ W, w2.alloc (.cells #[.int .u8 (kind : Int), .int .u8 (code : Int), .int .u32 0, .slice a4 28 c4] 55) = W ∧ Below w2.heap.size w2 W ∧ Hid (W.heap[w2.heap.size]? = some (.cells #[.int .u8 (kind : Int), .int .u8 (code : Int), .int .u32 0, .slice a4 28 c4] 55 (0, 0))) := ⟨_, rfl, (Below.refl w2.heap.size w2).alloc (Nat.le_refl _) _, hide (heap_alloc_new w2 _)⟩
    obtain ⟨BM, hBn⟩ : ∃ B, w2.heap.size = B := ⟨_, rfl⟩
    rw [hBn] at HN1
    have HW := hide (And.intro hwn hBn)
    have HBo := HB
    clear hwn hBn
    replace HX := hide (below_block wb HX.out (Nat.le_refl _))
    replace HR := hide (below_block wb HR.out (Nat.le_refl _))
    replace RYc := hide (RYc.out.below wb (Nat.le_refl _))
    replace HB := hide (HB.out.trans (wb.mono HB.out.size))
    have HM := HN1
    have NM := hide (show w.heap.size ≤ BM by rw [← HW.out.2]; exact HBo.out.size)
    clear wb HN1 HBo
    go_upto_region 5 with (fail)
    all_goals (try (exfalso; omega))
    rw [HW.out.1]
    try rw [HW.out.2]
    clear HW
    clear q1 q2 q5 q3 q4 hc4
    have qX_3 : w3.cell? ⟨BX, 3, none⟩ = some (.int .u32 (s : Int)) := cell_at HX.out 3 rfl
    go_wp2_with ((refine ld_whole (o := ⟨some 30, _, _, _, _, _⟩) 55 (.tmp 12) rfl (by rfl) BM rfl #[.int .u8 (kind : Int), .int .u8 (code : Int), .int .u32 0, .slice a4 28 c4] 55 HM.out Try.underlying55 (by kernel_rfl) ?_; try simp only [Act.put, List.setIfInBounds_toArray, List.set_cons_zero, List.set_cons_succ]))
    have ltZ_R := hide (lt_of_block HR.out)
    have lbZ := hide HB.out.size
    refine (HCA.out _ a4 c4 RYc.out).mono ?_
    rintro e w4 ⟨a, c, rfl, o, b⟩
    clear qX_3
    replace HX := hide (below_block b HX.out (Nat.le_refl _))
    replace HR := hide (below_block b HR.out (Nat.le_refl _))
    replace HM := hide (below_block b HM.out (Nat.le_refl _))
    replace RYc := hide (RYc.out.below b (Nat.le_refl _))
    replace HB := hide (HB.out.trans (b.mono HB.out.size))
    have OZ := hide o
    clear b  o
    go_wp2_with ((refine st_part (o := ⟨none, _, _, _, _, _⟩) 27 (.tmp 8) (.tmp 34) rfl (by rfl) BR 0 rfl #[.int .u8 0, .int .u8 0, .int .u16 0, .int .u32 0, .int .u32 0, .slice none 0 0] 27 #[.int .u8 64, .int .u8 1, .int .u16 0, .int .u32 (own : Int), .int .u32 (s : Int), .slice a (8 + 28) c] rfl HR.out rfl (by kernel_rfl) (by kernel_rfl) HB.out NR.out ?_; rintro w9 w9h w9b w9o w9s; try simp only [Act.put, List.setIfInBounds_toArray, List.set_cons_zero, List.set_cons_succ]))
    rw [upd_whole (by rfl)] at w9h
    exact bodyPost_ret (v := .tuple #[.agg #[.int .u8 64, .int .u8 1, .int .u16 0, .int .u32 (own : Int), .int .u32 (s : Int), .slice a (8 + 28) c], .bool true]) (results_cell_tmp Try.results41 _ w9 BR _ _ _ _ rfl w9h Try.underlying27 rfl (by kernel_rfl) _ rfl) rfl ⟨a, c, rfl, owns_mono (owns_put OZ.out (gb_part HB.out w9b w9o w9s) ltZ_R.out) lbZ.out, w9b⟩
  · skip
    obtain rfl : 20 + n = M := by omega
    clear hM
    have q1 : ¬ ((28 : Int) < 20 + (n : Int)) := by omega
    have q2 : 20 + (n : Int) ≤ (28 : Int) := by omega
    have q5 : 20 + (n : Int) ≤ (c4 : Int) := by omega
    have RYc := hide (RY.out.cut HGL.out (20 + n) (by omega))
    clear RY RP
    obtain ⟨w3, hwn, wb, HN1⟩ : ∃ W, w2.alloc (.cells #[.int .u8 (kind : Int), .int .u8 (code : Int), .int .u32 0, .slice a4 (20 + n) c4] 55) = W ∧ Below w2.heap.size w2 W ∧ Hid (W.heap[w2.heap.size]? = some (.cells #[.int .u8 (kind : Int), .int .u8 (code : Int), .int .u32 0, .slice a4 (20 + n) c4] 55 (0, 0))) := ⟨_, rfl, (Below.refl w2.heap.size w2).alloc (Nat.le_refl _) _, hide (heap_alloc_new w2 _)⟩
    obtain ⟨BM, hBn⟩ : ∃ B, w2.heap.size = B := ⟨_, rfl⟩
    rw [hBn] at HN1
    have HW := hide (And.intro hwn hBn)
    have HBo := HB
    clear hwn hBn
    replace HX := hide (below_block wb HX.out (Nat.le_refl _))
    replace HR := hide (below_block wb HR.out (Nat.le_refl _))
    replace RYc := hide (RYc.out.below wb (Nat.le_refl _))
    replace HB := hide (HB.out.trans (wb.mono HB.out.size))
    have HM := HN1
    have NM := hide (show w.heap.size ≤ BM by rw [← HW.out.2]; exact HBo.out.size)
    clear wb HN1 HBo
    go_upto_region 5 with (fail)
    all_goals (try (exfalso; omega))
    rw [HW.out.1]
    try rw [HW.out.2]
    clear HW
    clear q1 q2 q5 hc4
    have qX_3 : w3.cell? ⟨BX, 3, none⟩ = some (.int .u32 (s : Int)) := cell_at HX.out 3 rfl
    go_wp2_with ((refine ld_whole (o := ⟨some 30, _, _, _, _, _⟩) 55 (.tmp 12) rfl (by rfl) BM rfl #[.int .u8 (kind : Int), .int .u8 (code : Int), .int .u32 0, .slice a4 (20 + n) c4] 55 HM.out Try.underlying55 (by kernel_rfl) ?_; try simp only [Act.put, List.setIfInBounds_toArray, List.set_cons_zero, List.set_cons_succ]))
    have ltZ_R := hide (lt_of_block HR.out)
    have lbZ := hide HB.out.size
    refine (HCA.out _ a4 c4 RYc.out).mono ?_
    rintro e w4 ⟨a, c, rfl, o, b⟩
    clear qX_3
    replace HX := hide (below_block b HX.out (Nat.le_refl _))
    replace HR := hide (below_block b HR.out (Nat.le_refl _))
    replace HM := hide (below_block b HM.out (Nat.le_refl _))
    replace RYc := hide (RYc.out.below b (Nat.le_refl _))
    replace HB := hide (HB.out.trans (b.mono HB.out.size))
    have OZ := hide o
    clear b  o
    go_wp2_with ((refine st_part (o := ⟨none, _, _, _, _, _⟩) 27 (.tmp 8) (.tmp 34) rfl (by rfl) BR 0 rfl #[.int .u8 0, .int .u8 0, .int .u16 0, .int .u32 0, .int .u32 0, .slice none 0 0] 27 #[.int .u8 64, .int .u8 1, .int .u16 0, .int .u32 (own : Int), .int .u32 (s : Int), .slice a (8 + (20 + n)) c] rfl HR.out rfl (by kernel_rfl) (by kernel_rfl) HB.out NR.out ?_; rintro w9 w9h w9b w9o w9s; try simp only [Act.put, List.setIfInBounds_toArray, List.set_cons_zero, List.set_cons_succ]))
    rw [upd_whole (by rfl)] at w9h
    exact bodyPost_ret (v := .tuple #[.agg #[.int .u8 64, .int .u8 1, .int .u16 0, .int .u32 (own : Int), .int .u32 (s : Int), .slice a (8 + (20 + n)) c], .bool true]) (results_cell_tmp Try.results41 _ w9 BR _ _ _ _ rfl w9h Try.underlying27 rfl (by kernel_rfl) _ rfl) rfl ⟨a, c, rfl, owns_mono (owns_put OZ.out (gb_part HB.out w9b w9o w9s) ltZ_R.out) lbZ.out, w9b⟩
set_option maxHeartbeats 1600000 in
theorem exc_no (w : World) (own : Nat) (tt P id s d : Nat) (da : Option Addr) (xs : List Int) (n dc : Nat) (hLx : Lies w da xs n dc) (hl : xs.length = n) (hb : ∀ x ∈ xs, 0 ≤ x ∧ x ≤ 255) (ht : tt ≤ 255) (hP : P ≤ 255) (hid : id ≤ 65535) (hs : s ≤ 4294967295) (hd : d ≤ 4294967295) (hm : icMay P s d xs = false) :
    Calls Try.prog 19 #[.int .u32 (own : Int), .agg #[.int .u8 (tt : Int), .int .u8 (P : Int), .int .u16 (id : Int), .int .u32 (s : Int), .int .u32 (d : Int), .slice da n dc]] w fun e w' => e = .returned (.tuple #[.agg #[.int .u8 0, .int .u8 0, .int .u16 0, .int .u32 0, .int .u32 0, .slice none 0 0], .bool false]) ∧ Below w.heap.size w w' := by
  have HT := hide (fun (W : World) (hL : Lies W da xs n dc) => tell_no W own 11 0 tt P id s d da xs n dc hL hl hb ht hP hid hs hd hm)
  clear hm hl hb
  obtain ⟨V1, hV1⟩ : ∃ V, w.alloc (.cells #[.int .u8 (tt : Int), .int .u8 (P : Int), .int .u16 (id : Int), .int .u32 (s : Int), .int .u32 (d : Int), .slice da n dc] 27) = V := ⟨_, rfl⟩
  obtain ⟨V2, hV2⟩ : ∃ V, V1.alloc (.cells #[.int .u8 0, .int .u8 0, .int .u16 0, .int .u32 0, .int .u32 0, .slice none 0 0] 27) = V := ⟨_, rfl⟩
  have hz1 : V1.heap.size = w.heap.size + 1 := by rw [← hV1]; simp
  have hz2 : V2.heap.size = w.heap.size + 1 + 1 := by rw [← hV2]; simp [hz1]
  have hb1 : Below w.heap.size w V1 := by rw [← hV1]; exact (Below.refl _ _).alloc (Nat.le_refl _) _
  have hc2 : Below V1.heap.size V1 V2 := by rw [← hV2]; exact (Below.refl _ _).alloc (Nat.le_refl _) _
  have hb2 := hb1.trans (hc2.mono hb1.size)
  have hp1_1 : V1.heap[w.heap.size]? = some (.cells #[.int .u8 (tt : Int), .int .u8 (P : Int), .int .u16 (id : Int), .int .u32 (s : Int), .int .u32 (d : Int), .slice da n dc] 27 (0, 0)) := by rw [← hV1]; exact heap_alloc_new _ _
  have hp1_2 := below_block hc2 hp1_1 (Nat.le_refl _)
  have hp2_2 : V2.heap[w.heap.size + 1]? = some (.cells #[.int .u8 0, .int .u8 0, .int .u16 0, .int .u32 0, .int .u32 0, .slice none 0 0] 27 (0, 0)) := by rw [← hV2, ← hz1]; exact heap_alloc_new _ _
  obtain ⟨BX, hBX⟩ : ∃ B, w.heap.size = B := ⟨_, rfl⟩
  obtain ⟨BR, hBR⟩ : ∃ B, w.heap.size + 1 = B := ⟨_, rfl⟩
  have hw0 : w.heap.size ≤ BX ∧ w.heap.size ≤ BR := by omega
  have HX := hide (show V2.heap[BX]? = some (.cells #[.int .u8 (tt : Int), .int .u8 (P : Int), .int .u16 (id : Int), .int .u32 (s : Int), .int .u32 (d : Int), .slice da n dc] 27 (0, 0)) by rw [← hBX]; exact hp1_2)
  have NX : Hid (w.heap.size ≤ BX) := hide hw0.1
  have HR := hide (show V2.heap[BR]? = some (.cells #[.int .u8 0, .int .u8 0, .int .u16 0, .int .u32 0, .int .u32 0, .slice none 0 0] 27 (0, 0)) by rw [← hBR]; exact hp2_2)
  have NR : Hid (w.heap.size ≤ BR) := hide hw0.2
  have RP := hide (hLx.below hb2 (Nat.le_refl _))
  have HB := hide hb2
  have HE := hide (And.intro (And.intro trivial trivial) (And.intro hV1 ( And.intro hV2 (And.intro hBX ( And.intro hBR (trivial))))))
  clear hw0 hV1 hz1 hb1 hV2 hz2 hb2 hc2 hp1_1 hp1_2 hp2_2 hBX hBR hLx
  go_enter Try.func19, Try.ntmps19
  go_upto_region 1 with (fail)
  rw [HE.out.2.1]
  try rw [HE.out.2.2.1]
  try rw [HE.out.2.2.2.2.1]
  try rw [HE.out.2.2.2.1]
  clear HE
  go_wp2_with ((refine ld_whole (o := ⟨some 7, _, _, _, _, _⟩) 27 (.tmp 3) rfl (by rfl) BX rfl #[.int .u8 (tt : Int), .int .u8 (P : Int), .int .u16 (id : Int), .int .u32 (s : Int), .int .u32 (d : Int), .slice da n dc] 27 HX.out Try.underlying27 (by kernel_rfl) ?_; try simp only [Act.put, List.setIfInBounds_toArray, List.set_cons_zero, List.set_cons_succ]))
  refine (HT.out _ RP.out).mono ?_
  rintro e w1 ⟨rfl, b⟩
  replace HX := hide (below_block b HX.out (Nat.le_refl _))
  replace HR := hide (below_block b HR.out (Nat.le_refl _))
  replace RP := hide (RP.out.below b (Nat.le_refl _))
  replace HB := hide (HB.out.trans (b.mono HB.out.size))
  clear b 
  go_wp2_with ((refine st_part (o := ⟨none, _, _, _, _, _⟩) 27 (.tmp 4) (.tmp 9) rfl (by rfl) BR 0 rfl #[.int .u8 0, .int .u8 0, .int .u16 0, .int .u32 0, .int .u32 0, .slice none 0 0] 27 #[.int .u8 0, .int .u8 0, .int .u16 0, .int .u32 0, .int .u32 0, .slice none 0 0] rfl HR.out rfl (by kernel_rfl) (by kernel_rfl) HB.out NR.out ?_; rintro w9 w9h w9b w9o w9s; try simp only [Act.put, List.setIfInBounds_toArray, List.set_cons_zero, List.set_cons_succ]))
  rw [upd_whole (by rfl)] at w9h
  exact bodyPost_ret (v := .tuple #[.agg #[.int .u8 0, .int .u8 0, .int .u16 0, .int .u32 0, .int .u32 0, .slice none 0 0], .bool false]) (results_cell_tmp Try.results19 _ w9 BR _ _ _ _ rfl w9h Try.underlying27 rfl (by kernel_rfl) _ rfl) rfl ⟨rfl, w9b⟩
set_option maxHeartbeats 1600000 in
theorem exc_yes (w : World) (own : Nat) (M : Nat) (tt P id s d : Nat) (da : Option Addr) (xs : List Int) (n dc : Nat) (hLx : Lies w da xs n dc) (hl : xs.length = n) (hb : ∀ x ∈ xs, 0 ≤ x ∧ x ≤ 255) (ht : tt ≤ 255) (hP : P ≤ 255) (hid : id ≤ 65535) (hs : s ≤ 4294967295) (hd : d ≤ 4294967295) (hm : icMay P s d xs = true) (hM : M = min (20 + n) 28) :
    Calls Try.prog 19 #[.int .u32 (own : Int), .agg #[.int .u8 (tt : Int), .int .u8 (P : Int), .int .u16 (id : Int), .int .u32 (s : Int), .int .u32 (d : Int), .slice da n dc]] w fun e w' => ∃ a c,
      e = .returned (.tuple #[.agg #[.int .u8 64, .int .u8 1, .int .u16 0, .int .u32 (own : Int), .int .u32 (s : Int), .slice a (8 + M) c], .bool true]) ∧ w'.ownsRow w.heap.size 5 1 (.slice a (8 + M) c) (8 + M) ((icmpB 11 0 0 ((ipG tt P id s d xs).take M)).map (Value.int .u8)) ∧ Below w.heap.size w w' := by
  have HT := hide (fun (W : World) (hL : Lies W da xs n dc) => tell_yes W own 11 0 M tt P id s d da xs n dc hL hl hb ht hP hid hs hd hm hM (by omega) (by omega))
  clear hm hl hb hM
  obtain ⟨V1, hV1⟩ : ∃ V, w.alloc (.cells #[.int .u8 (tt : Int), .int .u8 (P : Int), .int .u16 (id : Int), .int .u32 (s : Int), .int .u32 (d : Int), .slice da n dc] 27) = V := ⟨_, rfl⟩
  obtain ⟨V2, hV2⟩ : ∃ V, V1.alloc (.cells #[.int .u8 0, .int .u8 0, .int .u16 0, .int .u32 0, .int .u32 0, .slice none 0 0] 27) = V := ⟨_, rfl⟩
  have hz1 : V1.heap.size = w.heap.size + 1 := by rw [← hV1]; simp
  have hz2 : V2.heap.size = w.heap.size + 1 + 1 := by rw [← hV2]; simp [hz1]
  have hb1 : Below w.heap.size w V1 := by rw [← hV1]; exact (Below.refl _ _).alloc (Nat.le_refl _) _
  have hc2 : Below V1.heap.size V1 V2 := by rw [← hV2]; exact (Below.refl _ _).alloc (Nat.le_refl _) _
  have hb2 := hb1.trans (hc2.mono hb1.size)
  have hp1_1 : V1.heap[w.heap.size]? = some (.cells #[.int .u8 (tt : Int), .int .u8 (P : Int), .int .u16 (id : Int), .int .u32 (s : Int), .int .u32 (d : Int), .slice da n dc] 27 (0, 0)) := by rw [← hV1]; exact heap_alloc_new _ _
  have hp1_2 := below_block hc2 hp1_1 (Nat.le_refl _)
  have hp2_2 : V2.heap[w.heap.size + 1]? = some (.cells #[.int .u8 0, .int .u8 0, .int .u16 0, .int .u32 0, .int .u32 0, .slice none 0 0] 27 (0, 0)) := by rw [← hV2, ← hz1]; exact heap_alloc_new _ _
  obtain ⟨BX, hBX⟩ : ∃ B, w.heap.size = B := ⟨_, rfl⟩
  obtain ⟨BR, hBR⟩ : ∃ B, w.heap.size + 1 = B := ⟨_, rfl⟩
  have hw0 : w.heap.size ≤ BX ∧ w.heap.size ≤ BR := by omega
  have HX := hide (show V2.heap[BX]? = some (.cells #[.int .u8 (tt : Int), .int .u8 (P : Int), .int .u16 (id : Int), .int .u32 (s : Int), .int .u32 (d : Int), .slice da n dc] 27 (0, 0)) by rw [← hBX]; exact hp1_2)
  have NX : Hid (w.heap.size ≤ BX) := hide hw0.1
  have HR := hide (show V2.heap[BR]? = some (.cells #[.int .u8 0, .int .u8 0, .int .u16 0, .int .u32 0, .int .u32 0, .slice none 0 0] 27 (0, 0)) by rw [← hBR]; exact hp2_2)
  have NR : Hid (w.heap.size ≤ BR) := hide hw0.2
  have RP := hide (hLx.below hb2 (Nat.le_refl _))
  have HB := hide hb2
  have HE := hide (And.intro (And.intro trivial trivial) (And.intro hV1 ( And.intro hV2 (And.intro hBX ( And.intro hBR (trivial))))))
  clear hw0 hV1 hz1 hb1 hV2 hz2 hb2 hc2 hp1_1 hp1_2 hp2_2 hBX hBR hLx
  go_enter Try.func19, Try.ntmps19
  go_upto_region 1 with (fail)
  rw [HE.out.2.1]
  try rw [HE.out.2.2.1]
  try rw [HE.out.2.2.2.2.1]
  try rw [HE.out.2.2.2.1]
  clear HE
  go_wp2_with ((refine ld_whole (o := ⟨some 7, _, _, _, _, _⟩) 27 (.tmp 3) rfl (by rfl) BX rfl #[.int .u8 (tt : Int), .int .u8 (P : Int), .int .u16 (id : Int), .int .u32 (s : Int), .int .u32 (d : Int), .slice da n dc] 27 HX.out Try.underlying27 (by kernel_rfl) ?_; try simp only [Act.put, List.setIfInBounds_toArray, List.set_cons_zero, List.set_cons_succ]))
  have ltZ_R := hide (lt_of_block HR.out)
  have lbZ := hide HB.out.size
  refine (HT.out _ RP.out).mono ?_
  rintro e w1 ⟨a, c, rfl, o, b⟩
  replace HX := hide (below_block b HX.out (Nat.le_refl _))
  replace HR := hide (below_block b HR.out (Nat.le_refl _))
  replace RP := hide (RP.out.below b (Nat.le_refl _))
  replace HB := hide (HB.out.trans (b.mono HB.out.size))
  have OZ := hide o
  clear b  o
  go_wp2_with ((refine st_part (o := ⟨none, _, _, _, _, _⟩) 27 (.tmp 4) (.tmp 9) rfl (by rfl) BR 0 rfl #[.int .u8 0, .int .u8 0, .int .u16 0, .int .u32 0, .int .u32 0, .slice none 0 0] 27 #[.int .u8 64, .int .u8 1, .int .u16 0, .int .u32 (own : Int), .int .u32 (s : Int), .slice a (8 + M) c] rfl HR.out rfl (by kernel_rfl) (by kernel_rfl) HB.out NR.out ?_; rintro w9 w9h w9b w9o w9s; try simp only [Act.put, List.setIfInBounds_toArray, List.set_cons_zero, List.set_cons_succ]))
  rw [upd_whole (by rfl)] at w9h
  exact bodyPost_ret (v := .tuple #[.agg #[.int .u8 64, .int .u8 1, .int .u16 0, .int .u32 (own : Int), .int .u32 (s : Int), .slice a (8 + M) c], .bool true]) (results_cell_tmp Try.results19 _ w9 BR _ _ _ _ rfl w9h Try.underlying27 rfl (by kernel_rfl) _ rfl) rfl ⟨a, c, rfl, owns_mono (owns_put OZ.out (gb_part HB.out w9b w9o w9s) ltZ_R.out) lbZ.out, w9b⟩
set_option maxHeartbeats 1600000 in
theorem unr_no (w : World) (own : Nat) (code : Nat) (tt P id s d : Nat) (da : Option Addr) (xs : List Int) (n dc : Nat) (hLx : Lies w da xs n dc) (hl : xs.length = n) (hb : ∀ x ∈ xs, 0 ≤ x ∧ x ≤ 255) (ht : tt ≤ 255) (hP : P ≤ 255) (hid : id ≤ 65535) (hs : s ≤ 4294967295) (hd : d ≤ 4294967295) (hm : icMay P s d xs = false) :
    Calls Try.prog 20 #[.int .u32 (own : Int), .agg #[.int .u8 (tt : Int), .int .u8 (P : Int), .int .u16 (id : Int), .int .u32 (s : Int), .int .u32 (d : Int), .slice da n dc], .int .u8 (code : Int)] w fun e w' => e = .returned (.tuple #[.agg #[.int .u8 0, .int .u8 0, .int .u16 0, .int .u32 0, .int .u32 0, .slice none 0 0], .bool false]) ∧ Below w.heap.size w w' := by
  have HT := hide (fun (W : World) (hL : Lies W da xs n dc) => tell_no W own 3 code tt P id s d da xs n dc hL hl hb ht hP hid hs hd hm)
  clear hm hl hb
  obtain ⟨V1, hV1⟩ : ∃ V, w.alloc (.cells #[.int .u8 (tt : Int), .int .u8 (P : Int), .int .u16 (id : Int), .int .u32 (s : Int), .int .u32 (d : Int), .slice da n dc] 27) = V := ⟨_, rfl⟩
  obtain ⟨V2, hV2⟩ : ∃ V, V1.alloc (.cells #[.int .u8 0, .int .u8 0, .int .u16 0, .int .u32 0, .int .u32 0, .slice none 0 0] 27) = V := ⟨_, rfl⟩
  have hz1 : V1.heap.size = w.heap.size + 1 := by rw [← hV1]; simp
  have hz2 : V2.heap.size = w.heap.size + 1 + 1 := by rw [← hV2]; simp [hz1]
  have hb1 : Below w.heap.size w V1 := by rw [← hV1]; exact (Below.refl _ _).alloc (Nat.le_refl _) _
  have hc2 : Below V1.heap.size V1 V2 := by rw [← hV2]; exact (Below.refl _ _).alloc (Nat.le_refl _) _
  have hb2 := hb1.trans (hc2.mono hb1.size)
  have hp1_1 : V1.heap[w.heap.size]? = some (.cells #[.int .u8 (tt : Int), .int .u8 (P : Int), .int .u16 (id : Int), .int .u32 (s : Int), .int .u32 (d : Int), .slice da n dc] 27 (0, 0)) := by rw [← hV1]; exact heap_alloc_new _ _
  have hp1_2 := below_block hc2 hp1_1 (Nat.le_refl _)
  have hp2_2 : V2.heap[w.heap.size + 1]? = some (.cells #[.int .u8 0, .int .u8 0, .int .u16 0, .int .u32 0, .int .u32 0, .slice none 0 0] 27 (0, 0)) := by rw [← hV2, ← hz1]; exact heap_alloc_new _ _
  obtain ⟨BX, hBX⟩ : ∃ B, w.heap.size = B := ⟨_, rfl⟩
  obtain ⟨BR, hBR⟩ : ∃ B, w.heap.size + 1 = B := ⟨_, rfl⟩
  have hw0 : w.heap.size ≤ BX ∧ w.heap.size ≤ BR := by omega
  have HX := hide (show V2.heap[BX]? = some (.cells #[.int .u8 (tt : Int), .int .u8 (P : Int), .int .u16 (id : Int), .int .u32 (s : Int), .int .u32 (d : Int), .slice da n dc] 27 (0, 0)) by rw [← hBX]; exact hp1_2)
  have NX : Hid (w.heap.size ≤ BX) := hide hw0.1
  have HR := hide (show V2.heap[BR]? = some (.cells #[.int .u8 0, .int .u8 0, .int .u16 0, .int .u32 0, .int .u32 0, .slice none 0 0] 27 (0, 0)) by rw [← hBR]; exact hp2_2)
  have NR : Hid (w.heap.size ≤ BR) := hide hw0.2
  have RP := hide (hLx.below hb2 (Nat.le_refl _))
  have HB := hide hb2
  have HE := hide (And.intro (And.intro trivial trivial) (And.intro hV1 ( And.intro hV2 (And.intro hBX ( And.intro hBR (trivial))))))
  clear hw0 hV1 hz1 hb1 hV2 hz2 hb2 hc2 hp1_1 hp1_2 hp2_2 hBX hBR hLx
  go_enter Try.func20, Try.ntmps20
  go_upto_region 1 with (fail)
  rw [HE.out.2.1]
  try rw [HE.out.2.2.1]
  try rw [HE.out.2.2.2.2.1]
  try rw [HE.out.2.2.2.1]
  clear HE
  go_wp2_with ((refine ld_whole (o := ⟨some 9, _, _, _, _, _⟩) 27 (.tmp 4) rfl (by rfl) BX rfl #[.int .u8 (tt : Int), .int .u8 (P : Int), .int .u16 (id : Int), .int .u32 (s : Int), .int .u32 (d : Int), .slice da n dc] 27 HX.out Try.underlying27 (by kernel_rfl) ?_; try simp only [Act.put, List.setIfInBounds_toArray, List.set_cons_zero, List.set_cons_succ]))
  refine (HT.out _ RP.out).mono ?_
  rintro e w1 ⟨rfl, b⟩
  replace HX := hide (below_block b HX.out (Nat.le_refl _))
  replace HR := hide (below_block b HR.out (Nat.le_refl _))
  replace RP := hide (RP.out.below b (Nat.le_refl _))
  replace HB := hide (HB.out.trans (b.mono HB.out.size))
  clear b 
  go_wp2_with ((refine st_part (o := ⟨none, _, _, _, _, _⟩) 27 (.tmp 6) (.tmp 12) rfl (by rfl) BR 0 rfl #[.int .u8 0, .int .u8 0, .int .u16 0, .int .u32 0, .int .u32 0, .slice none 0 0] 27 #[.int .u8 0, .int .u8 0, .int .u16 0, .int .u32 0, .int .u32 0, .slice none 0 0] rfl HR.out rfl (by kernel_rfl) (by kernel_rfl) HB.out NR.out ?_; rintro w9 w9h w9b w9o w9s; try simp only [Act.put, List.setIfInBounds_toArray, List.set_cons_zero, List.set_cons_succ]))
  rw [upd_whole (by rfl)] at w9h
  exact bodyPost_ret (v := .tuple #[.agg #[.int .u8 0, .int .u8 0, .int .u16 0, .int .u32 0, .int .u32 0, .slice none 0 0], .bool false]) (results_cell_tmp Try.results20 _ w9 BR _ _ _ _ rfl w9h Try.underlying27 rfl (by kernel_rfl) _ rfl) rfl ⟨rfl, w9b⟩
set_option maxHeartbeats 1600000 in
theorem unr_yes (w : World) (own : Nat) (code : Nat) (M : Nat) (tt P id s d : Nat) (da : Option Addr) (xs : List Int) (n dc : Nat) (hLx : Lies w da xs n dc) (hl : xs.length = n) (hb : ∀ x ∈ xs, 0 ≤ x ∧ x ≤ 255) (ht : tt ≤ 255) (hP : P ≤ 255) (hid : id ≤ 65535) (hs : s ≤ 4294967295) (hd : d ≤ 4294967295) (hm : icMay P s d xs = true) (hM : M = min (20 + n) 28) (hc : code ≤ 255) :
    Calls Try.prog 20 #[.int .u32 (own : Int), .agg #[.int .u8 (tt : Int), .int .u8 (P : Int), .int .u16 (id : Int), .int .u32 (s : Int), .int .u32 (d : Int), .slice da n dc], .int .u8 (code : Int)] w fun e w' => ∃ a c,
      e = .returned (.tuple #[.agg #[.int .u8 64, .int .u8 1, .int .u16 0, .int .u32 (own : Int), .int .u32 (s : Int), .slice a (8 + M) c], .bool true]) ∧ w'.ownsRow w.heap.size 5 1 (.slice a (8 + M) c) (8 + M) ((icmpB 3 code 0 ((ipG tt P id s d xs).take M)).map (Value.int .u8)) ∧ Below w.heap.size w w' := by
  have HT := hide (fun (W : World) (hL : Lies W da xs n dc) => tell_yes W own 3 code M tt P id s d da xs n dc hL hl hb ht hP hid hs hd hm hM (by omega) (by omega))
  clear hm hl hb hM
  obtain ⟨V1, hV1⟩ : ∃ V, w.alloc (.cells #[.int .u8 (tt : Int), .int .u8 (P : Int), .int .u16 (id : Int), .int .u32 (s : Int), .int .u32 (d : Int), .slice da n dc] 27) = V := ⟨_, rfl⟩
  obtain ⟨V2, hV2⟩ : ∃ V, V1.alloc (.cells #[.int .u8 0, .int .u8 0, .int .u16 0, .int .u32 0, .int .u32 0, .slice none 0 0] 27) = V := ⟨_, rfl⟩
  have hz1 : V1.heap.size = w.heap.size + 1 := by rw [← hV1]; simp
  have hz2 : V2.heap.size = w.heap.size + 1 + 1 := by rw [← hV2]; simp [hz1]
  have hb1 : Below w.heap.size w V1 := by rw [← hV1]; exact (Below.refl _ _).alloc (Nat.le_refl _) _
  have hc2 : Below V1.heap.size V1 V2 := by rw [← hV2]; exact (Below.refl _ _).alloc (Nat.le_refl _) _
  have hb2 := hb1.trans (hc2.mono hb1.size)
  have hp1_1 : V1.heap[w.heap.size]? = some (.cells #[.int .u8 (tt : Int), .int .u8 (P : Int), .int .u16 (id : Int), .int .u32 (s : Int), .int .u32 (d : Int), .slice da n dc] 27 (0, 0)) := by rw [← hV1]; exact heap_alloc_new _ _
  have hp1_2 := below_block hc2 hp1_1 (Nat.le_refl _)
  have hp2_2 : V2.heap[w.heap.size + 1]? = some (.cells #[.int .u8 0, .int .u8 0, .int .u16 0, .int .u32 0, .int .u32 0, .slice none 0 0] 27 (0, 0)) := by rw [← hV2, ← hz1]; exact heap_alloc_new _ _
  obtain ⟨BX, hBX⟩ : ∃ B, w.heap.size = B := ⟨_, rfl⟩
  obtain ⟨BR, hBR⟩ : ∃ B, w.heap.size + 1 = B := ⟨_, rfl⟩
  have hw0 : w.heap.size ≤ BX ∧ w.heap.size ≤ BR := by omega
  have HX := hide (show V2.heap[BX]? = some (.cells #[.int .u8 (tt : Int), .int .u8 (P : Int), .int .u16 (id : Int), .int .u32 (s : Int), .int .u32 (d : Int), .slice da n dc] 27 (0, 0)) by rw [← hBX]; exact hp1_2)
  have NX : Hid (w.heap.size ≤ BX) := hide hw0.1
  have HR := hide (show V2.heap[BR]? = some (.cells #[.int .u8 0, .int .u8 0, .int .u16 0, .int .u32 0, .int .u32 0, .slice none 0 0] 27 (0, 0)) by rw [← hBR]; exact hp2_2)
  have NR : Hid (w.heap.size ≤ BR) := hide hw0.2
  have RP := hide (hLx.below hb2 (Nat.le_refl _))
  have HB := hide hb2
  have HE := hide (And.intro (And.intro trivial trivial) (And.intro hV1 ( And.intro hV2 (And.intro hBX ( And.intro hBR (trivial))))))
  clear hw0 hV1 hz1 hb1 hV2 hz2 hb2 hc2 hp1_1 hp1_2 hp2_2 hBX hBR hLx
  go_enter Try.func20, Try.ntmps20
  go_upto_region 1 with (fail)
  rw [HE.out.2.1]
  try rw [HE.out.2.2.1]
  try rw [HE.out.2.2.2.2.1]
  try rw [HE.out.2.2.2.1]
  clear HE
  go_wp2_with ((refine ld_whole (o := ⟨some 9, _, _, _, _, _⟩) 27 (.tmp 4) rfl (by rfl) BX rfl #[.int .u8 (tt : Int), .int .u8 (P : Int), .int .u16 (id : Int), .int .u32 (s : Int), .int .u32 (d : Int), .slice da n dc] 27 HX.out Try.underlying27 (by kernel_rfl) ?_; try simp only [Act.put, List.setIfInBounds_toArray, List.set_cons_zero, List.set_cons_succ]))
  have ltZ_R := hide (lt_of_block HR.out)
  have lbZ := hide HB.out.size
  refine (HT.out _ RP.out).mono ?_
  rintro e w1 ⟨a, c, rfl, o, b⟩
  replace HX := hide (below_block b HX.out (Nat.le_refl _))
  replace HR := hide (below_block b HR.out (Nat.le_refl _))
  replace RP := hide (RP.out.below b (Nat.le_refl _))
  replace HB := hide (HB.out.trans (b.mono HB.out.size))
  have OZ := hide o
  clear b  o
  go_wp2_with ((refine st_part (o := ⟨none, _, _, _, _, _⟩) 27 (.tmp 6) (.tmp 12) rfl (by rfl) BR 0 rfl #[.int .u8 0, .int .u8 0, .int .u16 0, .int .u32 0, .int .u32 0, .slice none 0 0] 27 #[.int .u8 64, .int .u8 1, .int .u16 0, .int .u32 (own : Int), .int .u32 (s : Int), .slice a (8 + M) c] rfl HR.out rfl (by kernel_rfl) (by kernel_rfl) HB.out NR.out ?_; rintro w9 w9h w9b w9o w9s; try simp only [Act.put, List.setIfInBounds_toArray, List.set_cons_zero, List.set_cons_succ]))
  rw [upd_whole (by rfl)] at w9h
  exact bodyPost_ret (v := .tuple #[.agg #[.int .u8 64, .int .u8 1, .int .u16 0, .int .u32 (own : Int), .int .u32 (s : Int), .slice a (8 + M) c], .bool true]) (results_cell_tmp Try.results20 _ w9 BR _ _ _ _ rfl w9h Try.underlying27 rfl (by kernel_rfl) _ rfl) rfl ⟨a, c, rfl, owns_mono (owns_put OZ.out (gb_part HB.out w9b w9o w9s) ltZ_R.out) lbZ.out, w9b⟩
end Go.Proofs.Ytgggcapgaikbeaa

/- Small laws for walks that are written step by step. -/
namespace Go.Proofs.Ytgggcapgaikbeaa
open Go.RowKit
set_option linter.unusedVariables false
set_option linter.unusedSimpArgs false
set_option maxRecDepth 100000
theorem own_ne_lt {w : World} {base L n : Nat} {v : Value} {xs : List Value} (h : w.ownsRow base 5 1 v n xs) (hL : L < base) : v.ownBlock ≠ some L := fun e => by have := (h.lt L e).1; omega
theorem owns_kept {w w' : World} {base g : Nat} {v : Value} {n : Nat} {xs : List Value} (h : w.ownsRow base 5 1 v n xs) (hg : w.grownBy w' (some g)) (hne : v.ownBlock ≠ some g) : w'.ownsRow base 5 1 v n xs := h.kept hg (.inr hne)
theorem blk_ne {w : World} {g B : Nat} {o : Obj} (h : w.heap[g]? = some o) (hB : w.heap.size = B) : g ≠ B := by have := lt_of_block h; omega
theorem set1 {W w0 : World} {B i N : Nat} {T : TypeId} {c c' : Array Value} (v : Value) (h : W.heap[B]? = some (.cells c T (0, 0))) (hB : Below N w0 W) (hN : N ≤ B) (hu : upd c i [v] = c') : ∃ V, W.setCell ⟨B, i, none⟩ v = V ∧ V.heap[B]? = some (.cells c' T (0, 0)) ∧ Below N w0 V ∧ (∀ k, k ≠ B → V.heap[k]? = W.heap[k]?) ∧ V.heap.size = W.heap.size := by
  have h1 := heap_setCells B T [v] i W c h
  rw [hu] at h1
  exact ⟨_, rfl, h1, below_setCells B hN [v] i W hB, fun k hk => setCells_other B [v] i W k hk, setCells_size B [v] i W⟩
end Go.Proofs.Ytgggcapgaikbeaa
