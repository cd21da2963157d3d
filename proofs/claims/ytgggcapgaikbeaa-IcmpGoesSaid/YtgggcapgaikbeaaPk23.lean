/- An error that tells of a packet: between which ends it goes. No program is named. -/
import Derived.Test.YtgggcapgaikbeaaPk20
import Derived.Test.YtgggcapgaikbeaaPk12
namespace Go.Proofs.Ytgggcapgaikbeaa
open Go.RowKit
set_option linter.unusedVariables false
set_option linter.unusedSimpArgs false
set_option maxRecDepth 100000
theorem ipG_eq (tt P id s d : Nat) (xs : List Int) : ∃ K, ipG tt P id s d xs = [69, 0] ++ (numB 2 (20 + xs.length) ++ (numB 2 id ++ ([64, 0, (tt : Int), (P : Int)] ++ (numB 2 K ++ (numB 4 s ++ (numB 4 d ++ xs)))))) := ⟨ipK tt P id s d xs.length, by unfold ipG ipH; simp only [List.append_assoc]⟩
theorem ipG_f0 (tt P id s d : Nat) (xs : List Int) : fld (ipG tt P id s d xs) 0 1 = 69 := by
  obtain ⟨K, h⟩ := ipG_eq tt P id s d xs
  rw [h]; exact fld_byte 69 _
theorem ipG_f6 (tt P id s d : Nat) (xs : List Int) : fld (ipG tt P id s d xs) 6 2 % 8192 = 0 := by
  obtain ⟨K, h⟩ := ipG_eq tt P id s d xs
  rw [h, fld_skip _ _ 4 2 2 (by rfl), fld_skip _ _ 2 2 2 (numB_len _ _), fld_skip _ _ 0 2 2 (numB_len _ _)]
  have e : fld ([64, 0, (tt : Int), (P : Int)] ++ (numB 2 K ++ (numB 4 s ++ (numB 4 d ++ xs)))) 0 2 = 16384 := by unfold fld valB; simp
  rw [e]
theorem ipG_f9 (tt P id s d : Nat) (xs : List Int) : fld (ipG tt P id s d xs) 9 1 = P := by
  obtain ⟨K, h⟩ := ipG_eq tt P id s d xs
  rw [h, fld_skip _ _ 7 2 1 (by rfl), fld_skip _ _ 5 2 1 (numB_len _ _), fld_skip _ _ 3 2 1 (numB_len _ _), show ([64, 0, (tt : Int), (P : Int)] ++ (numB 2 K ++ (numB 4 s ++ (numB 4 d ++ xs)))) = [64, 0, (tt : Int)] ++ ((P : Int) :: (numB 2 K ++ (numB 4 s ++ (numB 4 d ++ xs)))) from rfl, fld_skip _ _ 0 3 1 (by rfl)]
  exact fld_byte P _
theorem ipG_f12 (tt P id s d : Nat) (xs : List Int) (hs : s ≤ 4294967295) : fld (ipG tt P id s d xs) 12 4 = s := by
  obtain ⟨K, h⟩ := ipG_eq tt P id s d xs
  rw [h, fld_skip _ _ 10 2 4 (by rfl), fld_skip _ _ 8 2 4 (numB_len _ _), fld_skip _ _ 6 2 4 (numB_len _ _), fld_skip _ _ 2 4 4 (by rfl), fld_skip _ _ 0 2 4 (numB_len _ _), fld_num 4 s _ (by omega)]
theorem ipG_f16 (tt P id s d : Nat) (xs : List Int) (hd : d ≤ 4294967295) : fld (ipG tt P id s d xs) 16 4 = d := by
  obtain ⟨K, h⟩ := ipG_eq tt P id s d xs
  rw [h, fld_skip _ _ 14 2 4 (by rfl), fld_skip _ _ 12 2 4 (numB_len _ _), fld_skip _ _ 10 2 4 (numB_len _ _), fld_skip _ _ 6 4 4 (by rfl), fld_skip _ _ 4 2 4 (numB_len _ _), fld_skip _ _ 0 4 4 (numB_len _ _), fld_num 4 d _ (by omega)]
theorem ipG_fb (tt P id s d : Nat) (xs : List Int) (j k : Nat) : fld (ipG tt P id s d xs) (20 + j) k = fld xs j k := by
  obtain ⟨K, h⟩ := ipG_eq tt P id s d xs
  rw [h, show 20 + j = 2 + (2 + (2 + (4 + (2 + (4 + (4 + j)))))) by omega, fld_skip _ _ _ 2 k (by rfl), fld_skip _ _ _ 2 k (numB_len _ _), fld_skip _ _ _ 2 k (numB_len _ _), fld_skip _ _ _ 4 k (by rfl), fld_skip _ _ _ 2 k (numB_len _ _), fld_skip _ _ _ 4 k (numB_len _ _), fld_skip _ _ j 4 k (numB_len _ _)]
theorem fld_cut (xs : List Int) (M K k : Nat) (h : K + k ≤ M) : fld (xs.take M) K k = fld xs K k := by
  unfold fld
  rw [List.drop_take, List.take_take, Nat.min_eq_left (by omega)]
/-- The beginning of a packet tells its flow. -/
theorem tell_flow (tt P id s d : Nat) (xs : List Int) (M : Nat) (hb : ∀ x ∈ xs, 0 ≤ x ∧ x ≤ 255) (hs : s ≤ 4294967295) (hd : d ≤ 4294967295) (he : ofErr P s d xs = 0) (hk : ofKind P s d xs ≠ 3) (h28 : 28 ≤ M) (hM : M ≤ 20 + xs.length) :
    tok ((ipG tt P id s d xs).take M) M = true ∧ tfl ((ipG tt P id s d xs).take M) M = ofFl P s d xs := by
  have c0 := (fld_cut (ipG tt P id s d xs) M 0 1 (by omega)).trans (ipG_f0 tt P id s d xs)
  have c6 : fld ((ipG tt P id s d xs).take M) 6 2 % 8192 = 0 := by rw [fld_cut _ M 6 2 (by omega)]; exact ipG_f6 tt P id s d xs
  have c9 := (fld_cut (ipG tt P id s d xs) M 9 1 (by omega)).trans (ipG_f9 tt P id s d xs)
  have c12 := (fld_cut (ipG tt P id s d xs) M 12 4 (by omega)).trans (ipG_f12 tt P id s d xs hs)
  have c16 := (fld_cut (ipG tt P id s d xs) M 16 4 (by omega)).trans (ipG_f16 tt P id s d xs hd)
  have c20 := (fld_cut (ipG tt P id s d xs) M 20 2 (by omega)).trans (ipG_fb tt P id s d xs 0 2)
  have c22 := (fld_cut (ipG tt P id s d xs) M 22 2 (by omega)).trans (ipG_fb tt P id s d xs 2 2)
  have c20' := (fld_cut (ipG tt P id s d xs) M 20 1 (by omega)).trans (ipG_fb tt P id s d xs 0 1)
  have c21 := (fld_cut (ipG tt P id s d xs) M 21 1 (by omega)).trans (ipG_fb tt P id s d xs 1 1)
  have c24 := (fld_cut (ipG tt P id s d xs) M 24 2 (by omega)).trans (ipG_fb tt P id s d xs 4 2)
  have hth : thead ((ipG tt P id s d xs).take M) M = true := by unfold thead; rw [c0, c6]; simp [h28]
  unfold tok tfl tins tfrom tto
  rw [hth, c9, c12, c16, c20, c22, c20', c21, c24, if_pos rfl]
  unfold ofErr at he
  unfold ofKind at hk
  unfold ofFl
  have he2 : ofErr P s d xs = 0 := he
  rw [if_pos he2] at hk
  rw [if_pos he2]
  by_cases h6 : P = 6
  · subst h6
    rw [if_pos rfl] at he
    rw [if_pos (by omega), if_pos (by omega), if_pos (by omega), if_pos rfl]
    unfold segOf
    rw [if_pos he]
    exact ⟨rfl, rfl⟩
  rw [if_neg h6] at he
  by_cases h17 : P = 17
  · subst h17
    rw [if_pos rfl] at he
    rw [if_pos (by omega), if_pos (by omega), if_pos (by omega), if_neg (by omega), if_pos rfl]
    unfold dgmOf
    rw [if_pos he]
    exact ⟨rfl, rfl⟩
  rw [if_neg h17] at he
  by_cases h1 : P = 1
  · subst h1
    rw [if_pos rfl] at he
    rw [if_neg (by omega)] at hk
    have n6 : ((1 : Nat) = 6) = False := by simp
    have n17 : ((1 : Nat) = 17) = False := by simp
    simp only [n6, n17, or_self, if_false, if_true]
    unfold icErr at he
    by_cases hc : msgCode xs = 0
    · rw [if_pos hc] at he
      have hl : 8 ≤ xs.length := by
        unfold msgCode at hc
        split at hc
        · omega
        · omega
      unfold icKind at hk
      rw [if_pos hc] at hk
      unfold icFl msgFl
      rw [if_pos hc]
      unfold msgKind at hk
      unfold msgOk at he
      have hE : isErr (msgOf xs).p = false := by
        cases hh : isErr (msgOf xs).p with
        | false => rfl
        | true => rw [hh] at hk; simp at hk
      rw [hE] at he ⊢
      have hq : qok (msgOf xs).p (msgOf xs).q = true := by
        by_cases hh : qok (msgOf xs).p (msgOf xs).q = true
        · exact hh
        · simp [hh] at he
      have h4 := fld_four xs 4 hb (by omega)
      have h2 : fld xs (4 + 2) 2 < 65536 := fld_lt xs (4 + 2) 2 hb
      have hr : fld xs 4 4 / 65536 = fld xs 4 2 := by omega
      simp only [Bool.false_eq_true, if_false]
      unfold msgOf at hq ⊢
      rw [if_pos hc] at hq ⊢
      dsimp only at hq ⊢
      rw [hr]
      exact ⟨hq, rfl⟩
    · rw [if_neg hc] at he; exact absurd he hc
  · rw [if_neg h1] at he; omega
/-- A packet that carries an error is one of which none is told. -/
theorem kind_may (P s d : Nat) (xs : List Int) (he : ofErr P s d xs = 0) (hk : ofKind P s d xs = 3) : P = 1 ∧ msgCode xs = 0 ∧ isErr (msgOf xs).p = true := by
  unfold ofKind at hk
  rw [if_pos he] at hk
  unfold ofErr at he
  by_cases h6 : P = 6
  · rw [if_pos (.inl h6)] at hk; omega
  by_cases h17 : P = 17
  · rw [if_pos (.inr h17)] at hk; omega
  rw [if_neg (by omega)] at hk
  rw [if_neg h6, if_neg h17] at he
  by_cases h1 : P = 1
  · rw [if_pos h1] at he
    unfold icErr at he
    by_cases hc : msgCode xs = 0
    · unfold icKind msgKind at hk
      rw [if_pos hc] at hk
      refine ⟨h1, hc, ?_⟩
      cases hh : isErr (msgOf xs).p with
      | true => rfl
      | false => rw [hh] at hk; simp at hk
    · rw [if_neg hc] at he; exact absurd he hc
  · rw [if_neg h1] at he; omega
/-- An error's own flow. -/
theorem err_of (k code s d : Nat) (data : List Int) (M : Nat) (hke : isErr k = true) (hk : k ≤ 255) (hc : code ≤ 255) (hb : ∀ x ∈ data, 0 ≤ x ∧ x ≤ 255) (hl : data.length = M) (hM : M ≤ 1472) (ht : tok data M = true) :
    ofErr 1 s d (icmpB k code 0 data) = 0 ∧ ofKind 1 s d (icmpB k code 0 data) = 3 ∧ ofFl 1 s d (icmpB k code 0 data) = (tfl data M).turn := by
  have h1 := icmpB_code k code 0 data hk hc hb (by omega)
  have h2 := icmpB_of k code 0 data hk hc (by omega) hb (by omega)
  have e1 : icErr (icmpB k code 0 data) = 0 := by unfold icErr msgOk; rw [if_pos h1, h2]; dsimp only; rw [hke, hl, ht]; rfl
  have e2 : ofErr 1 s d (icmpB k code 0 data) = 0 := by unfold ofErr; rw [if_neg (by omega), if_neg (by omega), if_pos rfl, e1]
  refine ⟨e2, ?_, ?_⟩
  · unfold ofKind
    rw [e2, if_pos rfl, if_neg (by omega)]
    unfold icKind msgKind
    rw [if_pos h1, h2]
    dsimp only
    rw [hke]; rfl
  · unfold ofFl
    rw [e2, if_pos rfl, if_neg (by omega), if_neg (by omega)]
    unfold icFl msgFl
    rw [if_pos h1, h2]
    dsimp only
    rw [hke, hl]; rfl
end Go.Proofs.Ytgggcapgaikbeaa

/- The law of icmp's answers: where an error goes. -/
namespace Go.Proofs.Ytgggcapgaikbeaa
open Go.RowKit
set_option linter.unusedVariables false
set_option linter.unusedSimpArgs false
set_option maxRecDepth 100000
theorem turn5 (w : World) (yp ys yd yf yt : Nat) : Calls Try.prog 17 #[.agg #[.int .u8 (yp : Int), .int .u32 (ys : Int), .int .u32 (yd : Int), .int .u16 (yf : Int), .int .u16 (yt : Int)]] w fun e w' => e = .returned (.agg #[.int .u8 (yp : Int), .int .u32 (yd : Int), .int .u32 (ys : Int), .int .u16 (yt : Int), .int .u16 (yf : Int)]) ∧ Below w.heap.size w w' := turnP_any ⟨yp, ys, yd, yf, yt⟩ w
set_option maxHeartbeats 1600000 in
theorem icmpGoes_long (w : World) (own code tt P id s d : Nat) (da : Option Addr) (n dc : Nat) (hn : 3000 < n) :
    Calls Try.prog 7 #[.int .u32 (own : Int), .agg #[.int .u8 (tt : Int), .int .u8 (P : Int), .int .u16 (id : Int), .int .u32 (s : Int), .int .u32 (d : Int), .slice da n dc], .int .u8 (code : Int)] w fun e w' => e = .returned (.bool true) ∧ Below w.heap.size w w' := by
  have hd3 : decide ((3000 : Int) < (n : Int)) = true := by simp; omega
  obtain ⟨V1, hV1⟩ : ∃ V, w.alloc (.cells #[.int .u8 (tt : Int), .int .u8 (P : Int), .int .u16 (id : Int), .int .u32 (s : Int), .int .u32 (d : Int), .slice da n dc] 27) = V := ⟨_, rfl⟩
  have hz1 : V1.heap.size = w.heap.size + 1 := by rw [← hV1]; simp
  have hb1 : Below w.heap.size w V1 := by rw [← hV1]; exact (Below.refl _ _).alloc (Nat.le_refl _) _
  have hp1_1 : V1.heap[w.heap.size]? = some (.cells #[.int .u8 (tt : Int), .int .u8 (P : Int), .int .u16 (id : Int), .int .u32 (s : Int), .int .u32 (d : Int), .slice da n dc] 27 (0, 0)) := by rw [← hV1]; exact heap_alloc_new _ _
  obtain ⟨BX, hBX⟩ : ∃ B, w.heap.size = B := ⟨_, rfl⟩
  have hw0 : w.heap.size ≤ BX := by omega
  have HX := hide (show V1.heap[BX]? = some (.cells #[.int .u8 (tt : Int), .int .u8 (P : Int), .int .u16 (id : Int), .int .u32 (s : Int), .int .u32 (d : Int), .slice da n dc] 27 (0, 0)) by rw [← hBX]; exact hp1_1)
  have NX : Hid (w.heap.size ≤ BX) := hide hw0
  have HB := hide hb1
  have HE := hide (And.intro (And.intro trivial trivial) (And.intro hV1 (And.intro hBX (trivial))))
  clear hw0 hV1 hz1 hb1  hp1_1 hBX 
  go_enter Try.func7, Try.ntmps7
  go_upto_region 1 with (fail)
  rw [HE.out.2.1]
  try rw [HE.out.2.2.1]
  clear HE
  go_wp2_with fail
  refine (speaks13 _).mono ?_
  rintro e w1 ⟨rfl, b⟩
  replace HX := hide (below_block b HX.out (Nat.le_refl _))
  replace HB := hide (HB.out.trans (b.mono HB.out.size))
  clear b 
  have qX_5 : w1.cell? ⟨BX, 5, none⟩ = some (.slice da n dc) := cell_at HX.out 5 rfl
  go_wp2_with fail
  go_ret
  exact ⟨rfl, HB.out⟩
set_option maxHeartbeats 4000000 in
theorem icmpGoes_err (w : World) (own code : Nat) (tt P id s d : Nat) (da : Option Addr) (xs : List Int) (n dc : Nat) (hLx : Lies w da xs n dc) (hl : xs.length = n) (hb : ∀ x ∈ xs, 0 ≤ x ∧ x ≤ 255) (ht : tt ≤ 255) (hP : P ≤ 255) (hid : id ≤ 65535) (hs : s ≤ 4294967295) (hd : d ≤ 4294967295) (hc : code ≤ 255) (hn : ¬ 3000 < n) (he : ofErr P s d xs ≠ 0) :
    Calls Try.prog 7 #[.int .u32 (own : Int), .agg #[.int .u8 (tt : Int), .int .u8 (P : Int), .int .u16 (id : Int), .int .u32 (s : Int), .int .u32 (d : Int), .slice da n dc], .int .u8 (code : Int)] w fun e w' => e = .returned (.bool true) ∧ Below w.heap.size w w' := by
  have hd3 : decide ((3000 : Int) < (n : Int)) = false := by simp; omega
  have HOF := hide (fun (W : World) (hL : Lies W da xs n dc) => of_any W (tt : Int) (id : Int) P s d da n dc xs hL hl hb hs hd)
  have hee : (((ofErr P s d xs : Nat) : Int) != 0) = true := (ne_dec _ 0).trans (by simpa using he)
  generalize ((ofErr P s d xs : Nat) : Int) = er at *
  generalize ofKind P s d xs = kk at *
  generalize ofFl P s d xs = y at *
  obtain ⟨yp, ys, yd, yf, yt⟩ := y
  unfold Fl.v at HOF
  dsimp only at HOF
  clear hl hb hn he
  obtain ⟨V1, hV1⟩ : ∃ V, w.alloc (.cells #[.int .u8 (tt : Int), .int .u8 (P : Int), .int .u16 (id : Int), .int .u32 (s : Int), .int .u32 (d : Int), .slice da n dc] 27) = V := ⟨_, rfl⟩
  have hz1 : V1.heap.size = w.heap.size + 1 := by rw [← hV1]; simp
  have hb1 : Below w.heap.size w V1 := by rw [← hV1]; exact (Below.refl _ _).alloc (Nat.le_refl _) _
  have hp1_1 : V1.heap[w.heap.size]? = some (.cells #[.int .u8 (tt : Int), .int .u8 (P : Int), .int .u16 (id : Int), .int .u32 (s : Int), .int .u32 (d : Int), .slice da n dc] 27 (0, 0)) := by rw [← hV1]; exact heap_alloc_new _ _
  obtain ⟨BX, hBX⟩ : ∃ B, w.heap.size = B := ⟨_, rfl⟩
  have hw0 : w.heap.size ≤ BX := by omega
  have HX := hide (show V1.heap[BX]? = some (.cells #[.int .u8 (tt : Int), .int .u8 (P : Int), .int .u16 (id : Int), .int .u32 (s : Int), .int .u32 (d : Int), .slice da n dc] 27 (0, 0)) by rw [← hBX]; exact hp1_1)
  have NX : Hid (w.heap.size ≤ BX) := hide hw0
  have AP := hide hLx
  have RP := hide (hLx.below hb1 (Nat.le_refl _))
  have HB := hide hb1
  have HE := hide (And.intro (And.intro trivial trivial) (And.intro hV1 (And.intro hBX (trivial))))
  clear hw0 hV1 hz1 hb1  hp1_1 hBX hLx
  go_enter Try.func7, Try.ntmps7
  go_upto_region 1 with (fail)
  rw [HE.out.2.1]
  try rw [HE.out.2.2.1]
  clear HE
  go_wp2_with fail
  refine (speaks13 _).mono ?_
  rintro e w1 ⟨rfl, b⟩
  replace HX := hide (below_block b HX.out (Nat.le_refl _))
  replace RP := hide (RP.out.below b (Nat.le_refl _))
  replace HB := hide (HB.out.trans (b.mono HB.out.size))
  clear b 
  have qX_5 : w1.cell? ⟨BX, 5, none⟩ = some (.slice da n dc) := cell_at HX.out 5 rfl
  go_upto_region 5 with (fail)
  clear qX_5
  go_wp2_with ((refine ld_whole (o := ⟨some 24, _, _, _, _, _⟩) 27 (.tmp 4) rfl (by rfl) BX rfl #[.int .u8 (tt : Int), .int .u8 (P : Int), .int .u16 (id : Int), .int .u32 (s : Int), .int .u32 (d : Int), .slice da n dc] 27 HX.out Try.underlying27 (by kernel_rfl) ?_; try simp only [Act.put, List.setIfInBounds_toArray, List.set_cons_zero, List.set_cons_succ]))
  refine (HOF.out _ RP.out).mono ?_
  rintro e w2 ⟨rfl, b⟩
  replace HX := hide (below_block b HX.out (Nat.le_refl _))
  replace RP := hide (RP.out.below b (Nat.le_refl _))
  replace HB := hide (HB.out.trans (b.mono HB.out.size))
  clear b 
  obtain ⟨w3, hwn, wb, HN1⟩ : ∃ W, w2.alloc (.cells #[.int .u8 (yp : Int), .int .u32 (ys : Int), .int .u32 (yd : Int), .int .u16 (yf : Int), .int .u16 (yt : Int)] 29) = W ∧ Below w2.heap.size w2 W ∧ Hid (W.heap[w2.heap.size]? = some (.cells #[.int .u8 (yp : Int), .int .u32 (ys : Int), .int .u32 (yd : Int), .int .u16 (yf : Int), .int .u16 (yt : Int)] 29 (0, 0))) := ⟨_, rfl, (Below.refl w2.heap.size w2).alloc (Nat.le_refl _) _, hide (heap_alloc_new w2 _)⟩
  obtain ⟨BF, hBn⟩ : ∃ B, w2.heap.size = B := ⟨_, rfl⟩
  rw [hBn] at HN1
  have HW := hide (And.intro hwn hBn)
  have HBo := HB
  have nqX_F := hide (blk_ne HX.out hBn)
  clear hwn hBn
  replace HX := hide (below_block wb HX.out (Nat.le_refl _))
  replace RP := hide (RP.out.below wb (Nat.le_refl _))
  replace HB := hide (HB.out.trans (wb.mono HB.out.size))
  have HF := HN1
  have NF := hide (show w.heap.size ≤ BF by rw [← HW.out.2]; exact HBo.out.size)
  clear wb HN1 HBo
  go_upto_region 6 with (fail)
  rw [HW.out.1]
  try rw [HW.out.2]
  clear HW
  go_wp2_with fail
  go_ret
  exact ⟨rfl, HB.out⟩
set_option maxHeartbeats 4000000 in
theorem icmpGoes_k3 (w : World) (own code : Nat) (tt P id s d : Nat) (da : Option Addr) (xs : List Int) (n dc : Nat) (hLx : Lies w da xs n dc) (hl : xs.length = n) (hb : ∀ x ∈ xs, 0 ≤ x ∧ x ≤ 255) (ht : tt ≤ 255) (hP : P ≤ 255) (hid : id ≤ 65535) (hs : s ≤ 4294967295) (hd : d ≤ 4294967295) (hc : code ≤ 255) (hn : ¬ 3000 < n) (he : ofErr P s d xs = 0) (hk : ofKind P s d xs = 3) (hm : icMay P s d xs = false) :
    Calls Try.prog 7 #[.int .u32 (own : Int), .agg #[.int .u8 (tt : Int), .int .u8 (P : Int), .int .u16 (id : Int), .int .u32 (s : Int), .int .u32 (d : Int), .slice da n dc], .int .u8 (code : Int)] w fun e w' => e = .returned (.bool true) ∧ Below w.heap.size w w' := by
  have hd3 : decide ((3000 : Int) < (n : Int)) = false := by simp; omega
  have HOF := hide (fun (W : World) (hL : Lies W da xs n dc) => of_any W (tt : Int) (id : Int) P s d da n dc xs hL hl hb hs hd)
  rw [he] at HOF
  have HT := hide (fun (W : World) (hL : Lies W da xs n dc) => unr_no W own code tt P id s d da xs n dc hL hl hb ht hP hid hs hd hm)
  have HMA := hide (fun (W : World) (hL : Lies W da xs n dc) => may_any W tt P id s d da xs n dc hL hl hb ht hP hid hs hd)
  rw [hm] at HMA
  have hkk : (ofKind P s d xs == 3) = true := by simp [hk]
  generalize ofKind P s d xs = kk at *
  generalize ofFl P s d xs = y at *
  obtain ⟨yp, ys, yd, yf, yt⟩ := y
  unfold Fl.v at HOF
  dsimp only at HOF
  clear hl hb hn he hm hk
  obtain ⟨V1, hV1⟩ : ∃ V, w.alloc (.cells #[.int .u8 (tt : Int), .int .u8 (P : Int), .int .u16 (id : Int), .int .u32 (s : Int), .int .u32 (d : Int), .slice da n dc] 27) = V := ⟨_, rfl⟩
  have hz1 : V1.heap.size = w.heap.size + 1 := by rw [← hV1]; simp
  have hb1 : Below w.heap.size w V1 := by rw [← hV1]; exact (Below.refl _ _).alloc (Nat.le_refl _) _
  have hp1_1 : V1.heap[w.heap.size]? = some (.cells #[.int .u8 (tt : Int), .int .u8 (P : Int), .int .u16 (id : Int), .int .u32 (s : Int), .int .u32 (d : Int), .slice da n dc] 27 (0, 0)) := by rw [← hV1]; exact heap_alloc_new _ _
  obtain ⟨BX, hBX⟩ : ∃ B, w.heap.size = B := ⟨_, rfl⟩
  have hw0 : w.heap.size ≤ BX := by omega
  have HX := hide (show V1.heap[BX]? = some (.cells #[.int .u8 (tt : Int), .int .u8 (P : Int), .int .u16 (id : Int), .int .u32 (s : Int), .int .u32 (d : Int), .slice da n dc] 27 (0, 0)) by rw [← hBX]; exact hp1_1)
  have NX : Hid (w.heap.size ≤ BX) := hide hw0
  have AP := hide hLx
  have RP := hide (hLx.below hb1 (Nat.le_refl _))
  have HB := hide hb1
  have HE := hide (And.intro (And.intro trivial trivial) (And.intro hV1 (And.intro hBX (trivial))))
  clear hw0 hV1 hz1 hb1  hp1_1 hBX hLx
  go_enter Try.func7, Try.ntmps7
  go_upto_region 1 with (fail)
  rw [HE.out.2.1]
  try rw [HE.out.2.2.1]
  clear HE
  go_wp2_with fail
  refine (speaks13 _).mono ?_
  rintro e w1 ⟨rfl, b⟩
  replace HX := hide (below_block b HX.out (Nat.le_refl _))
  replace RP := hide (RP.out.below b (Nat.le_refl _))
  replace HB := hide (HB.out.trans (b.mono HB.out.size))
  clear b 
  have qX_5 : w1.cell? ⟨BX, 5, none⟩ = some (.slice da n dc) := cell_at HX.out 5 rfl
  go_upto_region 5 with (fail)
  clear qX_5
  go_wp2_with ((refine ld_whole (o := ⟨some 24, _, _, _, _, _⟩) 27 (.tmp 4) rfl (by rfl) BX rfl #[.int .u8 (tt : Int), .int .u8 (P : Int), .int .u16 (id : Int), .int .u32 (s : Int), .int .u32 (d : Int), .slice da n dc] 27 HX.out Try.underlying27 (by kernel_rfl) ?_; try simp only [Act.put, List.setIfInBounds_toArray, List.set_cons_zero, List.set_cons_succ]))
  refine (HOF.out _ RP.out).mono ?_
  rintro e w2 ⟨rfl, b⟩
  replace HX := hide (below_block b HX.out (Nat.le_refl _))
  replace RP := hide (RP.out.below b (Nat.le_refl _))
  replace HB := hide (HB.out.trans (b.mono HB.out.size))
  clear b 
  obtain ⟨w3, hwn, wb, HN1⟩ : ∃ W, w2.alloc (.cells #[.int .u8 (yp : Int), .int .u32 (ys : Int), .int .u32 (yd : Int), .int .u16 (yf : Int), .int .u16 (yt : Int)] 29) = W ∧ Below w2.heap.size w2 W ∧ Hid (W.heap[w2.heap.size]? = some (.cells #[.int .u8 (yp : Int), .int .u32 (ys : Int), .int .u32 (yd : Int), .int .u16 (yf : Int), .int .u16 (yt : Int)] 29 (0, 0))) := ⟨_, rfl, (Below.refl w2.heap.size w2).alloc (Nat.le_refl _) _, hide (heap_alloc_new w2 _)⟩
  obtain ⟨BF, hBn⟩ : ∃ B, w2.heap.size = B := ⟨_, rfl⟩
  rw [hBn] at HN1
  have HW := hide (And.intro hwn hBn)
  have HBo := HB
  have nqX_F := hide (blk_ne HX.out hBn)
  clear hwn hBn
  replace HX := hide (below_block wb HX.out (Nat.le_refl _))
  replace RP := hide (RP.out.below wb (Nat.le_refl _))
  replace HB := hide (HB.out.trans (wb.mono HB.out.size))
  have HF := HN1
  have NF := hide (show w.heap.size ≤ BF by rw [← HW.out.2]; exact HBo.out.size)
  clear wb HN1 HBo
  go_upto_region 6 with (fail)
  rw [HW.out.1]
  try rw [HW.out.2]
  clear HW
  go_wp2_with ((refine ld_whole (o := ⟨some 33, _, _, _, _, _⟩) 27 (.tmp 4) rfl (by rfl) BX rfl #[.int .u8 (tt : Int), .int .u8 (P : Int), .int .u16 (id : Int), .int .u32 (s : Int), .int .u32 (d : Int), .slice da n dc] 27 HX.out Try.underlying27 (by kernel_rfl) ?_; try simp only [Act.put, List.setIfInBounds_toArray, List.set_cons_zero, List.set_cons_succ]))
  refine (HT.out _ RP.out).mono ?_
  rintro e w4 ⟨rfl, b⟩
  replace HX := hide (below_block b HX.out (Nat.le_refl _))
  replace HF := hide (below_block b HF.out (Nat.le_refl _))
  replace RP := hide (RP.out.below b (Nat.le_refl _))
  replace HB := hide (HB.out.trans (b.mono HB.out.size))
  clear b 
  obtain ⟨w5, hwn, wb, HN1⟩ : ∃ W, w4.alloc (.cells #[.int .u8 0, .int .u8 0, .int .u16 0, .int .u32 0, .int .u32 0, .slice none 0 0] 27) = W ∧ Below w4.heap.size w4 W ∧ Hid (W.heap[w4.heap.size]? = some (.cells #[.int .u8 0, .int .u8 0, .int .u16 0, .int .u32 0, .int .u32 0, .slice none 0 0] 27 (0, 0))) := ⟨_, rfl, (Below.refl w4.heap.size w4).alloc (Nat.le_refl _) _, hide (heap_alloc_new w4 _)⟩
  obtain ⟨BQ, hBn⟩ : ∃ B, w4.heap.size = B := ⟨_, rfl⟩
  rw [hBn] at HN1
  have HW := hide (And.intro hwn hBn)
  have HBo := HB
  have nqX_Q := hide (blk_ne HX.out hBn)
  have nqF_Q := hide (blk_ne HF.out hBn)
  clear hwn hBn
  replace HX := hide (below_block wb HX.out (Nat.le_refl _))
  replace HF := hide (below_block wb HF.out (Nat.le_refl _))
  replace RP := hide (RP.out.below wb (Nat.le_refl _))
  replace HB := hide (HB.out.trans (wb.mono HB.out.size))
  have HQ := HN1
  have NQ := hide (show w.heap.size ≤ BQ by rw [← HW.out.2]; exact HBo.out.size)
  clear wb HN1 HBo
  go_upto_region 9 with (fail)
  rw [HW.out.1]
  try rw [HW.out.2]
  clear HW
  go_wp2_with fail
  go_ret
  exact ⟨rfl, HB.out⟩
set_option maxHeartbeats 4000000 in
theorem icmpGoes_no (w : World) (own code : Nat) (tt P id s d : Nat) (da : Option Addr) (xs : List Int) (n dc : Nat) (hLx : Lies w da xs n dc) (hl : xs.length = n) (hb : ∀ x ∈ xs, 0 ≤ x ∧ x ≤ 255) (ht : tt ≤ 255) (hP : P ≤ 255) (hid : id ≤ 65535) (hs : s ≤ 4294967295) (hd : d ≤ 4294967295) (hc : code ≤ 255) (hn : ¬ 3000 < n) (he : ofErr P s d xs = 0) (hk : ofKind P s d xs ≠ 3) (hm : icMay P s d xs = false) :
    Calls Try.prog 7 #[.int .u32 (own : Int), .agg #[.int .u8 (tt : Int), .int .u8 (P : Int), .int .u16 (id : Int), .int .u32 (s : Int), .int .u32 (d : Int), .slice da n dc], .int .u8 (code : Int)] w fun e w' => e = .returned (.bool true) ∧ Below w.heap.size w w' := by
  have hd3 : decide ((3000 : Int) < (n : Int)) = false := by simp; omega
  have HOF := hide (fun (W : World) (hL : Lies W da xs n dc) => of_any W (tt : Int) (id : Int) P s d da n dc xs hL hl hb hs hd)
  rw [he] at HOF
  have HT := hide (fun (W : World) (hL : Lies W da xs n dc) => unr_no W own code tt P id s d da xs n dc hL hl hb ht hP hid hs hd hm)
  have HMA := hide (fun (W : World) (hL : Lies W da xs n dc) => may_any W tt P id s d da xs n dc hL hl hb ht hP hid hs hd)
  rw [hm] at HMA
  have hkk : (ofKind P s d xs == 3) = false := by simp [hk]
  generalize ofKind P s d xs = kk at *
  generalize ofFl P s d xs = y at *
  obtain ⟨yp, ys, yd, yf, yt⟩ := y
  unfold Fl.v at HOF
  dsimp only at HOF
  clear hl hb hn he hm hk
  obtain ⟨V1, hV1⟩ : ∃ V, w.alloc (.cells #[.int .u8 (tt : Int), .int .u8 (P : Int), .int .u16 (id : Int), .int .u32 (s : Int), .int .u32 (d : Int), .slice da n dc] 27) = V := ⟨_, rfl⟩
  have hz1 : V1.heap.size = w.heap.size + 1 := by rw [← hV1]; simp
  have hb1 : Below w.heap.size w V1 := by rw [← hV1]; exact (Below.refl _ _).alloc (Nat.le_refl _) _
  have hp1_1 : V1.heap[w.heap.size]? = some (.cells #[.int .u8 (tt : Int), .int .u8 (P : Int), .int .u16 (id : Int), .int .u32 (s : Int), .int .u32 (d : Int), .slice da n dc] 27 (0, 0)) := by rw [← hV1]; exact heap_alloc_new _ _
  obtain ⟨BX, hBX⟩ : ∃ B, w.heap.size = B := ⟨_, rfl⟩
  have hw0 : w.heap.size ≤ BX := by omega
  have HX := hide (show V1.heap[BX]? = some (.cells #[.int .u8 (tt : Int), .int .u8 (P : Int), .int .u16 (id : Int), .int .u32 (s : Int), .int .u32 (d : Int), .slice da n dc] 27 (0, 0)) by rw [← hBX]; exact hp1_1)
  have NX : Hid (w.heap.size ≤ BX) := hide hw0
  have AP := hide hLx
  have RP := hide (hLx.below hb1 (Nat.le_refl _))
  have HB := hide hb1
  have HE := hide (And.intro (And.intro trivial trivial) (And.intro hV1 (And.intro hBX (trivial))))
  clear hw0 hV1 hz1 hb1  hp1_1 hBX hLx
  go_enter Try.func7, Try.ntmps7
  go_upto_region 1 with (fail)
  rw [HE.out.2.1]
  try rw [HE.out.2.2.1]
  clear HE
  go_wp2_with fail
  refine (speaks13 _).mono ?_
  rintro e w1 ⟨rfl, b⟩
  replace HX := hide (below_block b HX.out (Nat.le_refl _))
  replace RP := hide (RP.out.below b (Nat.le_refl _))
  replace HB := hide (HB.out.trans (b.mono HB.out.size))
  clear b 
  have qX_5 : w1.cell? ⟨BX, 5, none⟩ = some (.slice da n dc) := cell_at HX.out 5 rfl
  go_upto_region 5 with (fail)
  clear qX_5
  go_wp2_with ((refine ld_whole (o := ⟨some 24, _, _, _, _, _⟩) 27 (.tmp 4) rfl (by rfl) BX rfl #[.int .u8 (tt : Int), .int .u8 (P : Int), .int .u16 (id : Int), .int .u32 (s : Int), .int .u32 (d : Int), .slice da n dc] 27 HX.out Try.underlying27 (by kernel_rfl) ?_; try simp only [Act.put, List.setIfInBounds_toArray, List.set_cons_zero, List.set_cons_succ]))
  refine (HOF.out _ RP.out).mono ?_
  rintro e w2 ⟨rfl, b⟩
  replace HX := hide (below_block b HX.out (Nat.le_refl _))
  replace RP := hide (RP.out.below b (Nat.le_refl _))
  replace HB := hide (HB.out.trans (b.mono HB.out.size))
  clear b 
  obtain ⟨w3, hwn, wb, HN1⟩ : ∃ W, w2.alloc (.cells #[.int .u8 (yp : Int), .int .u32 (ys : Int), .int .u32 (yd : Int), .int .u16 (yf : Int), .int .u16 (yt : Int)] 29) = W ∧ Below w2.heap.size w2 W ∧ Hid (W.heap[w2.heap.size]? = some (.cells #[.int .u8 (yp : Int), .int .u32 (ys : Int), .int .u32 (yd : Int), .int .u16 (yf : Int), .int .u16 (yt : Int)] 29 (0, 0))) := ⟨_, rfl, (Below.refl w2.heap.size w2).alloc (Nat.le_refl _) _, hide (heap_alloc_new w2 _)⟩
  obtain ⟨BF, hBn⟩ : ∃ B, w2.heap.size = B := ⟨_, rfl⟩
  rw [hBn] at HN1
  have HW := hide (And.intro hwn hBn)
  have HBo := HB
  have nqX_F := hide (blk_ne HX.out hBn)
  clear hwn hBn
  replace HX := hide (below_block wb HX.out (Nat.le_refl _))
  replace RP := hide (RP.out.below wb (Nat.le_refl _))
  replace HB := hide (HB.out.trans (wb.mono HB.out.size))
  have HF := HN1
  have NF := hide (show w.heap.size ≤ BF by rw [← HW.out.2]; exact HBo.out.size)
  clear wb HN1 HBo
  go_upto_region 6 with (fail)
  rw [HW.out.1]
  try rw [HW.out.2]
  clear HW
  go_wp2_with ((refine ld_whole (o := ⟨some 33, _, _, _, _, _⟩) 27 (.tmp 4) rfl (by rfl) BX rfl #[.int .u8 (tt : Int), .int .u8 (P : Int), .int .u16 (id : Int), .int .u32 (s : Int), .int .u32 (d : Int), .slice da n dc] 27 HX.out Try.underlying27 (by kernel_rfl) ?_; try simp only [Act.put, List.setIfInBounds_toArray, List.set_cons_zero, List.set_cons_succ]))
  refine (HT.out _ RP.out).mono ?_
  rintro e w4 ⟨rfl, b⟩
  replace HX := hide (below_block b HX.out (Nat.le_refl _))
  replace HF := hide (below_block b HF.out (Nat.le_refl _))
  replace RP := hide (RP.out.below b (Nat.le_refl _))
  replace HB := hide (HB.out.trans (b.mono HB.out.size))
  clear b 
  obtain ⟨w5, hwn, wb, HN1⟩ : ∃ W, w4.alloc (.cells #[.int .u8 0, .int .u8 0, .int .u16 0, .int .u32 0, .int .u32 0, .slice none 0 0] 27) = W ∧ Below w4.heap.size w4 W ∧ Hid (W.heap[w4.heap.size]? = some (.cells #[.int .u8 0, .int .u8 0, .int .u16 0, .int .u32 0, .int .u32 0, .slice none 0 0] 27 (0, 0))) := ⟨_, rfl, (Below.refl w4.heap.size w4).alloc (Nat.le_refl _) _, hide (heap_alloc_new w4 _)⟩
  obtain ⟨BQ, hBn⟩ : ∃ B, w4.heap.size = B := ⟨_, rfl⟩
  rw [hBn] at HN1
  have HW := hide (And.intro hwn hBn)
  have HBo := HB
  have nqX_Q := hide (blk_ne HX.out hBn)
  have nqF_Q := hide (blk_ne HF.out hBn)
  clear hwn hBn
  replace HX := hide (below_block wb HX.out (Nat.le_refl _))
  replace HF := hide (below_block wb HF.out (Nat.le_refl _))
  replace RP := hide (RP.out.below wb (Nat.le_refl _))
  replace HB := hide (HB.out.trans (wb.mono HB.out.size))
  have HQ := HN1
  have NQ := hide (show w.heap.size ≤ BQ by rw [← HW.out.2]; exact HBo.out.size)
  clear wb HN1 HBo
  go_upto_region 9 with (fail)
  rw [HW.out.1]
  try rw [HW.out.2]
  clear HW
  go_wp2_with ((refine ld_whole (o := ⟨some 44, _, _, _, _, _⟩) 27 (.tmp 4) rfl (by rfl) BX rfl #[.int .u8 (tt : Int), .int .u8 (P : Int), .int .u16 (id : Int), .int .u32 (s : Int), .int .u32 (d : Int), .slice da n dc] 27 HX.out Try.underlying27 (by kernel_rfl) ?_; try simp only [Act.put, List.setIfInBounds_toArray, List.set_cons_zero, List.set_cons_succ]))
  refine (HMA.out _ RP.out).mono ?_
  rintro e w6 ⟨rfl, b⟩
  replace HX := hide (below_block b HX.out (Nat.le_refl _))
  replace HF := hide (below_block b HF.out (Nat.le_refl _))
  replace HQ := hide (below_block b HQ.out (Nat.le_refl _))
  replace RP := hide (RP.out.below b (Nat.le_refl _))
  replace HB := hide (HB.out.trans (b.mono HB.out.size))
  clear b 
  go_wp2_with fail
  go_ret
  exact ⟨rfl, HB.out⟩
set_option maxHeartbeats 4000000 in
theorem icmpGoes_yes (w : World) (own code : Nat) (tt P id s d : Nat) (da : Option Addr) (xs : List Int) (n dc : Nat) (hLx : Lies w da xs n dc) (hl : xs.length = n) (hb : ∀ x ∈ xs, 0 ≤ x ∧ x ≤ 255) (ht : tt ≤ 255) (hP : P ≤ 255) (hid : id ≤ 65535) (hs : s ≤ 4294967295) (hd : d ≤ 4294967295) (hc : code ≤ 255) (hn : ¬ 3000 < n) (hown : own ≤ 4294967295) (he : ofErr P s d xs = 0) (hk : ofKind P s d xs ≠ 3) (hm : icMay P s d xs = true) :
    Calls Try.prog 7 #[.int .u32 (own : Int), .agg #[.int .u8 (tt : Int), .int .u8 (P : Int), .int .u16 (id : Int), .int .u32 (s : Int), .int .u32 (d : Int), .slice da n dc], .int .u8 (code : Int)] w fun e w' => e = .returned (.bool true) ∧ Below w.heap.size w w' := by
  have hd3 : decide ((3000 : Int) < (n : Int)) = false := by simp; omega
  have HOF := hide (fun (W : World) (hL : Lies W da xs n dc) => of_any W (tt : Int) (id : Int) P s d da n dc xs hL hl hb hs hd)
  rw [he] at HOF
  have hn2 : n ≤ 1480 := by unfold icMay at hm; simp at hm; omega
  have h8 : 8 ≤ n := by
    rw [← hl]
    unfold ofErr at he
    split at he
    · unfold segCode at he
      split at he
      · omega
      · omega
    split at he
    · unfold dgmCode at he
      split at he
      · omega
      · omega
    split at he
    · have hmc : msgCode xs = 0 := by
        unfold icErr at he
        by_cases hc0 : msgCode xs = 0
        · exact hc0
        · rw [if_neg hc0] at he; exact he
      unfold msgCode at hmc
      split at hmc
      · omega
      · omega
    · omega
  have HDL : ((ipG tt P id s d xs).take 28).length = 28 := by rw [List.length_take, ipG_len, hl]; omega
  have HDR : ∀ x ∈ (ipG tt P id s d xs).take 28, 0 ≤ x ∧ x ≤ 255 := by
    intro x hx
    have hx := List.mem_of_mem_take hx
    unfold ipG at hx
    rcases List.mem_append.1 hx with h | h
    · exact ipH_rng _ _ _ _ _ _ _ ht hP x h
    · exact hb x h
  have HT := hide (fun (W : World) (hL : Lies W da xs n dc) => unr_yes W own code 28 tt P id s d da xs n dc hL hl hb ht hP hid hs hd hm (by omega) hc)
  obtain ⟨g1, g2⟩ := tell_flow tt P id s d xs 28 hb hs hd he hk (by omega) (by omega)
  obtain ⟨f1, f2, f3⟩ := err_of 3 code own s ((ipG tt P id s d xs).take 28) 28 rfl (by omega) hc HDR HDL (by omega) g1
  rw [g2] at f3
  have h8l : (icmpB 3 code 0 ((ipG tt P id s d xs).take 28)).length = 8 + 28 := by rw [icmpB_len, HDL]
  have hrr := icmpB_rng 3 code 0 ((ipG tt P id s d xs).take 28) (by omega) hc HDR
  have HO2 := hide (fun (W : World) (a : Option Addr) (c : Nat) (hL : Lies W a (icmpB 3 code 0 ((ipG tt P id s d xs).take 28)) (8 + 28) c) => of_any W 64 0 1 own s a (8 + 28) c _ hL h8l hrr hown hs)
  rw [f1, f2, f3] at HO2
  have hm2 : icMay 1 own s (icmpB 3 code 0 ((ipG tt P id s d xs).take 28)) = false := by
    have q1 := icmpB_code 3 code 0 ((ipG tt P id s d xs).take 28) (by omega) hc HDR (by omega)
    have q2 := icmpB_of 3 code 0 ((ipG tt P id s d xs).take 28) (by omega) hc (by omega) HDR (by omega)
    unfold icMay mayOf
    rw [q1, q2]
    simp
  have HT2 := hide (fun (W : World) (a : Option Addr) (c : Nat) (hL : Lies W a (icmpB 3 code 0 ((ipG tt P id s d xs).take 28)) (8 + 28) c) => unr_no W own code 64 1 0 own s a _ (8 + 28) c hL h8l hrr (by omega) (by omega) (by omega) hown hs hm2)
  have hkk : (ofKind P s d xs == 3) = false := by simp [hk]
  generalize ofKind P s d xs = kk at *
  generalize ofFl P s d xs = y at *
  obtain ⟨yp, ys, yd, yf, yt⟩ := y
  unfold Fl.turn at HO2
  unfold Fl.v at HOF HO2
  dsimp only at HOF HO2
  generalize icmpB 3 code 0 ((ipG tt P id s d xs).take 28) = body at *
  clear hl hb hn he hm hk hn2 h8 HDL HDR g1 g2 f1 f2 f3 h8l hrr hm2
  obtain ⟨V1, hV1⟩ : ∃ V, w.alloc (.cells #[.int .u8 (tt : Int), .int .u8 (P : Int), .int .u16 (id : Int), .int .u32 (s : Int), .int .u32 (d : Int), .slice da n dc] 27) = V := ⟨_, rfl⟩
  have hz1 : V1.heap.size = w.heap.size + 1 := by rw [← hV1]; simp
  have hb1 : Below w.heap.size w V1 := by rw [← hV1]; exact (Below.refl _ _).alloc (Nat.le_refl _) _
  have hp1_1 : V1.heap[w.heap.size]? = some (.cells #[.int .u8 (tt : Int), .int .u8 (P : Int), .int .u16 (id : Int), .int .u32 (s : Int), .int .u32 (d : Int), .slice da n dc] 27 (0, 0)) := by rw [← hV1]; exact heap_alloc_new _ _
  obtain ⟨BX, hBX⟩ : ∃ B, w.heap.size = B := ⟨_, rfl⟩
  have hw0 : w.heap.size ≤ BX := by omega
  have HX := hide (show V1.heap[BX]? = some (.cells #[.int .u8 (tt : Int), .int .u8 (P : Int), .int .u16 (id : Int), .int .u32 (s : Int), .int .u32 (d : Int), .slice da n dc] 27 (0, 0)) by rw [← hBX]; exact hp1_1)
  have NX : Hid (w.heap.size ≤ BX) := hide hw0
  have AP := hide hLx
  have RP := hide (hLx.below hb1 (Nat.le_refl _))
  have HB := hide hb1
  have HE := hide (And.intro (And.intro trivial trivial) (And.intro hV1 (And.intro hBX (trivial))))
  clear hw0 hV1 hz1 hb1  hp1_1 hBX hLx
  go_enter Try.func7, Try.ntmps7
  go_upto_region 1 with (fail)
  rw [HE.out.2.1]
  try rw [HE.out.2.2.1]
  clear HE
  go_wp2_with fail
  refine (speaks13 _).mono ?_
  rintro e w1 ⟨rfl, b⟩
  replace HX := hide (below_block b HX.out (Nat.le_refl _))
  replace RP := hide (RP.out.below b (Nat.le_refl _))
  replace HB := hide (HB.out.trans (b.mono HB.out.size))
  clear b 
  have qX_5 : w1.cell? ⟨BX, 5, none⟩ = some (.slice da n dc) := cell_at HX.out 5 rfl
  go_upto_region 5 with (fail)
  clear qX_5
  go_wp2_with ((refine ld_whole (o := ⟨some 24, _, _, _, _, _⟩) 27 (.tmp 4) rfl (by rfl) BX rfl #[.int .u8 (tt : Int), .int .u8 (P : Int), .int .u16 (id : Int), .int .u32 (s : Int), .int .u32 (d : Int), .slice da n dc] 27 HX.out Try.underlying27 (by kernel_rfl) ?_; try simp only [Act.put, List.setIfInBounds_toArray, List.set_cons_zero, List.set_cons_succ]))
  refine (HOF.out _ RP.out).mono ?_
  rintro e w2 ⟨rfl, b⟩
  replace HX := hide (below_block b HX.out (Nat.le_refl _))
  replace RP := hide (RP.out.below b (Nat.le_refl _))
  replace HB := hide (HB.out.trans (b.mono HB.out.size))
  clear b 
  obtain ⟨w3, hwn, wb, HN1⟩ : ∃ W, w2.alloc (.cells #[.int .u8 (yp : Int), .int .u32 (ys : Int), .int .u32 (yd : Int), .int .u16 (yf : Int), .int .u16 (yt : Int)] 29) = W ∧ Below w2.heap.size w2 W ∧ Hid (W.heap[w2.heap.size]? = some (.cells #[.int .u8 (yp : Int), .int .u32 (ys : Int), .int .u32 (yd : Int), .int .u16 (yf : Int), .int .u16 (yt : Int)] 29 (0, 0))) := ⟨_, rfl, (Below.refl w2.heap.size w2).alloc (Nat.le_refl _) _, hide (heap_alloc_new w2 _)⟩
  obtain ⟨BF, hBn⟩ : ∃ B, w2.heap.size = B := ⟨_, rfl⟩
  rw [hBn] at HN1
  have HW := hide (And.intro hwn hBn)
  have HBo := HB
  have nqX_F := hide (blk_ne HX.out hBn)
  clear hwn hBn
  replace HX := hide (below_block wb HX.out (Nat.le_refl _))
  replace RP := hide (RP.out.below wb (Nat.le_refl _))
  replace HB := hide (HB.out.trans (wb.mono HB.out.size))
  have HF := HN1
  have NF := hide (show w.heap.size ≤ BF by rw [← HW.out.2]; exact HBo.out.size)
  clear wb HN1 HBo
  go_upto_region 6 with (fail)
  rw [HW.out.1]
  try rw [HW.out.2]
  clear HW
  go_wp2_with ((refine ld_whole (o := ⟨some 33, _, _, _, _, _⟩) 27 (.tmp 4) rfl (by rfl) BX rfl #[.int .u8 (tt : Int), .int .u8 (P : Int), .int .u16 (id : Int), .int .u32 (s : Int), .int .u32 (d : Int), .slice da n dc] 27 HX.out Try.underlying27 (by kernel_rfl) ?_; try simp only [Act.put, List.setIfInBounds_toArray, List.set_cons_zero, List.set_cons_succ]))
  refine (HT.out _ RP.out).mono ?_
  rintro e w4 ⟨a, c, rfl, o, b⟩
  replace HX := hide (below_block b HX.out (Nat.le_refl _))
  replace HF := hide (below_block b HF.out (Nat.le_refl _))
  replace RP := hide (RP.out.below b (Nat.le_refl _))
  replace HB := hide (HB.out.trans (b.mono HB.out.size))
  have RY := hide (Lies.of_owns o)
  clear b o
  obtain ⟨w5, hwn, wb, HN1⟩ : ∃ W, w4.alloc (.cells #[.int .u8 64, .int .u8 1, .int .u16 0, .int .u32 (own : Int), .int .u32 (s : Int), .slice a (8 + 28) c] 27) = W ∧ Below w4.heap.size w4 W ∧ Hid (W.heap[w4.heap.size]? = some (.cells #[.int .u8 64, .int .u8 1, .int .u16 0, .int .u32 (own : Int), .int .u32 (s : Int), .slice a (8 + 28) c] 27 (0, 0))) := ⟨_, rfl, (Below.refl w4.heap.size w4).alloc (Nat.le_refl _) _, hide (heap_alloc_new w4 _)⟩
  obtain ⟨BQ, hBn⟩ : ∃ B, w4.heap.size = B := ⟨_, rfl⟩
  rw [hBn] at HN1
  have HW := hide (And.intro hwn hBn)
  have HBo := HB
  have nqX_Q := hide (blk_ne HX.out hBn)
  have nqF_Q := hide (blk_ne HF.out hBn)
  clear hwn hBn
  replace HX := hide (below_block wb HX.out (Nat.le_refl _))
  replace HF := hide (below_block wb HF.out (Nat.le_refl _))
  replace RP := hide (RP.out.below wb (Nat.le_refl _))
  replace RY := hide (RY.out.below wb (Nat.le_refl _))
  replace HB := hide (HB.out.trans (wb.mono HB.out.size))
  have HQ := HN1
  have NQ := hide (show w.heap.size ≤ BQ by rw [← HW.out.2]; exact HBo.out.size)
  clear wb HN1 HBo
  go_upto_region 9 with (fail)
  rw [HW.out.1]
  try rw [HW.out.2]
  clear HW
  go_wp2_with ((refine ld_whole (o := ⟨some 48, _, _, _, _, _⟩) 27 (.tmp 10) rfl (by rfl) BQ rfl #[.int .u8 64, .int .u8 1, .int .u16 0, .int .u32 (own : Int), .int .u32 (s : Int), .slice a (8 + 28) c] 27 HQ.out Try.underlying27 (by kernel_rfl) ?_; try simp only [Act.put, List.setIfInBounds_toArray, List.set_cons_zero, List.set_cons_succ]))
  refine (HO2.out _ a c RY.out).mono ?_
  rintro e w6 ⟨rfl, b⟩
  replace HX := hide (below_block b HX.out (Nat.le_refl _))
  replace HF := hide (below_block b HF.out (Nat.le_refl _))
  replace HQ := hide (below_block b HQ.out (Nat.le_refl _))
  replace RP := hide (RP.out.below b (Nat.le_refl _))
  replace RY := hide (RY.out.below b (Nat.le_refl _))
  replace HB := hide (HB.out.trans (b.mono HB.out.size))
  clear b 
  obtain ⟨w7, hwn, wb, HN1⟩ : ∃ W, w6.alloc (.cells #[.int .u8 (yp : Int), .int .u32 (yd : Int), .int .u32 (ys : Int), .int .u16 (yt : Int), .int .u16 (yf : Int)] 29) = W ∧ Below w6.heap.size w6 W ∧ Hid (W.heap[w6.heap.size]? = some (.cells #[.int .u8 (yp : Int), .int .u32 (yd : Int), .int .u32 (ys : Int), .int .u16 (yt : Int), .int .u16 (yf : Int)] 29 (0, 0))) := ⟨_, rfl, (Below.refl w6.heap.size w6).alloc (Nat.le_refl _) _, hide (heap_alloc_new w6 _)⟩
  obtain ⟨BG, hBn⟩ : ∃ B, w6.heap.size = B := ⟨_, rfl⟩
  rw [hBn] at HN1
  have HW := hide (And.intro hwn hBn)
  have HBo := HB
  have nqX_G := hide (blk_ne HX.out hBn)
  have nqF_G := hide (blk_ne HF.out hBn)
  have nqQ_G := hide (blk_ne HQ.out hBn)
  clear hwn hBn
  replace HX := hide (below_block wb HX.out (Nat.le_refl _))
  replace HF := hide (below_block wb HF.out (Nat.le_refl _))
  replace HQ := hide (below_block wb HQ.out (Nat.le_refl _))
  replace RP := hide (RP.out.below wb (Nat.le_refl _))
  replace RY := hide (RY.out.below wb (Nat.le_refl _))
  replace HB := hide (HB.out.trans (wb.mono HB.out.size))
  have HG := HN1
  have NG := hide (show w.heap.size ≤ BG by rw [← HW.out.2]; exact HBo.out.size)
  clear wb HN1 HBo
  go_upto_region 14 with (fail)
  rw [HW.out.1]
  try rw [HW.out.2]
  clear HW
  go_wp2_with ((refine ld_whole (o := ⟨some 55, _, _, _, _, _⟩) 27 (.tmp 10) rfl (by rfl) BQ rfl #[.int .u8 64, .int .u8 1, .int .u16 0, .int .u32 (own : Int), .int .u32 (s : Int), .slice a (8 + 28) c] 27 HQ.out Try.underlying27 (by kernel_rfl) ?_; try simp only [Act.put, List.setIfInBounds_toArray, List.set_cons_zero, List.set_cons_succ]))
  refine (HT2.out _ a c RY.out).mono ?_
  rintro e w8 ⟨rfl, b⟩
  replace HX := hide (below_block b HX.out (Nat.le_refl _))
  replace HF := hide (below_block b HF.out (Nat.le_refl _))
  replace HQ := hide (below_block b HQ.out (Nat.le_refl _))
  replace HG := hide (below_block b HG.out (Nat.le_refl _))
  replace RP := hide (RP.out.below b (Nat.le_refl _))
  replace RY := hide (RY.out.below b (Nat.le_refl _))
  replace HB := hide (HB.out.trans (b.mono HB.out.size))
  clear b 
  obtain ⟨w9, hwn, wb, HN1⟩ : ∃ W, w8.alloc (.cells #[.int .u8 0, .int .u8 0, .int .u16 0, .int .u32 0, .int .u32 0, .slice none 0 0] 27) = W ∧ Below w8.heap.size w8 W ∧ Hid (W.heap[w8.heap.size]? = some (.cells #[.int .u8 0, .int .u8 0, .int .u16 0, .int .u32 0, .int .u32 0, .slice none 0 0] 27 (0, 0))) := ⟨_, rfl, (Below.refl w8.heap.size w8).alloc (Nat.le_refl _) _, hide (heap_alloc_new w8 _)⟩
  obtain ⟨BZ, hBn⟩ : ∃ B, w8.heap.size = B := ⟨_, rfl⟩
  rw [hBn] at HN1
  have HW := hide (And.intro hwn hBn)
  have HBo := HB
  have nqX_Z := hide (blk_ne HX.out hBn)
  have nqF_Z := hide (blk_ne HF.out hBn)
  have nqQ_Z := hide (blk_ne HQ.out hBn)
  have nqG_Z := hide (blk_ne HG.out hBn)
  clear hwn hBn
  replace HX := hide (below_block wb HX.out (Nat.le_refl _))
  replace HF := hide (below_block wb HF.out (Nat.le_refl _))
  replace HQ := hide (below_block wb HQ.out (Nat.le_refl _))
  replace HG := hide (below_block wb HG.out (Nat.le_refl _))
  replace RP := hide (RP.out.below wb (Nat.le_refl _))
  replace RY := hide (RY.out.below wb (Nat.le_refl _))
  replace HB := hide (HB.out.trans (wb.mono HB.out.size))
  have HZ := HN1
  have NZ := hide (show w.heap.size ≤ BZ by rw [← HW.out.2]; exact HBo.out.size)
  clear wb HN1 HBo
  go_upto_region 15 with (fail)
  rw [HW.out.1]
  try rw [HW.out.2]
  clear HW
  have HQ1 := hide (fun (W : World) (_ : Below w9.heap.size w9 W) => turn5 W yp ys yd yf yt)
  clear RP RY HZ NZ
  clear HT HT2 HO2 HOF
  have k0G0 : w9.cell? ⟨BG, 0, none⟩ = some (.int .u8 (yp : Int)) := cell_at HG.out 0 rfl
  have k0G1 : w9.cell? ⟨BG, 1, none⟩ = some (.int .u32 (yd : Int)) := cell_at HG.out 1 rfl
  have k0G2 : w9.cell? ⟨BG, 2, none⟩ = some (.int .u32 (ys : Int)) := cell_at HG.out 2 rfl
  have k0G3 : w9.cell? ⟨BG, 3, none⟩ = some (.int .u16 (yt : Int)) := cell_at HG.out 3 rfl
  have k0G4 : w9.cell? ⟨BG, 4, none⟩ = some (.int .u16 (yf : Int)) := cell_at HG.out 4 rfl
  have hlG := lt_of_block HG.out
  have k0F0 : w9.cell? ⟨BF, 0, none⟩ = some (.int .u8 (yp : Int)) := cell_at HF.out 0 rfl
  have k0F1 : w9.cell? ⟨BF, 1, none⟩ = some (.int .u32 (ys : Int)) := cell_at HF.out 1 rfl
  have k0F2 : w9.cell? ⟨BF, 2, none⟩ = some (.int .u32 (yd : Int)) := cell_at HF.out 2 rfl
  have k0F3 : w9.cell? ⟨BF, 3, none⟩ = some (.int .u16 (yf : Int)) := cell_at HF.out 3 rfl
  have k0F4 : w9.cell? ⟨BF, 4, none⟩ = some (.int .u16 (yt : Int)) := cell_at HF.out 4 rfl
  have hlF := lt_of_block HF.out
  have k0Q0 : w9.cell? ⟨BQ, 0, none⟩ = some (.int .u8 64) := cell_at HQ.out 0 rfl
  have k0Q1 : w9.cell? ⟨BQ, 1, none⟩ = some (.int .u8 1) := cell_at HQ.out 1 rfl
  have k0Q2 : w9.cell? ⟨BQ, 2, none⟩ = some (.int .u16 0) := cell_at HQ.out 2 rfl
  have k0Q3 : w9.cell? ⟨BQ, 3, none⟩ = some (.int .u32 (own : Int)) := cell_at HQ.out 3 rfl
  have k0Q4 : w9.cell? ⟨BQ, 4, none⟩ = some (.int .u32 (s : Int)) := cell_at HQ.out 4 rfl
  have k0Q5 : w9.cell? ⟨BQ, 5, none⟩ = some (.slice a (8 + 28) c) := cell_at HQ.out 5 rfl
  have hlQ := lt_of_block HQ.out
  have k0X0 : w9.cell? ⟨BX, 0, none⟩ = some (.int .u8 (tt : Int)) := cell_at HX.out 0 rfl
  have k0X1 : w9.cell? ⟨BX, 1, none⟩ = some (.int .u8 (P : Int)) := cell_at HX.out 1 rfl
  have k0X2 : w9.cell? ⟨BX, 2, none⟩ = some (.int .u16 (id : Int)) := cell_at HX.out 2 rfl
  have k0X3 : w9.cell? ⟨BX, 3, none⟩ = some (.int .u32 (s : Int)) := cell_at HX.out 3 rfl
  have k0X4 : w9.cell? ⟨BX, 4, none⟩ = some (.int .u32 (d : Int)) := cell_at HX.out 4 rfl
  have k0X5 : w9.cell? ⟨BX, 5, none⟩ = some (.slice da n dc) := cell_at HX.out 5 rfl
  have hlX := lt_of_block HX.out
  have HBB := hide (Below.refl w9.heap.size w9)
  go_region_held3 (fun w' => w'.cell? ⟨BG, 0, none⟩ = some (.int .u8 (yp : Int)) ∧ w'.cell? ⟨BG, 1, none⟩ = some (.int .u32 (yd : Int)) ∧ w'.cell? ⟨BG, 2, none⟩ = some (.int .u32 (ys : Int)) ∧ w'.cell? ⟨BG, 3, none⟩ = some (.int .u16 (yt : Int)) ∧ w'.cell? ⟨BG, 4, none⟩ = some (.int .u16 (yf : Int)) ∧ w'.cell? ⟨BF, 0, none⟩ = some (.int .u8 (yp : Int)) ∧ w'.cell? ⟨BF, 1, none⟩ = some (.int .u32 (ys : Int)) ∧ w'.cell? ⟨BF, 2, none⟩ = some (.int .u32 (yd : Int)) ∧ w'.cell? ⟨BF, 3, none⟩ = some (.int .u16 (yf : Int)) ∧ w'.cell? ⟨BF, 4, none⟩ = some (.int .u16 (yt : Int)) ∧ w'.cell? ⟨BQ, 0, none⟩ = some (.int .u8 64) ∧ w'.cell? ⟨BQ, 1, none⟩ = some (.int .u8 1) ∧ w'.cell? ⟨BQ, 2, none⟩ = some (.int .u16 0) ∧ w'.cell? ⟨BQ, 3, none⟩ = some (.int .u32 (own : Int)) ∧ w'.cell? ⟨BQ, 4, none⟩ = some (.int .u32 (s : Int)) ∧ w'.cell? ⟨BQ, 5, none⟩ = some (.slice a (8 + 28) c) ∧ w'.cell? ⟨BX, 0, none⟩ = some (.int .u8 (tt : Int)) ∧ w'.cell? ⟨BX, 1, none⟩ = some (.int .u8 (P : Int)) ∧ w'.cell? ⟨BX, 2, none⟩ = some (.int .u16 (id : Int)) ∧ w'.cell? ⟨BX, 3, none⟩ = some (.int .u32 (s : Int)) ∧ w'.cell? ⟨BX, 4, none⟩ = some (.int .u32 (d : Int)) ∧ w'.cell? ⟨BX, 5, none⟩ = some (.slice da n dc)) (go_keep) (first
      | (go_at_call 17; (with_reducible refine (HQ1.out _ (by first | exact HBB.out | exact HBB.out.drew)).mono ?_); rintro e z1 ⟨rfl, b⟩; (try replace b := below_of_drew b); have HBB := hide (HBB.out.trans (b.mono HBB.out.size)); have k1G0 := (bcell HBB.out BG 0 hlG).trans k0G0; have k1G1 := (bcell HBB.out BG 1 hlG).trans k0G1; have k1G2 := (bcell HBB.out BG 2 hlG).trans k0G2; have k1G3 := (bcell HBB.out BG 3 hlG).trans k0G3; have k1G4 := (bcell HBB.out BG 4 hlG).trans k0G4; have k1F0 := (bcell HBB.out BF 0 hlF).trans k0F0; have k1F1 := (bcell HBB.out BF 1 hlF).trans k0F1; have k1F2 := (bcell HBB.out BF 2 hlF).trans k0F2; have k1F3 := (bcell HBB.out BF 3 hlF).trans k0F3; have k1F4 := (bcell HBB.out BF 4 hlF).trans k0F4; have k1Q0 := (bcell HBB.out BQ 0 hlQ).trans k0Q0; have k1Q1 := (bcell HBB.out BQ 1 hlQ).trans k0Q1; have k1Q2 := (bcell HBB.out BQ 2 hlQ).trans k0Q2; have k1Q3 := (bcell HBB.out BQ 3 hlQ).trans k0Q3; have k1Q4 := (bcell HBB.out BQ 4 hlQ).trans k0Q4; have k1Q5 := (bcell HBB.out BQ 5 hlQ).trans k0Q5; have k1X0 := (bcell HBB.out BX 0 hlX).trans k0X0; have k1X1 := (bcell HBB.out BX 1 hlX).trans k0X1; have k1X2 := (bcell HBB.out BX 2 hlX).trans k0X2; have k1X3 := (bcell HBB.out BX 3 hlX).trans k0X3; have k1X4 := (bcell HBB.out BX 4 hlX).trans k0X4; have k1X5 := (bcell HBB.out BX 5 hlX).trans k0X5; clear b)
      | fail)
  all_goals (try go_wp2_with fail)
  all_goals go_ret
  all_goals exact ⟨by simp, HB.out.trans (HBB.out.mono HB.out.size)⟩
theorem icmpGoes_any (w : World) (own code : Nat) (tt P id s d : Nat) (da : Option Addr) (xs : List Int) (n dc : Nat) (hLx : Lies w da xs n dc) (hl : xs.length = n) (hb : ∀ x ∈ xs, 0 ≤ x ∧ x ≤ 255) (ht : tt ≤ 255) (hP : P ≤ 255) (hid : id ≤ 65535) (hs : s ≤ 4294967295) (hd : d ≤ 4294967295) (hc : code ≤ 255) (hown : own ≤ 4294967295) :
    Calls Try.prog 7 #[.int .u32 (own : Int), .agg #[.int .u8 (tt : Int), .int .u8 (P : Int), .int .u16 (id : Int), .int .u32 (s : Int), .int .u32 (d : Int), .slice da n dc], .int .u8 (code : Int)] w fun e w' => e = .returned (.bool true) ∧ Below w.heap.size w w' := by
  by_cases h : 3000 < n
  · exact icmpGoes_long w own code tt P id s d da n dc h
  by_cases he : ofErr P s d xs = 0
  · by_cases hk : ofKind P s d xs = 3
    · obtain ⟨g1, g2, g3⟩ := kind_may P s d xs he hk
      have hm : icMay P s d xs = false := by
        unfold icMay mayOf
        rw [g2]
        unfold isErr at g3
        simp at g3
        have e0 : decide ((msgOf xs).p = 0) = false := by simp; omega
        have e8 : decide ((msgOf xs).p = 8) = false := by simp; omega
        rw [e0, e8]
        simp [g1]
      exact icmpGoes_k3 w own code tt P id s d da xs n dc hLx hl hb ht hP hid hs hd hc h he hk hm
    · cases hm : icMay P s d xs with
      | false => exact icmpGoes_no w own code tt P id s d da xs n dc hLx hl hb ht hP hid hs hd hc h he hk hm
      | true => exact icmpGoes_yes w own code tt P id s d da xs n dc hLx hl hb ht hP hid hs hd hc h hown he hk hm
  · exact icmpGoes_err w own code tt P id s d da xs n dc hLx hl hb ht hP hid hs hd hc h he
end Go.Proofs.Ytgggcapgaikbeaa
