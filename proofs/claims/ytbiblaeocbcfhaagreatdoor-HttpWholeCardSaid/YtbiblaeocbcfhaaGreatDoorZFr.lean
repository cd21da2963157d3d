/- http: statuses of codings, lengths, pieces, tails. -/
import Derived.Test.YtbiblaeocbcfhaaGreatDoorZKeeps
namespace Go.Proofs.YtbiblaeocbcfhaaGreatDoor
open Go.RowKit Go.Deep
set_option linter.unusedVariables false
set_option linter.unusedSimpArgs false
set_option maxRecDepth 100000
theorem TxtAt.first {w : World} {a : Option Addr} {x : List UInt8} {r : List (List UInt8)} (h : TxtAt w a (x :: r)) : ∃ g, a = some ⟨g, 0, none⟩ ∧ w.cell? ⟨g, 0, none⟩ = some (.string (bs x)) := by
  obtain ⟨g, e, _, hx⟩ := h (by simp)
  exact ⟨g, e, hx 0 x rfl⟩
set_option maxHeartbeats 1000000 in
theorem coding_any (r : Rq) (fv bv : Value) (x : List UInt8) (cl ll : List (List UInt8)) (a1 a2 : Option Addr) (n1 n2 c1 c2 : Nat) (w : World) (hx : TxtAt w a1 (x :: cl)) (h1 : cl.length + 1 = n1) (h2 : ll.length = n2) (hs : x.length ≤ 5000) :
    Calls Tryz.prog 33 #[.agg (rqc r fv bv), .slice a1 n1 c1, .slice a2 n2 c2] w fun e w' => e = .returned (.int .i64 (codingS r.minor (x :: cl) ll : Int)) ∧ Below w.heap.size w w' := by
  obtain ⟨g, rfl, hc⟩ := hx.first
  have hg := World.block_lt_of_cell? _ _ hc
  have hal := (Below.refl w.heap.size w).alloc (Nat.le_refl _) (.cells (rqc r fv bv) 31)
  have hnew := heap_alloc_new w (.cells (rqc r fv bv) 31)
  have z2 := cell_at hnew 2 (show (rqc r fv bv)[2]? = some (.int .i64 (r.minor : Int)) from rfl)
  have hsame := same_any (bs x) (bs chunkN) (w.alloc (.cells (rqc r fv bv) 31)) (by rw [bs_len]; omega) (by rw [bs_len]; decide)
  rw [bs_data, bs_data, bsbs, lit_chunkN] at hsame
  have hz := (hal.cell (p := ⟨g, 0, none⟩) hg).trans hc
  have hE : codingS r.minor (x :: cl) ll = if 1 < n1 ∨ 0 < n2 ∨ r.minor = 0 then 400 else if sameP x chunkN = false then 501 else 0 := by unfold codingS; rw [List.length_cons, h1, h2]; rfl
  rw [hE]
  obtain ⟨X, hX⟩ : ∃ X, bs x = X := ⟨_, rfl⟩
  rw [hX] at hz hsame hc
  obtain ⟨b, hb⟩ : ∃ b, sameP x chunkN = b := ⟨_, rfl⟩
  have hsame : Calls Tryz.prog 45 #[.string X, .string ⟨#[99, 104, 117, 110, 107, 101, 100]⟩] (w.alloc (.cells (rqc r fv bv) 31)) fun e w' => e = .returned (.bool b) ∧ Below (w.alloc (.cells (rqc r fv bv) 31)).heap.size (w.alloc (.cells (rqc r fv bv) 31)) w' := by rw [← hb]; exact hsame
  rw [hb]
  obtain ⟨mi, hmi⟩ : ∃ x, r.minor = x := ⟨_, rfl⟩
  rw [hmi] at z2 ⊢
  obtain ⟨mz, hmz⟩ : ∃ x : Int, (mi : Int) = x := ⟨_, rfl⟩
  rw [hmz] at z2
  obtain ⟨cs, hcs⟩ : ∃ cs, rqc r fv bv = cs := ⟨_, rfl⟩
  have hcx : cs[2]? = some (.int .i64 mz) := by rw [← hcs, ← hmz, ← hmi]; rfl
  have hz1 : cs.size = 6 := by rw [← hcs]; rfl
  have hlt2 : 2 < cs.size := by omega
  have hc2 : cs[2]'hlt2 = .int .i64 mz := by rw [Array.getElem?_eq_getElem hlt2] at hcx; exact Option.some.inj hcx
  rw [hcs] at hal z2 hsame hz ⊢
  obtain ⟨S, hS⟩ : ∃ S, w.heap.size = S := ⟨_, rfl⟩
  obtain ⟨W, hW⟩ : ∃ W, w.alloc (.cells cs 31) = W := ⟨_, rfl⟩
  rw [hS] at z2
  have hzw := hz
  rw [hW] at hal z2 hsame hz
  have HS := hide hsame
  have HW := hide (And.intro hW (And.intro hS hal))
  have hn1 : 0 < n1 := by omega
  have hn1i : (0 : Int) < (n1 : Int) := by omega
  have q1 : decide ((1 : Int) < (n1 : Int)) = decide (1 < n1) := by congr 1; exact propext (by omega)
  have q2 : decide ((0 : Int) < (n2 : Int)) = decide (0 < n2) := by congr 1; exact propext (by omega)
  have q3 : ((mi : Int) == 0) = decide (mi = 0) := by
    by_cases h : mi = 0
    · rw [h]; rfl
    · rw [decide_eq_false h, beq_eq_false_iff_ne]; omega
  obtain ⟨t1, ht1⟩ : ∃ t, decide (1 < n1) = t := ⟨_, rfl⟩
  obtain ⟨t2, ht2⟩ : ∃ t, decide (0 < n2) = t := ⟨_, rfl⟩
  obtain ⟨t3, ht3⟩ : ∃ t, decide (mi = 0) = t := ⟨_, rfl⟩
  have hR : (if 1 < n1 ∨ 0 < n2 ∨ mi = 0 then 400 else if b = false then 501 else 0 : Nat) = if t1 || t2 || t3 then 400 else if b then 0 else 501 := by
    rw [← ht1, ← ht2, ← ht3]
    by_cases k1 : 1 < n1 <;> by_cases k2 : 0 < n2 <;> by_cases k3 : mi = 0 <;> cases b <;> simp [k1, k2, k3]
  rw [hR]
  rw [ht1] at q1
  rw [ht2] at q2
  rw [ht3] at q3
  have q2b : decide (0 < n2) = t2 := ht2
  rw [hmz] at q3
  clear hx hnew hE hX hb hmi hcs hS hW hsame h1 h2 hs ht1 ht2 ht3 hR hal hmz
  cases t1
  rotate_left
  · go_enter Tryz.func33, Tryz.ntmps33
    go_wp2_with fail
    go_ret
    exact ⟨rfl, by rw [HW.out.1]; exact HW.out.2.2⟩
  cases t2
  rotate_left
  · go_enter Tryz.func33, Tryz.ntmps33
    go_wp2_with fail
    go_ret
    exact ⟨rfl, by rw [HW.out.1]; exact HW.out.2.2⟩
  cases t3
  rotate_left
  · go_enter Tryz.func33, Tryz.ntmps33
    go_wp2_with fail
    go_ret
    exact ⟨rfl, by rw [HW.out.1]; exact HW.out.2.2⟩
  go_enter Tryz.func33, Tryz.ntmps33
  go_wp2_with fail
  rw [HW.out.1]
  refine HS.out.mono ?_
  rintro e w1 ⟨rfl, b1⟩
  have HB := hide (HW.out.2.2.trans (b1.mono HW.out.2.2.size))
  clear b1 HS
  cases b
  all_goals
    go_wp2_with fail
    go_ret
    exact ⟨rfl, HB.out⟩
set_option maxHeartbeats 1000000 in
theorem length_any (x : List UInt8) (ll : List (List UInt8)) (a : Option Addr) (n c : Nat) (w : World) (hE : Env w) (hx : TxtAt w a (x :: ll)) (h1 : ll.length + 1 = n) (hs : x.length ≤ 5000) :
    Calls Tryz.prog 34 #[.slice a n c] w fun e w' => e = .returned (.tuple #[.int .i64 ((lengthS (x :: ll)).1 : Int), .int .i64 ((lengthS (x :: ll)).2 : Int)]) ∧ Below w.heap.size w w' := by
  obtain ⟨g, rfl, hc⟩ := hx.first
  have hN := number_any (bs x) 10 9999999 w hE
  rw [bs_data] at hN
  obtain ⟨X, hX⟩ : ∃ X, bs x = X := ⟨_, rfl⟩
  rw [hX] at hc hN
  have hn1 : 0 < n := by omega
  have hn1i : (0 : Int) < (n : Int) := by omega
  have q1 : decide ((1 : Int) < (n : Int)) = decide (1 < n) := by congr 1; exact propext (by omega)
  obtain ⟨t1, ht1⟩ : ∃ t, decide (1 < n) = t := ⟨_, rfl⟩
  rw [ht1] at q1
  have hlen : (x :: ll).length = n := by rw [List.length_cons, h1]
  cases hn : numberL x 10 9999999 with
  | none =>
    rw [hn] at hN
    unfold numberV at hN
    have HN := hide hN
    have HR := hide (show lengthS (x :: ll) = (0, 400) by unfold lengthS; rw [show (x :: ll).headD [] = x from rfl, hn])
    clear hN hn hx hX hs ht1 hE hlen h1
    cases t1
    all_goals
      go_enter Tryz.func34, Tryz.ntmps34
      go_wp2_with fail
      refine HN.out.mono ?_
      rintro e w1 ⟨rfl, b1⟩
      have HB := hide b1
      clear b1 HN
      go_wp2_with fail
      go_ret2
      exact ⟨by rw [HR.out]; rfl, HB.out⟩
  | some k =>
    rw [hn] at hN
    unfold numberV at hN
    have HN := hide hN
    have hk4 : (0 : Int) ≤ (k : Int) := by omega
    cases t1 with
    | true =>
      have HR := hide (show lengthS (x :: ll) = (0, 400) by unfold lengthS; rw [show (x :: ll).headD [] = x from rfl, hn]; simp only [hlen, if_pos (of_decide_eq_true ht1)])
      clear hN hn hx hX hs ht1 hE hlen h1
      go_enter Tryz.func34, Tryz.ntmps34
      go_wp2_with fail
      refine HN.out.mono ?_
      rintro e w1 ⟨rfl, b1⟩
      have HB := hide b1
      clear b1 HN
      go_wp2_with fail
      go_ret2
      exact ⟨by rw [HR.out]; rfl, HB.out⟩
    | false =>
      by_cases hb : 8192 < k
      · have d : decide ((8192 : Int) < (k : Int)) = true := by simp; omega
        have HR := hide (show lengthS (x :: ll) = (0, 413) by unfold lengthS; rw [show (x :: ll).headD [] = x from rfl, hn]; simp only [hlen, if_neg (of_decide_eq_false ht1), if_pos hb])
        clear hN hn hx hX hs ht1 hE hlen h1 hb
        go_enter Tryz.func34, Tryz.ntmps34
        go_wp2_with fail
        refine HN.out.mono ?_
        rintro e w1 ⟨rfl, b1⟩
        have HB := hide b1
        clear b1 HN
        go_wp2_with fail
        go_ret2
        exact ⟨by rw [HR.out]; rfl, HB.out⟩
      · have d : decide ((8192 : Int) < (k : Int)) = false := by simp; omega
        have HR := hide (show lengthS (x :: ll) = (k, 0) by unfold lengthS; rw [show (x :: ll).headD [] = x from rfl, hn]; simp only [hlen, if_neg (of_decide_eq_false ht1), if_neg hb])
        clear hN hn hx hX hs ht1 hE hlen h1 hb
        go_enter Tryz.func34, Tryz.ntmps34
        go_wp2_with fail
        refine HN.out.mono ?_
        rintro e w1 ⟨rfl, b1⟩
        have HB := hide b1
        clear b1 HN
        go_wp2_with fail
        go_ret2
        exact ⟨by rw [HR.out]; rfl, HB.out⟩
set_option maxHeartbeats 1000000 in
theorem piece_any (l : List UInt8) (w : World) (hE : Env w) (hl : l.length ≤ 5000) :
    Calls Tryz.prog 21 #[.string (bs l)] w fun e w' => e = .returned (numberV (pieceL l)) ∧ Below w.heap.size w w' := by
  have h1 := Tryz.strings_CutSuffix (bs l) ⟨#[13, 10]⟩ w (by rw [bs_len]; omega)
  rw [bs_data, show (⟨#[13, 10]⟩ : ByteArray).data.toList = [13, 10] from rfl] at h1
  obtain ⟨m, hm⟩ := hE.m
  have hts := trimSuffix_le l [13, 10]
  have h2 := Tryz.strings_Cut (bs (Lib.trimSuffix l [13, 10])) ⟨#[59]⟩ m w (by rw [bs_len]; omega) hm
  rw [bs_data, show (⟨#[59]⟩ : ByteArray).data.toList = [59] from rfl] at h2
  have h3 := fun W (h : Env W) => number_any (bs (Lib.cut (Lib.trimSuffix l [13, 10]) [59]).1) 16 9223372036854775807 W h
  simp only [bs_data] at h3
  have hE2 : pieceL l = if Lib.hasSuffix l [13, 10] then numberL (Lib.cut (Lib.trimSuffix l [13, 10]) [59]).1 16 9223372036854775807 else none := rfl
  rw [hE2]
  obtain ⟨r, hr⟩ : ∃ r, numberL (Lib.cut (Lib.trimSuffix l [13, 10]) [59]).1 16 9223372036854775807 = r := ⟨_, rfl⟩
  rw [hr] at h3 ⊢
  obtain ⟨b, hb⟩ : ∃ b, Lib.hasSuffix l [13, 10] = b := ⟨_, rfl⟩
  rw [hb] at h1 ⊢
  obtain ⟨T, hT⟩ : ∃ T, bs (Lib.trimSuffix l [13, 10]) = T := ⟨_, rfl⟩
  obtain ⟨A, hA⟩ : ∃ T, bs (Lib.cut (Lib.trimSuffix l [13, 10]) [59]).1 = T := ⟨_, rfl⟩
  obtain ⟨B, hB⟩ : ∃ T, bs (Lib.cut (Lib.trimSuffix l [13, 10]) [59]).2.1 = T := ⟨_, rfl⟩
  obtain ⟨q, hq⟩ : ∃ T, (Lib.cut (Lib.trimSuffix l [13, 10]) [59]).2.2 = T := ⟨_, rfl⟩
  obtain ⟨L, hL⟩ : ∃ T, bs l = T := ⟨_, rfl⟩
  have h1 : Calls Tryz.prog 25 #[.string L, .string ⟨#[13, 10]⟩] w fun e w' => e = .returned (.tuple #[.string T, .bool b]) ∧ w' = w := by rw [← hL, ← hT]; exact h1
  have h2 : Calls Tryz.prog 26 #[.string T, .string ⟨#[59]⟩] w fun e w' => e = .returned (.tuple #[.string A, .string B, .bool q]) ∧ ∃ n, w' = w.drewN n := by rw [← hT, ← hA, ← hB, ← hq]; exact h2
  rw [hA] at h3
  rw [hL]
  have H1 := hide h1
  have H2 := hide h2
  have H3 := hide h3
  have HE := hide hE
  clear h1 h2 h3 hm hts hE2 hr hb hT hA hB hq hL hE hl
  go_enter Tryz.func21, Tryz.ntmps21
  go_wp2_with fail
  refine H1.out.mono ?_
  rintro e w1 ⟨rfl, rfl⟩
  cases b with
  | false =>
    go_wp2_with fail
    go_ret2
    exact ⟨rfl, Below.refl _ _⟩
  | true =>
    go_wp2_with fail
    refine H2.out.mono ?_
    rintro e w2 ⟨rfl, n2, rfl⟩
    have HB := hide (below_drewN (Below.refl w1.heap.size w1) n2)
    have HE2 := hide (HE.out.below HB.out (Nat.le_refl _))
    obtain ⟨w2, hw2⟩ : ∃ W, w1.drewN n2 = W := ⟨_, rfl⟩
    rw [hw2] at HB HE2 ⊢
    clear hw2
    go_wp2_with fail
    refine (H3.out _ HE2.out).mono ?_
    rintro e w3 ⟨rfl, b3⟩
    have HB2 := hide (HB.out.trans (b3.mono HB.out.size))
    clear b3
    cases r
    all_goals
      unfold numberV
      go_wp2_with fail
      go_ret2
      exact ⟨rfl, HB2.out⟩
end Go.Proofs.YtbiblaeocbcfhaaGreatDoor
