/- What ether.Read answers. -/
import Derived.Test.YtgpmgfpmfdaecaaEMac
namespace Go.Proofs.Ytgpmgfpmfdaecaa
open Go.RowKit
set_option linter.unusedVariables false
set_option linter.unusedSimpArgs false
theorem owns_set {w : World} {base : Nat} {v : Value} {n : Nat} {xs : List Value} {g i : Nat} {u : Value} (h : w.ownsRow base 5 1 v n xs) (hg : g < base) : (w.setCell ⟨g, i, none⟩ u).ownsRow base 5 1 v n xs := by
  refine ⟨h.1, ?_⟩
  rcases h.2 with h | ⟨r, cap, cur, hv, hr, hh, rest⟩
  · exact .inl h
  · exact .inr ⟨r, cap, cur, hv, hr, (Below.heap_setCell _ _ _ _ (by intro e; simp at e; omega)).trans hh, rest⟩
set_option maxHeartbeats 800000 in
theorem eread_short (w : World) (a : Option Addr) (n cap : Nat) (h : n < 14) :
    Calls Try.prog 7 #[.slice a n cap] w fun e w' => e = .returned (.tuple #[.agg #[.int .u8 0, .int .u8 0, .int .u8 0, .int .u8 0, .int .u8 0, .int .u8 0, .int .u8 0, .int .u8 0, .int .u8 0, .int .u8 0, .int .u8 0, .int .u8 0, .int .u16 0, .slice none 0 0], .int .i64 10]) ∧ Below w.heap.size w w' := by
  go_enter Try.func7, Try.ntmps7
  go_wp2
  refine bodyPost_ret (v := .tuple #[.agg #[.int .u8 0, .int .u8 0, .int .u8 0, .int .u8 0, .int .u8 0, .int .u8 0, .int .u8 0, .int .u8 0, .int .u8 0, .int .u8 0, .int .u8 0, .int .u8 0, .int .u16 0, .slice none 0 0], .int .i64 10]) (by simp [results, Try.results7, go_sem]) rfl ⟨rfl, ?_⟩
  repeat (first | exact Below.refl _ _ | refine Below.setCell ?_ (Nat.le_refl _) _ | exact Below.alloc (Below.refl _ _) (Nat.le_refl _) _)
set_option maxHeartbeats 800000 in
theorem eread_long (w : World) (a : Option Addr) (n cap : Nat) (h : 1514 < n) :
    Calls Try.prog 7 #[.slice a n cap] w fun e w' => e = .returned (.tuple #[.agg #[.int .u8 0, .int .u8 0, .int .u8 0, .int .u8 0, .int .u8 0, .int .u8 0, .int .u8 0, .int .u8 0, .int .u8 0, .int .u8 0, .int .u8 0, .int .u8 0, .int .u16 0, .slice none 0 0], .int .i64 14]) ∧ Below w.heap.size w w' := by
  go_enter Try.func7, Try.ntmps7
  go_wp2
  refine bodyPost_ret (v := .tuple #[.agg #[.int .u8 0, .int .u8 0, .int .u8 0, .int .u8 0, .int .u8 0, .int .u8 0, .int .u8 0, .int .u8 0, .int .u8 0, .int .u8 0, .int .u8 0, .int .u8 0, .int .u16 0, .slice none 0 0], .int .i64 14]) (by simp [results, Try.results7, go_sem]) rfl ⟨rfl, ?_⟩
  repeat (first | exact Below.refl _ _ | refine Below.setCell ?_ (Nat.le_refl _) _ | exact Below.alloc (Below.refl _ _) (Nat.le_refl _) _)
set_option maxRecDepth 100000 in
set_option maxHeartbeats 1600000 in
theorem eread_main (w : World) (a : Option Addr) (xs : List Int) (n cap : Nat) (d s : Nat → UInt8) (k : Nat) (hr : Row .u8 w a xs) (hn : xs.length = n) (h1 : 14 ≤ n) (h2 : n ≤ 1514) (hb : ∀ x ∈ xs, 0 ≤ x ∧ x ≤ 255)
    (hd : xs.take 6 = [((d 0).toNat : Int), ((d 1).toNat : Int), ((d 2).toNat : Int), ((d 3).toNat : Int), ((d 4).toNat : Int), ((d 5).toNat : Int)]) (hs : (xs.drop 6).take 6 = [((s 0).toNat : Int), ((s 1).toNat : Int), ((s 2).toNat : Int), ((s 3).toNat : Int), ((s 4).toNat : Int), ((s 5).toNat : Int)]) (hk : valB ((xs.drop 12).take 2) = (k : Int)) (h3 : 1536 ≤ k) (h4 : k ≤ 65535) :
    Calls Try.prog 7 #[.slice a n cap] w fun e w' => ∃ a' c, e = .returned (.tuple #[.agg #[.int .u8 ((d 0).toNat : Int), .int .u8 ((d 1).toNat : Int), .int .u8 ((d 2).toNat : Int), .int .u8 ((d 3).toNat : Int), .int .u8 ((d 4).toNat : Int), .int .u8 ((d 5).toNat : Int), .int .u8 ((s 0).toNat : Int), .int .u8 ((s 1).toNat : Int), .int .u8 ((s 2).toNat : Int), .int .u8 ((s 3).toNat : Int), .int .u8 ((s 4).toNat : Int), .int .u8 ((s 5).toNat : Int), .int .u16 (k : Int), .slice a' (n - 14) c], .int .i64 0]) ∧ w'.ownsRow w.heap.size 5 1 (.slice a' (n - 14) c) (n - 14) ((xs.drop 14).map (Value.int .u8)) ∧ Below w.heap.size w w' := by
  have HR := hide hr
  have HL := hide hn
  have HD := hide hd
  have HS := hide hs
  have HK := hide hk
  have HB := hide hb
  clear hr hn hd hs hk hb
  go_enter Try.func7, Try.ntmps7
  go_wp2_with fail
  obtain ⟨R, wq, hR, hq, hbel, hRh⟩ : ∃ R wq, w.heap.size = R ∧ w.alloc (.cells #[.int .u8 0, .int .u8 0, .int .u8 0, .int .u8 0, .int .u8 0, .int .u8 0, .int .u8 0, .int .u8 0, .int .u8 0, .int .u8 0, .int .u8 0, .int .u8 0, .int .u16 0, .slice none 0 0] 28) = wq ∧ Below w.heap.size w wq ∧ wq.heap[R]? = some (.cells #[.int .u8 0, .int .u8 0, .int .u8 0, .int .u8 0, .int .u8 0, .int .u8 0, .int .u8 0, .int .u8 0, .int .u8 0, .int .u8 0, .int .u8 0, .int .u8 0, .int .u16 0, .slice none 0 0] 28 (0, 0)) :=
    ⟨_, _, rfl, rfl, (Below.refl _ _).alloc (Nat.le_refl _) _, heap_alloc_new w _⟩
  rw [hq, hR]
  have HRW := hide hR
  have HRh := hide hRh
  clear hq hR hRh
  have hne := newEye_any a xs cap wq (HR.out.below hbel (Nat.le_refl _)) (by rw [HL.out]; omega)
  rw [HL.out] at hne
  refine hne.mono ?_
  clear hne
  rintro e w1 ⟨E, rfl, hE, heye, hb1⟩
  have hRE : R < E := Nat.lt_of_lt_of_le (lt_of_block HRh.out) hE
  have hR1 := hide ((hb1.block R (lt_of_block HRh.out)).trans HRh.out)
  have hw1 := hide (hbel.trans (hb1.mono hbel.size))
  have HE1 := hide heye
  clear hb1 heye
  go_wp2_with fail
  refine (readMAC_any E E xs false w1 d HE1.out (by rw [HL.out]; omega) (by rw [HL.out]; omega) HD.out).mono ?_
  rintro e w2 ⟨rfl, he2, hg2⟩
  have HE2 := hide he2
  have HG2 := hide hg2
  clear he2 hg2
  go_wp2_with fail
  refine (readMAC_any E E (xs.drop 6) false w2 s HE2.out (by rw [List.length_drop, HL.out]; omega) (by rw [List.length_drop, HL.out]; omega) HS.out).mono ?_
  rintro e w3 ⟨rfl, he3, hg3⟩
  rw [List.drop_drop] at he3
  have HE3 := hide he3
  have HG3 := hide hg3
  clear he3 hg3
  have hnum := eyeNum_any E E (xs.drop (6 + 6)) false 2 w3 HE3.out (fun x hx => HB.out x (List.mem_of_mem_drop hx)) (by rw [List.length_drop, HL.out]; omega)
  rw [show sz 2 = 2 from rfl, if_pos (by rw [List.length_drop, HL.out]; omega), if_pos (by rw [List.length_drop, HL.out]; omega), show decide ((xs.drop (6 + 6)).length < 2) = false from by simp; rw [HL.out]; omega, List.drop_drop, HK.out] at hnum
  have HN := hide hnum
  clear hnum
  go_wp2_with fail
  refine HN.out.mono ?_
  rintro e w4 ⟨rfl, he4, hg4⟩
  have HE4 := hide he4
  have HG := hide (gb_trans HG2.out (gb_trans HG3.out hg4))
  clear he4 hg4
  have hcw : IntKind.u16.wrap (k : Int) = (k : Int) := wraps_u16 _ (by omega) (by omega)
  go_wp2_with fail
  obtain ⟨F, wf, hF, hq, hbf, hFh⟩ : ∃ F wf, w4.heap.size = F ∧ w4.alloc (.cells #[.int .u8 ((d 0).toNat : Int), .int .u8 ((d 1).toNat : Int), .int .u8 ((d 2).toNat : Int), .int .u8 ((d 3).toNat : Int), .int .u8 ((d 4).toNat : Int), .int .u8 ((d 5).toNat : Int), .int .u8 ((s 0).toNat : Int), .int .u8 ((s 1).toNat : Int), .int .u8 ((s 2).toNat : Int), .int .u8 ((s 3).toNat : Int), .int .u8 ((s 4).toNat : Int), .int .u8 ((s 5).toNat : Int), .int .u16 (k : Int), .slice none 0 0] 28) = wf ∧ Below w4.heap.size w4 wf ∧ wf.heap[F]? = some (.cells #[.int .u8 ((d 0).toNat : Int), .int .u8 ((d 1).toNat : Int), .int .u8 ((d 2).toNat : Int), .int .u8 ((d 3).toNat : Int), .int .u8 ((d 4).toNat : Int), .int .u8 ((d 5).toNat : Int), .int .u8 ((s 0).toNat : Int), .int .u8 ((s 1).toNat : Int), .int .u8 ((s 2).toNat : Int), .int .u8 ((s 3).toNat : Int), .int .u8 ((s 4).toNat : Int), .int .u8 ((s 5).toNat : Int), .int .u16 (k : Int), .slice none 0 0] 28 (0, 0)) :=
    ⟨_, _, rfl, rfl, (Below.refl _ _).alloc (Nat.le_refl _) _, heap_alloc_new w4 _⟩
  rw [hq, hF]
  have hE4 := HE4.out.lt
  have hEF : E < F := by omega
  have HE5 := hide (HE4.out.below hbf (Nat.le_refl _))
  have hb0 := hw1.out
  have hg14 : w.grownBy wf (some E) := gb_trans ⟨hb0.os, hb0.tape, hb0.output, hb0.size, fun i hi _ => hb0.block i hi⟩ (gb_trans HG.out ⟨hbf.os, hbf.tape, hbf.output, hbf.size, fun i hi _ => hbf.block i hi⟩)
  have hRf : wf.heap[R]? = some (.cells #[.int .u8 0, .int .u8 0, .int .u8 0, .int .u8 0, .int .u8 0, .int .u8 0, .int .u8 0, .int .u8 0, .int .u8 0, .int .u8 0, .int .u8 0, .int .u8 0, .int .u16 0, .slice none 0 0] 28 (0, 0)) :=
    (hbf.block R (Nat.lt_of_lt_of_le (lt_of_block hR1.out) HG.out.size)).trans ((HG.out.block R (lt_of_block hR1.out) (by intro e; injection e with e; omega)).trans hR1.out)
  have HG5 := hide hg14
  have HRf := hide hRf
  have HFh := hide hFh
  clear hq hF hbf hFh hg14 hRf hE4 hb0
  have hle := left_any E E (xs.drop (12 + 2)) false wf HE5.out
  have hby := bytesOk_any E E (xs.drop (12 + 2)) false (n - 14) wf HE5.out (by rw [List.length_drop, HL.out]; omega) (by rw [List.length_drop, HL.out]; omega)
  rw [show (xs.drop (12 + 2)).length = n - 14 from by rw [List.length_drop, HL.out]] at hle
  rw [List.take_of_length_le (by rw [List.length_drop, HL.out]; omega)] at hby
  refine hle.mono ?_
  rintro e w5 ⟨rfl, rfl⟩
  have HBY := hide hby
  clear hby hle
  go_wp2_with fail
  refine HBY.out.mono ?_
  rintro e w6 ⟨a6, c6, rfl, hown6, he6, hg6⟩
  have hR6 : w6.heap[R]? = some (.cells #[.int .u8 0, .int .u8 0, .int .u8 0, .int .u8 0, .int .u8 0, .int .u8 0, .int .u8 0, .int .u8 0, .int .u8 0, .int .u8 0, .int .u8 0, .int .u8 0, .int .u16 0, .slice none 0 0] 28 (0, 0)) := (hg6.block R (lt_of_block HRf.out) (by intro e; injection e with e; omega)).trans HRf.out
  have hF6 : w6.heap[F]? = some (.cells #[.int .u8 ((d 0).toNat : Int), .int .u8 ((d 1).toNat : Int), .int .u8 ((d 2).toNat : Int), .int .u8 ((d 3).toNat : Int), .int .u8 ((d 4).toNat : Int), .int .u8 ((d 5).toNat : Int), .int .u8 ((s 0).toNat : Int), .int .u8 ((s 1).toNat : Int), .int .u8 ((s 2).toNat : Int), .int .u8 ((s 3).toNat : Int), .int .u8 ((s 4).toNat : Int), .int .u8 ((s 5).toNat : Int), .int .u16 (k : Int), .slice none 0 0] 28 (0, 0)) := (hg6.block F (lt_of_block HFh.out) (by intro e; injection e with e; omega)).trans HFh.out
  obtain ⟨r0, r1, r2, r3, r4, r5, r6, r7, r8, r9, r10, r11, r12, r13⟩ : w6.cell? ⟨R, 0, none⟩ = some (.int .u8 0) ∧ w6.cell? ⟨R, 1, none⟩ = some (.int .u8 0) ∧ w6.cell? ⟨R, 2, none⟩ = some (.int .u8 0) ∧ w6.cell? ⟨R, 3, none⟩ = some (.int .u8 0) ∧ w6.cell? ⟨R, 4, none⟩ = some (.int .u8 0) ∧ w6.cell? ⟨R, 5, none⟩ = some (.int .u8 0) ∧ w6.cell? ⟨R, 6, none⟩ = some (.int .u8 0) ∧ w6.cell? ⟨R, 7, none⟩ = some (.int .u8 0) ∧ w6.cell? ⟨R, 8, none⟩ = some (.int .u8 0) ∧ w6.cell? ⟨R, 9, none⟩ = some (.int .u8 0) ∧ w6.cell? ⟨R, 10, none⟩ = some (.int .u8 0) ∧ w6.cell? ⟨R, 11, none⟩ = some (.int .u8 0) ∧ w6.cell? ⟨R, 12, none⟩ = some (.int .u16 0) ∧ w6.cell? ⟨R, 13, none⟩ = some (.slice none 0 0) := by simp [World.cell?, hR6]
  obtain ⟨m0, m1, m2, m3, m4, m5, m6, m7, m8, m9, m10, m11, m12, m13⟩ : w6.cell? ⟨F, 0, none⟩ = some (.int .u8 ((d 0).toNat : Int)) ∧ w6.cell? ⟨F, 1, none⟩ = some (.int .u8 ((d 1).toNat : Int)) ∧ w6.cell? ⟨F, 2, none⟩ = some (.int .u8 ((d 2).toNat : Int)) ∧ w6.cell? ⟨F, 3, none⟩ = some (.int .u8 ((d 3).toNat : Int)) ∧ w6.cell? ⟨F, 4, none⟩ = some (.int .u8 ((d 4).toNat : Int)) ∧ w6.cell? ⟨F, 5, none⟩ = some (.int .u8 ((d 5).toNat : Int)) ∧ w6.cell? ⟨F, 6, none⟩ = some (.int .u8 ((s 0).toNat : Int)) ∧ w6.cell? ⟨F, 7, none⟩ = some (.int .u8 ((s 1).toNat : Int)) ∧ w6.cell? ⟨F, 8, none⟩ = some (.int .u8 ((s 2).toNat : Int)) ∧ w6.cell? ⟨F, 9, none⟩ = some (.int .u8 ((s 3).toNat : Int)) ∧ w6.cell? ⟨F, 10, none⟩ = some (.int .u8 ((s 4).toNat : Int)) ∧ w6.cell? ⟨F, 11, none⟩ = some (.int .u8 ((s 5).toNat : Int)) ∧ w6.cell? ⟨F, 12, none⟩ = some (.int .u16 (k : Int)) ∧ w6.cell? ⟨F, 13, none⟩ = some (.slice none 0 0) := by simp [World.cell?, hF6]
  have rf : ∀ i, w6.frozen? ⟨R, i, none⟩ = false := fun i => by simp [World.frozen?, hR6]
  have mf : ∀ i, w6.frozen? ⟨F, i, none⟩ = false := fun i => by simp [World.frozen?, hF6]
  have HG6 := hide (gb_trans HG5.out hg6)
  have hRs := HRW.out
  have hb6 : Below w.heap.size w w6 := (Below.refl w.heap.size w).grown HG6.out (Nat.le_refl _) (fun k e => by cases e; omega)
  have hFl := lt_of_block HFh.out
  have hRl := lt_of_block HRf.out
  have hwf : w.heap.size ≤ wf.heap.size := HG5.out.size
  have HO6 := hide hown6
  have hRw : w.heap.size ≤ R := by omega
  have hFw : w.heap.size ≤ F := by omega
  clear hRs
  clear hown6 he6 hg6 hR6 hF6
  go_wp2
  refine bodyPost_ret (v := .tuple #[.agg #[.int .u8 ((d 0).toNat : Int), .int .u8 ((d 1).toNat : Int), .int .u8 ((d 2).toNat : Int), .int .u8 ((d 3).toNat : Int), .int .u8 ((d 4).toNat : Int), .int .u8 ((d 5).toNat : Int), .int .u8 ((s 0).toNat : Int), .int .u8 ((s 1).toNat : Int), .int .u8 ((s 2).toNat : Int), .int .u8 ((s 3).toNat : Int), .int .u8 ((s 4).toNat : Int), .int .u8 ((s 5).toNat : Int), .int .u16 (k : Int), .slice a6 (n - 14) c6], .int .i64 0]) (by simp [results, Try.results7, go_sem, r0, m0, r1, m1, r2, m2, r3, m3, r4, m4, r5, m5, r6, m6, r7, m7, r8, m8, r9, m9, r10, m10, r11, m11, r12, m12, r13, m13]) rfl ⟨a6, c6, rfl, ?_, ?_⟩
  · refine owns_mono ?_ hwf
    repeat (with_reducible refine owns_set ?_ (by assumption))
    exact HO6.out
  · repeat (with_reducible refine Below.setCell ?_ (by assumption) _)
    exact hb6
end Go.Proofs.Ytgpmgfpmfdaecaa
