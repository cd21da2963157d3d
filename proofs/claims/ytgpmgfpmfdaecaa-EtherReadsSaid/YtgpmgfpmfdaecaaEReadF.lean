/- What ether.Read answers. -/
import Derived.Test.YtgpmgfpmfdaecaaEMac
namespace Go.Proofs.Ytgpmgfpmfdaecaa
open Go.RowKit
set_option linter.unusedVariables false
set_option linter.unusedSimpArgs false
set_option maxRecDepth 100000 in
set_option maxHeartbeats 1600000 in
theorem eread_form (w : World) (a : Option Addr) (xs : List Int) (n cap : Nat) (d s : Nat → UInt8) (k : Nat) (hr : Row .u8 w a xs) (hn : xs.length = n) (h1 : 14 ≤ n) (h2 : n ≤ 1514) (hb : ∀ x ∈ xs, 0 ≤ x ∧ x ≤ 255)
    (hd : xs.take 6 = [((d 0).toNat : Int), ((d 1).toNat : Int), ((d 2).toNat : Int), ((d 3).toNat : Int), ((d 4).toNat : Int), ((d 5).toNat : Int)]) (hs : (xs.drop 6).take 6 = [((s 0).toNat : Int), ((s 1).toNat : Int), ((s 2).toNat : Int), ((s 3).toNat : Int), ((s 4).toNat : Int), ((s 5).toNat : Int)]) (hk : valB ((xs.drop 12).take 2) = (k : Int)) (h3 : k < 1536) :
    Calls Try.prog 7 #[.slice a n cap] w fun e w' => e = .returned (.tuple #[.agg #[.int .u8 0, .int .u8 0, .int .u8 0, .int .u8 0, .int .u8 0, .int .u8 0, .int .u8 0, .int .u8 0, .int .u8 0, .int .u8 0, .int .u8 0, .int .u8 0, .int .u16 0, .slice none 0 0], .int .i64 11]) ∧ Below w.heap.size w w' := by
  have HR := hide hr
  have HL := hide hn
  have HD := hide hd
  have HS := hide hs
  have HK := hide hk
  have HB := hide hb
  clear hr hn hd hs hk hb
  go_enter Try.func7, Try.ntmps7
  go_wp2_with fail
  obtain ⟨R, wq, hR, hq, hbel, hRh⟩ : ∃ R wq, w.heap.size = R ∧ w.alloc (.cells #[.int .u8 0, .int .u8 0, .int .u8 0, .int .u8 0, .int .u8 0, .int .u8 0, .int .u8 0, .int .u8 0, .int .u8 0, .int .u8 0, .int .u8 0, .int .u8 0, .int .u16 0, .slice none 0 0] 28) = wq ∧ Below w.heap.size w wq ∧ wq.heap[R]? = some (.cells #[.int .u8 0, .int .u8 0, .int .u8 0, .int .u8 0, .int .u8 0, .int .u8 0, .int .u8 0, .int .u8 0, .int .u8 0, .int .u8 0, .int .u8 0, .int .u8 0, .int .u16 0, .slice none 0 0] 28 (0, 0)) :=
    ⟨_, _, rfl, rfl, (Below.refl _ _).alloc (Nat.le_refl _) _, heap_alloc_new w _⟩
  rw [hq, hR]
  have HRW := hide hR
  have HRh := hide hRh
  clear hq hR hRh
  have hne := newEye_any a xs cap wq (HR.out.below hbel (Nat.le_refl _)) (by rw [HL.out]; omega)
  rw [HL.out] at hne
  refine hne.mono ?_
  clear hne
  rintro e w1 ⟨E, rfl, hE, heye, hb1⟩
  have hRE : R < E := Nat.lt_of_lt_of_le (lt_of_block HRh.out) hE
  have hR1 := hide ((hb1.block R (lt_of_block HRh.out)).trans HRh.out)
  have hw1 := hide (hbel.trans (hb1.mono hbel.size))
  have HE1 := hide heye
  clear hb1 heye
  go_wp2_with fail
  refine (readMAC_any E E xs false w1 d HE1.out (by rw [HL.out]; omega) (by rw [HL.out]; omega) HD.out).mono ?_
  rintro e w2 ⟨rfl, he2, hg2⟩
  have HE2 := hide he2
  have HG2 := hide hg2
  clear he2 hg2
  go_wp2_with fail
  refine (readMAC_any E E (xs.drop 6) false w2 s HE2.out (by rw [List.length_drop, HL.out]; omega) (by rw [List.length_drop, HL.out]; omega) HS.out).mono ?_
  rintro e w3 ⟨rfl, he3, hg3⟩
  rw [List.drop_drop] at he3
  have HE3 := hide he3
  have HG3 := hide hg3
  clear he3 hg3
  have hnum := eyeNum_any E E (xs.drop (6 + 6)) false 2 w3 HE3.out (fun x hx => HB.out x (List.mem_of_mem_drop hx)) (by rw [List.length_drop, HL.out]; omega)
  rw [show sz 2 = 2 from rfl, if_pos (by rw [List.length_drop, HL.out]; omega), if_pos (by rw [List.length_drop, HL.out]; omega), show decide ((xs.drop (6 + 6)).length < 2) = false from by simp; rw [HL.out]; omega, List.drop_drop, HK.out] at hnum
  have HN := hide hnum
  clear hnum
  go_wp2_with fail
  refine HN.out.mono ?_
  rintro e w4 ⟨rfl, he4, hg4⟩
  have HE4 := hide he4
  have HG := hide (gb_trans HG2.out (gb_trans HG3.out hg4))
  clear he4 hg4
  have hcw : IntKind.u16.wrap (k : Int) = (k : Int) := wraps_u16 _ (by omega) (by omega)
  have hb0 := hw1.out
  have hg14 : w.grownBy w4 (some E) := gb_trans ⟨hb0.os, hb0.tape, hb0.output, hb0.size, fun i hi _ => hb0.block i hi⟩ HG.out
  have hR4 : w4.heap[R]? = some (.cells #[.int .u8 0, .int .u8 0, .int .u8 0, .int .u8 0, .int .u8 0, .int .u8 0, .int .u8 0, .int .u8 0, .int .u8 0, .int .u8 0, .int .u8 0, .int .u8 0, .int .u16 0, .slice none 0 0] 28 (0, 0)) :=
    (HG.out.block R (lt_of_block hR1.out) (by intro e; injection e with e; omega)).trans hR1.out
  obtain ⟨r0, r1, r2, r3, r4, r5, r6, r7, r8, r9, r10, r11, r12, r13⟩ : w4.cell? ⟨R, 0, none⟩ = some (.int .u8 0) ∧ w4.cell? ⟨R, 1, none⟩ = some (.int .u8 0) ∧ w4.cell? ⟨R, 2, none⟩ = some (.int .u8 0) ∧ w4.cell? ⟨R, 3, none⟩ = some (.int .u8 0) ∧ w4.cell? ⟨R, 4, none⟩ = some (.int .u8 0) ∧ w4.cell? ⟨R, 5, none⟩ = some (.int .u8 0) ∧ w4.cell? ⟨R, 6, none⟩ = some (.int .u8 0) ∧ w4.cell? ⟨R, 7, none⟩ = some (.int .u8 0) ∧ w4.cell? ⟨R, 8, none⟩ = some (.int .u8 0) ∧ w4.cell? ⟨R, 9, none⟩ = some (.int .u8 0) ∧ w4.cell? ⟨R, 10, none⟩ = some (.int .u8 0) ∧ w4.cell? ⟨R, 11, none⟩ = some (.int .u8 0) ∧ w4.cell? ⟨R, 12, none⟩ = some (.int .u16 0) ∧ w4.cell? ⟨R, 13, none⟩ = some (.slice none 0 0) := by simp [World.cell?, hR4]
  have rf : ∀ i, w4.frozen? ⟨R, i, none⟩ = false := fun i => by simp [World.frozen?, hR4]
  have hRl := lt_of_block hR4
  have hRs := HRW.out
  have hb4 : Below w.heap.size w w4 := (Below.refl w.heap.size w).grown hg14 (Nat.le_refl _) (fun k e => by cases e; omega)
  have hws := hg14.size
  have hRw : w.heap.size ≤ R := by omega
  clear hRs hb0 hg14 hR4
  have hn1 : ¬ R = w4.heap.size := by omega
  have hn2 : ¬ w4.heap.size = R := by omega
  go_wp2
  refine bodyPost_ret (v := .tuple #[.agg #[.int .u8 0, .int .u8 0, .int .u8 0, .int .u8 0, .int .u8 0, .int .u8 0, .int .u8 0, .int .u8 0, .int .u8 0, .int .u8 0, .int .u8 0, .int .u8 0, .int .u16 0, .slice none 0 0], .int .i64 11]) (by simp [results, Try.results7, go_sem, hn1, hn2, hRl, r0, r1, r2, r3, r4, r5, r6, r7, r8, r9, r10, r11, r12, r13]) rfl ⟨rfl, ?_⟩
  repeat (with_reducible first | refine Below.setCell ?_ (by assumption) _ | refine Below.alloc ?_ (by simpa using hws) _)
  exact hb4
end Go.Proofs.Ytgpmgfpmfdaecaa
