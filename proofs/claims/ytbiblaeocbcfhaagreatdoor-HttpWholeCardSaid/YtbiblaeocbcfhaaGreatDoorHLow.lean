/- Head: small letters: the program's and the document's. -/
import Derived.Test.YtbiblaeocbcfhaaGreatDoorHMem
namespace Go.Proofs.YtbiblaeocbcfhaaGreatDoor
open Go.RowKit Go.Deep
set_option linter.unusedVariables false
set_option linter.unusedSimpArgs false
set_option maxRecDepth 100000
set_option maxHeartbeats 1000000 in
theorem lower_any (s : ByteArray) (w : World) (hs : s.size ≤ 1000000) : Calls Tryz.prog 56 #[.string s] w fun e w' => e = .returned (.string (bs (lowL s.data.toList))) ∧ Below w.heap.size w w' := by
  obtain ⟨cap, W, hconv, hlw, hb⟩ := bytes8 w s
  obtain ⟨S, hS⟩ : ∃ S, w.heap.size = S := ⟨_, rfl⟩
  obtain ⟨n, hn⟩ : ∃ n, s.size = n := ⟨_, rfl⟩
  rw [hS, hn] at hconv
  rw [hS] at hlw
  obtain ⟨l, hl⟩ : ∃ l, s.data.toList = l := ⟨_, rfl⟩
  have hln : l.length = n := by rw [← hl, ← hn]; simp
  rw [hl] at hlw ⊢
  have HX := hide (And.intro hlw hb)
  have HN := hide (And.intro hln (show n ≤ 1000000 by omega))
  have HSS := hide hS
  clear hlw hb hS hn hl hln hs
  go_enter Tryz.func56, Tryz.ntmps56
  go_wp2_with fail
  go_loopw [10] (fun i wz => ∃ j : Nat, j ≤ n ∧ i = .int .i64 j ∧ Hid (LwAt wz S l j ∧ Below w.heap.size w wz)) (fun i _ => n - (Lib.intOf i).toNat)
  case atStart => exact ⟨0, Nat.zero_le _, rfl, HX⟩
  case round =>
    clear HX hconv
    obtain ⟨j, hj, rfl, HX⟩ := hrel
    have hj4 : (0 : Int) ≤ (j : Int) := by omega
    have hj5 : (j : Int) ≤ 1000000 := by have := HN.out; omega
    by_cases hlt : j < n
    · have d1 : decide (j < n) = true := by simp; omega
      obtain ⟨c, hc⟩ : ∃ c, l[j]? = some c := ⟨_, List.getElem?_eq_getElem (by have := HN.out; omega)⟩
      have hat := HX.out.1.at j c hc
      rw [if_neg (Nat.lt_irrefl j)] at hat
      have q1 : wr.cell? ⟨S, j, none⟩ = some (.int .u8 (c.toNat : Int)) := hat.1
      have q2 := hat.2
      have hG := great_any c wr
      cases hu : upB c with
      | true =>
        have hsm := small_nat c
        rw [hu] at hsm hG
        simp only [if_true] at hsm
        have hr : c.toNat ≤ 90 := by unfold upB at hu; simp at hu; omega
        obtain ⟨x, hx⟩ : ∃ x, c.toNat = x := ⟨_, rfl⟩
        rw [hx] at q1 hG hr hsm
        have hx4 : (0 : Int) ≤ (x : Int) := by omega
        have hx5 : (x : Int) ≤ 90 := by omega
        have hst := HX.out.1.store c hc
        have HF := hide (show LwAt (wr.setCell ⟨S, j, none⟩ (.int .u8 ((x : Int) + 32))) S l (j + 1) ∧ Below w.heap.size w (wr.setCell ⟨S, j, none⟩ (.int .u8 ((x : Int) + 32))) from by
          have e : byV (smallU c) = .int .u8 ((x : Int) + 32) := by unfold byV; rw [hsm]; simp
          rw [e] at hst
          exact ⟨hst, HX.out.2.setCell (by have := HSS.out; simp; omega) _⟩)
        have HL := hide hG
        clear hst hG hat hu hc hx hsm hr HX
        go_wp2_with fail
        (with_reducible refine HL.out.mono ?_)
        rintro e w1 ⟨rfl, rfl⟩
        go_wp2_with fail
        go_roundw
        case rel => exact ⟨j + 1, by omega, by go_num, HF⟩
        case measure => simp [Lib.intOf]; omega
      | false =>
        rw [hu] at hG
        have HF := hide (And.intro (HX.out.1.keep c hc hu) HX.out.2)
        have HL := hide hG
        clear hG hat hu hc HX
        go_wp2_with fail
        (with_reducible refine HL.out.mono ?_)
        rintro e w1 ⟨rfl, rfl⟩
        go_wp2_with fail
        go_roundw
        case rel => exact ⟨j + 1, by omega, by go_num, HF⟩
        case measure => simp [Lib.intOf]; omega
    · have d1 : decide (j < n) = false := by simp; omega
      have hback := LwAt.text (w := wr) (S := S) (l := l) (by rw [show l.length = j by have := HN.out; omega]; exact HX.out.1) cap
      rw [HN.out.1] at hback
      have HF := hide HX.out.2
      clear HX hlt hj
      go_wp2_with fail
      go_ret
      exact ⟨rfl, HF.out⟩
end Go.Proofs.YtbiblaeocbcfhaaGreatDoor
