/- value: addresses, the example: both sides. -/
import Derived.Test.YtdofdbajilkimaaDoorVNm
import Derived.Test.YtdofdbajilkimaaDoorIRPa
namespace Go.Proofs.YtdofdbajilkimaaDoor
open Go.RowKit Go.Lib
set_option linter.unusedVariables false
set_option linter.unusedSimpArgs false
set_option maxRecDepth 100000
def vaddrL (l : List UInt8) : Option Nat := if l = [] then some 0 else addrD l
theorem nil_eq (s : ByteArray) : (s.toList == []) = decide (s.data.toList = []) := by
  rw [Lib.toList_data]
  cases s.data.toList <;> simp
set_option maxHeartbeats 1000000 in
theorem addr_any (s : ByteArray) (w : World) (hE : ET w) (hs : s.size ≤ 1000) :
    Calls Tryd.prog 9 #[.string s] w fun e w' => e = .returned (addrV (vaddrL s.data.toList)) ∧ Below w.heap.size w w' := by
  have hq := nil_eq s
  by_cases h : s.data.toList = []
  · rw [decide_eq_true h] at hq
    have HX := hide (show vaddrL s.data.toList = some 0 by unfold vaddrL; rw [if_pos h])
    clear h hE hs
    go_enter Tryd.func9, Tryd.ntmps9
    go_wp2_with fail
    go_ret2
    exact ⟨by rw [HX.out]; rfl, Below.refl _ _⟩
  · rw [decide_eq_false h] at hq
    have hP := parse_gen s w hE hs
    rw [show addrD s.data.toList = vaddrL s.data.toList by unfold vaddrL; rw [if_neg h]] at hP
    obtain ⟨r, hr⟩ : ∃ r, vaddrL s.data.toList = r := ⟨_, rfl⟩
    rw [hr] at hP ⊢
    have HP := hide hP
    clear h hE hs hP hr
    go_enter Tryd.func9, Tryd.ntmps9
    go_wp2_with fail
    refine HP.out.mono ?_
    rintro e w1 ⟨rfl, b1⟩
    have HB := hide b1
    clear b1 HP
    cases r
    all_goals
      unfold addrV
      go_wp2_with fail
      go_ret2
      exact ⟨rfl, HB.out⟩
set_option maxHeartbeats 1000000 in
theorem raddr_any (s : ByteArray) (w : World) (hs : s.size ≤ 1000) :
    Calls Tryd.prog 13 #[.string s] w fun e w' => e = .returned (addrV (vaddrL s.data.toList)) ∧ w' = w := by
  obtain ⟨n, hn⟩ : ∃ n, s.size = n := ⟨_, rfl⟩
  have hlen : s.data.toList.length = n := by rw [← hn]; simp
  by_cases h : n = 0
  · have HX := hide (show vaddrL s.data.toList = some 0 by unfold vaddrL; rw [if_pos (List.eq_nil_of_length_eq_zero (by omega))])
    have d1 : ((n : Int) == 0) = true := by simp; omega
    clear h hs hlen
    go_enter Tryd.func13, Tryd.ntmps13
    go_wp2_with fail
    go_ret2
    exact ⟨by rw [HX.out]; rfl, by first | rfl | trivial⟩
  · have d1 : ((n : Int) == 0) = false := by simp; omega
    have hP := rparse_any s w hs
    rw [show addrD s.data.toList = vaddrL s.data.toList by unfold vaddrL; rw [if_neg (by intro e; rw [e] at hlen; simp at hlen; omega)]] at hP
    obtain ⟨r, hr⟩ : ∃ r, vaddrL s.data.toList = r := ⟨_, rfl⟩
    rw [hr] at hP ⊢
    have HP := hide hP
    clear h hs hP hr hlen
    go_enter Tryd.func13, Tryd.ntmps13
    go_wp2_with fail
    refine HP.out.mono ?_
    rintro e w1 ⟨rfl, rfl⟩
    clear HP
    cases r
    all_goals
      unfold addrV
      go_wp2_with fail
      go_ret2
      exact ⟨rfl, by first | rfl | trivial⟩
def s7 : ByteArray := ⟨#[48, 48, 55]⟩
def sT : ByteArray := ⟨#[84, 114, 117, 101]⟩
theorem num7 : numMost s7.data.toList 65535 = some 7 := by kernel_rfl
theorem flagT : flagV sT = .tuple #[.bool false, .bool false] := by kernel_rfl
set_option maxHeartbeats 1000000 in
theorem speaks_any (w : World) (hE : ET w) : Calls Tryd.prog 6 #[] w fun e w' => e = .returned (.bool true) ∧ Below w.heap.size w w' := by
  have h1 := vnum_any s7 65535 w hE
  rw [num7] at h1
  unfold numVV s7 at h1
  have h2 := fun W => flag_any sT W
  rw [flagT] at h2
  unfold sT at h2
  have H1 := hide h1
  have H2 := hide h2
  clear h1 h2 hE
  go_enter Tryd.func6, Tryd.ntmps6
  go_wp2_with fail
  refine H1.out.mono ?_
  rintro e w1 ⟨rfl, b1⟩
  have HB := hide b1
  clear b1 H1
  go_wp2_with fail
  refine (H2.out _).mono ?_
  rintro e w2 ⟨rfl, rfl⟩
  go_wp2_with fail
  go_ret
  exact ⟨rfl, HB.out⟩
end Go.Proofs.YtdofdbajilkimaaDoor
