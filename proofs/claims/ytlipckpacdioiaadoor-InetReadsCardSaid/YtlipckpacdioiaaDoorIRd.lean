/- inet: the number of two bytes at a place. -/
import Derived.Test.YtlipckpacdioiaaDoorInetW
import Derived.Test.YtlipckpacdioiaaDoorREye
import Derived.Test.YtlipckpacdioiaaDoorTEye
namespace Go.Proofs.YtlipckpacdioiaaDoor
open Go.RowKit
set_option linter.unusedVariables false
set_option linter.unusedSimpArgs false
set_option maxRecDepth 100000
theorem fld_mid (xs : List Int) (K m : Nat) (hb : ∀ x ∈ xs, 0 ≤ x ∧ x ≤ 255) : fld ((xs.drop K).take m) 0 m = fld xs K m := by
  unfold fld
  rw [List.drop_zero, List.take_take, Nat.min_self]
theorem number_any (a : Option Addr) (xs : List Int) (n cap K : Nat) (w : World) (hr : Row .u8 w a xs) (hl : xs.length = n) (hnc : n ≤ cap) (hno : a = none → cap = 0) (hb : ∀ x ∈ xs, 0 ≤ x ∧ x ≤ 255) (hk : K + 2 ≤ n) (hK : K ≤ 1000) :
    Calls Tryd.prog 24 #[.slice a n cap, .int .i64 (K : Int)] w fun e w' => e = .returned (.int .u64 (fld xs K 2 : Int)) ∧ Below w.heap.size w w' := by
  obtain ⟨A, hrun, hrow, hA⟩ := cut_run a xs n cap K 2 w hr hl hnc hno hk
  have hsum : wrap64 ((K : Int) + 2) = (K : Int) + 2 := by unfold wrap64; omega
  have hrun2 : ∀ W, (Instr.slice 25 (.slice a n cap) (some (.int .i64 (K : Int))) (some (.int .i64 ((K : Int) + 2))) none).run Tryd.prog W = .ok (.slice A 2 (cap - K)) W := fun W => hrun W
  have hlen : ((xs.drop K).take 2).length = 2 := by rw [List.length_take, List.length_drop]; omega
  have hb2 : ∀ x ∈ (xs.drop K).take 2, 0 ≤ x ∧ x ≤ 255 := fun x hx => hb x (List.mem_of_mem_drop (List.mem_of_mem_take hx))
  have HNE := hide (newEye_any A ((xs.drop K).take 2) (cap - K) w hrow (by omega))
  rw [hlen] at HNE
  have HEN := hide (fun (E : Nat) (W : World) (h : EyeAt W E E ((xs.drop K).take 2) false) => eyeNum_at E E 0 2 ((xs.drop K).take 2) W (by simpa using h) hb2 (by omega) (by omega) (by omega))
  rw [fld_mid xs K 2 hb] at HEN
  clear hrun hrow hb2 hlen hr hl
  go_enter Tryd.func24, Tryd.ntmps24
  go_wp2_with fail
  refine HNE.out.mono ?_
  rintro e w1 ⟨E, rfl, hE, heye, hb1⟩
  have HB1 := hide hb1
  have HN := hide (HEN.out E w1 heye)
  have HE := hide hE
  clear hE heye hb1 HEN HNE
  go_wp2_with fail
  refine HN.out.mono ?_
  rintro e w2 ⟨rfl, he2, hg2⟩
  have HB2 := hide (show Below w.heap.size w w2 from HB1.out.grown hg2 HB1.out.size (fun k e => by have := HE.out; cases e; omega))
  clear he2 hg2
  go_wp2_with fail
  refine bodyPost_ret (v := .int .u64 (fld xs K 2 : Int)) (by simp [results, Tryd.results24, go_sem]) rfl ⟨rfl, HB2.out⟩
end Go.Proofs.YtlipckpacdioiaaDoor
