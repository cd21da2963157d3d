/- inet: InetWithin. -/
import Derived.Test.YtlepjkmobihhlaaDoorIParse
import Derived.Test.YtlepjkmobihhlaaDoorCWithin
namespace Go.Proofs.YtlepjkmobihhlaaDoor
open Go.RowKit
set_option linter.unusedVariables false
set_option linter.unusedSimpArgs false
set_option maxRecDepth 100000
theorem winB_self (a : Nat) (nb : Int) : winB a a nb = true := by rw [winB_def]; simp
set_option maxHeartbeats 1600000 in
theorem inetWithin_any (a n : Nat) (nb : Int) (w : World) (ha : a ≤ 4294967295) (hn : n ≤ 4294967295) (hp : PT w) :
    Calls Tryd.prog 6 #[.int .u32 (a : Int), .int .u32 (n : Int), .int .i64 nb] w fun e w' => e = .returned (.bool true) ∧ Below w.heap.size w w' := by
  have HS := hide (speaks_any w hp)
  have H1 := hide (fun W => within_any a n nb W ha hn)
  have H2 := hide (fun W => withinR_any a n nb W ha hn)
  have H3 := hide (fun W => within_any a a nb W ha ha)
  rw [winB_self] at H3
  generalize winB a n nb = B at *
  clear hp
  go_enter Tryd.func6, Tryd.ntmps6
  go_wp2_with fail
  refine HS.out.mono ?_
  rintro e w1 ⟨rfl, b1⟩
  have HB1 := hide b1
  clear b1 HS
  go_wp2_with fail
  refine (H1.out w1).mono ?_
  rintro e w2 ⟨rfl, q2, hw2⟩
  have HB2 := hide (show Below w.heap.size w w2 from hw2 ▸ HB1.out.trans ⟨rfl, rfl, rfl, Nat.le_refl _, fun _ _ => rfl⟩)
  clear hw2 HB1 H1
  go_wp2_with fail
  refine (H2.out w2).mono ?_
  rintro e w3 ⟨rfl, rfl⟩
  have HZ := hide (H3.out w3)
  clear H3 H2
  cases B
  all_goals
    go_wp2_with fail
    refine HZ.out.mono ?_
    rintro e w4 ⟨rfl, q4, hw4⟩
    have HB4 := hide (show Below w.heap.size w w4 from hw4 ▸ HB2.out.trans ⟨rfl, rfl, rfl, Nat.le_refl _, fun _ _ => rfl⟩)
    clear hw4
    go_wp2_with fail
    refine bodyPost_ret (v := .bool true) (by simp [results, Tryd.results6, go_sem]) rfl ⟨rfl, HB4.out⟩
end Go.Proofs.YtlepjkmobihhlaaDoor
