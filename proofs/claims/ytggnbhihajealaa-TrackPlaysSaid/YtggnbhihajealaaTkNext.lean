/- What was seen of a connection behind a segment: the program's and the document's. -/
import Derived.Test.YtggnbhihajealaaTkFns
namespace Go.Proofs.Ytggnbhihajealaa
open Go.RowKit
set_option linter.unusedVariables false
set_option linter.unusedSimpArgs false
set_option maxRecDepth 100000
theorem nx_no {s : St5} {f : Nat} {out : Bool} (h : (out && begB f && overB s) = false) : nx s f out = ⟨s.a || (kB f 1 && out), s.b || (kB f 1 && !out), s.c || (kB f 0 && out), s.d || (kB f 0 && !out), s.e || kB f 2⟩ := by
  unfold nx; rw [h]; rfl
theorem nx_yes {s : St5} {f : Nat} {out : Bool} (h : (out && begB f && overB s) = true) : nx s f out = ⟨true, false, false, false, false⟩ := by
  unfold nx; rw [h]; rfl
theorem ret5 {a b c d e a2 b2 c2 d2 e2 : Bool} (h1 : a = a2) (h2 : b = b2) (h3 : c = c2) (h4 : d = d2) (h5 : e = e2) : Ending.returned (.agg #[.bool a, .bool b, .bool c, .bool d, .bool e]) = .returned (.agg #[.bool a2, .bool b2, .bool c2, .bool d2, .bool e2]) := by
  rw [h1, h2, h3, h4, h5]
set_option maxHeartbeats 8000000 in
theorem nextP_in (f : Nat) (a b c d e : Bool) (w : World) (hf : f < 256) :
    Calls Try.prog 10 #[(St5.mk a b c d e).v, .int .u8 (f : Int), .bool false] w fun x w' => x = .returned (nx ⟨a, b, c, d, e⟩ f false).v ∧ Below w.heap.size w w' := by
  rw [nx_no (by rfl)]
  have h1 := syn_and f hf
  have h2 := fin_and f hf
  have h3 := rst_and f hf
  generalize kB f 1 = sy at *
  generalize kB f 0 = fi at *
  generalize kB f 2 = rs at *
  unfold St5.v at *
  dsimp only at *
  obtain ⟨V, hV0⟩ : ∃ V, Value.agg #[.bool (a || (sy && false)), .bool (b || (sy && !false)), .bool (c || (fi && false)), .bool (d || (fi && !false)), .bool (e || rs)] = V := ⟨_, rfl⟩
  rw [hV0]
  have HV0 := hide hV0
  clear hV0
  cases b <;> cases d <;> cases e <;>
  · go_enter Try.func10, Try.ntmps10
    go_wp2_with fail
    refine bodyPost_ret (v := V) (by rw [← HV0.out]; simp [results, Try.results10, go_sem]) rfl ⟨rfl, ?_⟩
    repeat (first | exact Below.refl _ _ | refine Below.setCell ?_ (Nat.le_refl _) _ | refine Below.setCell ?_ (by first | (simp; done) | (simp; omega)) _ | refine Below.alloc ?_ (by first | (simp; done) | (simp; omega)) _)
set_option maxHeartbeats 8000000 in
theorem nextP_out (f : Nat) (a b c d e : Bool) (w : World) (hf : f < 256) (hn : (begB f && overB ⟨a, b, c, d, e⟩) = false) :
    Calls Try.prog 10 #[(St5.mk a b c d e).v, .int .u8 (f : Int), .bool true] w fun x w' => x = .returned (nx ⟨a, b, c, d, e⟩ f true).v ∧ Below w.heap.size w w' := by
  rw [nx_no (by simpa using hn)]
  have h1 := syn_and f hf
  have h2 := fin_and f hf
  have h3 := rst_and f hf
  have HG := hide (fun V : World => begins_any f V hf)
  have HV := hide (fun V : World => overP_any a b c d e V)
  generalize begB f = bg at *
  generalize overB ⟨a, b, c, d, e⟩ = ov at *
  generalize kB f 1 = sy at *
  generalize kB f 0 = fi at *
  generalize kB f 2 = rs at *
  unfold St5.v at *
  dsimp only at *
  obtain ⟨V, hV0⟩ : ∃ V, Value.agg #[.bool (a || (sy && true)), .bool (b || (sy && !true)), .bool (c || (fi && true)), .bool (d || (fi && !true)), .bool (e || rs)] = V := ⟨_, rfl⟩
  rw [hV0]
  have HV0 := hide hV0
  clear hV0
  have HB := hide (((Below.refl w.heap.size w).alloc (Nat.le_refl _) (.cells #[.bool a, .bool b, .bool c, .bool d, .bool e] 23)))
  cases bg
  · clear HV hn
    cases a <;> cases c <;> cases e <;>
    · go_enter Try.func10, Try.ntmps10
      go_wp2_with ((with_reducible refine (HG.out _).mono ?_); rintro _ w1 ⟨rfl, rfl⟩)
      refine bodyPost_ret (v := V) (by rw [← HV0.out]; simp [results, Try.results10, go_sem]) rfl ⟨rfl, ?_⟩
      repeat (first | exact Below.refl _ _ | refine Below.setCell ?_ (Nat.le_refl _) _ | refine Below.setCell ?_ (by first | (simp; done) | (simp; omega)) _ | refine Below.alloc ?_ (by first | (simp; done) | (simp; omega)) _)
  · obtain rfl : ov = false := by simpa using hn
    clear hn
    cases a <;> cases c <;> cases e <;>
    · go_enter Try.func10, Try.ntmps10
      go_wp2_with ((with_reducible refine (HG.out _).mono ?_); rintro _ w1 ⟨rfl, rfl⟩)
      refine (HV.out _).mono ?_
      rintro _ w2 ⟨rfl, rfl⟩
      go_wp2_with fail
      refine bodyPost_ret (v := V) (by rw [← HV0.out]; simp [results, Try.results10, go_sem]) rfl ⟨rfl, ?_⟩
      repeat (first | exact Below.refl _ _ | refine Below.setCell ?_ (Nat.le_refl _) _ | refine Below.setCell ?_ (by first | (simp; done) | (simp; omega)) _ | refine Below.alloc ?_ (by first | (simp; done) | (simp; omega)) _)
end Go.Proofs.Ytggnbhihajealaa
