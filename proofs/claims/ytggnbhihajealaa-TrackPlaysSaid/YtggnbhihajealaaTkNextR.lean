/- What was seen of a connection behind a segment: the document's. -/
import Derived.Test.YtggnbhihajealaaTkNext
namespace Go.Proofs.Ytggnbhihajealaa
open Go.RowKit
set_option linter.unusedVariables false
set_option linter.unusedSimpArgs false
set_option maxRecDepth 100000
set_option maxHeartbeats 8000000 in
theorem nextR_in (f : Nat) (a b c d e : Bool) (w : World) (hf : f < 256) :
    Calls Try.prog 11 #[(St5.mk a b c d e).v, .int .u8 (f : Int), .bool false] w fun x w' => x = .returned (nx ⟨a, b, c, d, e⟩ f false).v ∧ Below w.heap.size w w' := by
  rw [nx_no (by rfl)]
  have K1 := hide (fun V : World => bit_num f 1 1 rfl V hf (by omega))
  have K0 := hide (fun V : World => bit_num f 0 0 rfl V hf (by omega))
  have K2 := hide (fun V : World => bit_num f 2 2 rfl V hf (by omega))
  have HG := hide (fun V : World => beginsR_any f V hf)
  generalize begB f = bg at *
  generalize kB f 1 = sy at *
  generalize kB f 0 = fi at *
  generalize kB f 2 = rs at *
  unfold St5.v at *
  dsimp only at *
  obtain ⟨V, hV0⟩ : ∃ V, Value.agg #[.bool (a || (sy && false)), .bool (b || (sy && !false)), .bool (c || (fi && false)), .bool (d || (fi && !false)), .bool (e || rs)] = V := ⟨_, rfl⟩
  rw [hV0]
  have HV0 := hide hV0
  clear hV0
  cases sy <;> cases fi <;> cases rs <;> cases bg <;>
  · go_enter Try.func11, Try.ntmps11
    go_wp2_with (first | ((with_reducible refine (K1.out _).mono ?_); rintro _ w1 ⟨rfl, rfl⟩) | ((with_reducible refine (K0.out _).mono ?_); rintro _ w1 ⟨rfl, rfl⟩) | ((with_reducible refine (K2.out _).mono ?_); rintro _ w1 ⟨rfl, rfl⟩) | ((with_reducible refine (HG.out _).mono ?_); rintro _ w1 ⟨rfl, rfl⟩))
    refine bodyPost_ret (v := V) (by rw [← HV0.out]; simp [results, Try.results11, go_sem]) rfl ⟨rfl, ?_⟩
    repeat (first | exact Below.refl _ _ | refine Below.setCell ?_ (Nat.le_refl _) _ | refine Below.setCell ?_ (by first | (simp; done) | (simp; omega)) _ | refine Below.alloc ?_ (by first | (simp; done) | (simp; omega)) _)
set_option maxHeartbeats 8000000 in
theorem nextR_out (f : Nat) (a b c d e : Bool) (w : World) (hf : f < 256) (hn : (begB f && overB ⟨a, b, c, d, e⟩) = false) :
    Calls Try.prog 11 #[(St5.mk a b c d e).v, .int .u8 (f : Int), .bool true] w fun x w' => x = .returned (nx ⟨a, b, c, d, e⟩ f true).v ∧ Below w.heap.size w w' := by
  rw [nx_no (by simpa using hn)]
  have K1 := hide (fun V : World => bit_num f 1 1 rfl V hf (by omega))
  have K0 := hide (fun V : World => bit_num f 0 0 rfl V hf (by omega))
  have K2 := hide (fun V : World => bit_num f 2 2 rfl V hf (by omega))
  have HG := hide (fun V : World => beginsR_any f V hf)
  have HV := hide (fun V : World => overR_any a b c d e V)
  generalize begB f = bg at *
  generalize overB ⟨a, b, c, d, e⟩ = ov at *
  generalize kB f 1 = sy at *
  generalize kB f 0 = fi at *
  generalize kB f 2 = rs at *
  unfold St5.v at *
  dsimp only at *
  obtain ⟨V, hV0⟩ : ∃ V, Value.agg #[.bool (a || (sy && true)), .bool (b || (sy && !true)), .bool (c || (fi && true)), .bool (d || (fi && !true)), .bool (e || rs)] = V := ⟨_, rfl⟩
  rw [hV0]
  have HV0 := hide hV0
  clear hV0
  have HB := hide (((Below.refl w.heap.size w).alloc (Nat.le_refl _) (.cells #[.bool a, .bool b, .bool c, .bool d, .bool e] 23)))
  cases bg
  · clear HV hn
    cases sy <;> cases fi <;> cases rs <;>
    · go_enter Try.func11, Try.ntmps11
      go_wp2_with (first | ((with_reducible refine (K1.out _).mono ?_); rintro _ w1 ⟨rfl, rfl⟩) | ((with_reducible refine (K0.out _).mono ?_); rintro _ w1 ⟨rfl, rfl⟩) | ((with_reducible refine (K2.out _).mono ?_); rintro _ w1 ⟨rfl, rfl⟩) | ((with_reducible refine (HG.out _).mono ?_); rintro _ w1 ⟨rfl, rfl⟩))
      refine bodyPost_ret (v := V) (by rw [← HV0.out]; simp [results, Try.results11, go_sem]) rfl ⟨rfl, ?_⟩
      repeat (first | exact Below.refl _ _ | refine Below.setCell ?_ (Nat.le_refl _) _ | refine Below.setCell ?_ (by first | (simp; done) | (simp; omega)) _ | refine Below.alloc ?_ (by first | (simp; done) | (simp; omega)) _)
  · obtain rfl : ov = false := by simpa using hn
    clear hn
    cases sy <;> cases fi <;> cases rs <;>
    · go_enter Try.func11, Try.ntmps11
      go_wp2_with ((with_reducible refine (HG.out _).mono ?_); rintro _ w1 ⟨rfl, rfl⟩)
      refine (HV.out _).mono ?_
      rintro _ w2 ⟨rfl, rfl⟩
      go_wp2_with (first | ((with_reducible refine (K1.out _).mono ?_); rintro _ w1 ⟨rfl, rfl⟩) | ((with_reducible refine (K0.out _).mono ?_); rintro _ w1 ⟨rfl, rfl⟩) | ((with_reducible refine (K2.out _).mono ?_); rintro _ w1 ⟨rfl, rfl⟩) | ((with_reducible refine (HG.out _).mono ?_); rintro _ w1 ⟨rfl, rfl⟩))
      refine bodyPost_ret (v := V) (by rw [← HV0.out]; simp [results, Try.results11, go_sem]) rfl ⟨rfl, ?_⟩
      repeat (first | exact Below.refl _ _ | refine Below.setCell ?_ (Nat.le_refl _) _ | refine Below.setCell ?_ (by first | (simp; done) | (simp; omega)) _ | refine Below.alloc ?_ (by first | (simp; done) | (simp; omega)) _)
set_option maxHeartbeats 8000000 in
theorem nextP_over (f : Nat) (a b c d e : Bool) (w : World) (hf : f < 256) (hn : (begB f && overB ⟨a, b, c, d, e⟩) = true) :
    Calls Try.prog 10 #[(St5.mk a b c d e).v, .int .u8 (f : Int), .bool true] w fun x w' => x = .returned (nx ⟨a, b, c, d, e⟩ f true).v ∧ Below w.heap.size w w' := by
  rw [nx_yes (by simpa using hn)]
  have HG := hide (fun V : World => begins_any f V hf)
  have HV := hide (fun V : World => overP_any a b c d e V)
  generalize begB f = bg at *
  generalize overB ⟨a, b, c, d, e⟩ = ov at *
  obtain ⟨rfl, rfl⟩ : bg = true ∧ ov = true := by simpa using hn
  clear hn
  unfold St5.v at *
  dsimp only at *
  obtain ⟨V, hV0⟩ : ∃ V, Value.agg #[.bool true, .bool false, .bool false, .bool false, .bool false] = V := ⟨_, rfl⟩
  rw [hV0]
  have HV0 := hide hV0
  clear hV0
  have HB := hide (((Below.refl w.heap.size w).alloc (Nat.le_refl _) (.cells #[.bool a, .bool b, .bool c, .bool d, .bool e] 23)))
  go_enter Try.func10, Try.ntmps10
  go_wp2_with ((with_reducible refine (HG.out _).mono ?_); rintro _ w1 ⟨rfl, rfl⟩)
  refine (HV.out _).mono ?_
  rintro _ w2 ⟨rfl, rfl⟩
  go_wp2_with fail
  refine bodyPost_ret (v := V) (by rw [← HV0.out]; simp [results, Try.results10, go_sem]) rfl ⟨rfl, ?_⟩
  repeat (first | exact Below.refl _ _ | refine Below.setCell ?_ (Nat.le_refl _) _ | refine Below.setCell ?_ (by first | (simp; done) | (simp; omega)) _ | refine Below.alloc ?_ (by first | (simp; done) | (simp; omega)) _)
set_option maxHeartbeats 8000000 in
theorem nextR_over (f : Nat) (a b c d e : Bool) (w : World) (hf : f < 256) (hn : (begB f && overB ⟨a, b, c, d, e⟩) = true) :
    Calls Try.prog 11 #[(St5.mk a b c d e).v, .int .u8 (f : Int), .bool true] w fun x w' => x = .returned (nx ⟨a, b, c, d, e⟩ f true).v ∧ Below w.heap.size w w' := by
  rw [nx_yes (by simpa using hn)]
  have HG := hide (fun V : World => beginsR_any f V hf)
  have HV := hide (fun V : World => overR_any a b c d e V)
  generalize begB f = bg at *
  generalize overB ⟨a, b, c, d, e⟩ = ov at *
  obtain ⟨rfl, rfl⟩ : bg = true ∧ ov = true := by simpa using hn
  clear hn
  unfold St5.v at *
  dsimp only at *
  obtain ⟨V, hV0⟩ : ∃ V, Value.agg #[.bool true, .bool false, .bool false, .bool false, .bool false] = V := ⟨_, rfl⟩
  rw [hV0]
  have HV0 := hide hV0
  clear hV0
  have HB := hide (((Below.refl w.heap.size w).alloc (Nat.le_refl _) (.cells #[.bool a, .bool b, .bool c, .bool d, .bool e] 23)))
  go_enter Try.func11, Try.ntmps11
  go_wp2_with ((with_reducible refine (HG.out _).mono ?_); rintro _ w1 ⟨rfl, rfl⟩)
  refine (HV.out _).mono ?_
  rintro _ w2 ⟨rfl, rfl⟩
  go_wp2_with fail
  refine bodyPost_ret (v := V) (by rw [← HV0.out]; simp [results, Try.results11, go_sem]) rfl ⟨rfl, ?_⟩
  repeat (first | exact Below.refl _ _ | refine Below.setCell ?_ (Nat.le_refl _) _ | refine Below.setCell ?_ (by first | (simp; done) | (simp; omega)) _ | refine Below.alloc ?_ (by first | (simp; done) | (simp; omega)) _)
theorem next_any (f : Nat) (s : St5) (out : Bool) (w : World) (hf : f < 256) :
    Calls Try.prog 10 #[s.v, .int .u8 (f : Int), .bool out] w fun x w' => x = .returned (nx s f out).v ∧ Below w.heap.size w w' := by
  obtain ⟨a, b, c, d, e⟩ := s
  cases out
  · exact nextP_in f a b c d e w hf
  · by_cases h : (begB f && overB ⟨a, b, c, d, e⟩) = true
    · exact nextP_over f a b c d e w hf h
    · exact nextP_out f a b c d e w hf (by simpa using h)
theorem nextR_any (f : Nat) (s : St5) (out : Bool) (w : World) (hf : f < 256) :
    Calls Try.prog 11 #[s.v, .int .u8 (f : Int), .bool out] w fun x w' => x = .returned (nx s f out).v ∧ Below w.heap.size w w' := by
  obtain ⟨a, b, c, d, e⟩ := s
  cases out
  · exact nextR_in f a b c d e w hf
  · by_cases h : (begB f && overB ⟨a, b, c, d, e⟩) = true
    · exact nextR_over f a b c d e w hf h
    · exact nextR_out f a b c d e w hf (by simpa using h)
end Go.Proofs.Ytggnbhihajealaa
