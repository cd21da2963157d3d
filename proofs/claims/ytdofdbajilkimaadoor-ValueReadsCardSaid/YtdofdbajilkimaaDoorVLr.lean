/- value: ValueReads. -/
import Derived.Test.YtdofdbajilkimaaDoorVAd
import Derived.Test.YtdofdbajilkimaaDoorVWd
namespace Go.Proofs.YtdofdbajilkimaaDoor
open Go.RowKit Go.Lib
set_option linter.unusedVariables false
set_option linter.unusedSimpArgs false
set_option maxRecDepth 100000
theorem proto_form (s : ByteArray) : ∃ (p : Int) (q : Bool), protoV s = .tuple #[.int .u8 p, .bool q] := by
  unfold protoV
  split
  · exact ⟨_, _, rfl⟩
  · split <;> exact ⟨_, _, rfl⟩
theorem numVV_form (o : Option Nat) : ∃ (p : Int) (q : Bool), numVV o = .tuple #[.int .u64 p, .bool q] := by cases o <;> exact ⟨_, _, rfl⟩
theorem addrV_form (o : Option Nat) : ∃ (p : Int) (q : Bool), addrV o = .tuple #[.int .u32 p, .bool q] := by cases o <;> exact ⟨_, _, rfl⟩
set_option maxHeartbeats 2000000 in
theorem valueReads_any (s : ByteArray) (most : Nat) (w : World) (hE : ET w) :
    Calls Tryd.prog 3 #[.string s, .int .u64 (most : Int)] w fun e w' => e = .returned (.bool true) ∧ Below w.heap.size w w' := by
  have HS := hide (speaks_any w hE)
  obtain ⟨k, hk⟩ : ∃ k, s.size = k := ⟨_, rfl⟩
  by_cases hb : 1000 < k
  · have d1 : decide ((1000 : Int) < (k : Int)) = true := by simp; omega
    clear hE hb
    go_enter Tryd.func3, Tryd.ntmps3
    go_wp2_with fail
    refine HS.out.mono ?_
    rintro e w1 ⟨rfl, b1⟩
    have HB1 := hide b1
    clear b1 HS
    go_wp2_with fail
    go_ret
    exact ⟨rfl, HB1.out⟩
  have d1 : decide ((1000 : Int) < (k : Int)) = false := by simp; omega
  have h1 := fun W (h : ET W) => vnum_any s most W h
  have h2 := fun W => flag_any s W
  have h3 := fun W (h : ET W) => addr_any s W h (by omega)
  have h4 := fun W => proto_any s W
  have g1 := fun W => rnum_any s most W (by omega)
  have g2 := fun W => rflag_any s W
  have g3 := fun W => raddr_any s W (by omega)
  have g4 := fun W => rproto_any s W
  have h5 := fun W => words_any s W
  have g5 := fun W => rwords_any s W (by omega)
  obtain ⟨p1, q1, e1⟩ := numVV_form (numMost s.data.toList most)
  obtain ⟨p3, q3, e3⟩ := addrV_form (vaddrL s.data.toList)
  obtain ⟨p4, q4, e4⟩ := proto_form s
  obtain ⟨b5, e5⟩ : ∃ b, wordsL s.data.toList = b := ⟨_, rfl⟩
  obtain ⟨p2, e2⟩ : ∃ b, yesB s = b := ⟨_, rfl⟩
  obtain ⟨q2, f2⟩ : ∃ b, (yesB s || noB s) = b := ⟨_, rfl⟩
  unfold flagV at h2 g2
  simp only [e1] at h1 g1
  simp only [e3] at h3 g3
  simp only [e4] at h4 g4
  simp only [e5] at h5 g5
  simp only [f2] at h2 g2
  simp only [e2] at h2 g2
  have H1 := hide h1
  have H2 := hide h2
  have H3 := hide h3
  have H4 := hide h4
  have H5 := hide h5
  have G1 := hide g1
  have G2 := hide g2
  have G3 := hide g3
  have G4 := hide g4
  have G5 := hide g5
  have HE := hide hE
  clear h1 h2 h3 h4 h5 g1 g2 g3 g4 g5 e1 e2 e3 e4 e5 f2 hE hb
  go_enter Tryd.func3, Tryd.ntmps3
  go_wp2_with fail
  refine HS.out.mono ?_
  rintro e w1 ⟨rfl, b1⟩
  have HB1 := hide b1
  have HE1 := hide (HE.out.below b1 (Nat.le_refl _))
  clear b1 HS
  go_wp2_with fail
  refine (H1.out _ HE1.out).mono ?_
  rintro e w2 ⟨rfl, b2⟩
  have HB2 := hide (HB1.out.trans (b2.mono HB1.out.size))
  have HE2 := hide (HE1.out.below b2 (Nat.le_refl _))
  clear b2 H1 HB1 HE1
  go_wp2_with fail
  refine (H2.out _).mono ?_
  rintro e w3 ⟨rfl, rfl⟩
  clear H2
  go_wp2_with fail
  refine (H3.out _ HE2.out).mono ?_
  rintro e w4 ⟨rfl, b4⟩
  have HB4 := hide (HB2.out.trans (b4.mono HB2.out.size))
  clear b4 H3 HB2 HE2
  go_wp2_with fail
  refine (H4.out _).mono ?_
  rintro e w5 ⟨rfl, rfl⟩
  clear H4
  go_wp2_with fail
  refine (G1.out _).mono ?_
  rintro e w6 ⟨rfl, rfl⟩
  clear G1
  go_wp2_with fail
  refine (G2.out _).mono ?_
  rintro e w7 ⟨rfl, rfl⟩
  clear G2
  go_wp2_with fail
  refine (G3.out _).mono ?_
  rintro e w8 ⟨rfl, rfl⟩
  clear G3
  go_wp2_with fail
  refine (G4.out _).mono ?_
  rintro e w9 ⟨rfl, rfl⟩
  clear G4
  go_wp2_with first
    | (go_at_call 15; refine (H5.out _).mono ?_; rintro e w10 ⟨rfl, rfl⟩)
    | (go_at_call 16; refine (G5.out _).mono ?_; rintro e w11 ⟨rfl, rfl⟩)
  go_ret
  exact ⟨rfl, HB4.out⟩
end Go.Proofs.YtdofdbajilkimaaDoor
