/- soap: the law of SOAPACTION's parts and of an argument's value. -/
import Derived.Test.YtdofdbajilkimaaSHd
import Derived.Test.YtdofdbajilkimaaSRh
import Derived.Test.YtdofdbajilkimaaSFd
namespace Go.Proofs.Ytdofdbajilkimaa
open Go.RowKit Go.Lib
set_option linter.unusedVariables false
set_option linter.unusedSimpArgs false
set_option maxRecDepth 100000
def s0 : ByteArray := ⟨#[34, 117, 114, 110, 58, 115, 35, 71, 101, 116, 34]⟩
theorem hd0 : hdL s0.data.toList = some ([117, 114, 110, 58, 115], [71, 101, 116]) := by kernel_rfl
theorem MaxAt.below {w w' : World} {K : Nat} (h : MaxAt w) (hb : Below K w w') (hK : w.heap.size ≤ K) : MaxAt w' := by
  obtain ⟨m, hm⟩ := h
  exact ⟨m, (hb.cell (p := ⟨0, 0, none⟩) (Nat.lt_of_lt_of_le (World.block_lt_of_cell? _ _ hm) hK)).trans hm⟩
set_option maxHeartbeats 1000000 in
theorem speaks_any (w : World) (hm : MaxAt w) : Calls Try.prog 4 #[] w fun e w' => e = .returned (.bool true) ∧ Below w.heap.size w w' := by
  have h := header_any s0 w (by decide) hm
  rw [hd0] at h
  unfold hdV s0 at h
  have H := hide h
  clear h hm
  go_enter Try.func4, Try.ntmps4
  go_wp2_with fail
  refine H.out.mono ?_
  rintro e w1 ⟨rfl, n1, rfl⟩
  go_wp2_with fail
  go_ret
  exact ⟨rfl, bdrewN (Below.refl _ _) n1⟩
set_option maxHeartbeats 2000000 in
theorem soapHeaders_any (s : ByteArray) (a : Option Addr) (os : List fldRec) (n cap : Nat) (name : ByteArray) (w : World) (hO : fldAt w a os) (hl : os.length = n) (hm : MaxAt w) :
    Calls Try.prog 3 #[.string s, .slice a n cap, .string name] w fun e w' => e = .returned (.bool true) ∧ Below w.heap.size w w' := by
  have HS := hide (speaks_any w hm)
  obtain ⟨k, hk⟩ : ∃ k, s.size = k := ⟨_, rfl⟩
  by_cases hb : 1000 < k
  · have d1 : decide ((1000 : Int) < (k : Int)) = true := by simp; omega
    clear hm hb hO hl
    go_enter Try.func3, Try.ntmps3
    go_wp2_with fail
    refine HS.out.mono ?_
    rintro e w1 ⟨rfl, b1⟩
    have HB1 := hide b1
    clear b1 HS
    go_wp2_with fail
    go_ret
    exact ⟨rfl, HB1.out⟩
  have d1 : decide ((1000 : Int) < (k : Int)) = false := by simp; omega
  by_cases hc : 100 < n
  · have d2 : decide ((100 : Int) < (n : Int)) = true := by simp; omega
    clear hm hb hc hO hl
    go_enter Try.func3, Try.ntmps3
    go_wp2_with fail
    refine HS.out.mono ?_
    rintro e w1 ⟨rfl, b1⟩
    have HB1 := hide b1
    clear b1 HS
    go_wp2_with fail
    go_ret
    exact ⟨rfl, HB1.out⟩
  have d2 : decide ((100 : Int) < (n : Int)) = false := by simp; omega
  have HH := hide (fun W (h : MaxAt W) => header_any s W (by omega) h)
  have HR := hide (fun W => rheader_any s W (by omega))
  have HF := hide (fun W (h : fldAt W a os) => find_any W a os n cap name h hl (by omega))
  have HG := hide (fun W (h : fldAt W a os) => rfind_any W a os n cap name h hl (by omega))
  have HM := hide (And.intro hm hO)
  obtain ⟨r, hr⟩ : ∃ r, hdL s.data.toList = r := ⟨_, rfl⟩
  obtain ⟨f, hf⟩ : ∃ f, findL os name = f := ⟨_, rfl⟩
  rw [hr] at HH HR
  rw [hf] at HF HG
  clear hm hO hl hb hc hr hf
  go_enter Try.func3, Try.ntmps3
  go_wp2_with fail
  refine HS.out.mono ?_
  rintro e w1 ⟨rfl, b1⟩
  have HB1 := hide b1
  clear b1 HS
  go_wp2_with fail
  refine (HH.out _ (HM.out.1.below HB1.out (Nat.le_refl _))).mono ?_
  rintro e w2 ⟨rfl, n2, rfl⟩
  have HB2 := hide (bdrewN HB1.out n2)
  clear HB1 HH
  obtain ⟨w2, hw2⟩ : ∃ x, w1.drewN n2 = x := ⟨_, rfl⟩
  rw [hw2] at HB2 ⊢
  clear hw2
  cases r with
  | none =>
    unfold hdV at HR ⊢
    go_wp2_with fail
    refine (HR.out _).mono ?_
    rintro e w3 ⟨rfl, n3, rfl⟩
    have HB3 := hide (bdrewN HB2.out n3)
    clear HB2 HR
    obtain ⟨w3, hw3⟩ : ∃ x, w2.drewN n3 = x := ⟨_, rfl⟩
    rw [hw3] at HB3 ⊢
    clear hw3
    go_wp2_with fail
    refine (HF.out _ (HM.out.2.below HB3.out)).mono ?_
    rintro e w4 ⟨rfl, b4⟩
    have HB4 := hide (HB3.out.trans (b4.mono HB3.out.size))
    clear HB3 HF b4
    rcases f with _ | fv
    all_goals
      try (have ev : (fv.toList == fv.toList) = true := by simp)
      unfold findV at HG ⊢
      go_wp2_with fail
      refine (HG.out _ (HM.out.2.below HB4.out)).mono ?_
      rintro e w5 ⟨rfl, b5⟩
      have HB5 := hide (HB4.out.trans (b5.mono HB4.out.size))
      clear HB4 HG b5
      go_wp2_with fail
      go_ret
      exact ⟨rfl, HB5.out⟩
  | some p =>
    obtain ⟨x, y⟩ := p
    unfold hdV
    obtain ⟨X, hX⟩ : ∃ X, (⟨x.toArray⟩ : ByteArray) = X := ⟨_, rfl⟩
    obtain ⟨Y, hY⟩ : ∃ Y, (⟨y.toArray⟩ : ByteArray) = Y := ⟨_, rfl⟩
    have eX : (X.toList == X.toList) = true := by simp
    have eY : (Y.toList == Y.toList) = true := by simp
    unfold hdV at HR
    simp only [hX, hY] at HR ⊢
    clear hX hY
    go_wp2_with fail
    refine (HR.out _).mono ?_
    rintro e w3 ⟨rfl, n3, rfl⟩
    have HB3 := hide (bdrewN HB2.out n3)
    clear HB2 HR
    obtain ⟨w3, hw3⟩ : ∃ x, w2.drewN n3 = x := ⟨_, rfl⟩
    rw [hw3] at HB3 ⊢
    clear hw3
    go_wp2_with fail
    refine (HF.out _ (HM.out.2.below HB3.out)).mono ?_
    rintro e w4 ⟨rfl, b4⟩
    have HB4 := hide (HB3.out.trans (b4.mono HB3.out.size))
    clear HB3 HF b4
    rcases f with _ | fv
    all_goals
      try (have ev : (fv.toList == fv.toList) = true := by simp)
      unfold findV at HG ⊢
      go_wp2_with fail
      refine (HG.out _ (HM.out.2.below HB4.out)).mono ?_
      rintro e w5 ⟨rfl, b5⟩
      have HB5 := hide (HB4.out.trans (b5.mono HB4.out.size))
      clear HB4 HG b5
      go_wp2_with fail
      go_ret
      exact ⟨rfl, HB5.out⟩
end Go.Proofs.Ytdofdbajilkimaa
