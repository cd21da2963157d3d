/- soap: Header of both sides. -/
import Derived.Test.YtdofdbajilkimaaVHd
import Derived.Test.YtdofdbajilkimaaShelf
import Derived.Test.YtdofdbajilkimaaPlain
import Derived.WalkKit
import Derived.Lib.Walk
import Derived.Lib.Hide
import Derived.Lib.Strings
import Derived.OwnWalk
import Derived.Below
import Derived.BigCall
namespace Go.Proofs.Ytdofdbajilkimaa
open Go.RowKit Go.Lib
set_option linter.unusedVariables false
set_option linter.unusedSimpArgs false
set_option maxRecDepth 100000
def hdV (o : Option (List UInt8 × List UInt8)) : Value := match o with
  | some p => .tuple #[.string ⟨p.1.toArray⟩, .string ⟨p.2.toArray⟩, .bool true]
  | none => .tuple #[.string ⟨#[]⟩, .string ⟨#[]⟩, .bool false]
def MaxAt (w : World) : Prop := ∃ m, w.cell? ⟨0, 0, none⟩ = some (.int .i64 m)
theorem bsz (l : List UInt8) : (⟨l.toArray⟩ : ByteArray).size = l.length := by show (List.toArray l).size = _; simp
theorem q34 : (⟨#[34]⟩ : ByteArray).data.toList = [34] := rfl
theorem q35 : (⟨#[35]⟩ : ByteArray).data.toList = [35] := rfl
theorem empty_eq (a : List UInt8) : ((⟨a.toArray⟩ : ByteArray).toList == []) = decide (a = []) := by
  rw [Lib.toList_data]
  simp
  cases a <;> simp
set_option maxHeartbeats 1000000 in
theorem header_any (s : ByteArray) (w : World) (hs : s.size ≤ 1000) (hm : MaxAt w) :
    Calls Try.prog 5 #[.string s] w fun e w' => e = .returned (hdV (hdL s.data.toList)) ∧ ∃ n, w' = w.drewN n := by
  rw [← hd_same]
  obtain ⟨m, hm⟩ := hm
  obtain ⟨l, hl⟩ : ∃ l, s.data.toList = l := ⟨_, rfl⟩
  have hlen : l.length ≤ 1000 := by rw [← hl, ← Lib.size_eq]; exact hs
  have h1 : ∀ W, _ := fun W => Try.strings_CutPrefix s ⟨#[34]⟩ W
  rw [hl] at h1 ⊢
  obtain ⟨s1, hs1⟩ : ∃ x, Lib.trimPrefix l [34] = x := ⟨_, rfl⟩
  obtain ⟨b1, hb1⟩ : ∃ x, Lib.hasPrefix l [34] = x := ⟨_, rfl⟩
  have l1 : s1.length ≤ 1000 := by rw [← hs1]; unfold Lib.trimPrefix; split; (rw [List.length_drop]; omega); exact hlen
  have h2 : ∀ W, _ := fun W => Try.strings_CutSuffix ⟨s1.toArray⟩ ⟨#[34]⟩ W (by rw [bsz]; omega)
  obtain ⟨s2, hs2⟩ : ∃ x, Lib.trimSuffix s1 [34] = x := ⟨_, rfl⟩
  obtain ⟨b2, hb2⟩ : ∃ x, Lib.hasSuffix s1 [34] = x := ⟨_, rfl⟩
  have l2 : s2.length ≤ 1000 := by rw [← hs2]; unfold Lib.trimSuffix; split; (rw [List.length_take]; omega); exact l1
  have h3 : _ := Try.strings_Cut ⟨s2.toArray⟩ ⟨#[35]⟩ m w (by rw [bsz]; omega) hm
  obtain ⟨a, ha⟩ : ∃ x, (Lib.cut s2 [35]).1 = x := ⟨_, rfl⟩
  obtain ⟨b, hb⟩ : ∃ x, (Lib.cut s2 [35]).2.1 = x := ⟨_, rfl⟩
  obtain ⟨b3, hb3⟩ : ∃ x, (Lib.cut s2 [35]).2.2 = x := ⟨_, rfl⟩
  have h4 : ∀ W, _ := fun W => Try.strings_IndexByte ⟨s2.toArray⟩ 34 W
  have h5 : ∀ W, _ := fun W => Try.strings_IndexByte ⟨b.toArray⟩ 35 W
  obtain ⟨k1, hk1⟩ : ∃ x, Lib.indexByte s2 34 = x := ⟨_, rfl⟩
  obtain ⟨k2, hk2⟩ : ∃ x, Lib.indexByte b 35 = x := ⟨_, rfl⟩
  simp only [q34, hs1, hb1] at h1
  simp only [q34, List.toList_toArray, hs2, hb2] at h2
  simp only [q35, List.toList_toArray, ha, hb, hb3] at h3
  simp only [List.toList_toArray, show ((34 : Int).toNat.toUInt8) = 34 from rfl, hk1] at h4
  simp only [List.toList_toArray, show ((35 : Int).toNat.toUInt8) = 35 from rfl, hk2] at h5
  have hE : hdP l = if b1 = false ∨ b2 = false ∨ a = [] ∨ b = [] ∨ 0 ≤ k1 ∨ 0 ≤ k2 then none else some (a, b) := by
    unfold hdP
    simp only [hs1, hb1, hs2, hb2, ha, hb, hk1, hk2]
  rw [hE]
  have qa := empty_eq a
  have qb := empty_eq b
  obtain ⟨A, hA⟩ : ∃ x, (⟨a.toArray⟩ : ByteArray) = x := ⟨_, rfl⟩
  obtain ⟨B, hB⟩ : ∃ x, (⟨b.toArray⟩ : ByteArray) = x := ⟨_, rfl⟩
  obtain ⟨S1, hS1⟩ : ∃ x, (⟨s1.toArray⟩ : ByteArray) = x := ⟨_, rfl⟩
  obtain ⟨S2, hS2⟩ : ∃ x, (⟨s2.toArray⟩ : ByteArray) = x := ⟨_, rfl⟩
  rw [hA] at qa
  rw [hB] at qb
  simp only [hS1] at h1 h2
  simp only [hS2] at h2 h3 h4
  simp only [hA, hB] at h3 h5
  obtain ⟨r, hr⟩ : ∃ r, (if b1 = false ∨ b2 = false ∨ a = [] ∨ b = [] ∨ 0 ≤ k1 ∨ 0 ≤ k2 then none else some (a, b)) = r := ⟨_, rfl⟩
  rw [hr]
  have hV : (b1 = false ∨ b2 = false ∨ a = [] ∨ b = [] ∨ 0 ≤ k1 ∨ 0 ≤ k2) → hdV r = .tuple #[.string ⟨#[]⟩, .string ⟨#[]⟩, .bool false] := fun hp => by rw [← hr, if_pos hp]; rfl
  have hU : ¬ (b1 = false ∨ b2 = false ∨ a = [] ∨ b = [] ∨ 0 ≤ k1 ∨ 0 ≤ k2) → hdV r = .tuple #[.string A, .string B, .bool true] := fun hp => by rw [← hr, if_neg hp, ← hA, ← hB]; rfl
  have HV := hide (And.intro hV hU)
  have H1 := hide h1
  have H2 := hide h2
  have H3 := hide h3
  have H4 := hide h4
  have H5 := hide h5
  clear hr hs1 hb1 hs2 hb2 ha hb hb3 hk1 hk2 hE hA hB hS1 hS2 hV hU h1 h2 h3 h4 h5 hl hlen hm hs l1 l2
  obtain ⟨ea, hea⟩ : ∃ x, decide (a = []) = x := ⟨_, rfl⟩
  obtain ⟨eb, heb⟩ : ∃ x, decide (b = []) = x := ⟨_, rfl⟩
  rw [hea] at qa
  rw [heb] at qb
  obtain ⟨c1, hc1⟩ : ∃ x, decide (0 ≤ k1) = x := ⟨_, rfl⟩
  obtain ⟨c2, hc2⟩ : ∃ x, decide (0 ≤ k2) = x := ⟨_, rfl⟩
  have HEA := hide hea
  have HEB := hide heb
  have HC1 := hide hc1
  have HC2 := hide hc2
  clear hea heb
  go_enter Try.func5, Try.ntmps5
  go_wp2_with fail
  refine (H1.out w).mono ?_
  rintro e w1 ⟨rfl, rfl⟩
  go_wp2_with fail
  refine (H2.out w1).mono ?_
  rintro e w2 ⟨rfl, rfl⟩
  go_wp2_with fail
  refine H3.out.mono ?_
  rintro e w3 ⟨rfl, n3, rfl⟩
  cases b1
  · go_wp2_with fail
    go_ret3
    exact ⟨by rw [HV.out.1 (by simp)]; rfl, n3, rfl⟩
  cases b2
  · go_wp2_with fail
    go_ret3
    exact ⟨by rw [HV.out.1 (by simp)]; rfl, n3, rfl⟩
  cases ea
  rotate_left
  · go_wp2_with fail
    go_ret3
    exact ⟨by rw [HV.out.1 (by have h := HEA.out; simp at h; simp [h])]; rfl, n3, rfl⟩
  cases eb
  rotate_left
  · go_wp2_with fail
    go_ret3
    exact ⟨by rw [HV.out.1 (by have h := HEB.out; simp at h; simp [h])]; rfl, n3, rfl⟩
  cases c1
  rotate_left
  · go_wp2_with (go_at_call 12; refine (H4.out _).mono ?_; rintro e w4 ⟨rfl, rfl⟩)
    go_ret3
    exact ⟨by rw [HV.out.1 (by have h := HC1.out; simp at h; simp [h])]; rfl, n3, rfl⟩
  cases c2
  rotate_left
  · go_wp2_with (go_at_call 12; first | (refine (H4.out _).mono ?_; rintro e w4 ⟨rfl, rfl⟩) | (refine (H5.out _).mono ?_; rintro e w4 ⟨rfl, rfl⟩))
    go_ret3
    exact ⟨by rw [HV.out.1 (by have h := HC2.out; simp at h; simp [h])]; rfl, n3, rfl⟩
  go_wp2_with (go_at_call 12; first | (refine (H4.out _).mono ?_; rintro e w4 ⟨rfl, rfl⟩) | (refine (H5.out _).mono ?_; rintro e w4 ⟨rfl, rfl⟩))
  go_ret3
  exact ⟨by rw [HV.out.2 (by
    have g1 := HEA.out
    have g2 := HEB.out
    have g3 := HC1.out
    have g4 := HC2.out
    simp at g1 g2 g3 g4
    simp [g1, g2, g3, g4])]; rfl, n3, rfl⟩
end Go.Proofs.Ytdofdbajilkimaa
