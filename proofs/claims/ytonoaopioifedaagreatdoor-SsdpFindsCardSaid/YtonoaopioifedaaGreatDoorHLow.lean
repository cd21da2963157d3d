/- Head: small letters: the program's and the document's. -/
import Derived.Test.YtonoaopioifedaaGreatDoorHMem
namespace Go.Proofs.YtonoaopioifedaaGreatDoor.H
open Go.RowKit Go.Deep
set_option linter.unusedVariables false
set_option linter.unusedSimpArgs false
set_option maxRecDepth 100000
set_option maxHeartbeats 1000000 in
theorem lower_any (s : ByteArray) (w : World) (hs : s.size ≤ 1000000) : Calls Tryz.prog 69 #[.string s] w fun e w' => e = .returned (.string (bs (lowL s.data.toList))) ∧ Below w.heap.size w w' := by
  obtain ⟨cap, W, hconv, hlw, hb⟩ := bytes8 w s
  obtain ⟨S, hS⟩ : ∃ S, w.heap.size = S := ⟨_, rfl⟩
  obtain ⟨n, hn⟩ : ∃ n, s.size = n := ⟨_, rfl⟩
  rw [hS, hn] at hconv
  rw [hS] at hlw
  obtain ⟨l, hl⟩ : ∃ l, s.data.toList = l := ⟨_, rfl⟩
  have hln : l.length = n := by rw [← hl, ← hn]; simp
  rw [hl] at hlw ⊢
  have HX := hide (And.intro hlw hb)
  have HN := hide (And.intro hln (show n ≤ 1000000 by omega))
  have HSS := hide hS
  clear hlw hb hS hn hl hln hs
  go_enter Tryz.func69, Tryz.ntmps69
  go_wp2_with fail
  go_loopw [10] (fun i wz => ∃ j : Nat, j ≤ n ∧ i = .int .i64 j ∧ Hid (LwAt wz S l j ∧ Below w.heap.size w wz)) (fun i _ => n - (Lib.intOf i).toNat)
  case atStart => exact ⟨0, Nat.zero_le _, rfl, HX⟩
  case round =>
    clear HX hconv
    obtain ⟨j, hj, rfl, HX⟩ := hrel
    have hj4 : (0 : Int) ≤ (j : Int) := by omega
    have hj5 : (j : Int) ≤ 1000000 := by have := HN.out; omega
    by_cases hlt : j < n
    · have d1 : decide (j < n) = true := by simp; omega
      obtain ⟨c, hc⟩ : ∃ c, l[j]? = some c := ⟨_, List.getElem?_eq_getElem (by have := HN.out; omega)⟩
      have hat := HX.out.1.at j c hc
      rw [if_neg (Nat.lt_irrefl j)] at hat
      have q1 : wr.cell? ⟨S, j, none⟩ = some (.int .u8 (c.toNat : Int)) := hat.1
      have q2 := hat.2
      have hG := great_any c wr
      cases hu : upB c with
      | true =>
        have hsm := small_nat c
        rw [hu] at hsm hG
        simp only [if_true] at hsm
        have hr : c.toNat ≤ 90 := by unfold upB at hu; simp at hu; omega
        obtain ⟨x, hx⟩ : ∃ x, c.toNat = x := ⟨_, rfl⟩
        rw [hx] at q1 hG hr hsm
        have hx4 : (0 : Int) ≤ (x : Int) := by omega
        have hx5 : (x : Int) ≤ 90 := by omega
        have hst := HX.out.1.store c hc
        have HF := hide (show LwAt (wr.setCell ⟨S, j, none⟩ (.int .u8 ((x : Int) + 32))) S l (j + 1) ∧ Below w.heap.size w (wr.setCell ⟨S, j, none⟩ (.int .u8 ((x : Int) + 32))) from by
          have e : byV (smallU c) = .int .u8 ((x : Int) + 32) := by unfold byV; rw [hsm]; simp
          rw [e] at hst
          exact ⟨hst, HX.out.2.setCell (by have := HSS.out; simp; omega) _⟩)
        have HL := hide hG
        clear hst hG hat hu hc hx hsm hr HX
        go_wp2_with fail
        (with_reducible refine HL.out.mono ?_)
        rintro e w1 ⟨rfl, rfl⟩
        go_wp2_with fail
        go_roundw
        case rel => exact ⟨j + 1, by omega, by go_num, HF⟩
        case measure => simp [Lib.intOf]; omega
      | false =>
        rw [hu] at hG
        have HF := hide (And.intro (HX.out.1.keep c hc hu) HX.out.2)
        have HL := hide hG
        clear hG hat hu hc HX
        go_wp2_with fail
        (with_reducible refine HL.out.mono ?_)
        rintro e w1 ⟨rfl, rfl⟩
        go_wp2_with fail
        go_roundw
        case rel => exact ⟨j + 1, by omega, by go_num, HF⟩
        case measure => simp [Lib.intOf]; omega
    · have d1 : decide (j < n) = false := by simp; omega
      have hback := LwAt.text (w := wr) (S := S) (l := l) (by rw [show l.length = j by have := HN.out; omega]; exact HX.out.1) cap
      rw [HN.out.1] at hback
      have HF := hide HX.out.2
      clear HX hlt hj
      go_wp2_with fail
      go_ret
      exact ⟨rfl, HF.out⟩
theorem Small_any (c : UInt8) (w : World) : Calls Tryz.prog 46 #[.int .u8 (c.toNat : Int)] w fun e w' => e = .returned (.int .u8 ((smallU c).toNat : Int)) ∧ w' = w := by
  have hsm := small_nat c
  obtain ⟨x, hx⟩ : ∃ x, c.toNat = x := ⟨_, rfl⟩
  obtain ⟨y, hy⟩ : ∃ y, (smallU c).toNat = y := ⟨_, rfl⟩
  unfold upB at hsm
  rw [hx, hy] at hsm
  rw [hx, hy]
  have HR := hide hsm
  clear hx hy hsm
  by_cases h1 : 65 ≤ x
  · have d1 : decide ((65 : Int) ≤ (x : Int)) = true := by simp; omega
    by_cases h2 : x ≤ 90
    · have d2 : decide ((x : Int) ≤ 90) = true := by simp; omega
      have hx4 : (0 : Int) ≤ (x : Int) := by omega
      have hx5 : (x : Int) ≤ 90 := by omega
      have HE := hide (show y = x + 32 by rw [HR.out]; simp [h1, h2])
      clear h1 h2
      go_enter Tryz.func46, Tryz.ntmps46
      go_wp2_with fail
      go_ret
      exact ⟨by rw [HE.out]; simp, rfl⟩
    · have d2 : decide ((x : Int) ≤ 90) = false := by simp; omega
      have HE := hide (show y = x by rw [HR.out]; simp [h1, h2])
      clear h1 h2
      go_enter Tryz.func46, Tryz.ntmps46
      go_wp2_with fail
      go_ret
      exact ⟨by rw [HE.out]; rfl, rfl⟩
  · have d1 : decide ((65 : Int) ≤ (x : Int)) = false := by simp; omega
    have HE := hide (show y = x by rw [HR.out]; simp [h1])
    clear h1
    go_enter Tryz.func46, Tryz.ntmps46
    go_wp2_with fail
    go_ret
    exact ⟨by rw [HE.out]; rfl, rfl⟩
set_option maxHeartbeats 1000000 in
theorem rlower_any (s : ByteArray) (w : World) (hs : s.size ≤ 100000) : Calls Tryz.prog 44 #[.string s] w fun e w' => e = .returned (.string (bs (lowL s.data.toList))) ∧ Below w.heap.size w w' := by
  obtain ⟨l, hl⟩ : ∃ l, s.data.toList = l := ⟨_, rfl⟩
  obtain ⟨n, hn⟩ : ∃ n, s.size = n := ⟨_, rfl⟩
  have hln : l.length = n := by rw [← hl, ← hn]; simp
  rw [hl]
  have HN := hide (And.intro hln (And.intro (show n ≤ 100000 by omega) (And.intro hl hn)))
  have h0 := lit8 w
  have HX := hide (show OwnB (w.alloc (.cells #[] 5)) w.heap.size (some ⟨w.heap.size, 0, none⟩) 0 0 (lowL (l.take 0)) ∧ Below w.heap.size w (w.alloc (.cells #[] 5)) ∧ (some (⟨w.heap.size, 0, none⟩ : Addr) ≠ none) from ⟨h0, (Below.refl _ _).alloc (Nat.le_refl _) _, by simp⟩)
  clear hl hln hs h0
  go_enter Tryz.func44, Tryz.ntmps44
  go_wp2_with fail
  go_loopw [3, 4] (fun ov i wz => ∃ (j : Nat) (a : Option Addr) (c : Nat), j ≤ n ∧ i = .int .i64 j ∧ ov = .slice a j c ∧ Hid (OwnB wz w.heap.size a j c (lowL (l.take j)) ∧ Below w.heap.size w wz ∧ a ≠ none)) (fun _ i _ => n - (Lib.intOf i).toNat)
  case atStart => exact ⟨0, _, _, Nat.zero_le _, rfl, rfl, HX⟩
  case round =>
    clear HX
    obtain ⟨j, a, c, hj, rfl, rfl, HX⟩ := hrel
    have hj4 : (0 : Int) ≤ (j : Int) := by omega
    have hj5 : (j : Int) ≤ 100000 := by have := HN.out; omega
    by_cases hlt : j < n
    · have d1 : decide (j < n) = true := by simp; omega
      have hjs : j < s.size := by omega
      obtain ⟨b, hbb⟩ : ∃ b, s[j]'hjs = b := ⟨_, rfl⟩
      have hlb : l[j]? = some b := by rw [← HN.out.2.2.1, Lib.data_getElem? s j hjs, hbb]
      have HL := hide (Small_any b wr)
      obtain ⟨a5, c5, w5, hrun, o5, b5⟩ := push8 wr w.heap.size a j c _ HX.out.1 (smallU b) (by omega) HX.out.2.1.size
      have HRUN := hide hrun
      have HF := hide (show OwnB w5 w.heap.size a5 (j + 1) c5 (lowL (l.take (j + 1))) ∧ Below w.heap.size w w5 ∧ a5 ≠ none from by
        have e : lowL (l.take (j + 1)) = lowL (l.take j) ++ [smallU b] := by
          unfold lowL
          rw [List.take_add_one, hlb, Option.toList_some, List.map_append]; rfl
        rw [e]
        exact ⟨o5, HX.out.2.1.trans b5, owns_some o5 (by simp)⟩)
      clear hrun o5 b5 HX hlb
      go_wp2_with fail
      (with_reducible refine HL.out.mono ?_)
      rintro e w1 ⟨rfl, rfl⟩
      clear hbb hjs
      go_wp2_with (at_builtin; refine Lib.wpList_append_run _ rfl _ _ _ _ rfl _ _ rfl rfl _ _ HRUN.out ?_)
      exact ⟨⟨j + 1, a5, c5, by omega, by go_num, rfl, HF⟩, by simp [Lib.intOf]; omega⟩
    · have d1 : decide (j < n) = false := by simp; omega
      have hback := back8 wr w.heap.size a j c _ HX.out.1 HX.out.2.2
      rw [List.take_of_length_le (by have := HN.out; omega)] at hback
      have HF := hide HX.out.2.1
      clear HX hlt hj
      go_wp2_with fail
      go_ret
      exact ⟨rfl, HF.out⟩
end Go.Proofs.YtonoaopioifedaaGreatDoor.H
