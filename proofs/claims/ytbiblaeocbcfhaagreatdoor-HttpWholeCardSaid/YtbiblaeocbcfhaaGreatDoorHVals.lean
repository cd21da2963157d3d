/- Head: Get of both, Same. -/
import Derived.Test.YtbiblaeocbcfhaaGreatDoorHFld
namespace Go.Proofs.YtbiblaeocbcfhaaGreatDoor
open Go.RowKit Go.Deep
set_option linter.unusedVariables false
set_option linter.unusedSimpArgs false
set_option maxRecDepth 100000
set_option maxHeartbeats 1000000 in
theorem get_any (w : World) (a : Option Addr) (os : List fldRec) (n cap : Nat) (name : ByteArray) (hO : fldAt w a os) (hl : os.length = n) (hn : n ≤ 200) :
    Calls Tryz.prog 31 #[.slice a n cap, .string name] w fun e w' => ∃ oa oc k, (getL os name).length = k ∧ e = .returned (.slice oa k oc) ∧ OwnS w' w.heap.size oa k oc (getL os name) ∧ Below w.heap.size w w' := by
  have HO := hide (And.intro hO (And.intro hl hn))
  have HX := hide (show OwnS w w.heap.size none 0 0 (getL (os.take 0) name) ∧ Below w.heap.size w w from ⟨⟨rfl, .inl ⟨rfl, rfl⟩⟩, Below.refl _ _⟩)
  clear hO hl hn
  go_enter Tryz.func31, Tryz.ntmps31
  go_wp2_with fail
  go_loopw [5, 10] (fun ov i wz => ∃ (j m : Nat) (oa : Option Addr) (oc : Nat), j ≤ n ∧ m ≤ j ∧ i = .int .i64 j ∧ ov = .slice oa m oc ∧ Hid (OwnS wz w.heap.size oa m oc (getL (os.take j) name) ∧ Below w.heap.size w wz)) (fun _ i _ => n - (Lib.intOf i).toNat)
  case atStart => exact ⟨0, 0, _, _, Nat.zero_le _, Nat.le_refl _, rfl, rfl, HX⟩
  case round =>
    clear HX
    obtain ⟨j, m, oa, oc, hj, hmj, rfl, rfl, HX⟩ := hrel
    have hj4 : (0 : Int) ≤ (j : Int) := by omega
    have hj5 : (j : Int) ≤ 200 := by have := HO.out; omega
    by_cases hlt : j < n
    · have d1 : decide (j < n) = true := by simp; omega
      obtain ⟨o, ho⟩ : ∃ o, os[j]? = some o := ⟨_, List.getElem?_eq_getElem (by have := HO.out; omega)⟩
      obtain ⟨b, off, he, q0, q1⟩ := HO.out.1.at HX.out.2 ho
      have hsucc := getL_succ os name j o ho
      have HB4 := hide (HX.out.2.alloc HX.out.2.size (.cells #[.string o.x0, .string o.x1] 43))
      have HXX := hide (show OwnS (wr.alloc (.cells #[.string o.x0, .string o.x1] 43)) w.heap.size oa m oc (getL (os.take j) name) ∧ Below w.heap.size w (wr.alloc (.cells #[.string o.x0, .string o.x1] 43)) from ⟨HX.out.1.below ((Below.refl wr.heap.size wr).alloc (Nat.le_refl _) _) (Nat.le_refl _), HB4.out⟩)
      have hm2 : m ≤ 1000000 := by have := HO.out; omega
      cases hq : isN name o with
      | true =>
        obtain ⟨a5, c5, w5, hrun, o5, b5⟩ := pushS (wr.alloc (.cells #[.string o.x0, .string o.x1] 43)) w.heap.size oa m oc _ HXX.out.1 o.x1 hm2 HXX.out.2.size
        rw [hq, if_pos rfl] at hsucc
        have hq2 : (o.x0.toList == name.toList) = true := hq
        rw [show (wr.alloc (.cells #[.string o.x0, .string o.x1] 43)).heap.size = wr.heap.size + 1 by simp] at hrun
        have HRUN := hide hrun
        have HF := hide (show OwnS w5 w.heap.size a5 (m + 1) c5 (getL (os.take (j + 1)) name) ∧ Below w.heap.size w w5 from ⟨hsucc ▸ o5, HXX.out.2.trans b5⟩)
        subst he
        clear hrun o5 b5 HX HXX ho hsucc hq
        go_wp2_with (at_builtin; refine Lib.wpList_append_run _ rfl _ _ _ _ rfl _ _ rfl rfl _ _ HRUN.out ?_)
        exact ⟨⟨j + 1, m + 1, a5, c5, by omega, by omega, by go_num, rfl, HF⟩, by simp [Lib.intOf]; omega⟩
      | false =>
        rw [hq, if_neg (by decide), List.append_nil] at hsucc
        have hq2 : (o.x0.toList == name.toList) = false := hq
        have HF := hide (show OwnS (wr.alloc (.cells #[.string o.x0, .string o.x1] 43)) w.heap.size oa m oc (getL (os.take (j + 1)) name) ∧ Below w.heap.size w (wr.alloc (.cells #[.string o.x0, .string o.x1] 43)) from ⟨hsucc ▸ HXX.out.1, HXX.out.2⟩)
        subst he
        clear HX HXX ho hsucc hq
        go_wp2_with fail
        exact ⟨⟨j + 1, m, oa, oc, by omega, by omega, by go_num, rfl, HF⟩, by simp [Lib.intOf]; omega⟩
    · have d1 : decide (j < n) = false := by simp; omega
      have hj9 : os.take j = os := List.take_of_length_le (by have := HO.out; omega)
      have HF := hide (show (getL os name).length = m ∧ OwnS wr w.heap.size oa m oc (getL os name) ∧ Below w.heap.size w wr from by
        have h := HX.out
        rw [hj9] at h
        exact ⟨h.1.len, h.1, h.2⟩)
      clear HX hlt hj hj9
      go_wp2_with fail
      go_ret
      exact ⟨oa, oc, m, HF.out.1, rfl, HF.out.2.1, HF.out.2.2⟩
set_option maxHeartbeats 1000000 in
theorem same_any (s t : ByteArray) (w : World) (hs : s.size ≤ 1000000) (ht : t.size ≤ 1000000) : Calls Tryz.prog 45 #[.string s, .string t] w fun e w' => e = .returned (.bool ((bs (lowL s.data.toList)).toList == (bs (lowL t.data.toList)).toList)) ∧ Below w.heap.size w w' := by
  have h1 := lower_any s w hs
  obtain ⟨A, hA⟩ : ∃ A, bs (lowL s.data.toList) = A := ⟨_, rfl⟩
  obtain ⟨B, hB⟩ : ∃ A, bs (lowL t.data.toList) = A := ⟨_, rfl⟩
  have h2 := fun w => lower_any t w ht
  rw [hA] at h1
  rw [hB] at h2
  rw [hA, hB]
  obtain ⟨g, hg⟩ : ∃ g, (A.toList == B.toList) = g := ⟨_, rfl⟩
  rw [hg]
  have H1 := hide h1
  have H2 := hide h2
  clear h1 h2 hA hB hs ht
  go_enter Tryz.func45, Tryz.ntmps45
  go_wp2_with fail
  (with_reducible refine H1.out.mono ?_)
  rintro e w1 ⟨rfl, b1⟩
  have HB := hide b1
  clear b1
  go_wp2_with fail
  have H3 := hide (H2.out w1)
  (with_reducible refine H3.out.mono ?_)
  rintro e w2 ⟨rfl, b2⟩
  have HB2 := hide (HB.out.trans (b2.mono HB.out.size))
  clear b2
  go_wp2_with fail
  go_ret
  exact ⟨rfl, HB2.out⟩
end Go.Proofs.YtbiblaeocbcfhaaGreatDoor
