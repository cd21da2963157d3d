/- Head: Get of both, Same. -/
import Derived.Test.YtonoaopioifedaaGreatDoorHFld
namespace Go.Proofs.YtonoaopioifedaaGreatDoor.H
open Go.RowKit Go.Deep
set_option linter.unusedVariables false
set_option linter.unusedSimpArgs false
set_option maxRecDepth 100000
set_option maxHeartbeats 1000000 in
theorem get_any (w : World) (a : Option Addr) (os : List fldRec) (n cap : Nat) (name : ByteArray) (hO : fldAt w a os) (hl : os.length = n) (hn : n ≤ 2000) :
    Calls Tryz.prog 52 #[.slice a n cap, .string name] w fun e w' => ∃ oa oc k, (getL os name).length = k ∧ e = .returned (.slice oa k oc) ∧ OwnS w' w.heap.size oa k oc (getL os name) ∧ Below w.heap.size w w' := by
  have HO := hide (And.intro hO (And.intro hl hn))
  have HX := hide (show OwnS w w.heap.size none 0 0 (getL (os.take 0) name) ∧ Below w.heap.size w w from ⟨⟨rfl, .inl ⟨rfl, rfl⟩⟩, Below.refl _ _⟩)
  clear hO hl hn
  go_enter Tryz.func52, Tryz.ntmps52
  go_wp2_with fail
  go_loopw [5, 10] (fun ov i wz => ∃ (j m : Nat) (oa : Option Addr) (oc : Nat), j ≤ n ∧ m ≤ j ∧ i = .int .i64 j ∧ ov = .slice oa m oc ∧ Hid (OwnS wz w.heap.size oa m oc (getL (os.take j) name) ∧ Below w.heap.size w wz)) (fun _ i _ => n - (Lib.intOf i).toNat)
  case atStart => exact ⟨0, 0, _, _, Nat.zero_le _, Nat.le_refl _, rfl, rfl, HX⟩
  case round =>
    clear HX
    obtain ⟨j, m, oa, oc, hj, hmj, rfl, rfl, HX⟩ := hrel
    have hj4 : (0 : Int) ≤ (j : Int) := by omega
    have hj5 : (j : Int) ≤ 2000 := by have := HO.out; omega
    by_cases hlt : j < n
    · have d1 : decide (j < n) = true := by simp; omega
      obtain ⟨o, ho⟩ : ∃ o, os[j]? = some o := ⟨_, List.getElem?_eq_getElem (by have := HO.out; omega)⟩
      obtain ⟨b, off, he, q0, q1⟩ := HO.out.1.at HX.out.2 ho
      have hsucc := getL_succ os name j o ho
      have HB4 := hide (HX.out.2.alloc HX.out.2.size (.cells #[.string o.x0, .string o.x1] 60))
      have HXX := hide (show OwnS (wr.alloc (.cells #[.string o.x0, .string o.x1] 60)) w.heap.size oa m oc (getL (os.take j) name) ∧ Below w.heap.size w (wr.alloc (.cells #[.string o.x0, .string o.x1] 60)) from ⟨HX.out.1.below ((Below.refl wr.heap.size wr).alloc (Nat.le_refl _) _) (Nat.le_refl _), HB4.out⟩)
      have hm2 : m ≤ 1000000 := by have := HO.out; omega
      cases hq : isN name o with
      | true =>
        obtain ⟨a5, c5, w5, hrun, o5, b5⟩ := pushS (wr.alloc (.cells #[.string o.x0, .string o.x1] 60)) w.heap.size oa m oc _ HXX.out.1 o.x1 hm2 HXX.out.2.size
        rw [hq, if_pos rfl] at hsucc
        have hq2 : (o.x0.toList == name.toList) = true := hq
        rw [show (wr.alloc (.cells #[.string o.x0, .string o.x1] 60)).heap.size = wr.heap.size + 1 by simp] at hrun
        have HRUN := hide hrun
        have HF := hide (show OwnS w5 w.heap.size a5 (m + 1) c5 (getL (os.take (j + 1)) name) ∧ Below w.heap.size w w5 from ⟨hsucc ▸ o5, HXX.out.2.trans b5⟩)
        subst he
        clear hrun o5 b5 HX HXX ho hsucc hq
        go_wp2_with (at_builtin; refine Lib.wpList_append_run _ rfl _ _ _ _ rfl _ _ rfl rfl _ _ HRUN.out ?_)
        exact ⟨⟨j + 1, m + 1, a5, c5, by omega, by omega, by go_num, rfl, HF⟩, by simp [Lib.intOf]; omega⟩
      | false =>
        rw [hq, if_neg (by decide), List.append_nil] at hsucc
        have hq2 : (o.x0.toList == name.toList) = false := hq
        have HF := hide (show OwnS (wr.alloc (.cells #[.string o.x0, .string o.x1] 60)) w.heap.size oa m oc (getL (os.take (j + 1)) name) ∧ Below w.heap.size w (wr.alloc (.cells #[.string o.x0, .string o.x1] 60)) from ⟨hsucc ▸ HXX.out.1, HXX.out.2⟩)
        subst he
        clear HX HXX ho hsucc hq
        go_wp2_with fail
        exact ⟨⟨j + 1, m, oa, oc, by omega, by omega, by go_num, rfl, HF⟩, by simp [Lib.intOf]; omega⟩
    · have d1 : decide (j < n) = false := by simp; omega
      have hj9 : os.take j = os := List.take_of_length_le (by have := HO.out; omega)
      have HF := hide (show (getL os name).length = m ∧ OwnS wr w.heap.size oa m oc (getL os name) ∧ Below w.heap.size w wr from by
        have h := HX.out
        rw [hj9] at h
        exact ⟨h.1.len, h.1, h.2⟩)
      clear HX hlt hj hj9
      go_wp2_with fail
      go_ret
      exact ⟨oa, oc, m, HF.out.1, rfl, HF.out.2.1, HF.out.2.2⟩
set_option maxHeartbeats 1000000 in
theorem rget_any (w : World) (a : Option Addr) (os : List fldRec) (n cap : Nat) (name : ByteArray) (hO : fldAt w a os) (hl : os.length = n) (hn : n ≤ 2000) :
    Calls Tryz.prog 45 #[.slice a n cap, .string name] w fun e w' => ∃ oa oc k, (getL os name).length = k ∧ e = .returned (.slice oa k oc) ∧ OwnS w' w.heap.size oa k oc (getL os name) ∧ Below w.heap.size w w' := by
  have HO := hide (And.intro hO (And.intro hl hn))
  have HX := hide (show OwnS (w.alloc (.cells #[] 9)) w.heap.size (some ⟨w.heap.size, 0, none⟩) 0 0 (getL (os.take 0) name) ∧ Below w.heap.size w (w.alloc (.cells #[] 9)) from ⟨World.ownsRow_lit (base := w.heap.size) (e := 9) (size := 1) w #[] 0 (Nat.le_refl _) (by unfold maxLen; omega) rfl, (Below.refl _ _).alloc (Nat.le_refl _) _⟩)
  clear hO hl hn
  go_enter Tryz.func45, Tryz.ntmps45
  go_wp2_with fail
  go_loopw [5, 6] (fun ov i wz => ∃ (j m : Nat) (oa : Option Addr) (oc : Nat), j ≤ n ∧ m ≤ j ∧ i = .int .i64 j ∧ ov = .slice oa m oc ∧ Hid (OwnS wz w.heap.size oa m oc (getL (os.take j) name) ∧ Below w.heap.size w wz)) (fun _ i _ => n - (Lib.intOf i).toNat)
  case atStart => exact ⟨0, 0, _, _, Nat.zero_le _, Nat.le_refl _, rfl, rfl, HX⟩
  case round =>
    clear HX
    obtain ⟨j, m, oa, oc, hj, hmj, rfl, rfl, HX⟩ := hrel
    have hj4 : (0 : Int) ≤ (j : Int) := by omega
    have hj5 : (j : Int) ≤ 2000 := by have := HO.out; omega
    by_cases hlt : j < n
    · have d1 : decide (j < n) = true := by simp; omega
      obtain ⟨o, ho⟩ : ∃ o, os[j]? = some o := ⟨_, List.getElem?_eq_getElem (by have := HO.out; omega)⟩
      obtain ⟨b, off, he, q0, q1⟩ := HO.out.1.at HX.out.2 ho
      have hsucc := getL_succ os name j o ho
      have HXX := hide HX.out
      have hm2 : m ≤ 1000000 := by have := HO.out; omega
      cases hq : isN name o with
      | true =>
        obtain ⟨a5, c5, w5, hrun, o5, b5⟩ := pushS wr w.heap.size oa m oc _ HXX.out.1 o.x1 hm2 HXX.out.2.size
        rw [hq, if_pos rfl] at hsucc
        have hq2 : (o.x0.toList == name.toList) = true := hq
        have HRUN := hide hrun
        have HF := hide (show OwnS w5 w.heap.size a5 (m + 1) c5 (getL (os.take (j + 1)) name) ∧ Below w.heap.size w w5 from ⟨hsucc ▸ o5, HXX.out.2.trans b5⟩)
        subst he
        clear hrun o5 b5 HX HXX ho hsucc hq
        go_wp2_with (at_builtin; refine Lib.wpList_append_run _ rfl _ _ _ _ rfl _ _ rfl rfl _ _ HRUN.out ?_)
        exact ⟨⟨j + 1, m + 1, a5, c5, by omega, by omega, by go_num, rfl, HF⟩, by simp [Lib.intOf]; omega⟩
      | false =>
        rw [hq, if_neg (by decide), List.append_nil] at hsucc
        have hq2 : (o.x0.toList == name.toList) = false := hq
        have HF := hide (show OwnS wr w.heap.size oa m oc (getL (os.take (j + 1)) name) ∧ Below w.heap.size w wr from ⟨hsucc ▸ HXX.out.1, HXX.out.2⟩)
        subst he
        clear HX HXX ho hsucc hq
        go_wp2_with fail
        exact ⟨⟨j + 1, m, oa, oc, by omega, by omega, by go_num, rfl, HF⟩, by simp [Lib.intOf]; omega⟩
    · have d1 : decide (j < n) = false := by simp; omega
      have hj9 : os.take j = os := List.take_of_length_le (by have := HO.out; omega)
      have HF := hide (show (getL os name).length = m ∧ OwnS wr w.heap.size oa m oc (getL os name) ∧ Below w.heap.size w wr from by
        have h := HX.out
        rw [hj9] at h
        exact ⟨h.1.len, h.1, h.2⟩)
      clear HX hlt hj hj9
      go_wp2_with fail
      go_ret
      exact ⟨oa, oc, m, HF.out.1, rfl, HF.out.2.1, HF.out.2.2⟩
end Go.Proofs.YtonoaopioifedaaGreatDoor.H
