/- Whether a text is a UUID: the program's and the document's. -/
import Derived.Test.YtogeggklfcabkaaCPlain
import Derived.Test.YtogeggklfcabkaaProg
import Derived.IntWalk
import Derived.Below
import Derived.Laws.RangeAny
import Derived.Deep.RegionHeld3
namespace Go.Proofs.Ytogeggklfcabkaa
open Go.RowKit
set_option linter.unusedVariables false
set_option linter.unusedSimpArgs false
set_option maxRecDepth 100000
def dashB (i : Nat) : Bool := i == 8 || i == 13 || i == 18 || i == 23
def hexB (c : Int) : Bool := (decide (48 ≤ c) && decide (c ≤ 57)) || (decide (97 ≤ c) && decide (c ≤ 102))
def fitB (c p : Int) : Bool := if p == 45 then c == 45 else hexB c
def okAt (i c : Nat) : Bool := if dashB i then c == 45 else hexB c
/-- Is a text one? -/
def uuidB (s : ByteArray) : Bool := s.size == 36 && (List.range 36).all fun i => okAt i (s.get! i).toNat
abbrev shape : ByteArray := ⟨#[120, 120, 120, 120, 120, 120, 120, 120, 45, 120, 120, 120, 120, 45, 120, 120, 120, 120, 45, 120, 120, 120, 120, 45, 120, 120, 120, 120, 120, 120, 120, 120, 120, 120, 120, 120]⟩
theorem fit_ok (i : Nat) (h : i < 36) (c : Nat) : fitB (c : Int) (((shape.get! i).toNat : Nat) : Int) = okAt i c := by
  have key : ∀ i, i < 36 → (if dashB i then (shape.get! i).toNat = 45 else (shape.get! i).toNat = 120) := by decide
  have := key i h
  unfold fitB okAt
  cases hd : dashB i with
  | true =>
    rw [hd, if_pos rfl] at this
    rw [this]; simp
    rw [Bool.eq_iff_iff]; simp; omega
  | false =>
    rw [hd] at this
    simp at this
    rw [this]; simp
theorem fit_high (c p : Int) (h : 128 ≤ c) : fitB c p = false := by
  unfold fitB hexB
  split
  · simp; omega
  · simp; omega
theorem ok_high (i c : Nat) (h : 128 ≤ c) : okAt i c = false := by
  unfold okAt hexB
  split
  · simp; omega
  · simp; omega
set_option maxHeartbeats 800000 in
theorem fits_any (c p : Int) (r : Bool) (hr : fitB c p = r) (w : World) : Calls Try.prog 30 #[.int .i32 c, .int .u8 p] w fun e w' => e = .returned (.bool r) ∧ w' = w := by
  unfold fitB hexB at hr
  by_cases h45 : p = 45
  · have h1 : (p == 45) = true := by simpa using h45
    rw [h1, if_pos rfl] at hr
    have HR := hide hr
    clear hr h45
    go_enter Try.func30, Try.ntmps30
    go_wp2_with fail
    go_ret
    exact ⟨by rw [← HR.out]; rfl, rfl⟩
  · have h1 : (p == 45) = false := by simpa using h45
    rw [h1] at hr
    have hr2 : (decide (48 ≤ c) && decide (c ≤ 57) || decide (97 ≤ c) && decide (c ≤ 102)) = r := by simpa using hr
    have HR := hide hr2
    clear hr hr2 h45
    obtain ⟨x, hx⟩ : ∃ x, decide (48 ≤ c) = x := ⟨_, rfl⟩
    obtain ⟨y, hy⟩ : ∃ x, decide (c ≤ 57) = x := ⟨_, rfl⟩
    obtain ⟨z, hz⟩ : ∃ x, decide (97 ≤ c) = x := ⟨_, rfl⟩
    obtain ⟨u, hu⟩ : ∃ x, decide (c ≤ 102) = x := ⟨_, rfl⟩
    rw [hx, hy, hz, hu] at HR
    cases x <;> cases y <;> cases z <;> cases u <;>
    · go_enter Try.func30, Try.ntmps30
      go_wp2_with fail
      go_ret
      exact ⟨by rw [← HR.out]; rfl, rfl⟩
theorem uuid_no {s : ByteArray} (h : s.size ≠ 36) : uuidB s = false := by unfold uuidB; simp [h]
theorem uuid_bad {s : ByteArray} {i : Nat} (hi : i < 36) (h : okAt i (s.get! i).toNat = false) : uuidB s = false := by
  unfold uuidB
  have : (List.range 36).all (fun i => okAt i (s.get! i).toNat) = false := by
    rw [List.all_eq_false]
    exact ⟨i, List.mem_range.2 hi, by rw [h]; decide⟩
  rw [this, Bool.and_false]
theorem uuid_yes {s : ByteArray} (hs : s.size = 36) (h : ∀ i, i < 36 → okAt i (s.get! i).toNat = true) : uuidB s = true := by
  unfold uuidB
  rw [hs]
  simp only [beq_self_eq_true, Bool.true_and]
  rw [List.all_eq_true]
  exact fun i hi => h i (List.mem_range.1 hi)
theorem get_bang (s : ByteArray) (i : Nat) (h : i < s.size) : s.get! i = s[i]'h := by
  have := get_at s i h
  simpa using this
set_option maxHeartbeats 1600000 in
theorem uuid_any (s : ByteArray) (w : World) (hs : s.size ≤ 9223372036854775807) : Calls Try.prog 16 #[.string s] w fun e w' => e = .returned (.bool (uuidB s)) ∧ Below w.heap.size w w' := by
  by_cases h36 : s.size = 36
  · obtain ⟨r, hr⟩ : ∃ r, uuidB s = r := ⟨_, rfl⟩
    rw [hr]
    have HR := hide hr
    have H36 := hide h36
    have h1 : ((s.size : Int) != 36) = false := by simp; omega
    have hle : s.size ≤ 36 := by omega
    clear hr h36
    go_enter Try.func16, Try.ntmps16
    go_wp2_with fail
    go_loopw [3] (fun _ wr => ∃ pos : Nat, pos ≤ 36 ∧ wr = w.iter s pos ∧ Hid (∀ j, j < pos → okAt j (s.get! j).toNat = true)) (fun _ wr => 36 - wr.iterPos w.heap.size)
    case atStart => exact ⟨0, by omega, rfl, hide (fun j h => by omega)⟩
    case round =>
      obtain ⟨pos, hp, rfl, HI⟩ := hrel
      by_cases hlt : pos < 36
      · have hps : pos < s.size := by have := H36.out; omega
        have hgb := get_bang s pos hps
        have hnx : ∀ ty, (Instr.next (.pointer (some ⟨w.heap.size, 0, none⟩)) true ty).run Try.prog (w.iter s pos) = _ := fun ty => run_next_any w s pos ty hps
        have hsh : pos < shape.size := by show pos < 36; exact hlt
        have hfo := fun c => fit_ok pos hlt c
        rw [get_bang shape pos hsh] at hfo
        have HFO := hide hfo
        clear hfo
        by_cases ha : (s[pos]'hps).toNat < 128
        · have hd := decode_ascii s pos hps ha
          rw [hd] at hnx
          simp only at hnx
          cases hok : okAt pos (s.get! pos).toNat with
          | true =>
            have HF := hide (fits_any ((s[pos]'hps).toNat : Int) (((shape[pos]'hsh).toNat : Nat) : Int) true (by rw [HFO.out, ← hgb]; exact hok))
            have HN := hide (show ∀ j, j < pos + 1 → okAt j (s.get! j).toNat = true from fun j hj => by
              by_cases hje : j = pos
              · rw [hje]; exact hok
              · exact HI.out j (by omega))
            clear hok hgb hd
            go_wp2_with fail
            refine (HF.out _).mono ?_
            rintro e w1 ⟨rfl, rfl⟩
            go_wp2_with fail
            go_roundw
            case rel => exact ⟨pos + 1, by omega, rfl, HN⟩
            case measure => simp; omega
          | false =>
            have HF := hide (fits_any ((s[pos]'hps).toNat : Int) (((shape[pos]'hsh).toNat : Nat) : Int) false (by rw [HFO.out, ← hgb]; exact hok))
            have HE := hide (show r = false by rw [← HR.out]; exact uuid_bad hlt hok)
            clear hok hgb hd
            go_wp2_with fail
            refine (HF.out _).mono ?_
            rintro e w1 ⟨rfl, rfl⟩
            go_wp2_with fail
            go_ret
            exact ⟨by rw [HE.out]; rfl, (Below.refl _ _).alloc (Nat.le_refl _) _⟩
        · obtain ⟨hd1, hd2⟩ := decode_high s pos hps (by omega)
          have hdl := decode_le s pos
          obtain ⟨dr, hdr⟩ : ∃ d, (Utf8.decode s pos).1 = d := ⟨_, rfl⟩
          obtain ⟨dw, hdw⟩ : ∃ d, (Utf8.decode s pos).2 = d := ⟨_, rfl⟩
          rw [hdr] at hnx hd1 hdl
          rw [hdw] at hnx
          have HF := hide (fits_any (dr : Int) (((shape[pos]'hsh).toNat : Nat) : Int) false (fit_high _ _ (by omega)))
          have HE := hide (show r = false by rw [← HR.out]; exact uuid_bad hlt (ok_high _ _ (by rw [hgb]; omega)))
          clear hgb hd1 hd2 ha hdr hdw
          go_wp2_with fail
          refine (HF.out _).mono ?_
          rintro e w1 ⟨rfl, rfl⟩
          go_wp2_with fail
          go_ret
          exact ⟨by rw [HE.out]; rfl, (Below.refl _ _).alloc (Nat.le_refl _) _⟩
      · have hps : ¬ pos < s.size := by have := H36.out; omega
        have hnx : ∀ ty, (Instr.next (.pointer (some ⟨w.heap.size, 0, none⟩)) true ty).run Try.prog (w.iter s pos) = _ := fun ty => run_next_end w s pos ty hps
        have HE := hide (show r = true by rw [← HR.out]; exact uuid_yes H36.out (fun i hi => HI.out i (by omega)))
        go_wp2_with fail
        go_ret
        exact ⟨by rw [HE.out]; rfl, (Below.refl _ _).alloc (Nat.le_refl _) _⟩
  · have h1 : ((s.size : Int) != 36) = true := by simp; omega
    rw [uuid_no h36]
    clear h36
    go_enter Try.func16, Try.ntmps16
    go_wp2_with fail
    go_ret
    exact ⟨rfl, Below.refl _ _⟩
end Go.Proofs.Ytogeggklfcabkaa
