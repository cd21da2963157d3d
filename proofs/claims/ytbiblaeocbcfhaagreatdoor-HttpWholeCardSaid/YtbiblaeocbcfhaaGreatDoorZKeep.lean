/- http: does the connection stay? -/
import Derived.Test.YtbiblaeocbcfhaaGreatDoorZFld
import Derived.Test.YtbiblaeocbcfhaaGreatDoorZPart
import Derived.Test.YtbiblaeocbcfhaaGreatDoorHVals
import Derived.Test.YtbiblaeocbcfhaaGreatDoorZStart
namespace Go.Proofs.YtbiblaeocbcfhaaGreatDoor
open Go.RowKit Go.Deep
set_option linter.unusedVariables false
set_option linter.unusedSimpArgs false
set_option maxRecDepth 100000
theorem bsbs (a b : List UInt8) : ((bs a).toList == (bs b).toList) = (a == b) := by
  rw [Lib.toList_data (bs b), bs_data, eqb]
  by_cases h : a = b
  · subst h; simp
  · rw [decide_eq_false h, beq_eq_false_iff_ne.2 h]
set_option maxHeartbeats 1000000 in
theorem says1_any (v wd : List UInt8) (g : Nat) (w : World) (hc : w.cell? ⟨g, 0, none⟩ = some (.string (bs wd))) (hv : v.length ≤ 5000) (hw : wd.length ≤ 5000) :
    Calls Tryz.prog 44 #[.string (bs v), .pointer (some ⟨g, 0, none⟩)] w fun e w' => e = .returned (.bool (sameP v wd)) ∧ Below w.heap.size w w' := by
  have h := same_any (bs v) (bs wd) w (by rw [bs_len]; omega) (by rw [bs_len]; omega)
  rw [bs_data, bs_data, bsbs] at h
  have H := hide (show Calls Tryz.prog 45 #[.string (bs v), .string (bs wd)] w fun e w' => e = .returned (.bool (sameP v wd)) ∧ Below w.heap.size w w' from h)
  obtain ⟨r, hr⟩ : ∃ r, sameP v wd = r := ⟨_, rfl⟩
  obtain ⟨V, hV⟩ : ∃ V, bs v = V := ⟨_, rfl⟩
  obtain ⟨W, hW⟩ : ∃ V, bs wd = V := ⟨_, rfl⟩
  rw [hr, hV, hW] at H
  rw [hW] at hc
  rw [hr, hV]
  clear h hr hV hW hv hw
  go_enter Tryz.func44, Tryz.ntmps44
  go_wp2_with fail
  refine H.out.mono ?_
  rintro e w1 ⟨rfl, b1⟩
  have HB := hide b1
  clear b1 H
  go_wp2_with fail
  go_ret
  exact ⟨rfl, HB.out⟩
/-- A row of texts that can be read. -/
def TxtAt (w : World) (a : Option Addr) (l : List (List UInt8)) : Prop := l ≠ [] → ∃ g, a = some ⟨g, 0, none⟩ ∧ g < w.heap.size ∧ ∀ i x, l[i]? = some x → w.cell? ⟨g, i, none⟩ = some (.string (bs x))
theorem TxtAt.below {w w' : World} {a : Option Addr} {l : List (List UInt8)} (h : TxtAt w a l) (hb : Below w.heap.size w w') : TxtAt w' a l := fun hne => by
  obtain ⟨g, e, hg, hx⟩ := h hne
  exact ⟨g, e, Nat.lt_of_lt_of_le hg hb.size, fun i x hi => (hb.cell (p := ⟨g, i, none⟩) hg).trans (hx i x hi)⟩
theorem OwnS.txt {w : World} {K : Nat} {a : Option Addr} {n c : Nat} {l : List (List UInt8)} (h : OwnS w K a n c (l.map bs)) : TxtAt w a l := fun hne => by
  obtain ⟨x0, hx0⟩ : ∃ x, l[0]? = some x := by cases l with | nil => exact absurd rfl hne | cons x r => exact ⟨x, rfl⟩
  obtain ⟨g, e, _⟩ := OwnS.at h (i := 0) (y := bs x0) (by rw [List.getElem?_map, hx0]; rfl)
  subst e
  refine ⟨g, rfl, (World.ownsRow.lt h g rfl).2, fun i x hi => ?_⟩
  obtain ⟨g2, e2, h2⟩ := OwnS.at h (i := i) (y := bs x) (by rw [List.getElem?_map, hi]; rfl)
  have : g = g2 := by injection e2 with e3; injection e3
  rw [this]; exact h2
theorem any_take (l : List (List UInt8)) (f : List UInt8 → Bool) (j : Nat) (x : List UInt8) (h : l[j]? = some x) : (l.take (j + 1)).any f = ((l.take j).any f || f x) := by
  rw [List.take_add_one, h, Option.toList_some, List.any_append]; simp
set_option maxHeartbeats 1000000 in
theorem index_any (l : List (List UInt8)) (a : Option Addr) (n c g : Nat) (wd : List UInt8) (w : World) (hx : TxtAt w a l) (hn : l.length = n) (hn2 : n ≤ 200) (hs : ∀ x ∈ l, x.length ≤ 5000) (hw : wd.length ≤ 5000) (hg : g < w.heap.size) (hc : w.cell? ⟨g, 0, none⟩ = some (.string (bs wd))) :
    Calls Tryz.prog 60 #[.slice a n c, .func (.func 44) #[] #[.pointer (some ⟨g, 0, none⟩)]] w fun e w' => ∃ r : Int, e = .returned (.int .i64 r) ∧ decide (0 ≤ r) = l.any (fun v => sameP v wd) ∧ Below w.heap.size w w' := by
  have HX := hide (And.intro hx (And.intro hn (And.intro hn2 (And.intro hs (And.intro hw (And.intro hg hc))))))
  have HI := hide (show (l.take 0).any (fun v => sameP v wd) = false ∧ Below w.heap.size w w from ⟨rfl, Below.refl _ _⟩)
  clear hx hn hn2 hs hw hg hc
  go_enter Tryz.func60, Tryz.ntmps60
  go_wp2_with fail
  go_loopw [5, 8] (fun _ i wz => ∃ j : Nat, j ≤ n ∧ i = .int .i64 j ∧ Hid ((l.take j).any (fun v => sameP v wd) = false ∧ Below w.heap.size w wz)) (fun _ i _ => n - (Lib.intOf i).toNat)
  case atStart => exact ⟨0, Nat.zero_le _, rfl, HI⟩
  case round =>
    clear HI
    obtain ⟨j, hj, rfl, HI⟩ := hrel
    have hj4 : (0 : Int) ≤ (j : Int) := by omega
    have hj5 : (j : Int) ≤ 200 := by have := HX.out.2.2.1; omega
    by_cases hlt : j < n
    · have d1 : decide (j < n) = true := by simp; omega
      obtain ⟨x, hxj⟩ : ∃ x, l[j]? = some x := ⟨_, List.getElem?_eq_getElem (by have := HX.out.2.1; omega)⟩
      obtain ⟨q, rfl, hq, hcell⟩ := HX.out.1 (by intro e; rw [e] at hxj; simp at hxj)
      have hz := (HI.out.2.cell (p := ⟨q, j, none⟩) hq).trans (hcell j x hxj)
      have hk := says1_any x wd g wr ((HI.out.2.cell (p := ⟨g, 0, none⟩) HX.out.2.2.2.2.2.1).trans HX.out.2.2.2.2.2.2) (HX.out.2.2.2.1 x (List.mem_of_getElem? hxj)) HX.out.2.2.2.2.1
      have hsucc := any_take l (fun v => sameP v wd) j x hxj
      rw [HI.out.1, Bool.false_or] at hsucc
      obtain ⟨X, hX⟩ : ∃ X, bs x = X := ⟨_, rfl⟩
      obtain ⟨b, hb⟩ : ∃ b, sameP x wd = b := ⟨_, rfl⟩
      rw [hX] at hz hk
      rw [hb] at hk
      have hb2 : (l.take (j + 1)).any (fun v => sameP v wd) = b := by rw [hsucc]; exact hb
      have HS := hide hb2
      have HK := hide hk
      have HB := hide HI.out.2
      clear hk hsucc hX hb hb2 hxj hq hcell HI
      cases b with
      | true =>
        have HA := hide (show l.any (fun v => sameP v wd) = true by
          have h := HS.out
          rw [List.any_eq_true] at h ⊢
          obtain ⟨y, hy, h2⟩ := h
          exact ⟨y, List.mem_of_mem_take hy, h2⟩)
        go_wp2_with fail
        refine HK.out.mono ?_
        rintro e w1 ⟨rfl, b1⟩
        have HB2 := hide (HB.out.trans (b1.mono HB.out.size))
        clear b1 HK
        go_wp2_with fail
        go_ret
        exact ⟨(j : Int), rfl, by rw [HA.out]; simp, HB2.out⟩
      | false =>
        go_wp2_with fail
        refine HK.out.mono ?_
        rintro e w1 ⟨rfl, b1⟩
        have HG := hide (And.intro HS.out (HB.out.trans (b1.mono HB.out.size)))
        clear b1 HK
        go_wp2_with fail
        exact ⟨⟨j + 1, by omega, by go_num, HG⟩, by simp [Lib.intOf]; omega⟩
    · have d1 : decide (j < n) = false := by simp; omega
      have h := HI.out
      rw [List.take_of_length_le (by have := HX.out.2.1; omega)] at h
      have HF := hide h
      clear h HI hlt hj
      go_wp2_with fail
      go_ret
      exact ⟨-1, rfl, by rw [HF.out.1]; decide, HF.out.2⟩
end Go.Proofs.YtbiblaeocbcfhaaGreatDoor
