/- Ssdp: rows of texts held against one another. -/
import Derived.Test.YtonoaopioifedaaGreatDoorSRf
import Derived.BigQuiet
import Derived.Deep.QuietTactic
namespace Go.Proofs.YtonoaopioifedaaGreatDoor
open Go.RowKit Go.Shelf Go.Deep
set_option linter.unusedVariables false
set_option linter.unusedSimpArgs false
set_option maxRecDepth 100000
theorem AnsAt.at {w : World} {K : Nat} {a : Option Addr} {n c : Nat} {ls : List (List UInt8)} (h : AnsAt w K a n c ls) {j : Nat} {l : List UInt8} (hl : ls[j]? = some l) : ∃ ga g cap, a = some ⟨ga, 0, none⟩ ∧ w.cell? ⟨ga, j, none⟩ = some (.slice (some ⟨g, 0, none⟩) l.length cap) ∧ TxB w g l ∧ K ≤ g := by
  obtain ⟨vs, h1, h2, h3⟩ := h
  have hj : j < n := by rw [← h2]; exact (List.getElem?_eq_some_iff.1 hl).1
  have hvl : vs.length = n := by have := h1.1; simpa using this
  obtain ⟨v, hv⟩ : ∃ v, vs[j]? = some v := ⟨_, List.getElem?_eq_getElem (by omega)⟩
  obtain ⟨g, cap, e, ht⟩ := h3 j v l hv hl
  obtain ⟨ga, cap2, e2, hg, hlt⟩ := World.ownsRow.form h1 (by omega)
  obtain ⟨rfl, rfl⟩ : a = some ⟨ga, 0, none⟩ ∧ c = cap2 := by injection e2 with e1 e2 e3; exact ⟨e1, e3⟩
  have hc := World.ownsRow.cellAt h1 j (by omega)
  rw [hv, e] at hc
  exact ⟨ga, g, cap, rfl, hc, ht⟩
theorem TxB.conv {w : World} {g : Nat} {l : List UInt8} (h : TxB w g l) (m cap : Nat) (hm : l.length = m) : (convert 29 9 (.slice (some ⟨g, 0, none⟩) m cap)).run Tryz.prog w = .ok (.string (bt l)) w := by
  rw [← hm]
  exact run_convert_bytes_back w 29 9 5 ⟨g, 0, none⟩ cap l Tryz.underlying29 Tryz.underlying5 Tryz.underlying9 (fun j hj => by
    rw [H.add0]
    exact h.cells j _ (List.getElem?_eq_getElem hj))
theorem TxB.drewN {w : World} {g : Nat} {l : List UInt8} (h : TxB w g l) (k : Nat) : TxB (w.drewN k) g l := h
theorem TxB.below {w w' : World} {g : Nat} {l : List UInt8} (h : TxB w g l) (hb : Below w.heap.size w w') : TxB w' g l := h.kt (KT.below hb)
theorem take_eq_snoc {α : Type} {a b : List α} {j : Nat} {x : α} (h : a.take j = b.take j) (ha : a[j]? = some x) (hb : b[j]? = some x) : a.take (j + 1) = b.take (j + 1) := by
  rw [List.take_add_one, List.take_add_one, h, ha, hb]
set_option maxHeartbeats 2000000 in
theorem alike_any (w : World) (K : Nat) (a b : Option Addr) (m c k d : Nat) (ls ls2 : List (List UInt8)) (hA : AnsAt w K a m c ls) (hB : RowS w b k ls2) (hm : m ≤ 1000) (hk : k ≤ 1000) :
    Calls Tryz.prog 10 #[.slice a m c, .slice b k d] w fun e w' => e = .returned (.bool (decide (ls = ls2))) ∧ Below w.heap.size w w' := by
  have hl1 := ans_len hA
  have hl2 := hB.1
  by_cases hmk : m = k
  · subst hmk
    have q0 : ((m : Int) != (m : Int)) = false := by simp
    have HA := hide hA
    have HB := hide hB
    have HL := hide (And.intro hl1 hl2)
    have hm4 : (0 : Int) ≤ (m : Int) := by omega
    have hm5 : (m : Int) ≤ 1000 := by omega
    have HI := hide (show Below w.heap.size w w ∧ ls.take 0 = ls2.take 0 from ⟨Below.refl _ _, rfl⟩)
    obtain ⟨z, hz⟩ : ∃ z, decide (ls = ls2) = z := ⟨_, rfl⟩
    rw [hz]
    have HZ := hide hz
    clear hA hB hl1 hl2 hk hz
    go_enter Tryz.func10, Tryz.ntmps10
    go_wp2_with fail
    go_loopw [13] (fun i wz => ∃ j : Nat, j ≤ m ∧ i = .int .i64 (j : Int) ∧ Hid (Below w.heap.size w wz ∧ ls.take j = ls2.take j)) (fun i _ => m - (intOf i).toNat)
    case atStart => exact ⟨0, Nat.zero_le _, rfl, HI⟩
    case round =>
      clear HI
      obtain ⟨j, hj, rfl, HI⟩ := hrel
      have hj4 : (0 : Int) ≤ (j : Int) := by omega
      have hj5 : (j : Int) ≤ 1000 := by omega
      by_cases hlt : j < m
      · have d1 : decide (j < m) = true := by simp; omega
        have d2 : decide ((j : Int) < (m : Int)) = true := by simp; omega
        obtain ⟨x, hx⟩ : ∃ x, ls[j]? = some x := ⟨_, List.getElem?_eq_getElem (by have := HL.out.1; omega)⟩
        obtain ⟨y, hy⟩ : ∃ y, ls2[j]? = some y := ⟨_, List.getElem?_eq_getElem (by have := HL.out.2; omega)⟩
        obtain ⟨ga, g, cap, hae, hca, htx, _⟩ := (HA.out.below HI.out.1).at hx
        obtain ⟨gb, hbe, hcb⟩ := (HB.out.below HI.out.1).2 j y hy
        obtain ⟨n, hn⟩ : ∃ n, x.length = n := ⟨_, rfl⟩
        rw [hn] at hca
        have hcv0 := htx.conv n cap hn
        have hcv1 : ∀ k, (convert 29 9 (.slice (some ⟨g, 0, none⟩) n cap)).run Tryz.prog (wr.drewN k) = .ok (.string (bt x)) (wr.drewN k) := fun k => (htx.drewN k).conv n cap hn
        have hcv2 : (convert 29 9 (.slice (some ⟨g, 0, none⟩) n cap)).run Tryz.prog wr.drew = .ok (.string (bt x)) wr.drew := (htx.drewN 1).conv n cap hn
        have hbq := bt_beq x y
        obtain ⟨q, hq⟩ : ∃ q, decide (x = y) = q := ⟨_, rfl⟩
        rw [hq] at hbq
        have hbq2 : ((bt x).toList != (bt y).toList) = !q := by rw [← hbq]; rfl
        have HQ := hide hq
        have HX := hide (And.intro hx hy)
        generalize bt x = X at *
        generalize bt y = Y at *
        subst hae hbe
        clear htx hn hx hy hq
        cases q with
        | true =>
          have HF := hide (show ls.take (j + 1) = ls2.take (j + 1) from take_eq_snoc HI.out.2 HX.out.1 (by rw [HX.out.2, of_decide_eq_true HQ.out]))
          have HBB := hide HI.out.1
          clear HI
          go_wp2_with fail
          go_quiet (fail)
          all_goals
            go_wp2_with fail
            exact ⟨⟨j + 1, by omega, by go_num, hide ⟨bdrewN HBB.out _, HF.out⟩⟩, by simp [intOf]; omega⟩
        | false =>
          have HF := hide (show z = false from by
            rw [← HZ.out]
            refine decide_eq_false fun e => ?_
            have h1 := HX.out.1
            rw [e, HX.out.2] at h1
            injection h1 with h1
            exact of_decide_eq_false HQ.out h1.symm)
          have HBB := hide HI.out.1
          clear HI
          go_wp2_with fail
          go_quiet (fail)
          all_goals
            go_wp2_with fail
            go_ret
            exact ⟨by rw [HF.out]; rfl, bdrewN HBB.out _⟩
      · have d1 : decide (j < m) = false := by simp; omega
        have d2 : decide ((j : Int) < (m : Int)) = false := by simp; omega
        have HF := hide (show z = true ∧ Below w.heap.size w wr from by
          refine ⟨?_, HI.out.1⟩
          rw [← HZ.out]
          have h := HI.out.2
          rw [List.take_of_length_le (by have := HL.out.1; omega), List.take_of_length_le (by have := HL.out.2; omega)] at h
          exact decide_eq_true h)
        clear HI hlt
        go_wp2_with fail
        go_ret
        exact ⟨by rw [HF.out.1]; rfl, HF.out.2⟩
  · have q0 : ((m : Int) != (k : Int)) = true := by rw [bne_iff_ne]; omega
    have q1 : ((m : Int) == (k : Int)) = false := by rw [beq_eq_false_iff_ne]; omega
    have HF := hide (show decide (ls = ls2) = false from decide_eq_false fun e => hmk (by rw [← hl1, ← hl2, e]))
    obtain ⟨z, hz⟩ : ∃ z, decide (ls = ls2) = z := ⟨_, rfl⟩
    rw [hz] at HF ⊢
    have hmk2 : ¬ m = k := hmk
    have hmk3 : decide (m = k) = false := decide_eq_false hmk
    clear hA hB hl1 hl2 hz
    go_enter Tryz.func10, Tryz.ntmps10
    go_wp2_with fail
    go_ret
    exact ⟨by rw [HF.out]; rfl, Below.refl _ _⟩
end Go.Proofs.YtonoaopioifedaaGreatDoor
