/- Ports: the document's list. -/
import Derived.Test.YtafoiblacmjpdaaDoorPOut
namespace Go.Proofs.YtafoiblacmjpdaaDoor
open Go.RowKit Go.Deep
set_option linter.unusedVariables false
set_option linter.unusedSimpArgs false
set_option maxRecDepth 100000
/-- The document's set: its ports in a row. -/
structure RAt (w : World) (R : Nat) (xs : List Int) : Prop where
  cell : ∃ a c, w.heap[R]? = some (.cells #[.slice a xs.length c] 29 (0, 0)) ∧ Row .i64 w a xs ∧ (∀ b, a = some b → R < b.block)
  len : xs.length ≤ 100000
  cap : ∀ a n c, w.heap[R]? = some (.cells #[.slice a n c] 29 (0, 0)) → n ≤ c
theorem cap_of {w : World} {R n c : Nat} {a : Option Addr} (h : w.heap[R]? = some (.cells #[.slice a n c] 29 (0, 0))) (hc : n ≤ c) : ∀ a' n' c', w.heap[R]? = some (.cells #[.slice a' n' c'] 29 (0, 0)) → n' ≤ c' := by
  intro a' n' c' h2
  rw [h] at h2
  simp at h2
  omega
theorem owns_cap {w : World} {base : Nat} {e : TypeId} {a : Option Addr} {n c : Nat} {xs : List Value} (h : w.ownsRow base e 1 (.slice a n c) n xs) : n ≤ c := by
  rcases h.2 with ⟨h1, h2⟩ | ⟨g, cap, cur, hv, _, _, h3, _⟩
  · omega
  · injection hv with _ _ e3; omega
theorem RAt.below {w w' : World} {R K : Nat} {xs : List Int} (h : RAt w R xs) (hb : Below K w w') (hK : w.heap.size ≤ K) : RAt w' R xs := by
  obtain ⟨a, c, h1, h2, h3⟩ := h.cell
  exact ⟨⟨a, c, below_block hb h1 hK, h2.below hb hK, h3⟩, h.len, cap_of (below_block hb h1 hK) (h.cap _ _ _ h1)⟩
set_option maxHeartbeats 1000000 in
theorem rhas_any (R : Nat) (xs : List Int) (p : Int) (w : World) (h : RAt w R xs) :
    Calls Tryd.prog 19 #[.pointer (some ⟨R, 0, none⟩), .int .i64 p] w fun e w' => e = .returned (.bool (decide (p ∈ xs))) ∧ w' = w := by
  obtain ⟨n, hn⟩ : ∃ n, xs.length = n := ⟨_, rfl⟩
  have HN := hide hn
  have HLB := hide (show n ≤ 100000 by rw [← hn]; exact h.len)
  have HX := hide h
  clear hn h
  go_enter Tryd.func19, Tryd.ntmps19
  go_wp2_with fail
  go_loopw [5] (fun i wz => ∃ j : Nat, j ≤ n ∧ i = .int .i64 j ∧ Hid (∀ q, q < j → xs[q]?.getD 0 ≠ p) ∧ wz = w) (fun i _ => n - (intOf i).toNat)
  case atStart => exact ⟨0, Nat.zero_le _, rfl, hide (fun q h => by omega), rfl⟩
  case round =>
    obtain ⟨j, hj, rfl, HNO, rfl⟩ := hrel
    obtain ⟨a, c, h1, h2, h3⟩ := HX.out.cell
    rw [HN.out] at h1
    obtain ⟨u0, uf⟩ := one_cell h1
    have hj4 : (0 : Int) ≤ (j : Int) := by omega
    have hj5 : (j : Int) ≤ 100000 := by have := HLB.out; omega
    by_cases hlt : j < n
    · have d1 : decide (j < n) = true := by simp; omega
      obtain ⟨b, off, he, hbl, hc⟩ := h2.at (i := j) (by have := HN.out; omega)
      have hcj := hc j (by have := HN.out; omega)
      obtain ⟨x, hx⟩ : ∃ x, xs[j]?.getD 0 = x := ⟨_, rfl⟩
      rw [hx] at hcj
      have HXE := hide hx
      clear h1 h2 h3 hbl hc hx
      subst he
      by_cases hxp : x = p
      · have d2 : (x == p) = true := by simp [hxp]
        have HM := hide (show decide (p ∈ xs) = true by
          have hj2 : j < xs.length := by have := HN.out; omega
          have := HXE.out
          rw [List.getElem?_eq_getElem hj2, hxp] at this
          simp only [Option.getD_some] at this
          simp only [decide_eq_true_eq]
          rw [← this]
          exact List.getElem_mem hj2)
        clear hxp
        go_wp2_with fail
        go_ret
        exact ⟨by rw [HM.out]; rfl, rfl⟩
      · have d2 : (x == p) = false := by simp [hxp]
        have HNO2 := hide (show ∀ q, q < j + 1 → xs[q]?.getD 0 ≠ p from fun q hq => by
          rcases Nat.lt_or_ge q j with h | h
          · exact HNO.out q h
          · rw [show q = j by omega, HXE.out]; exact hxp)
        clear hxp
        go_wp2_with fail
        exact ⟨⟨j + 1, by omega, by go_num, HNO2, by first | rfl | trivial⟩, by simp [intOf]; omega⟩
    · have d1 : decide (j < n) = false := by simp; omega
      have HM := hide (show decide (p ∈ xs) = false by
        simp only [decide_eq_false_iff_not]
        intro hm
        obtain ⟨q, hq, e⟩ := List.getElem_of_mem hm
        refine HNO.out q (by have := HN.out; omega) ?_
        rw [List.getElem?_eq_getElem hq, e]; rfl)
      clear h1 h2 h3
      go_wp2_with fail
      go_ret
      exact ⟨by rw [HM.out]; rfl, rfl⟩
end Go.Proofs.YtafoiblacmjpdaaDoor
