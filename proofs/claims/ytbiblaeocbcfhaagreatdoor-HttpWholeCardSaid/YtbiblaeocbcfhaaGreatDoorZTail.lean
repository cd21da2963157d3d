/- http: the lines behind the number 0. -/
import Derived.Test.YtbiblaeocbcfhaaGreatDoorZFr
namespace Go.Proofs.YtbiblaeocbcfhaaGreatDoor
open Go.RowKit Go.Deep
set_option linter.unusedVariables false
set_option linter.unusedSimpArgs false
set_option maxRecDepth 100000
theorem texts_cell {w : World} {R : Nat} {l : List UInt8} (h : w.heap[R]? = some (.cells (strs ((piecesR l).map cutR)) 9 (0, 0))) : ∀ i x, (textsL l)[i]? = some x → w.cell? ⟨R, i, none⟩ = some (.string (bs x)) := by
  intro i x hx
  rw [textsL_pieces, List.getElem?_map] at hx
  cases hp : (piecesR l)[i]? with
  | none => rw [hp] at hx; cases hx
  | some p =>
    rw [hp] at hx
    cases hx
    exact cell_at h i (strs_at _ _ _ (by rw [List.getElem?_map, hp]; rfl))
theorem texts_len (l : List UInt8) : (textsL l).length = (piecesR l).length := by rw [textsL_pieces, List.length_map]
theorem texts_small (l : List UInt8) (hl : l.length ≤ 5000) : ∀ x ∈ textsL l, x.length ≤ 5000 := by
  intro x hx
  rw [textsL_pieces] at hx
  obtain ⟨p, hp, rfl⟩ := List.mem_map.1 hx
  have h1 := pieces_size l p hp
  have h2 := trimSuffix_le p.data.toList [13]
  have h3 : p.data.toList.length = p.size := by simp
  omega
set_option maxHeartbeats 2000000 in
theorem tail_any (l : List UInt8) (w : World) (hE : Env w) (hl : l.length ≤ 5000) :
    Calls Tryz.prog 22 #[.string (bs l)] w fun e w' => e = .returned (.int .i64 (tailS l : Int)) ∧ Below w.heap.size w w' := by
  have hT := texts_any l w hE hl
  have hlen := texts_len l
  have hp1 := pieces_len l
  have hfew := pieces_few l
  obtain ⟨k, hk⟩ : ∃ k, (piecesR l).length = k + 1 := ⟨_, hp1⟩
  rw [hk] at hT hlen hfew
  have hsm := texts_small l hl
  have hF := fun (V : World) (R : Nat) (hV : Env V) (hR : V.heap[R]? = some (.cells (strs ((piecesR l).map cutR)) 9 (0, 0))) =>
    fields_any (textsL l).dropLast R 0 k (k + 1) V hV (fun i x hx => by
      rw [Nat.zero_add]
      refine texts_cell hR i x ?_
      rw [List.dropLast_eq_take, List.getElem?_take] at hx
      split at hx
      · exact hx
      · cases hx) (lt_of_block hR) (by rw [List.length_dropLast, hlen]; rfl) (by omega) (fun x hx => hsm x (List.dropLast_subset _ hx))
  obtain ⟨L, hL⟩ : ∃ L, bs l = L := ⟨_, rfl⟩
  rw [hL] at hT ⊢
  have hV : tailS l = if (wholeL l && (fieldsL (textsL l).dropLast).isSome) then 0 else 400 := by
    unfold tailS
    cases wholeL l <;> cases (fieldsL (textsL l).dropLast).isSome <;> rfl
  rw [hV]
  obtain ⟨b1, hb1⟩ : ∃ b, wholeL l = b := ⟨_, rfl⟩
  obtain ⟨b2, hb2⟩ : ∃ b, (fieldsL (textsL l).dropLast).isSome = b := ⟨_, rfl⟩
  rw [hb1] at hT ⊢
  simp only [hb2] at hF
  rw [hb2]
  have HT := hide hT
  have HF := hide hF
  have HE := hide hE
  have hk5 : (k : Int) ≤ 5001 := by omega
  have hk4 : (0 : Int) ≤ (k : Int) := by omega
  clear hT hF hE hlen hp1 hfew hk hsm hL hV hb1 hb2 hl
  go_enter Tryz.func22, Tryz.ntmps22
  go_wp2_with fail
  refine HT.out.mono ?_
  rintro e w1 ⟨R, rfl, hR0, hR, b1'⟩
  have HB := hide b1'
  have HR := hide hR
  have HF2 := hide (HF.out w1 R (HE.out.below b1' (Nat.le_refl _)) hR)
  clear HT HF hR b1' hR0
  go_wp2_with fail
  refine HF2.out.mono ?_
  rintro e w2 ⟨fv, rfl, _, _, b2'⟩
  have HB2 := hide (HB.out.trans (b2'.mono HB.out.size))
  clear HF2 b2'
  cases b1 <;> cases b2
  all_goals
    go_wp2_with fail
    go_ret
    exact ⟨rfl, HB2.out⟩
end Go.Proofs.YtbiblaeocbcfhaaGreatDoor
