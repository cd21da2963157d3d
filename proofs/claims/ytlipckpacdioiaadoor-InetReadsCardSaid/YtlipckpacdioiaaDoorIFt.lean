/- inet: what is the first thing wrong with a packet. -/
import Derived.Test.YtlipckpacdioiaaDoorIRd
import Derived.Test.YtlipckpacdioiaaDoorCWithin
import Derived.BigQuiet
namespace Go.Proofs.YtlipckpacdioiaaDoor
open Go.RowKit
set_option linter.unusedVariables false
set_option linter.unusedSimpArgs false
set_option maxRecDepth 100000
theorem low4 : ∀ x : Fin 256, bits .and .u8 ((x.val : Nat) : Int) 15 = ((x.val % 16 : Nat) : Int) := of_decide_eq_true (by kernel_rfl)
theorem mask_u64 (x m : Nat) (h : x ≤ 65535) : bits .and .u64 (x : Int) ((2 ^ 14 - 1 : Nat) : Int) = ((x % 16384 : Nat) : Int) := by
  rw [u64_and_nat _ _ (by omega) (by omega), Nat.and_two_pow_sub_one_eq_mod]
def faultI (x s n : Nat) (c : Bool) (m : Nat) : Int :=
  if x / 16 ≠ 4 ∨ x % 16 < 5 then 11 else if 5 < x % 16 then 13 else if s < 20 ∨ n < s then 10 else if 1500 < s then 14 else if c = false then 12 else if m % 16384 ≠ 0 then 13 else 0
set_option maxHeartbeats 1600000 in
theorem fault_any (a : Option Addr) (xs : List Int) (n cap x s : Nat) (w : World) (hr : Row .u8 w a xs) (hl : xs.length = n) (hnc : n ≤ cap) (hno : a = none → cap = 0) (hb : ∀ x ∈ xs, 0 ≤ x ∧ x ≤ 255) (h20 : 20 ≤ n) (hs : s ≤ 65535) (hx : xs[0]? = some (x : Int)) :
    Calls Tryd.prog 25 #[.slice a n cap, .int .i64 (s : Int)] w fun e w' => e = .returned (.int .i64 (faultI x s n (csum (xs.take 20) == 0) (fld xs 6 2))) ∧ Below w.heap.size w w' := by
  have hx2 : x ≤ 255 := by have := hb _ (List.mem_of_getElem? hx); omega
  have hlow : bits .and .u8 (x : Int) 15 = ((x % 16 : Nat) : Int) := low4 ⟨x, by omega⟩
  obtain ⟨b, off, rfl, hlt, hc⟩ := hr.at (i := 0) (by omega)
  have hc0 : w.cell? ⟨b, off, none⟩ = some (.int .u8 (x : Int)) := by have := hc 0 (by omega); simpa [hx] using this
  have HR := hide hr
  have HB := hide hb
  have HL := hide hl
  have HNO := hide hno
  have HRT := hide (fun (q : Nat) => rightL (w.drewN q) [(some ⟨b, off, none⟩, xs.take 20, cap)] #[.slice (some ⟨b, off, none⟩) 20 cap] 1 w.heap.size rfl rfl (by simp [Part.v, List.length_take]; omega) (rows_cons (row_take (show Row .u8 (w.drewN q) (some ⟨b, off, none⟩) xs from hr.below (w := w) (B := w.heap.size) ⟨rfl, rfl, rfl, Nat.le_refl _, fun _ _ => rfl⟩ (Nat.le_refl _)) 20) hno (rows_nil _)) (by simp [flat, List.length_take]; omega) (by simp [flat]; exact fun x h => hb x (List.mem_of_mem_take h)) (by omega))
  rw [show flat [((some ⟨b, off, none⟩ : Option Addr), xs.take 20, cap)] = xs.take 20 by simp [flat]] at HRT
  have HNU := hide (fun (W : World) (h : Row .u8 W (some ⟨b, off, none⟩) xs) => number_any (some ⟨b, off, none⟩) xs n cap 6 W h hl hnc hno hb (by omega) (by omega))
  have hM := fld_lt xs 6 2 hb
  generalize (csum (xs.take 20) == 0) = C at *
  generalize fld xs 6 2 = M at *
  clear hc hlt hr hb hx hl
  have fin : ∀ (K : Int), (K = faultI x s n C M) → ∀ (A : Act) (W : World), A.defers = [] → (results Tryd.f25 A.tmps).run Tryd.prog W = .ok (.int .i64 K) W → Below w.heap.size w W → bodyPost Tryd.prog Tryd.f25 (fun e w' => e = .returned (.int .i64 (faultI x s n C M)) ∧ Below w.heap.size w w') Exit.ret A W := fun K hK A W hd hA hB => bodyPost_ret hA hd ⟨congrArg (fun z => Ending.returned (Value.int .i64 z)) hK, hB⟩
  go_enter Tryd.func25, Tryd.ntmps25
  go_wp2_with fail
  go_quiet (fail)
  go_wp2_with fail
  all_goals first
    | (refine fin 11 ?_ _ _ rfl ?_ ⟨rfl, rfl, rfl, Nat.le_refl _, fun _ _ => rfl⟩
       · unfold faultI
         (repeat' split) <;> first | rfl | omega | contradiction | (simp only [bne_iff_ne, ne_eq, bne_eq_false_iff_eq] at *; omega)
       · simp [results, Tryd.results25, go_sem])
    | (refine fin 13 ?_ _ _ rfl ?_ ⟨rfl, rfl, rfl, Nat.le_refl _, fun _ _ => rfl⟩
       · unfold faultI
         (repeat' split) <;> first | rfl | omega | contradiction | (simp only [bne_iff_ne, ne_eq, bne_eq_false_iff_eq] at *; omega)
       · simp [results, Tryd.results25, go_sem])
    | (refine fin 10 ?_ _ _ rfl ?_ ⟨rfl, rfl, rfl, Nat.le_refl _, fun _ _ => rfl⟩
       · unfold faultI
         (repeat' split) <;> first | rfl | omega | contradiction | (simp only [bne_iff_ne, ne_eq, bne_eq_false_iff_eq] at *; omega)
       · simp [results, Tryd.results25, go_sem])
    | (refine fin 14 ?_ _ _ rfl ?_ ⟨rfl, rfl, rfl, Nat.le_refl _, fun _ _ => rfl⟩
       · unfold faultI
         (repeat' split) <;> first | rfl | omega | contradiction | (simp only [bne_iff_ne, ne_eq, bne_eq_false_iff_eq] at *; omega)
       · simp [results, Tryd.results25, go_sem])
    | skip
  refine (HRT.out _).mono ?_
  rintro e w1 ⟨rfl, b1⟩
  have HB1 := hide (show Below w.heap.size w w1 from (show Below w.heap.size w (w.drewN _) from ⟨rfl, rfl, rfl, Nat.le_refl _, fun _ _ => rfl⟩).trans b1)
  have HR1 := hide (HR.out.below HB1.out (Nat.le_refl _))
  clear b1 HRT
  cases C
  · go_wp2_with fail
    · refine fin 12 ?_ _ _ rfl ?_ HB1.out
      · unfold faultI
        (repeat' split) <;> first | rfl | omega | contradiction | (simp only [bne_iff_ne, ne_eq, bne_eq_false_iff_eq] at *; omega)
      · simp [results, Tryd.results25, go_sem]
  · have hmask : bits .and .u64 (M : Int) 16383 = ((M % 16384 : Nat) : Int) := mask_u64 M 14 (by omega)
    go_wp2_with fail
    refine (HNU.out _ HR1.out).mono ?_
    rintro e w2 ⟨rfl, b2⟩
    have HB2 := hide (show Below w.heap.size w w2 from HB1.out.trans (b2.mono HB1.out.size))
    clear b2
    go_wp2_with fail
    · skip
      refine fin 13 ?_ _ _ rfl ?_ HB2.out
      · unfold faultI
        (repeat' split) <;> first | rfl | omega | contradiction | (simp only [bne_iff_ne, ne_eq, bne_eq_false_iff_eq] at *; omega)
      · simp [results, Tryd.results25, go_sem]
    · skip
      refine fin 0 ?_ _ _ rfl ?_ HB2.out
      · unfold faultI
        (repeat' split) <;> first | rfl | omega | contradiction | (simp only [bne_iff_ne, ne_eq, bne_eq_false_iff_eq] at *; omega)
      · simp [results, Tryd.results25, go_sem]
end Go.Proofs.YtlipckpacdioiaaDoor
