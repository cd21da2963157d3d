/- What 'pairs' answers: the first numbers of two bytes each, as many as are asked for. -/
import Derived.Test.YtpchmajgeanflaaLoop
namespace Go.Proofs.Ytpchmajgeanflaa
open Go.RowKit
set_option linter.unusedVariables false
set_option linter.unusedSimpArgs false
theorem pairs_any (a : Option Addr) (xs : List Int) (cap : Nat) (most : Int) (w : World) (hr : Row .u8 w a xs) (hb : ∀ x ∈ xs, 0 ≤ x ∧ x ≤ 255) (hlen : xs.length < 1000000000) :
    Calls Try.prog 25 #[.slice a xs.length cap, .int .i64 most] w fun e w' => ∃ a' c', e = .returned (.slice a' ((prs xs).take (cnt (prs xs).length most)).length c') ∧
      Row .u16 w' a' ((prs xs).take (cnt (prs xs).length most)) ∧ Below w.heap.size w w' := by
  have hmf : ∀ (fn : Fn) (first cap : Array Value) (w : World), (Instr.makeFunc fn first cap).run Try.prog w = .ok (.func fn first cap) w := fun _ _ _ _ => rfl
  obtain ⟨ys, HY⟩ : ∃ ys, Hid ((prs xs).take (cnt (prs xs).length most) = ys) := ⟨_, rfl⟩
  rw [HY.out]
  have hr4 : Row .u8 ((((w.alloc (.cells #[.int .i64 most] 3)).alloc (.cells #[] 44)).alloc (.cells #[.slice (some ⟨w.heap.size + 1, 0, none⟩) 0 0] 41)).alloc (.cells #[.bool true] 4)) a xs :=
    hr.below (((((Below.refl w.heap.size w).alloc (Nat.le_refl _) _).alloc (by simp) _).alloc (by simp; omega) _).alloc (by simp; omega) _) (Nat.le_refl _)
  have bel4 : Below w.heap.size w ((((w.alloc (.cells #[.int .i64 most] 3)).alloc (.cells #[] 44)).alloc (.cells #[.slice (some ⟨w.heap.size + 1, 0, none⟩) 0 0] 41)).alloc (.cells #[.bool true] 4)) :=
    ((((Below.refl w.heap.size w).alloc (Nat.le_refl _) _).alloc (by simp) _).alloc (by simp; omega) _).alloc (by simp; omega) _
  have hs : ((((w.alloc (.cells #[.int .i64 most] 3)).alloc (.cells #[] 44)).alloc (.cells #[.slice (some ⟨w.heap.size + 1, 0, none⟩) 0 0] 41)).alloc (.cells #[.bool true] 4)).heap.size = w.heap.size + 4 := by simp
  have st4 : St w.heap.size (w.heap.size + 1 + 1 + 1) (w.heap.size + 1 + 1) w.heap.size most [] ((((w.alloc (.cells #[.int .i64 most] 3)).alloc (.cells #[] 44)).alloc (.cells #[.slice (some ⟨w.heap.size + 1, 0, none⟩) 0 0] 41)).alloc (.cells #[.bool true] 4)) := by
    refine ⟨?_, ⟨some ⟨w.heap.size + 1, 0, none⟩, 0, ?_, ?_⟩, ?_⟩
    · have h := heap_alloc_new (((w.alloc (.cells #[.int .i64 most] 3)).alloc (.cells #[] 44)).alloc (.cells #[.slice (some ⟨w.heap.size + 1, 0, none⟩) 0 0] 41)) (.cells #[.bool true] 4)
      simpa using h
    · rw [Below.heap_alloc _ _ _ (by simp)]
      have h := heap_alloc_new ((w.alloc (.cells #[.int .i64 most] 3)).alloc (.cells #[] 44)) (.cells #[.slice (some ⟨w.heap.size + 1, 0, none⟩) 0 0] 41)
      simpa using h
    · have h := World.ownsRow_lit (base := w.heap.size) (e := 44) (size := 1) (w.alloc (.cells #[.int .i64 most] 3)) #[] 0 (by simp) (by unfold maxLen; omega) rfl
      have h := (h.alloc (.cells #[.slice (some ⟨w.heap.size + 1, 0, none⟩) 0 0] 41)).alloc (.cells #[.bool true] 4)
      simpa using h
    · rw [Below.heap_alloc _ _ _ (by simp; omega), Below.heap_alloc _ _ _ (by simp; omega), Below.heap_alloc _ _ _ (by simp)]
      exact heap_alloc_new w _
  have ST := hide st4
  have HS := hide hs
  have HR := hide hr4
  have BL := hide bel4
  clear st4 hs hr4 bel4
  go_enter Try.func25, Try.ntmps25
  go_wp2_with fail
  generalize hW : ((((w.alloc (.cells #[.int .i64 most] 3)).alloc (.cells #[] 44)).alloc (.cells #[.slice (some ⟨w.heap.size + 1, 0, none⟩) 0 0] 41)).alloc (.cells #[.bool true] 4)) = W at *
  clear hW
  refine (pairs_make a xs cap _ HR.out (by omega)).mono ?_
  rintro e w1 ⟨a1, c1, K, rfl, hK1, hK, hown, hbel⟩
  have HSE := HS.out
  have st1 : St w.heap.size (w.heap.size + 1 + 1 + 1) (w.heap.size + 1 + 1) w.heap.size most [] w1 := by
    obtain ⟨h1, ⟨a, c, h2, ho⟩, h3⟩ := ST.out
    refine ⟨(hbel.block _ (by omega)).trans h1, ⟨a, c, (hbel.block _ (by omega)).trans h2, ho.1, ?_⟩, (hbel.block _ (by omega)).trans h3⟩
    rcases ho.2 with h | ⟨g, cap, cur, hv, hg, hh, r⟩
    · exact .inl h
    · exact .inr ⟨g, cap, cur, hv, hg, (hbel.block _ (lt_of_block hh)).trans hh, r⟩
  have KK := hide hK
  have S1 := hide st1
  have B1 := hide hbel
  have OO := hide hown
  clear hK st1 hbel hown HSE
  go_wp2_with fail
  refine (loop_any w.heap.size K _ _ _ most a1 xs c1 _ KK.out (owns_mono OO.out (by have := HS.out; omega)) hb S1.out (by omega) (by omega) hlen).mono ?_
  rintro e w2 ⟨rfl, st2, bel2⟩
  rw [HY.out] at st2
  obtain ⟨h1, ⟨a2, c2, h2, ho2⟩, h3⟩ := st2
  have d1 := cell_of_one h1
  have d2 := cell_of_one h2
  have OW := hide ho2
  clear h1 h2 h3 ho2
  go_wp2
  go_ret
  exact ⟨a2, c2, rfl, Row.of_owns OW.out, (BL.out.trans (B1.out.mono (by have := HS.out; omega))).trans bel2⟩
end Go.Proofs.Ytpchmajgeanflaa
