/- The document's table: Put of a key that is there; New. -/
import Derived.Test.YtcgkblmhfgjoaaaKRefP
namespace Go.Proofs.Ytcgkblmhfgjoaaa
open Go.RowKit Go.Deep
set_option linter.unusedVariables false
set_option linter.unusedSimpArgs false
set_option maxRecDepth 100000
theorem Apart.symm {ka va : Option Addr} (h : Apart ka va) : Apart va ka := fun a b ea eb e => h b a eb ea e.symm
set_option maxHeartbeats 1000000 in
theorem putR_old (w : World) (base p : Nat) (most : Int) (ks vs : List Int) (ka : Option Addr) (kc : Nat) (va : Option Addr) (vc : Nat) (k v : Int) (h : RT w base p most ks vs ka kc va vc) (hap : Apart ka va) (hn : ks.length ≤ 100000) (hbw : base ≤ w.heap.size) (i : Nat) (hi : i < ks.length) (hix : idxL k ks = (i : Int)) :
    Calls Try.prog 15 #[.pointer (some ⟨p, 0, none⟩), .int .i64 k, .int .i64 v] w fun e w' => e = .returned (.int .i64 0) ∧ FR base p w w' ∧ RT w' base p most ks (vs.set i v) ka kc va vc := by
  obtain ⟨n, hnn⟩ : ∃ n, ks.length = n := ⟨_, rfl⟩
  have hvr := h.vrow
  have hkr := h.krow
  rw [hnn] at hvr hkr hi hn
  obtain ⟨g, cap, hg⟩ : ∃ g cap, Value.slice va n vc = .slice (some ⟨g, 0, none⟩) n cap := by
    rcases hvr.2 with ⟨_, h2⟩ | ⟨g, cap, cur, hg, _⟩
    · omega
    · exact ⟨g, cap, hg⟩
  simp only [Value.slice.injEq, true_and] at hg
  obtain ⟨rfl, rfl⟩ := hg
  have hA := atR_any w p most ks vs ka kc _ vc k h.r (by omega)
  rw [hix] at hA
  have hbg : base ≤ g := (hvr.lt g rfl).1
  have hpg : p ≠ g := by have := h.lt; omega
  obtain ⟨t0, t1, t2, tf⟩ := three_cells h.tab
  rw [hnn] at t0 t1
  have hvx : vs[i]? = some (vs[i]'(by rw [h.len, hnn]; exact hi)) := List.getElem?_eq_getElem _
  have c0 : w.cell? ⟨g, i, none⟩ = some (.int .i64 (vs[i]'(by rw [h.len, hnn]; exact hi))) := by
    rw [hvr.cellAt i (by omega), List.getElem?_map, hvx]; rfl
  have cf : w.frozen? ⟨g, i, none⟩ = false := hvr.frozenAt i
  have hst := hvr.stored i (.int .i64 v)
  have HEND := hide (show FR base p w (w.setCell ⟨g, i, none⟩ (.int .i64 v)) ∧ RT (w.setCell ⟨g, i, none⟩ (.int .i64 v)) base p most ks (vs.set i v) ka kc (some ⟨g, 0, none⟩) vc by
    refine ⟨FR.grown hvr hst.2, ⟨(heap_setCell_other _ _ _ _ hpg).trans h.tab, ?_, ?_, ?_, h.lt⟩⟩
    · rw [hnn]; exact hkr.kept hst.2 (own_apart hap.symm (m := n) (d := vc))
    · rw [hnn, List.map_set]; exact hst.1
    · rw [List.length_set]; exact h.len)
  have HA := hide hA
  have hge : decide ((0 : Int) ≤ (i : Int)) = true := by simp
  obtain ⟨z, hz⟩ : ∃ z, vs[i]'(by rw [h.len, hnn]; exact hi) = z := ⟨_, rfl⟩
  rw [hz] at c0
  clear h hA hvr hkr hst hix hnn hap hvx hbg hz
  go_enter Try.func15, Try.ntmps15
  go_wp2_with fail
  refine HA.out.mono ?_
  rintro e w1 ⟨rfl, rfl⟩
  clear HA
  go_wp2_with fail
  go_ret
  exact ⟨rfl, HEND.out⟩
set_option maxHeartbeats 1000000 in
theorem newR_any (most : Int) (w : World) :
    Calls Try.prog 11 #[.int .i64 most] w fun e w' => e = .returned (.pointer (some ⟨w.heap.size, 0, none⟩)) ∧ RT w' (w.heap.size + 1) w.heap.size (if most < 0 then 0 else most) [] [] none 0 none 0 ∧ Below w.heap.size w w' ∧ w'.heap.size = w.heap.size + 1 := by
  have hrt : ∀ m : Int, RT (w.alloc (.cells #[.slice none 0 0, .slice none 0 0, .int .i64 m] 39)) (w.heap.size + 1) w.heap.size m [] [] none 0 none 0 ∧ Below w.heap.size w (w.alloc (.cells #[.slice none 0 0, .slice none 0 0, .int .i64 m] 39)) ∧ (w.alloc (.cells #[.slice none 0 0, .slice none 0 0, .int .i64 m] 39)).heap.size = w.heap.size + 1 := fun m =>
    ⟨⟨heap_alloc_new _ _, World.ownsRow_nil _ _ _ _, World.ownsRow_nil _ _ _ _, rfl, Nat.lt_succ_self _⟩, (Below.refl _ _).alloc (Nat.le_refl _) _, by simp⟩
  have HRT := hide hrt
  clear hrt
  by_cases hm : most < 0
  · have hd : decide (most < 0) = true := by simpa using hm
    rw [if_pos hm]
    clear hm
    go_enter Try.func11, Try.ntmps11
    go_wp2
    go_ret
    exact ⟨rfl, HRT.out 0⟩
  · have hd : decide (most < 0) = false := by simpa using hm
    rw [if_neg hm]
    clear hm
    go_enter Try.func11, Try.ntmps11
    go_wp2
    go_ret
    exact ⟨rfl, HRT.out most⟩
end Go.Proofs.Ytcgkblmhfgjoaaa
