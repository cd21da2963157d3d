/- What the function that octet.Pairs gives does for the body of a loop: it tells the numbers of two bytes each, in order. -/
import Derived.Test.YtlipckpacdioiaaDoorKeep
import Derived.Test.YtlipckpacdioiaaDoorJoin
import Derived.RangeFuncBox
import Derived.RangeFuncWrites
import Derived.RangeFuncLeaves
import Derived.Shelf.Abstract
import Derived.OwnWalkIn
import Derived.TacticsInMore
import Derived.LoopNIn
import Derived.LoopIn
namespace Go.Proofs.YtlipckpacdioiaaDoor
open Go.RowKit Go.Shelf
set_option linter.unusedVariables false
set_option linter.unusedSimpArgs false
set_option maxRecDepth 100000
attribute [local go_sem] Oper.semAt_some

/-- What has come when k rounds are over: f 0, .., f (k - 1). -/
def upto {α : Type} (f : Nat → α) (k : Nat) : List α := (List.range k).map f
theorem upto_succ {α : Type} (f : Nat → α) (k : Nat) : upto f (k + 1) = upto f k ++ [f k] := by simp [upto, List.range_succ]
theorem upto_length {α : Type} (f : Nat → α) (k : Nat) : (upto f k).length = k := by simp [upto]
/-- The k-th pair as it is told. -/
def item (xs : List Int) (k : Nat) : Nat × Int := (k, 256 * xs[2 * k]?.getD 0 + xs[2 * k + 1]?.getD 0)

set_option maxRecDepth 100000 in
set_option maxHeartbeats 2000000 in
theorem iter_in (F : Fence) (n : Nat) (h43 : F.fn 51) (hro : F.round = none) (hn : 1 ≤ n) (l K base : Nat) (a : Option Addr) (xs : List Int) (cap : Nat) (hb : ∀ x ∈ xs, 0 ≤ x ∧ x ≤ 255) (hlen : xs.length < 1000000000) (J Jx : List (Nat × Int) → World → Prop)
    (hY : ∀ pre x W, J pre W → pre.length < (xs.length + 1) / 2 → YieldAt F (n - 1) Tryd.prog l #[.int .i64 (x.1 : Int), .int .u16 x.2] W fun e W' =>
      (e = .returned (.bool true) ∧ J (pre ++ [x]) W' ∧ Keep W W') ∨ (e = .returned (.bool false) ∧ Jx (pre ++ [x]) W'))
    (W : World) (hK : W.heap[K]? = some (.cells #[.slice a xs.length cap] 25 (0, 0))) (ho : W.ownsRow base 5 1 (.slice a xs.length cap) xs.length (xs.map (Value.int .u8))) (h0 : J [] W) :
    CallsIn F n Tryd.prog 51 #[.func (.yield l) #[] #[], .pointer (some ⟨K, 0, none⟩)] W fun e W' => (∃ v, e = .returned v) ∧
      ((∃ ys, ys = upto (item xs) ((xs.length + 1) / 2) ∧ J ys W') ∨ (∃ pre, (∃ k, k ≤ (xs.length + 1) / 2 ∧ pre = upto (item xs) k) ∧ Jx pre W')) := by
  refine callsIn_of_wp Tryd.func51 rfl h43 ?_ hro
  simp only [Tryd.ntmps51, List.size_toArray, List.length_cons, List.length_nil, Nat.reduceAdd, Nat.reduceSub, Array.replicate_succ, Array.replicate_zero, List.push_toArray, List.append_toArray, List.nil_append, List.cons_append]
  gi_wp2
  gi_loopw [3] (fun i wr => ∃ k : Nat, k ≤ (xs.length + 1) / 2 ∧ i = .int .i64 ((2 * k : Nat) : Int) ∧ J (upto (item xs) k) wr ∧ wr.heap[K]? = some (.cells #[.slice a xs.length cap] 25 (0, 0)) ∧
      wr.ownsRow base 5 1 (.slice a xs.length cap) xs.length (xs.map (Value.int .u8)))
    (fun i _ => xs.length + 1 - (intOf i).toNat)
  case atStart => exact ⟨0, Nat.zero_le _, rfl, h0, hK, ho⟩
  case round =>
    clear h0 hK ho
    obtain ⟨k, hk, rfl, hJs, hK, ho⟩ := hrel
    have cK := cell_of_one hK
    by_cases hlt : 2 * k < xs.length
    · obtain ⟨b, off, rfl, hbl, hc⟩ := (Row.of_owns ho).at hlt
      obtain ⟨fn, tmps, assign, body, hy, hR⟩ := hY _ (item xs k) wr hJs (by rw [upto_length]; omega)
      dsimp only [item] at hy
      have cx := hc (2 * k) hlt
      have cx2 := hc (2 * k + 1)
      have hx := byte_at hb (2 * k)
      have hy2 := byte_at hb (2 * k + 1)
      have hy0 : ¬ 2 * k + 1 < xs.length → xs[2 * k + 1]?.getD 0 = 0 := fun h => by rw [List.getElem?_eq_none (by omega)]; rfl
      generalize hxx : xs[2 * k]?.getD 0 = x at *
      generalize hyy : xs[2 * k + 1]?.getD 0 = y at *
      have HX := hide hxx
      have HY := hide hyy
      have HO := hide ho
      have HK := hide hK
      clear ho hK hc hxx hyy
      by_cases hlt2 : 2 * k + 1 < xs.length
      · replace cx2 := cx2 hlt2
        have hor := or16 x y hx.1 hx.2 hy2.1 hy2.2
        clear hy0
        gi_wp2
        refine hR.mono ?_
        rintro e W3 (⟨rfl, hJ3, hk3⟩ | ⟨rfl, hJx3⟩)
        · gi_wp2
          go_roundw
          case rel => exact ⟨k + 1, by omega, by go_num, by rw [upto_succ]; exact hJ3, hk3 _ _ _ HK.out (.inl rfl), hk3.owns HO.out⟩
          case measure => simp [intOf]; omega
        · gi_wp2
          refine bodyPost_ret (results_none rfl _ _ _) rfl ?_
          exact ⟨⟨_, rfl⟩, .inr ⟨_, ⟨k + 1, by omega, (upto_succ _ _).symm⟩, hJx3⟩⟩
      · rw [show 256 * x + y = x * 256 by rw [hy0 hlt2]; omega] at hy
        clear hy0 cx2
        gi_wp2
        refine hR.mono ?_
        rintro e W3 (⟨rfl, hJ3, hk3⟩ | ⟨rfl, hJx3⟩)
        · gi_wp2
          go_roundw
          case rel => exact ⟨k + 1, by omega, by go_num, by rw [upto_succ]; exact hJ3, hk3 _ _ _ HK.out (.inl rfl), hk3.owns HO.out⟩
          case measure => simp [intOf]; omega
        · gi_wp2
          refine bodyPost_ret (results_none rfl _ _ _) rfl ?_
          exact ⟨⟨_, rfl⟩, .inr ⟨_, ⟨k + 1, by omega, (upto_succ _ _).symm⟩, hJx3⟩⟩
    · obtain rfl : k = (xs.length + 1) / 2 := by omega
      gi_wp2
      go_end0
      exact ⟨⟨_, rfl⟩, .inl ⟨_, rfl, hJs⟩⟩

theorem keep_t {A B C : World} (h : Keep A B) (k : Keep B C) : Keep A C := h.trans k
theorem keep_b {w : World} (W : World) (l : Nat) (o o' : Obj) (_ : w.heap.size ≤ l) (h : W.heap[l]? = some o) (ho : o.isCells = false) (_ : o.isWalk = false) : Keep W (W.putObj l o') := fun B cs t hB ht => by
  have hne : B ≠ l := by
    intro e; subst e
    rw [h] at hB; cases hB; cases ho
  exact (World.putObj_heap_other hne).trans hB
theorem keep_set {w : World} {b : Nat} {v u : Value} {t : TypeId} (h : w.heap[b]? = some (.cells #[v] t (0, 0))) (h1 : t ≠ 25) (h2 : t ≠ 5) : Keep w (w.setCell ⟨b, 0, none⟩ u) := fun B cs t' hB ht => by
  have hne : B ≠ b := by
    intro e; subst e
    rw [h] at hB; simp at hB
    rcases ht with rfl | rfl
    · exact h1 hB.2
    · exact h2 hB.2
  exact (Below.heap_setCell _ _ _ _ hne).trans hB

theorem iter_stops (F : Fence) (n : Nat) (h43 : F.fn 51) (hro : F.round = none) (hn : 1 ≤ n) (K base : Nat) (a : Option Addr) (xs : List Int) (cap : Nat) (hb : ∀ x ∈ xs, 0 ≤ x ∧ x ≤ 255) (hlen : xs.length < 1000000000) (w : World)
    (hK : w.heap[K]? = some (.cells #[.slice a xs.length cap] 25 (0, 0))) (ho : w.ownsRow base 5 1 (.slice a xs.length cap) xs.length (xs.map (Value.int .u8))) :
    SeqStopsK F n Tryd.prog 51 #[.pointer (some ⟨K, 0, none⟩)] (fun x : Nat × Int => #[Value.int .i64 (x.1 : Int), Value.int .u16 x.2]) Keep (fun ys => ys = upto (item xs) ((xs.length + 1) / 2))
      (fun pre => ∃ k, k ≤ (xs.length + 1) / 2 ∧ pre = upto (item xs) k) ((xs.length + 1) / 2) w := fun l J Jx W hW _ _ hY h0 =>
  iter_in F n h43 hro hn l K base a xs cap hb hlen J Jx hY W ((hW.block K (lt_of_block hK)).trans hK) (owns_below ho hW (Nat.le_refl _)) h0
end Go.Proofs.YtlipckpacdioiaaDoor
