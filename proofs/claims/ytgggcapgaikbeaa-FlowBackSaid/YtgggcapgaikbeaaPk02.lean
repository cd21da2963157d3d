/- What the function that octet.Pairs gives does for the body of a loop: it tells the numbers of two bytes each, in order. -/
import Derived.Test.YtgggcapgaikbeaaPk01
import Derived.RangeFuncBox
import Derived.RangeFuncWrites
import Derived.RangeFuncLeaves
import Derived.Shelf.Abstract
import Derived.OwnWalkIn
import Derived.TacticsInMore
import Derived.LoopNIn
import Derived.LoopIn
import Derived.Deep.RegionHeld3
namespace Go.Proofs.Ytgggcapgaikbeaa
open Go.RowKit Go.Shelf
set_option linter.unusedVariables false
set_option linter.unusedSimpArgs false
set_option maxRecDepth 100000
attribute [local go_sem] Oper.semAt_some

/-- What has come when k rounds are over: f 0, .., f (k - 1). -/
def upto {α : Type} (f : Nat → α) (k : Nat) : List α := (List.range k).map f
theorem upto_succ {α : Type} (f : Nat → α) (k : Nat) : upto f (k + 1) = upto f k ++ [f k] := by simp [upto, List.range_succ]
theorem upto_length {α : Type} (f : Nat → α) (k : Nat) : (upto f k).length = k := by simp [upto]
/-- The k-th pair as it is told. -/
def item (xs : List Int) (k : Nat) : Nat × Int := (k, 256 * xs[2 * k]?.getD 0 + xs[2 * k + 1]?.getD 0)

set_option maxRecDepth 100000 in
set_option maxHeartbeats 2000000 in
theorem iter_in (F : Fence) (n : Nat) (h43 : F.fn 102) (hro : F.round = none) (hn : 1 ≤ n) (l K base : Nat) (a : Option Addr) (xs : List Int) (cap : Nat) (hb : ∀ x ∈ xs, 0 ≤ x ∧ x ≤ 255) (hlen : xs.length < 1000000000) (J Jx : List (Nat × Int) → World → Prop)
    (hY : ∀ pre x W, J pre W → pre.length < (xs.length + 1) / 2 → YieldAt F (n - 1) Try.prog l #[.int .i64 (x.1 : Int), .int .u16 x.2] W fun e W' =>
      (e = .returned (.bool true) ∧ J (pre ++ [x]) W' ∧ Keep W W') ∨ (e = .returned (.bool false) ∧ Jx (pre ++ [x]) W'))
    (W : World) (hK : W.heap[K]? = some (.cells #[.slice a xs.length cap] 25 (0, 0))) (ho : W.ownsRow base 5 1 (.slice a xs.length cap) xs.length (xs.map (Value.int .u8))) (h0 : J [] W) :
    CallsIn F n Try.prog 102 #[.func (.yield l) #[] #[], .pointer (some ⟨K, 0, none⟩)] W fun e W' => (∃ v, e = .returned v) ∧
      ((∃ ys, ys = upto (item xs) ((xs.length + 1) / 2) ∧ J ys W') ∨ (∃ pre, (∃ k, k ≤ (xs.length + 1) / 2 ∧ pre = upto (item xs) k) ∧ Jx pre W')) := by
  refine callsIn_of_wp Try.func102 rfl h43 ?_ hro
  simp only [Try.ntmps102, List.size_toArray, List.length_cons, List.length_nil, Nat.reduceAdd, Nat.reduceSub, Array.replicate_succ, Array.replicate_zero, List.push_toArray, List.append_toArray, List.nil_append, List.cons_append]
  gi_wp2
  gi_loopw [3] (fun i wr => ∃ k : Nat, k ≤ (xs.length + 1) / 2 ∧ i = .int .i64 ((2 * k : Nat) : Int) ∧ J (upto (item xs) k) wr ∧ wr.heap[K]? = some (.cells #[.slice a xs.length cap] 25 (0, 0)) ∧
      wr.ownsRow base 5 1 (.slice a xs.length cap) xs.length (xs.map (Value.int .u8)))
    (fun i _ => xs.length + 1 - (intOf i).toNat)
  case atStart => exact ⟨0, Nat.zero_le _, rfl, h0, hK, ho⟩
  case round =>
    clear h0 hK ho
    obtain ⟨k, hk, rfl, hJs, hK, ho⟩ := hrel
    have cK := cell_of_one hK
    by_cases hlt : 2 * k < xs.length
    · obtain ⟨b, off, rfl, hbl, hc⟩ := (Row.of_owns ho).at hlt
      obtain ⟨fn, tmps, assign, body, hy, hR⟩ := hY _ (item xs k) wr hJs (by rw [upto_length]; omega)
      dsimp only [item] at hy
      have cx := hc (2 * k) hlt
      have cx2 := hc (2 * k + 1)
      have hx := byte_at hb (2 * k)
      have hy2 := byte_at hb (2 * k + 1)
      have hy0 : ¬ 2 * k + 1 < xs.length → xs[2 * k + 1]?.getD 0 = 0 := fun h => by rw [List.getElem?_eq_none (by omega)]; rfl
      generalize hxx : xs[2 * k]?.getD 0 = x at *
      generalize hyy : xs[2 * k + 1]?.getD 0 = y at *
      have HX := hide hxx
      have HY := hide hyy
      have HO := hide ho
      have HK := hide hK
      clear ho hK hc hxx hyy
      by_cases hlt2 : 2 * k + 1 < xs.length
      · replace cx2 := cx2 hlt2
        have hor := or16 x y hx.1 hx.2 hy2.1 hy2.2
        clear hy0
        gi_wp2
        refine hR.mono ?_
        rintro e W3 (⟨rfl, hJ3, hk3⟩ | ⟨rfl, hJx3⟩)
        · gi_wp2
          go_roundw
          case rel => exact ⟨k + 1, by omega, by go_num, by rw [upto_succ]; exact hJ3, hk3 _ _ _ HK.out (.inl rfl), hk3.owns HO.out⟩
          case measure => simp [intOf]; omega
        · gi_wp2
          refine bodyPost_ret (results_none rfl _ _ _) rfl ?_
          exact ⟨⟨_, rfl⟩, .inr ⟨_, ⟨k + 1, by omega, (upto_succ _ _).symm⟩, hJx3⟩⟩
      · rw [show 256 * x + y = x * 256 by rw [hy0 hlt2]; omega] at hy
        clear hy0 cx2
        gi_wp2
        refine hR.mono ?_
        rintro e W3 (⟨rfl, hJ3, hk3⟩ | ⟨rfl, hJx3⟩)
        · gi_wp2
          go_roundw
          case rel => exact ⟨k + 1, by omega, by go_num, by rw [upto_succ]; exact hJ3, hk3 _ _ _ HK.out (.inl rfl), hk3.owns HO.out⟩
          case measure => simp [intOf]; omega
        · gi_wp2
          refine bodyPost_ret (results_none rfl _ _ _) rfl ?_
          exact ⟨⟨_, rfl⟩, .inr ⟨_, ⟨k + 1, by omega, (upto_succ _ _).symm⟩, hJx3⟩⟩
    · obtain rfl : k = (xs.length + 1) / 2 := by omega
      gi_wp2
      go_end0
      exact ⟨⟨_, rfl⟩, .inl ⟨_, rfl, hJs⟩⟩

theorem keep_t {A B C : World} (h : Keep A B) (k : Keep B C) : Keep A C := h.trans k
theorem keep_b {w : World} (W : World) (l : Nat) (o o' : Obj) (_ : w.heap.size ≤ l) (h : W.heap[l]? = some o) (ho : o.isCells = false) (_ : o.isWalk = false) : Keep W (W.putObj l o') := fun B cs t hB ht => by
  have hne : B ≠ l := by
    intro e; subst e
    rw [h] at hB; cases hB; cases ho
  exact (World.putObj_heap_other hne).trans hB
theorem keep_set {w : World} {b : Nat} {v u : Value} {t : TypeId} (h : w.heap[b]? = some (.cells #[v] t (0, 0))) (h1 : t ≠ 25) (h2 : t ≠ 5) : Keep w (w.setCell ⟨b, 0, none⟩ u) := fun B cs t' hB ht => by
  have hne : B ≠ b := by
    intro e; subst e
    rw [h] at hB; simp at hB
    rcases ht with rfl | rfl
    · exact h1 hB.2
    · exact h2 hB.2
  exact (Below.heap_setCell _ _ _ _ hne).trans hB

theorem iter_stops (F : Fence) (n : Nat) (h43 : F.fn 102) (hro : F.round = none) (hn : 1 ≤ n) (K base : Nat) (a : Option Addr) (xs : List Int) (cap : Nat) (hb : ∀ x ∈ xs, 0 ≤ x ∧ x ≤ 255) (hlen : xs.length < 1000000000) (w : World)
    (hK : w.heap[K]? = some (.cells #[.slice a xs.length cap] 25 (0, 0))) (ho : w.ownsRow base 5 1 (.slice a xs.length cap) xs.length (xs.map (Value.int .u8))) :
    SeqStopsK F n Try.prog 102 #[.pointer (some ⟨K, 0, none⟩)] (fun x : Nat × Int => #[Value.int .i64 (x.1 : Int), Value.int .u16 x.2]) Keep (fun ys => ys = upto (item xs) ((xs.length + 1) / 2))
      (fun pre => ∃ k, k ≤ (xs.length + 1) / 2 ∧ pre = upto (item xs) k) ((xs.length + 1) / 2) w := fun l J Jx W hW _ _ hY h0 =>
  iter_in F n h43 hro hn l K base a xs cap hb hlen J Jx hY W ((hW.block K (lt_of_block hK)).trans hK) (owns_below ho hW (Nat.le_refl _)) h0
end Go.Proofs.Ytgggcapgaikbeaa

/- What sum.fold and sum.Sum answer: the check sum of texts, one behind the other. -/
namespace Go.Proofs.Ytgggcapgaikbeaa
open Go.RowKit Go.Shelf
set_option linter.unusedVariables false
set_option linter.unusedSimpArgs false
attribute [local go_sem] Oper.semAt_some

theorem fold_any (n : Int) (w : World) (h0 : 0 ≤ n) (hn : n ≤ 1152921504606846975) :
    Calls Try.prog 97 #[.int .u64 n] w fun e w' => e = .returned (.int .u16 (f16 n)) ∧ w = w' := by
  go_enter Try.func97, Try.ntmps97
  go_wp2
  go_loop [0] (fun v => ∃ m : Int, 0 ≤ m ∧ m ≤ 1152921504606846975 ∧ v = .int .u64 m ∧ f16 m = f16 n) (fun v => (intOf v).toNat)
  case atStart => exact ⟨n, h0, hn, rfl, rfl⟩
  case round =>
    obtain ⟨m, hm0, hm1, rfl, hf⟩ := hrel
    have HF := hide hf
    clear hf
    have hst := hide (f16_step m hm0)
    by_cases hlt : 65535 < m
    · have ha : bits .and .u64 m 65535 = m % 65536 := by
        have := bits_mask .u64 64 (by decide) wraps_u64 16 (by decide) m hm0 (by omega)
        simpa using this
      go_wp2
      go_round
      case rel => exact ⟨_, by omega, by omega, rfl, by rw [hst.out, HF.out]⟩
      case measure => simp only [intOf]; omega
    · have hs := hide (f16_small m hm0 (by omega))
      go_wp2
      go_ret
      exact ⟨by rw [← HF.out, hs.out]; rfl, rfl⟩

/-- What the loop of 'Sum' has when some numbers have come. -/
def totW (ys : List (Nat × Int)) : Int := ys.foldl (fun s v => IntKind.u64.wrap (s + IntKind.u64.wrap v.2)) 0
theorem totW_snoc (pre : List (Nat × Int)) (x : Nat × Int) : totW (pre ++ [x]) = IntKind.u64.wrap (totW pre + IntKind.u64.wrap x.2) := by simp [totW]
theorem upto_item (xs : List Int) (hb : ∀ x ∈ xs, 0 ≤ x ∧ x ≤ 255) (hl : xs.length < 1000000000) (k : Nat) (hk : k ≤ (xs.length + 1) / 2) : totW (upto (item xs) k) = ((prs xs).take k).sum := by
  induction k with
  | zero => simp [upto, totW]
  | succ k ih =>
    have h1 := prs_take xs k (by omega)
    have h2 := sum_rng ((prs xs).take k) (fun y hy => prs_rng xs hb y (List.mem_of_mem_take hy))
    have h3 : ((prs xs).take k).length ≤ 500000000 := by rw [List.length_take, prs_len]; omega
    have h4 := byte_at hb (2 * k)
    have h5 := byte_at hb (2 * k + 1)
    rw [upto_succ, totW_snoc, ih (by omega), h1, List.sum_append]
    show IntKind.u64.wrap (_ + IntKind.u64.wrap (256 * xs[2 * k]?.getD 0 + xs[2 * k + 1]?.getD 0)) = _
    rw [wraps_u64 (256 * _ + _) (by omega) (by omega), wraps_u64 _ (by omega) (by omega)]
    simp

theorem upto_all (xs : List Int) (hb : ∀ x ∈ xs, 0 ≤ x ∧ x ≤ 255) (hl : xs.length < 1000000000) : totW (upto (item xs) ((xs.length + 1) / 2)) = psum xs := by
  rw [upto_item xs hb hl _ (Nat.le_refl _), List.take_of_length_le (by rw [prs_len]; omega)]; rfl

set_option maxRecDepth 100000 in
set_option maxHeartbeats 2000000 in
theorem sum_any (a : Option Addr) (L : List Part) (cap : Nat) (w : World) (hp : Parts w a L) (hlen : (flat L).length < 1000000000) (hL : L.length ≤ 1099511627776) (hb : ∀ x ∈ flat L, 0 ≤ x ∧ x ≤ 255) :
    Calls Try.prog 75 #[.slice a L.length cap] w fun e w' => e = .returned (.int .u16 (csum (flat L))) ∧ Below w.heap.size w w' := by
  refine (callsIn_wide (n := 3)).1 ?_
  have hro : Fence.wide.round = none := rfl
  refine callsIn_of_wp_marks Try.func75 rfl trivial ?_ hro
  simp only [Try.ntmps75, List.size_toArray, List.length_cons, List.length_nil, Nat.reduceAdd, Nat.reduceSub, Array.replicate_succ, Array.replicate_zero, List.push_toArray, List.append_toArray, List.nil_append, List.cons_append]
  have hB0 : Below w.heap.size w (w.alloc (.cells #[.int .u64 0] 88)) := (Below.refl _ w).alloc (Nat.le_refl _) _
  have hj := join_any a L cap _ (hp.below hB0 (Nat.le_refl _)) (by omega) hL
  have HJ := hide hj
  clear hj
  generalize flat L = xs at *
  gi_wp2_with fail
  refine ⟨trivial, ?_⟩
  refine (callsIn_wide.2 HJ.out).mono ?_
  rintro e w1 ⟨a1, c1, rfl, hown, hbel⟩
  have hpm := pairs_make a1 xs c1 w1 (Row.of_owns hown) (by omega)
  have HP := hide hpm
  clear hpm hown
  gi_wp2_with fail
  refine ⟨trivial, ?_⟩
  refine (callsIn_wide.2 HP.out).mono ?_
  rintro e w2 ⟨a2, c2, K, rfl, hK1, hK, hown, hbel2⟩
  have hT0 : (w.alloc (.cells #[.int .u64 0] 88)).heap[w.heap.size]? = some (.cells #[.int .u64 0] 88 (0, 0)) := heap_alloc_new w _
  have hT1 := (hbel.block w.heap.size (by simp)).trans hT0
  have hT2 := (hbel2.block w.heap.size (lt_of_block hT1)).trans hT1
  have hB2 : Below w.heap.size w w2 := (hB0.trans (hbel.mono (by simp))).trans (hbel2.mono (by have := hbel.size; simp at this; omega))
  have hsz : w.heap.size + 1 ≤ w2.heap.size := by have := lt_of_block hT2; omega
  clear hT0 hT1 hbel hbel2
  gi_wp2_with fail
  refine wpIn_rangeFunc_ownG hro (by omega) (gf := 102) (lb := #[.pointer (some ⟨K, 0, none⟩)]) rfl trivial (enters_of Try.func102 (by kernel_rfl) rfl)
    (iter_stops Fence.wide 2 trivial hro (by omega) K _ a2 xs c2 hb hlen w2 hK hown) keep_t keep_b (Below.refl _ _) (fun _ => rfl)
    (fun pre W => W.heap[w.heap.size]? = some (.cells #[.int .u64 (totW pre)] 88 (0, 0)) ∧ Below w.heap.size w W)
    (fun _ _ _ => False)
    (OwnFrom.and (Own.from (fun s A B row hs hg hr => ?own1) _) (ownFrom_below (Nat.le_refl _) hB2.size))
    (fun _ _ _ _ _ hs _ _ => hs)
    ⟨hT2, hB2⟩
    (fun x => { tmps := #[.slice a L.length cap, undef, .int .u16 0, .pointer (some ⟨w.heap.size, 0, none⟩), undef, .int .u16 x.2, .slice a L.length cap, .slice a1 xs.length c1, .func (.func 102) #[] #[.pointer (some ⟨K, 0, none⟩)], .int .i64 (x.1 : Int), .int .u16 x.2, undef, undef, undef, undef, undef, undef, undef], defers := [] }) ?assign ?body ?done ?stop
  case own1 =>
    exact (grownBy_keeps_cells hg hr hs rfl).trans hs
  case assign =>
    intro l x W K hK
    gi_wp2
    exact hK
  case body =>
    rintro l pre x W ⟨hT, hB⟩ _
    have cT := cell_of_one hT
    have fT := free_of_one hT
    have HT := hide hT
    clear hT
    gi_wp2
    have hnew := one_setCell (u := .int .u64 (totW (pre ++ [x]))) HT.out
    rw [totW_snoc] at hnew
    exact ⟨(KeepsOthers.setCell _ _ _).from _, keep_set HT.out (by decide) (by decide), by rw [totW_snoc]; exact hnew, hB.setCell (p := ⟨w.heap.size, 0, none⟩) (Nat.le_refl _) _⟩
  case done =>
    rintro D ys W hD rfl ⟨hT, hB⟩ hKD
    rw [upto_all xs hb hlen] at hT
    have cT := cell_of_one hT
    have hfo := fold_any (psum xs) W (psum_rng xs hb).1 (by have := (psum_rng xs hb).2; omega)
    have HF := hide hfo
    clear hfo hT
    gi_wp2_with fail
    refine ⟨trivial, ?_⟩
    refine (callsIn_wide.2 HF.out).mono ?_
    rintro e w3 ⟨rfl, rfl⟩
    gi_wp2
    rw [xor16 _ (f16_rng _).1 (f16_rng _).2]
    refine ⟨by simp, .inl ⟨_, _, rfl, run_takeDeferred hKD, ?_⟩⟩
    exact ⟨_, results_tmp rfl _ _ _, rfl, hB.trans (belowK_b (w := w) (Nat.le_refl _) W D _ _ (by omega) hKD rfl rfl)⟩
  case stop =>
    rintro D c pre W _ _ h _
    exact h.elim
end Go.Proofs.Ytgggcapgaikbeaa

/- The document's pairs. -/
namespace Go.Proofs.Ytgggcapgaikbeaa
open Go.RowKit
set_option linter.unusedVariables false
set_option linter.unusedSimpArgs false
set_option maxRecDepth 100000
set_option maxHeartbeats 800000 in
theorem refPairs_any (a : Option Addr) (xs : List Int) (cap : Nat) (w : World) (hr : Row .u8 w a xs) (hb : ∀ x ∈ xs, 0 ≤ x ∧ x ≤ 255) (hlen : xs.length < 1000000000) :
    Calls Try.prog 78 #[.slice a xs.length cap] w fun e w' => ∃ a' c', e = .returned (.slice a' (prs xs).length c') ∧
      Row .u16 w' a' (prs xs) ∧ Below w.heap.size w w' := by
  obtain ⟨i0, hi, hz0, hz1, hz2⟩ := info_parts Try.info22
  have hpl := prs_len xs
  have hown0 : (w.alloc (.cells #[] 22)).ownsRow w.heap.size 22 1 (.slice (some ⟨w.heap.size, 0, none⟩) 0 0) 0 [] := World.ownsRow_lit w #[] 0 (Nat.le_refl _) (by unfold maxLen; omega) rfl
  have HR := hide hr
  clear hr
  go_enter Try.func78, Try.ntmps78
  go_wp2
  go_loopw [3, 4] (fun v i wr => ∃ k : Nat, ∃ a' c', k ≤ (prs xs).length ∧ i = .int .i64 ((2 * k : Nat) : Int) ∧ v = .slice a' k c' ∧
      wr.ownsRow w.heap.size 22 1 (.slice a' k c') k (((prs xs).take k).map (Value.int .u16)) ∧ Below w.heap.size w wr)
    (fun _ i _ => xs.length + 1 - (intOf i).toNat)
  case atStart => exact ⟨0, some ⟨w.heap.size, 0, none⟩, 0, Nat.zero_le _, rfl, rfl, hown0, (Below.refl _ _).alloc (Nat.le_refl _) _⟩
  case round =>
    have HP := hide hpl
    clear hpl hown0
    obtain ⟨k, a', c', hk, rfl, rfl, hown, hbel⟩ := hrel
    by_cases hlt : 2 * k < xs.length
    · obtain ⟨b, off, rfl, hbl, hc0⟩ := HR.out.at hlt
      have cx : wr.cell? ⟨b, off + 2 * k, none⟩ = _ := (hbel.cell (p := ⟨b, off + 2 * k, none⟩) hbl).trans (hc0 (2 * k) hlt)
      have cx2 : 2 * k + 1 < xs.length → wr.cell? ⟨b, off + (2 * k + 1), none⟩ = _ := fun h => (hbel.cell (p := ⟨b, off + (2 * k + 1), none⟩) hbl).trans (hc0 (2 * k + 1) h)
      have hx := byte_at hb (2 * k)
      have hy := byte_at hb (2 * k + 1)
      have hpt := prs_take xs k hlt
      have hy0 : ¬ 2 * k + 1 < xs.length → xs[2 * k + 1]?.getD 0 = 0 := fun h => by rw [List.getElem?_eq_none (by omega)]; rfl
      generalize xs[2 * k]?.getD 0 = x at *
      generalize xs[2 * k + 1]?.getD 0 = y at *
      have HPT := hide hpt
      have HO := hide hown
      clear hc0 hpt hown
      by_cases hlt2 : 2 * k + 1 < xs.length
      · skip
        replace cx2 := cx2 hlt2
        clear hy0
        go_wp2_with (at_builtin; refine wpList_append_own _ rfl _ _ 109 rfl w.heap.size 22 i0 (.int .u16 0) 1 2 Try.underlying109 hi hz0 hz1 hz2 rfl (by decide) _ _ _ rfl (HO.out.alloc _) ⟨wr.heap.size, 0, none⟩ 1 1 [.int .u16 (256 * x + y)] rfl rfl (new_cell _ _ _) (one_int _ _) (by unfold maxLen; omega) (by omega) (by have := hbel.size; simp; omega) ?_)
        intro v' w1 hown1 hgrow _
        obtain ⟨a1, c1, rfl⟩ := slice_form hown1
        have hbel1 : Below w.heap.size w w1 := (hbel.alloc hbel.size _).grown hgrow (by have := hbel.size; simp; omega) (fun j e => (HO.out.lt j e).1)
        have O1 := hide hown1
        have B1 := hide hbel1
        clear hown1 hbel1 hgrow
        go_wp2
        go_roundw
        case rel => exact ⟨k + 1, a1, c1, by rw [HP.out]; omega, by go_num, rfl, by rw [HPT.out]; simpa using O1.out, B1.out⟩
        case measure => simp [intOf]; omega
      · skip
        have hyy := hide (hy0 hlt2)
        clear hy0 cx2
        go_wp2_with (at_builtin; refine wpList_append_own _ rfl _ _ 109 rfl w.heap.size 22 i0 (.int .u16 0) 1 2 Try.underlying109 hi hz0 hz1 hz2 rfl (by decide) _ _ _ rfl (HO.out.alloc _) ⟨wr.heap.size, 0, none⟩ 1 1 [.int .u16 (256 * x)] rfl rfl (new_cell _ _ _) (one_int _ _) (by unfold maxLen; omega) (by omega) (by have := hbel.size; simp; omega) ?_)
        intro v' w1 hown1 hgrow _
        rw [show (256 * x : Int) = 256 * x + y by rw [hyy.out]; omega] at hown1
        obtain ⟨a1, c1, rfl⟩ := slice_form hown1
        have hbel1 : Below w.heap.size w w1 := (hbel.alloc hbel.size _).grown hgrow (by have := hbel.size; simp; omega) (fun j e => (HO.out.lt j e).1)
        have O1 := hide hown1
        have B1 := hide hbel1
        clear hown1 hbel1 hgrow
        go_wp2
        go_roundw
        case rel => exact ⟨k + 1, a1, c1, by rw [HP.out]; omega, by go_num, rfl, by rw [HPT.out]; simpa using O1.out, B1.out⟩
        case measure => simp [intOf]; omega
    · have hkk : k = (prs xs).length := by rw [HP.out] at hk ⊢; omega
      have KK := hide hkk
      clear hkk
      go_wp2
      go_ret
      have hk0 := KK.out
      rw [List.take_of_length_le (by omega), hk0] at hown
      rw [hk0]
      exact ⟨a', c', rfl, Row.of_owns hown, hbel⟩

end Go.Proofs.Ytgggcapgaikbeaa

/- What sum.Sum answers of one text and of two, sum.Right, the document's sum. -/
namespace Go.Proofs.Ytgggcapgaikbeaa
open Go.RowKit
set_option linter.unusedVariables false
set_option linter.unusedSimpArgs false
set_option maxRecDepth 100000

/-- A slice of one part, in a block of the call's own. -/
theorem parts_one (w : World) (a : Option Addr) (xs : List Int) (m c : Nat) (hm : xs.length = m) (h : Row .u8 w a xs) (hn : a = none → c = 0) :
    Parts (w.alloc (.cells #[.slice a m c] 25)) (some ⟨w.heap.size, 0, none⟩) [(a, xs, c)] := by
  subst hm
  have hb : Below w.heap.size w (w.alloc (.cells #[.slice a xs.length c] 25)) := (Below.refl _ _).alloc (Nat.le_refl _) _
  refine ⟨fun _ => ⟨w.heap.size, 0, rfl, by simp, ?_⟩, ?_⟩
  · intro i p hi
    match i, hi with
    | 0, hi => simp at hi; subst hi; rw [World.cell?_alloc_at _ _ _ _ rfl]; rfl
  · intro p hp
    simp at hp
    subst hp
    exact ⟨h.below hb (Nat.le_refl _), hn⟩
theorem parts_two (w : World) (a1 a2 : Option Addr) (xs ys : List Int) (m1 m2 c1 c2 : Nat) (l1 : xs.length = m1) (l2 : ys.length = m2) (h1 : Row .u8 w a1 xs) (n1 : a1 = none → c1 = 0) (h2 : Row .u8 w a2 ys) (n2 : a2 = none → c2 = 0) :
    Parts (w.alloc (.cells #[.slice a1 m1 c1, .slice a2 m2 c2] 25)) (some ⟨w.heap.size, 0, none⟩) [(a1, xs, c1), (a2, ys, c2)] := by
  subst l1; subst l2
  have hb : Below w.heap.size w (w.alloc (.cells #[.slice a1 xs.length c1, .slice a2 ys.length c2] 25)) := (Below.refl _ _).alloc (Nat.le_refl _) _
  refine ⟨fun _ => ⟨w.heap.size, 0, rfl, by simp, ?_⟩, ?_⟩
  · intro i p hi
    match i, hi with
    | 0, hi => simp at hi; subst hi; rw [World.cell?_alloc_at _ _ _ _ rfl]; rfl
    | 1, hi => simp at hi; subst hi; rw [World.cell?_alloc_at _ _ _ _ rfl]; rfl
  · intro p hp
    simp at hp
    rcases hp with rfl | rfl
    · exact ⟨h1.below hb (Nat.le_refl _), n1⟩
    · exact ⟨h2.below hb (Nat.le_refl _), n2⟩
/-- 'Sum' of one text, over the slice that the call's own operand makes. -/
theorem sum1_any (w : World) (a : Option Addr) (xs : List Int) (m c : Nat) (hm : xs.length = m) (h : Row .u8 w a xs) (hn : a = none → c = 0) (hb : ∀ x ∈ xs, 0 ≤ x ∧ x ≤ 255) (hl : m < 1000000000) :
    Calls Try.prog 75 #[.slice (some ⟨w.heap.size, 0, none⟩) 1 1] (w.alloc (.cells #[.slice a m c] 25)) fun e w' => e = .returned (.int .u16 (csum xs)) ∧ Below w.heap.size w w' := by
  have hf : flat [(a, xs, c)] = xs := by simp [flat]
  have h := sum_any (some ⟨w.heap.size, 0, none⟩) [(a, xs, c)] 1 _ (parts_one w a xs m c hm h hn) (by rw [hf]; omega) (by simp) (by rw [hf]; exact hb)
  rw [hf] at h
  refine h.mono ?_
  rintro e w' ⟨rfl, hbel⟩
  exact ⟨rfl, ((Below.refl _ _).alloc (Nat.le_refl _) _).trans (hbel.mono (by simp))⟩
theorem sum2_any (w : World) (a1 a2 : Option Addr) (xs ys : List Int) (m1 m2 c1 c2 : Nat) (l1 : xs.length = m1) (l2 : ys.length = m2) (h1 : Row .u8 w a1 xs) (n1 : a1 = none → c1 = 0) (h2 : Row .u8 w a2 ys) (n2 : a2 = none → c2 = 0)
    (hb : ∀ x ∈ xs ++ ys, 0 ≤ x ∧ x ≤ 255) (hl : m1 + m2 < 1000000000) :
    Calls Try.prog 75 #[.slice (some ⟨w.heap.size, 0, none⟩) 2 2] (w.alloc (.cells #[.slice a1 m1 c1, .slice a2 m2 c2] 25)) fun e w' => e = .returned (.int .u16 (csum (xs ++ ys))) ∧ Below w.heap.size w w' := by
  have hf : flat [(a1, xs, c1), (a2, ys, c2)] = xs ++ ys := by simp [flat]
  have h := sum_any (some ⟨w.heap.size, 0, none⟩) [(a1, xs, c1), (a2, ys, c2)] 2 _ (parts_two w a1 a2 xs ys m1 m2 c1 c2 l1 l2 h1 n1 h2 n2) (by rw [hf, List.length_append]; omega) (by simp) (by rw [hf]; exact hb)
  rw [hf] at h
  refine h.mono ?_
  rintro e w' ⟨rfl, hbel⟩
  exact ⟨rfl, ((Below.refl _ _).alloc (Nat.le_refl _) _).trans (hbel.mono (by simp))⟩

theorem right_any (a : Option Addr) (L : List Part) (cap : Nat) (w : World) (hp : Parts w a L) (hlen : (flat L).length < 1000000000) (hL : L.length ≤ 1099511627776) (hb : ∀ x ∈ flat L, 0 ≤ x ∧ x ≤ 255) :
    Calls Try.prog 67 #[.slice a L.length cap] w fun e w' => e = .returned (.bool (csum (flat L) == 0)) ∧ Below w.heap.size w w' := by
  have hs := sum_any a L cap w hp hlen hL hb
  have HS := hide hs
  clear hs hp
  go_enter Try.func67, Try.ntmps67
  go_wp2_with fail
  refine HS.out.mono ?_
  rintro e w1 ⟨rfl, hbel⟩
  go_wp2
  go_ret
  exact ⟨rfl, hbel⟩
theorem right2_any (w : World) (a1 a2 : Option Addr) (xs ys : List Int) (m1 m2 c1 c2 : Nat) (l1 : xs.length = m1) (l2 : ys.length = m2) (h1 : Row .u8 w a1 xs) (n1 : a1 = none → c1 = 0) (h2 : Row .u8 w a2 ys) (n2 : a2 = none → c2 = 0)
    (hb : ∀ x ∈ xs ++ ys, 0 ≤ x ∧ x ≤ 255) (hl : m1 + m2 < 1000000000) :
    Calls Try.prog 67 #[.slice (some ⟨w.heap.size, 0, none⟩) 2 2] (w.alloc (.cells #[.slice a1 m1 c1, .slice a2 m2 c2] 25)) fun e w' => e = .returned (.bool (csum (xs ++ ys) == 0)) ∧ Below w.heap.size w w' := by
  have hf : flat [(a1, xs, c1), (a2, ys, c2)] = xs ++ ys := by simp [flat]
  have h := right_any (some ⟨w.heap.size, 0, none⟩) [(a1, xs, c1), (a2, ys, c2)] 2 _ (parts_two w a1 a2 xs ys m1 m2 c1 c2 l1 l2 h1 n1 h2 n2) (by rw [hf, List.length_append]; omega) (by simp) (by rw [hf]; exact hb)
  rw [hf] at h
  refine h.mono ?_
  rintro e w' ⟨rfl, hbel⟩
  exact ⟨rfl, ((Below.refl _ _).alloc (Nat.le_refl _) _).trans (hbel.mono (by simp))⟩

theorem refAdd_any (a b : Int) (w : World) (h1 : 0 ≤ a) (h2 : a ≤ 65535) (h3 : 0 ≤ b) (h4 : b ≤ 65535) :
    Calls Try.prog 79 #[.int .u16 a, .int .u16 b] w fun e w' => e = .returned (.int .u16 (f16 (a + b))) ∧ w = w' := by
  have hf := hide (f16_two a b h1 h2 h3 h4)
  by_cases h : 65535 < a + b
  · go_enter Try.func79, Try.ntmps79
    go_wp2
    go_ret
    exact ⟨by rw [← hf.out, if_pos h]; rfl, rfl⟩
  · go_enter Try.func79, Try.ntmps79
    go_wp2
    go_ret
    exact ⟨by rw [← hf.out, if_neg (by omega)]; rfl, rfl⟩

set_option maxHeartbeats 800000 in
theorem refSum_any (a : Option Addr) (xs : List Int) (cap : Nat) (w : World) (hr : Row .u8 w a xs) (hb : ∀ x ∈ xs, 0 ≤ x ∧ x ≤ 255) (hlen : xs.length < 1000000000) :
    Calls Try.prog 50 #[.slice a xs.length cap] w fun e w' => e = .returned (.int .u16 (csum xs)) ∧ Below w.heap.size w w' := by
  have hp := refPairs_any a xs cap w hr hb hlen
  have hpl := prs_len xs
  have hpr := prs_rng xs hb
  have hcs : csum xs = 65535 - f16 (prs xs).sum := rfl
  rw [hcs]
  clear hcs hr hb
  generalize prs xs = ys at *
  have HP := hide hp
  have HR := hide hpr
  have HPL := hide hpl
  have hyl : ys.length ≤ 500000001 := by omega
  clear hp hpr hpl
  go_enter Try.func50, Try.ntmps50
  go_wp2_with fail
  refine HP.out.mono ?_
  rintro e w1 ⟨a1, c1, rfl, hrow, hbel⟩
  have RO := hide hrow
  clear hrow
  go_wp2
  go_loop [4, 5] (fun v i => ∃ k : Nat, k ≤ ys.length ∧ i = .int .i64 k ∧ v = .int .u16 (f16 (ys.take k).sum)) (fun _ i => ys.length - (intOf i).toNat)
  case atStart => exact ⟨0, Nat.zero_le _, rfl, rfl⟩
  case round =>
    obtain ⟨k, hk, rfl, rfl⟩ := hrel
    by_cases hlt : k < ys.length
    · obtain ⟨b, off, rfl, _, hc⟩ := RO.out.at hlt
      have cx := hc k hlt
      have hs1 := sum_rng (ys.take k) (fun y hy => HR.out y (List.mem_of_mem_take hy))
      have hf1 := f16_rng (ys.take k).sum
      have hy : 0 ≤ ys[k]?.getD 0 ∧ ys[k]?.getD 0 ≤ 65535 := by rw [List.getElem?_eq_getElem hlt]; exact HR.out _ (List.getElem_mem hlt)
      have hst : f16 (f16 (ys.take k).sum + ys[k]?.getD 0) = f16 (ys.take (k + 1)).sum := by
        rw [f16_add _ _ hs1.1 hy.1, List.take_add_one, List.sum_append, List.getElem?_eq_getElem hlt]
        simp
      generalize ys[k]?.getD 0 = y at *
      generalize f16 (ys.take k).sum = t at *
      have HST := hide hst
      have hy1 := hy.1
      have hy2 := hy.2
      have ht1 := hf1.1
      have ht2 := hf1.2
      clear hst hc hs1 hf1 hy
      go_wp2_with fail
      refine (refAdd_any t y _ ht1 ht2 hy1 hy2).mono ?_
      rintro e w2 ⟨rfl, rfl⟩
      rw [HST.out]
      go_wp2
      go_round
      case rel => exact ⟨k + 1, by omega, by go_num, rfl⟩
      case measure => simp [intOf]; omega
    · obtain rfl : k = ys.length := by omega
      rw [List.take_length]
      have hf1 := f16_rng ys.sum
      have ht1 := hf1.1
      have ht2 := hf1.2
      clear hf1
      go_wp2
      go_ret
      exact ⟨rfl, hbel⟩
end Go.Proofs.Ytgggcapgaikbeaa

/- Join, Sum and Right over the slice that a call's own operands make; the small functions of trans: pseudo, lay, half, fit, told. -/
namespace Go.Proofs.Ytgggcapgaikbeaa
open Go.RowKit
set_option linter.unusedVariables false
set_option linter.unusedSimpArgs false
set_option maxRecDepth 100000

theorem bcell {B : Nat} {W w1 : World} (hb : Below B W w1) : ∀ b o, b < B → w1.cell? ⟨b, o, none⟩ = W.cell? ⟨b, o, none⟩ := fun b o h => hb.cell (p := ⟨b, o, none⟩) h
/-- The rows of the operands. -/
def Rows (w : World) (L : List Part) : Prop := ∀ p ∈ L, Row .u8 w p.1 p.2.1 ∧ (p.1 = none → p.2.2 = 0)
theorem rows_nil (w : World) : Rows w [] := by intro p hp; simp at hp
theorem rows_cons {w : World} {a : Option Addr} {xs : List Int} {c : Nat} {L : List Part} (h : Row .u8 w a xs) (hn : a = none → c = 0) (hL : Rows w L) : Rows w ((a, xs, c) :: L) := by
  intro p hp
  simp only [List.mem_cons] at hp
  rcases hp with rfl | hp
  · exact ⟨h, hn⟩
  · exact hL p hp
theorem rows_some {w : World} {a : Addr} {xs : List Int} {c : Nat} {L : List Part} (h : Row .u8 w (some a) xs) (hL : Rows w L) : Rows w ((some a, xs, c) :: L) := rows_cons h (fun h => by cases h) hL
theorem parts_new (w1 : World) (L : List Part) (cells : Array Value) (T : TypeId) (hc : cells = (L.map Part.v).toArray) (hrows : Rows w1 L) :
    Parts (w1.alloc (.cells cells T)) (some ⟨w1.heap.size, 0, none⟩) L := by
  subst hc
  have hb : Below w1.heap.size w1 (w1.alloc (.cells (L.map Part.v).toArray T)) := (Below.refl _ _).alloc (Nat.le_refl _) _
  refine ⟨fun _ => ⟨_, 0, rfl, by simp, fun i p hi => ?_⟩, fun p hp => ⟨(hrows p hp).1.below hb (Nat.le_refl _), (hrows p hp).2⟩⟩
  rw [World.cell?_alloc_at _ _ _ _ rfl]
  simp [hi]
theorem joinL (w1 : World) (L : List Part) (cells : Array Value) (k n H : Nat) (hH : w1.heap.size = H) (hk : L.length = k) (hc : cells = (L.map Part.v).toArray) (hrows : Rows w1 L) (hn : (flat L).length = n) (hlen : n ≤ 1099511627776) (hk2 : k ≤ 100) :
    Calls Try.prog 73 #[.slice (some ⟨H, 0, none⟩) k k] (w1.alloc (.cells cells 25)) fun e w' => ∃ a' c', e = .returned (.slice a' n c') ∧
      w'.ownsRow w1.heap.size 5 1 (.slice a' n c') n ((flat L).map (Value.int .u8)) ∧ Below w1.heap.size w1 w' := by
  subst hH; subst hk; subst hn
  have hb : Below w1.heap.size w1 (w1.alloc (.cells cells 25)) := (Below.refl _ _).alloc (Nat.le_refl _) _
  refine (join_any (some ⟨w1.heap.size, 0, none⟩) L L.length _ (parts_new w1 L cells _ hc hrows) hlen (by omega)).mono ?_
  rintro e w' ⟨a', c', rfl, hown, hbel⟩
  exact ⟨a', c', rfl, owns_mono hown hb.size, hb.trans (hbel.mono hb.size)⟩
theorem sumL (w1 : World) (L : List Part) (cells : Array Value) (k H : Nat) (hH : w1.heap.size = H) (hk : L.length = k) (hc : cells = (L.map Part.v).toArray) (hrows : Rows w1 L) (hlen : (flat L).length < 1000000000) (hb : ∀ x ∈ flat L, 0 ≤ x ∧ x ≤ 255) (hk2 : k ≤ 100) :
    Calls Try.prog 75 #[.slice (some ⟨H, 0, none⟩) k k] (w1.alloc (.cells cells 25)) fun e w' => e = .returned (.int .u16 (csum (flat L))) ∧ Below w1.heap.size w1 w' := by
  subst hH; subst hk
  have hbb : Below w1.heap.size w1 (w1.alloc (.cells cells 25)) := (Below.refl _ _).alloc (Nat.le_refl _) _
  refine (sum_any (some ⟨w1.heap.size, 0, none⟩) L L.length _ (parts_new w1 L cells _ hc hrows) hlen (by omega) hb).mono ?_
  rintro e w' ⟨rfl, hbel⟩
  exact ⟨rfl, hbb.trans (hbel.mono hbb.size)⟩
theorem rightL (w1 : World) (L : List Part) (cells : Array Value) (k H : Nat) (hH : w1.heap.size = H) (hk : L.length = k) (hc : cells = (L.map Part.v).toArray) (hrows : Rows w1 L) (hlen : (flat L).length < 1000000000) (hb : ∀ x ∈ flat L, 0 ≤ x ∧ x ≤ 255) (hk2 : k ≤ 100) :
    Calls Try.prog 67 #[.slice (some ⟨H, 0, none⟩) k k] (w1.alloc (.cells cells 25)) fun e w' => e = .returned (.bool (csum (flat L) == 0)) ∧ Below w1.heap.size w1 w' := by
  subst hH; subst hk
  have hbb : Below w1.heap.size w1 (w1.alloc (.cells cells 25)) := (Below.refl _ _).alloc (Nat.le_refl _) _
  refine (right_any (some ⟨w1.heap.size, 0, none⟩) L L.length _ (parts_new w1 L cells _ hc hrows) hlen (by omega) hb).mono ?_
  rintro e w' ⟨rfl, hbel⟩
  exact ⟨rfl, hbb.trans (hbel.mono hbb.size)⟩
theorem num2_any (n : Nat) (w : World) (hn : n < 18446744073709551616) :
    Calls Try.prog 74 #[.int .i64 2, .int .u64 n] w fun e w' => e = .returned (.slice (some ⟨w.heap.size, 0, none⟩) 2 2) ∧
      w'.ownsRow w.heap.size 5 1 (.slice (some ⟨w.heap.size, 0, none⟩) 2 2) 2 ((numB 2 n).map (Value.int .u8)) ∧ Below w.heap.size w w' := num_any 2 n w hn
theorem num4_any (n : Nat) (w : World) (hn : n < 18446744073709551616) :
    Calls Try.prog 74 #[.int .i64 4, .int .u64 n] w fun e w' => e = .returned (.slice (some ⟨w.heap.size, 0, none⟩) 4 4) ∧
      w'.ownsRow w.heap.size 5 1 (.slice (some ⟨w.heap.size, 0, none⟩) 4 4) 4 ((numB 4 n).map (Value.int .u8)) ∧ Below w.heap.size w w' := num_any 4 n w hn

/-- The pseudo head. -/
def psB (src dst proto size : Nat) : List Int := numB 4 src ++ (numB 4 dst ++ ([0, (proto : Int)] ++ numB 2 size))
theorem psB_len (s d p n : Nat) : (psB s d p n).length = 12 := by simp [psB, numB_len]
theorem psB_rng (s d p n : Nat) (hp : p ≤ 255) : ∀ x ∈ psB s d p n, 0 ≤ x ∧ x ≤ 255 := by
  intro x hx
  simp only [psB, List.mem_append, List.mem_cons, List.not_mem_nil, or_false] at hx
  rcases hx with h | h | (h | h) | h
  · exact numB_rng _ _ x h
  · exact numB_rng _ _ x h
  · omega
  · omega
  · exact numB_rng _ _ x h

set_option maxHeartbeats 800000 in
theorem pseudo_any (src dst proto size : Nat) (w : World) (h1 : src ≤ 4294967295) (h2 : dst ≤ 4294967295) (h3 : proto ≤ 255) (h4 : size ≤ 1000000) :
    Calls Try.prog 81 #[.int .u32 src, .int .u32 dst, .int .u8 proto, .int .i64 size] w fun e w' => ∃ a c, e = .returned (.slice a 12 c) ∧
      w'.ownsRow w.heap.size 5 1 (.slice a 12 c) 12 ((psB src dst proto size).map (Value.int .u8)) ∧ Below w.heap.size w w' := by
  have hc1 : IntKind.u64.wrap (src : Int) = (src : Int) := wraps_u64 _ (by omega) (by omega)
  have hc2 : IntKind.u64.wrap (dst : Int) = (dst : Int) := wraps_u64 _ (by omega) (by omega)
  have hc3 : IntKind.u64.wrap (size : Int) = (size : Int) := wraps_u64 _ (by omega) (by omega)
  go_enter Try.func81, Try.ntmps81
  go_wp2_with fail
  refine (num4_any src w (by omega)).mono ?_
  rintro e w1 ⟨rfl, o1, b1⟩
  have O1 := hide (Row.of_owns o1); clear o1
  go_wp2_with fail
  refine (num4_any dst w1 (by omega)).mono ?_
  rintro e w2 ⟨rfl, o2, b2⟩
  have O1' := hide (O1.out.below b2 (Nat.le_refl _))
  have O2 := hide (Row.of_owns o2); clear o2
  have B2 := hide (b1.trans (b2.mono b1.size))
  clear b1 b2
  go_wp2_with fail
  obtain ⟨wq, hq, hbq, O3⟩ : ∃ wq, w2.alloc (.cells #[.int .u8 0, .int .u8 (proto : Int)] 5) = wq ∧ Below w2.heap.size w2 wq ∧ Hid (Row .u8 wq (some ⟨w2.heap.size, 0, none⟩) [0, (proto : Int)]) :=
    ⟨_, rfl, (Below.refl _ _).alloc (Nat.le_refl _) _, hide (Row.of_owns (base := w2.heap.size) (e := 5) (n := 2) (cap := 2) (World.ownsRow_lit w2 #[.int .u8 0, .int .u8 (proto : Int)] 2 (Nat.le_refl _) (by unfold maxLen; omega) rfl))⟩
  rw [hq]
  clear hq
  have O1q := hide (O1'.out.below hbq (Nat.le_refl _))
  have O2q := hide (O2.out.below hbq (Nat.le_refl _))
  have BQ := hide (B2.out.trans (hbq.mono B2.out.size))
  clear hbq
  refine (num2_any size wq (by omega)).mono ?_
  rintro e w3 ⟨rfl, o4, b4⟩
  have O4 := hide (Row.of_owns o4); clear o4
  have O1z := hide (O1q.out.below b4 (Nat.le_refl _))
  have O2z := hide (O2q.out.below b4 (Nat.le_refl _))
  have O3z := hide (O3.out.below b4 (Nat.le_refl _))
  have B4 := hide (BQ.out.trans (b4.mono BQ.out.size))
  clear b4
  go_wp2_with fail
  with_reducible refine (joinL w3 [(some ⟨w.heap.size, 0, none⟩, numB 4 src, 4), (some ⟨w1.heap.size, 0, none⟩, numB 4 dst, 4), (some ⟨w2.heap.size, 0, none⟩, [0, (proto : Int)], 2), (some ⟨wq.heap.size, 0, none⟩, numB 2 size, 2)] _ 4 12 _ ?_ ?_ ?_ ?_ ?_ ?_ ?_).mono ?_
  · rfl
  · rfl
  · simp [Part.v, numB_len]
  · exact rows_some O1z.out (rows_some O2z.out (rows_some O3z.out (rows_some O4.out (rows_nil _))))
  · simp [flat, numB_len]
  · omega
  · omega
  rintro e w4 ⟨a, c, rfl, o5, b5⟩
  have B5 := hide (B4.out.trans (b5.mono B4.out.size))
  have O5 := hide (owns_mono o5 B4.out.size)
  clear b5 o5
  go_wp2
  go_ret
  have hO := O5.out
  rw [show flat [(some ⟨w.heap.size, 0, none⟩, numB 4 src, 4), (some ⟨w1.heap.size, 0, none⟩, numB 4 dst, 4), (some ⟨w2.heap.size, 0, none⟩, [0, (proto : Int)], 2), (some ⟨wq.heap.size, 0, none⟩, numB 2 size, 2)] = psB src dst proto size by simp [flat, psB]] at hO
  exact ⟨a, c, rfl, hO, B5.out⟩

theorem fit_short (n h : Nat) (w : World) (h1 : n < h) : Calls Try.prog 66 #[.int .i64 n, .int .i64 h] w fun e w' => e = .returned (.int .i64 10) ∧ w = w' := by
  go_enter Try.func66, Try.ntmps66
  go_wp2
  go_ret
  exact ⟨rfl, rfl⟩
theorem fit_long (n h : Nat) (w : World) (h1 : h ≤ n) (h2 : 1480 < n) : Calls Try.prog 66 #[.int .i64 n, .int .i64 h] w fun e w' => e = .returned (.int .i64 14) ∧ w = w' := by
  go_enter Try.func66, Try.ntmps66
  go_wp2
  go_ret
  exact ⟨rfl, rfl⟩
theorem fit_ok (n h : Nat) (w : World) (h1 : h ≤ n) (h2 : n ≤ 1480) : Calls Try.prog 66 #[.int .i64 n, .int .i64 h] w fun e w' => e = .returned (.int .i64 0) ∧ w = w' := by
  go_enter Try.func66, Try.ntmps66
  go_wp2
  go_ret
  exact ⟨rfl, rfl⟩
/-- A datagram's check sum as it is told. -/
def toldI (n : Int) : Int := if n = 0 then 65535 else n
theorem told_any (n : Int) (w : World) (h0 : 0 ≤ n) (h1 : n ≤ 65535) : Calls Try.prog 90 #[.int .u16 n] w fun e w' => e = .returned (.int .u16 (toldI n)) ∧ w = w' := by
  by_cases h : n = 0
  · subst h
    go_enter Try.func90, Try.ntmps90
    go_wp2
    go_ret
    exact ⟨rfl, rfl⟩
  · have hb : (n == 0) = false := by simpa using h
    have H := hide h
    clear h
    go_enter Try.func90, Try.ntmps90
    go_wp2
    go_ret
    exact ⟨by rw [toldI, if_neg H.out]; rfl, rfl⟩

theorem eyeNum_ok (E B : Nat) (rest : List Int) (k : Nat) (w : World) (h : EyeAt w E B rest false) (hb : ∀ x ∈ rest, 0 ≤ x ∧ x ≤ 255) (hl : rest.length ≤ 1099511627776) (hk : k ≤ 8) (hk2 : k ≤ rest.length) :
    Calls Try.prog 69 #[.pointer (some ⟨E, 0, none⟩), .int .i64 k] w fun e w' => e = .returned (.int .u64 (valB (rest.take k))) ∧ EyeAt w' E B (rest.drop k) false ∧ w.grownBy w' (some E) := by
  have h1 := eyeNum_any E B rest false k w h hb hl
  have hs : sz (k : Int) = k := by unfold sz; omega
  rw [hs, if_pos hk2, if_pos hk2, show decide (rest.length < k) = false by simp; omega] at h1
  exact h1
theorem half_any (E B : Nat) (rest : List Int) (w : World) (h : EyeAt w E B rest false) (hb : ∀ x ∈ rest, 0 ≤ x ∧ x ≤ 255) (hl : rest.length ≤ 1099511627776) (h2 : 2 ≤ rest.length) :
    Calls Try.prog 70 #[.pointer (some ⟨E, 0, none⟩)] w fun e w' => e = .returned (.int .u16 (valB (rest.take 2))) ∧ EyeAt w' E B (rest.drop 2) false ∧ w.grownBy w' (some E) := by
  have h1 := eyeNum_ok E B rest 2 w h hb hl (by omega) h2
  have hr := valB_rng rest hb 2
  generalize valB (rest.take 2) = v at *
  have hv0 := hr.1
  have hv1 : v ≤ 65535 := by have := hr.2; omega
  have hw : IntKind.u16.wrap v = v := wraps_u16 _ (by omega) (by omega)
  have H1 := hide h1
  clear h1 h hb hr
  go_enter Try.func70, Try.ntmps70
  go_wp2_with fail
  refine H1.out.mono ?_
  rintro e w1 ⟨rfl, he, hg⟩
  have HE := hide he
  have HG := hide hg
  clear he hg
  go_wp2
  go_ret
  exact ⟨rfl, HE.out, HG.out⟩
end Go.Proofs.Ytgggcapgaikbeaa

/- What trans.lay does: it puts a number of two bytes into its place. -/
namespace Go.Proofs.Ytgggcapgaikbeaa
open Go.RowKit
set_option linter.unusedVariables false
set_option linter.unusedSimpArgs false
set_option maxRecDepth 100000

theorem below_of_drew {B : Nat} {w w' : World} (h : Below B w.drew w') : Below B w w' := ((Below.refl _ w).drew).trans h
set_option maxHeartbeats 800000 in
theorem lay_any (base n c at' : Nat) (a : Option Addr) (xs : List Int) (v : Nat) (w : World) (hown : w.ownsRow base 5 1 (.slice a n c) n (xs.map (Value.int .u8))) (hbs : base ≤ w.heap.size) (hat : at' + 2 ≤ n) (hn : n ≤ 1000000) (hv : v ≤ 65535) :
    Calls Try.prog 89 #[.slice a n c, .int .i64 at', .int .u16 v] w fun e w' => e = .returned (.tuple #[]) ∧
      w'.ownsRow base 5 1 (.slice a n c) n ((spl xs at' (numB 2 v)).map (Value.int .u8)) ∧ Below base w w' := by
  obtain ⟨g, rfl, hgb, hgc, hcm⟩ : ∃ g, a = some ⟨g, 0, none⟩ ∧ base ≤ g ∧ n ≤ c ∧ c ≤ 9223372036854775807 := by
    rcases hown.2 with ⟨_, h0⟩ | ⟨g, c', cur, hv, hg, _, h3, h4, _⟩
    · omega
    · obtain ⟨rfl, rfl⟩ : a = some ⟨g, 0, none⟩ ∧ c = c' := by simpa using hv
      exact ⟨g, rfl, hg, h3, by unfold maxLen at h4; omega⟩
  have hsl := slice_tail_run g n c at' (at' : Int) rfl (by omega) (by omega)
  have hcw : IntKind.u64.wrap (v : Int) = (v : Int) := wraps_u64 _ (by omega) (by omega)
  have hcopy : ∀ (w3 : World), Below w.heap.size w w3 → Row .u8 w3 (some ⟨w.heap.size, 0, none⟩) (numB 2 v) → ∃ w', (Builtin.copy_ #[25, 25] 3 #[.slice (some ⟨g, at', none⟩) (n - at') (c - at'), .slice (some ⟨w.heap.size, 0, none⟩) 2 2]).run Try.prog w3 = .ok (.int .i64 2) w' ∧
      Hid (w'.ownsRow base 5 1 (.slice (some ⟨g, 0, none⟩) n c) n ((spl xs at' (numB 2 v)).map (Value.int .u8)) ∧ Below base w w') := fun w3 hb hr => by
    obtain ⟨w4, h1, h2, h3⟩ := copy2_run w3 base g n c at' (n - at') (c - at') xs (numB 2 v) ⟨w.heap.size, 0, none⟩ 2 3 (owns_below hown hb (Nat.le_refl _)) hr (numB_len _ _) (by omega) (by omega)
    exact ⟨w4, h1, h2, (hb.mono hbs).grown h3 (Nat.le_trans hbs hb.size) (fun k e => by cases e; exact hgb)⟩
  have HCP := hide hcopy
  have HN := hide (num2_any v w.drew (by omega))
  clear hcopy hown
  go_enter Try.func89, Try.ntmps89
  go_wp2_with fail
  go_region_law (first | (refine step_copy_run rfl (.tmp 8) (.tmp 11) 25 25 rfl _ _ rfl rfl _ _ hrn.out ?_) | (go_simp; go_at_call 74; (with_reducible refine HN.out.mono ?_); rintro e w3 ⟨rfl, o3, hbel3⟩; have hbx : Below w.heap.size w w3 := below_of_drew hbel3; have hrx : Row .u8 w3 (some ⟨w.heap.size, 0, none⟩) (numB 2 v) := Row.of_owns o3; obtain ⟨w4, hrun, H4⟩ := HCP.out w3 hbx hrx; clear hrx; clear hbx; have hrn := hide hrun; clear o3 hbel3 hrun))
  all_goals
    go_end0
    exact ⟨rfl, H4.out.1, H4.out.2⟩
end Go.Proofs.Ytgggcapgaikbeaa

/- What trans.WriteUDP answers. -/
namespace Go.Proofs.Ytgggcapgaikbeaa
open Go.RowKit
set_option linter.unusedVariables false
set_option linter.unusedSimpArgs false
set_option maxRecDepth 100000

/-- A datagram's bytes without its check sum; the check sum as it is told; the bytes. -/
def udpZ (p q : Nat) (xs : List Int) : List Int := numB 2 p ++ (numB 2 q ++ (numB 2 (8 + xs.length) ++ (numB 2 0 ++ xs)))
theorem udpZ_len (p q : Nat) (xs : List Int) : (udpZ p q xs).length = 8 + xs.length := by simp [udpZ, numB_len]; omega
theorem udpZ_rng (p q : Nat) (xs : List Int) (hb : ∀ x ∈ xs, 0 ≤ x ∧ x ≤ 255) : ∀ x ∈ udpZ p q xs, 0 ≤ x ∧ x ≤ 255 := by
  intro x hx
  simp only [udpZ, List.mem_append] at hx
  rcases hx with h | h | h | h | h
  · exact numB_rng _ _ x h
  · exact numB_rng _ _ x h
  · exact numB_rng _ _ x h
  · exact numB_rng _ _ x h
  · exact hb x h
def udpK (src dst p q : Nat) (xs : List Int) : Int := toldI (csum (psB src dst 17 (8 + xs.length) ++ udpZ p q xs))
theorem toldI_rng (n : Int) (h0 : 0 ≤ n) (h1 : n ≤ 65535) : 0 ≤ toldI n ∧ toldI n ≤ 65535 := by unfold toldI; split <;> omega
theorem udpK_rng (src dst p q : Nat) (xs : List Int) : 0 ≤ udpK src dst p q xs ∧ udpK src dst p q xs ≤ 65535 := toldI_rng _ (csum_rng _).1 (csum_rng _).2
def udpS (src dst p q : Nat) (xs : List Int) : List Int := spl (udpZ p q xs) 6 (numB 2 (udpK src dst p q xs).toNat)
theorem num2_zero (w : World) :
    Calls Try.prog 74 #[.int .i64 2, .int .u64 0] w fun e w' => e = .returned (.slice (some ⟨w.heap.size, 0, none⟩) 2 2) ∧
      w'.ownsRow w.heap.size 5 1 (.slice (some ⟨w.heap.size, 0, none⟩) 2 2) 2 ((numB 2 0).map (Value.int .u8)) ∧ Below w.heap.size w w' := num_any 2 0 w (by omega)
theorem num2_eight (n : Nat) (w : World) (hn : n ≤ 1000000) :
    Calls Try.prog 74 #[.int .i64 2, .int .u64 (8 + (n : Int))] w fun e w' => e = .returned (.slice (some ⟨w.heap.size, 0, none⟩) 2 2) ∧
      w'.ownsRow w.heap.size 5 1 (.slice (some ⟨w.heap.size, 0, none⟩) 2 2) 2 ((numB 2 (8 + n)).map (Value.int .u8)) ∧ Below w.heap.size w w' := by
  have h := num_any 2 (8 + n) w (by omega)
  rw [show ((8 + n : Nat) : Int) = 8 + (n : Int) by omega] at h
  exact h

theorem wudp_long (w : World) (s d : Int) (p q : Int) (pl : Bool) (da : Option Addr) (n dc : Nat) (h : 1472 < n) :
    Calls Try.prog 58 #[.int .u32 s, .int .u32 d, .agg #[.int .u16 p, .int .u16 q, .bool pl, .slice da n dc]] w fun e w' => e = .returned (.tuple #[.slice none 0 0, .int .i64 14]) ∧ Below w.heap.size w w' := by
  go_enter Try.func58, Try.ntmps58
  go_wp2
  go_ret2
  exact ⟨rfl, (Below.refl _ _).alloc (Nat.le_refl _) _⟩

set_option maxHeartbeats 1600000 in
theorem wudp_plain (w : World) (src dst p q : Nat) (da : Option Addr) (xs : List Int) (n dc : Nat) (hr : Row .u8 w da xs) (hn : da = none → dc = 0) (hl : xs.length = n) (h1 : n ≤ 1472) (hs : src ≤ 4294967295) (hd : dst ≤ 4294967295) (hp : p ≤ 65535) (hq : q ≤ 65535) :
    Calls Try.prog 58 #[.int .u32 src, .int .u32 dst, .agg #[.int .u16 (p : Int), .int .u16 (q : Int), .bool true, .slice da n dc]] w fun e w' => ∃ a c,
      e = .returned (.tuple #[.slice a (8 + n) c, .int .i64 0]) ∧ w'.ownsRow w.heap.size 5 1 (.slice a (8 + n) c) (8 + n) ((udpZ p q xs).map (Value.int .u8)) ∧ Below w.heap.size w w' := by
  have HR := hide hr
  have HN := hide hn
  have HL := hide hl
  have hZL := udpZ_len p q xs
  rw [HL.out] at hZL
  clear hr hn hl
  have HZL := hide hZL
  clear hZL
  go_enter Try.func58, Try.ntmps58
  go_wp2_with fail
  obtain ⟨B0, wq, hB, hqq, hlt, hbel, hheap⟩ : ∃ B0 wq, w.heap.size = B0 ∧ w.alloc (.cells #[.int .u16 (p : Int), .int .u16 (q : Int), .bool true, .slice da n dc] 63) = wq ∧ B0 < wq.heap.size ∧ Below w.heap.size w wq ∧
      wq.heap[B0]? = some (.cells #[.int .u16 (p : Int), .int .u16 (q : Int), .bool true, .slice da n dc] 63 (0, 0)) := ⟨_, _, rfl, rfl, by simp, (Below.refl _ _).alloc (Nat.le_refl _) _, heap_alloc_new _ _⟩
  rw [hqq, hB]
  have HB := hide hB
  have HH := hide hheap
  have c0 : wq.cell? ⟨B0, 0, none⟩ = some (.int .u16 p) := by simp only [World.cell?, hheap]; rfl
  have c1 : wq.cell? ⟨B0, 1, none⟩ = some (.int .u16 q) := by simp only [World.cell?, hheap]; rfl
  have c2 : wq.cell? ⟨B0, 2, none⟩ = some (.bool true) := by simp only [World.cell?, hheap]; rfl
  have c3 : wq.cell? ⟨B0, 3, none⟩ = some (.slice da n dc) := by simp only [World.cell?, hheap]; rfl
  have R := hide (HR.out.below hbel (Nat.le_refl _))
  have BE := hide hbel
  have hw1 : IntKind.u64.wrap (p : Int) = (p : Int) := wraps_u64 _ (by omega) (by omega)
  have hw2 : IntKind.u64.wrap (q : Int) = (q : Int) := wraps_u64 _ (by omega) (by omega)
  have hw3 : IntKind.u64.wrap (8 + (n : Int)) = 8 + (n : Int) := wraps_u64 _ (by omega) (by omega)
  clear hqq hB hheap hbel
  go_region_held3 (fun w' => w'.cell? ⟨B0, 0, none⟩ = some (.int .u16 p) ∧ w'.cell? ⟨B0, 1, none⟩ = some (.int .u16 q) ∧ w'.cell? ⟨B0, 3, none⟩ = some (.slice da n dc)) (go_keep) (first
    | (go_at_call 74; (with_reducible refine (num2_any p _ ?_).mono ?_); omega; rintro e w1 ⟨rfl, o1, b1⟩; have k10 := (bcell b1 B0 0 hlt).trans c0; have k11 := (bcell b1 B0 1 hlt).trans c1; have k13 := (bcell b1 B0 3 hlt).trans c3; have b1' : Below wq.heap.size wq w1 := (Below.refl _ _).drew.trans b1; have B1 := hide b1'; have O1 := hide (Row.of_owns o1); have hlt1 : B0 < w1.heap.size := Nat.lt_of_lt_of_le hlt b1.size; clear o1 b1 b1')
    | (go_at_call 74; (with_reducible refine (num2_any q _ ?_).mono ?_); omega; rintro e w2 ⟨rfl, o2, b2⟩; have k20 := (bcell b2 B0 0 hlt1).trans k10; have k21 := (bcell b2 B0 1 hlt1).trans k11; have k23 := (bcell b2 B0 3 hlt1).trans k13; have B2 := hide b2; have O2 := hide (Row.of_owns o2); have hlt2 : B0 < w2.heap.size := Nat.lt_of_lt_of_le hlt1 b2.size; clear o2 b2 k10 k11 k13)
    | (go_at_call 74; (with_reducible refine (num2_eight n _ ?_).mono ?_); omega; rintro e w3 ⟨rfl, o3, b3⟩; have k30 := (bcell b3 B0 0 hlt2).trans k20; have k31 := (bcell b3 B0 1 hlt2).trans k21; have k33 := (bcell b3 B0 3 hlt2).trans k23; have B3 := hide b3; have O3 := hide (Row.of_owns o3); have hlt3 : B0 < w3.heap.size := Nat.lt_of_lt_of_le hlt2 b3.size; clear o3 b3 k20 k21 k23)
    | (go_at_call 74; (with_reducible refine (num2_zero _).mono ?_); rintro e w4 ⟨rfl, o4, b4⟩; have k40 := (bcell b4 B0 0 hlt3).trans k30; have k41 := (bcell b4 B0 1 hlt3).trans k31; have k43 := (bcell b4 B0 3 hlt3).trans k33; have B4 := hide b4; have O4 := hide (Row.of_owns o4); have hlt4 : B0 < w4.heap.size := Nat.lt_of_lt_of_le hlt3 b4.size; clear o4 b4 k30 k31 k33;
       have hB34 := hide (B3.out.trans (B4.out.mono B3.out.size)); have hB24 := hide (B2.out.trans (hB34.out.mono B2.out.size)); have hB14 := hide (B1.out.trans (hB24.out.mono B1.out.size));
       have hrows := hide (rows_some (c := 2) (O1.out.below hB24.out (Nat.le_refl _)) (rows_some (c := 2) (O2.out.below hB34.out (Nat.le_refl _)) (rows_some (c := 2) (O3.out.below B4.out (Nat.le_refl _)) (rows_some (c := 2) O4.out (rows_cons (c := dc) (R.out.below hB14.out (Nat.le_refl _)) HN.out (rows_nil w4)))))))
    | (go_at_call 73; (with_reducible refine (joinL w4 _ _ 5 (8 + n) _ rfl rfl (by simp [Part.v, numB_len, HL.out]) hrows.out (by simp [flat, numB_len, HL.out]; omega) (by omega) (by omega)).mono ?_); rintro e w5 ⟨a5, c5, rfl, o5, b5⟩; have k50 := (bcell b5 B0 0 hlt4).trans k40; have k51 := (bcell b5 B0 1 hlt4).trans k41; have k53 := (bcell b5 B0 3 hlt4).trans k43; have O5 := hide o5; have B5 := hide b5; clear o5 b5 k40 k41 k43))
  have hz := O5.out
  have hfz : ∀ (A B C D : Option Addr), flat [(A, numB 2 p, 2), (B, numB 2 q, 2), (C, numB 2 (8 + n), 2), (D, numB 2 0, 2), (da, xs, dc)] = udpZ p q xs := fun _ _ _ _ => by simp [flat, udpZ, HL.out]
  rw [hfz] at hz
  clear hfz
  have hb15 := hB14.out.trans (B5.out.mono hB14.out.size)
  have hb05 := hide (BE.out.trans (hb15.mono BE.out.size))
  have OZ := hide (owns_mono hz (Nat.le_trans BE.out.size hB14.out.size))
  have c52 : w5.cell? ⟨B0, 2, none⟩ = some (.bool true) := (bcell hb15 B0 2 hlt).trans c2
  clear hz hb15 k50 k51 k53 c0 c1 c2 c3 hw1 hw2
  go_wp2
  go_ret2
  exact ⟨a5, c5, rfl, OZ.out, hb05.out⟩

set_option maxHeartbeats 1600000 in
theorem wudp_sum (w : World) (src dst p q : Nat) (da : Option Addr) (xs : List Int) (n dc : Nat) (hr : Row .u8 w da xs) (hn : da = none → dc = 0) (hl : xs.length = n) (hb : ∀ x ∈ xs, 0 ≤ x ∧ x ≤ 255) (h1 : n ≤ 1472) (hs : src ≤ 4294967295) (hd : dst ≤ 4294967295) (hp : p ≤ 65535) (hq : q ≤ 65535) :
    Calls Try.prog 58 #[.int .u32 src, .int .u32 dst, .agg #[.int .u16 (p : Int), .int .u16 (q : Int), .bool false, .slice da n dc]] w fun e w' => ∃ a c,
      e = .returned (.tuple #[.slice a (8 + n) c, .int .i64 0]) ∧ w'.ownsRow w.heap.size 5 1 (.slice a (8 + n) c) (8 + n) ((udpS src dst p q xs).map (Value.int .u8)) ∧ Below w.heap.size w w' := by
  have HR := hide hr
  have HN := hide hn
  have HL := hide hl
  have HBR := hide (udpZ_rng p q xs hb)
  clear hb
  have hZL := udpZ_len p q xs
  rw [HL.out] at hZL
  clear hr hn hl
  have HZL := hide hZL
  clear hZL
  go_enter Try.func58, Try.ntmps58
  go_wp2_with fail
  obtain ⟨B0, wq, hB, hqq, hlt, hbel, hheap⟩ : ∃ B0 wq, w.heap.size = B0 ∧ w.alloc (.cells #[.int .u16 (p : Int), .int .u16 (q : Int), .bool false, .slice da n dc] 63) = wq ∧ B0 < wq.heap.size ∧ Below w.heap.size w wq ∧
      wq.heap[B0]? = some (.cells #[.int .u16 (p : Int), .int .u16 (q : Int), .bool false, .slice da n dc] 63 (0, 0)) := ⟨_, _, rfl, rfl, by simp, (Below.refl _ _).alloc (Nat.le_refl _) _, heap_alloc_new _ _⟩
  rw [hqq, hB]
  have HB := hide hB
  have HH := hide hheap
  have c0 : wq.cell? ⟨B0, 0, none⟩ = some (.int .u16 p) := by simp only [World.cell?, hheap]; rfl
  have c1 : wq.cell? ⟨B0, 1, none⟩ = some (.int .u16 q) := by simp only [World.cell?, hheap]; rfl
  have c2 : wq.cell? ⟨B0, 2, none⟩ = some (.bool false) := by simp only [World.cell?, hheap]; rfl
  have c3 : wq.cell? ⟨B0, 3, none⟩ = some (.slice da n dc) := by simp only [World.cell?, hheap]; rfl
  have R := hide (HR.out.below hbel (Nat.le_refl _))
  have BE := hide hbel
  have hw1 : IntKind.u64.wrap (p : Int) = (p : Int) := wraps_u64 _ (by omega) (by omega)
  have hw2 : IntKind.u64.wrap (q : Int) = (q : Int) := wraps_u64 _ (by omega) (by omega)
  have hw3 : IntKind.u64.wrap (8 + (n : Int)) = 8 + (n : Int) := wraps_u64 _ (by omega) (by omega)
  clear hqq hB hheap hbel
  go_region_held3 (fun w' => w'.cell? ⟨B0, 0, none⟩ = some (.int .u16 p) ∧ w'.cell? ⟨B0, 1, none⟩ = some (.int .u16 q) ∧ w'.cell? ⟨B0, 3, none⟩ = some (.slice da n dc)) (go_keep) (first
    | (go_at_call 74; (with_reducible refine (num2_any p _ ?_).mono ?_); omega; rintro e w1 ⟨rfl, o1, b1⟩; have k10 := (bcell b1 B0 0 hlt).trans c0; have k11 := (bcell b1 B0 1 hlt).trans c1; have k13 := (bcell b1 B0 3 hlt).trans c3; have b1' : Below wq.heap.size wq w1 := (Below.refl _ _).drew.trans b1; have B1 := hide b1'; have O1 := hide (Row.of_owns o1); have hlt1 : B0 < w1.heap.size := Nat.lt_of_lt_of_le hlt b1.size; clear o1 b1 b1')
    | (go_at_call 74; (with_reducible refine (num2_any q _ ?_).mono ?_); omega; rintro e w2 ⟨rfl, o2, b2⟩; have k20 := (bcell b2 B0 0 hlt1).trans k10; have k21 := (bcell b2 B0 1 hlt1).trans k11; have k23 := (bcell b2 B0 3 hlt1).trans k13; have B2 := hide b2; have O2 := hide (Row.of_owns o2); have hlt2 : B0 < w2.heap.size := Nat.lt_of_lt_of_le hlt1 b2.size; clear o2 b2 k10 k11 k13)
    | (go_at_call 74; (with_reducible refine (num2_eight n _ ?_).mono ?_); omega; rintro e w3 ⟨rfl, o3, b3⟩; have k30 := (bcell b3 B0 0 hlt2).trans k20; have k31 := (bcell b3 B0 1 hlt2).trans k21; have k33 := (bcell b3 B0 3 hlt2).trans k23; have B3 := hide b3; have O3 := hide (Row.of_owns o3); have hlt3 : B0 < w3.heap.size := Nat.lt_of_lt_of_le hlt2 b3.size; clear o3 b3 k20 k21 k23)
    | (go_at_call 74; (with_reducible refine (num2_zero _).mono ?_); rintro e w4 ⟨rfl, o4, b4⟩; have k40 := (bcell b4 B0 0 hlt3).trans k30; have k41 := (bcell b4 B0 1 hlt3).trans k31; have k43 := (bcell b4 B0 3 hlt3).trans k33; have B4 := hide b4; have O4 := hide (Row.of_owns o4); have hlt4 : B0 < w4.heap.size := Nat.lt_of_lt_of_le hlt3 b4.size; clear o4 b4 k30 k31 k33;
       have hB34 := hide (B3.out.trans (B4.out.mono B3.out.size)); have hB24 := hide (B2.out.trans (hB34.out.mono B2.out.size)); have hB14 := hide (B1.out.trans (hB24.out.mono B1.out.size));
       have hrows := hide (rows_some (c := 2) (O1.out.below hB24.out (Nat.le_refl _)) (rows_some (c := 2) (O2.out.below hB34.out (Nat.le_refl _)) (rows_some (c := 2) (O3.out.below B4.out (Nat.le_refl _)) (rows_some (c := 2) O4.out (rows_cons (c := dc) (R.out.below hB14.out (Nat.le_refl _)) HN.out (rows_nil w4)))))))
    | (go_at_call 73; (with_reducible refine (joinL w4 _ _ 5 (8 + n) _ rfl rfl (by simp [Part.v, numB_len, HL.out]) hrows.out (by simp [flat, numB_len, HL.out]; omega) (by omega) (by omega)).mono ?_); rintro e w5 ⟨a5, c5, rfl, o5, b5⟩; have k50 := (bcell b5 B0 0 hlt4).trans k40; have k51 := (bcell b5 B0 1 hlt4).trans k41; have k53 := (bcell b5 B0 3 hlt4).trans k43; have O5 := hide o5; have B5 := hide b5; clear o5 b5 k40 k41 k43))
  have hz := O5.out
  have hfz : ∀ (A B C D : Option Addr), flat [(A, numB 2 p, 2), (B, numB 2 q, 2), (C, numB 2 (8 + n), 2), (D, numB 2 0, 2), (da, xs, dc)] = udpZ p q xs := fun _ _ _ _ => by simp [flat, udpZ, HL.out]
  rw [hfz] at hz
  clear hfz
  have hb15 := hB14.out.trans (B5.out.mono hB14.out.size)
  have hb05 := hide (BE.out.trans (hb15.mono BE.out.size))
  have OZ := hide (owns_mono hz (Nat.le_trans BE.out.size hB14.out.size))
  have c52 : w5.cell? ⟨B0, 2, none⟩ = some (.bool false) := (bcell hb15 B0 2 hlt).trans c2
  clear hz hb15 k50 k51 k53 c0 c1 c2 c3 hw1 hw2
  have hps := pseudo_any src dst 17 (8 + n) w5 hs hd (by omega) (by omega)
  rw [show ((8 + n : Nat) : Int) = 8 + (n : Int) by omega] at hps
  have HPS := hide hps
  clear hps
  go_wp2_with fail
  refine HPS.out.mono ?_
  rintro e w6 ⟨a6, c6, rfl, o6, b6⟩
  have OZ6 := hide (owns_below OZ.out b6 (Nat.le_refl _))
  have b06 := hb05.out.trans (b6.mono hb05.out.size)
  have hb06 := hide b06
  have hn6 := hide (none_cap o6)
  have O6 := hide (Row.of_owns o6)
  clear o6 b6 b06
  have hrow6 := hide (rows_cons (c := c6) O6.out hn6.out (rows_cons (c := c5) (Row.of_owns OZ6.out) (none_cap OZ6.out) (rows_nil w6)))
  go_wp2_with fail
  have hfl : flat [(a6, psB src dst 17 (8 + n), c6), (a5, udpZ p q xs, c5)] = psB src dst 17 (8 + n) ++ udpZ p q xs := by simp [flat]
  have hsm := sumL w6 [(a6, psB src dst 17 (8 + n), c6), (a5, udpZ p q xs, c5)] #[.slice a6 12 c6, .slice a5 (8 + n) c5] 2 _ rfl rfl (by simp [Part.v, psB_len, HZL.out]) hrow6.out (by rw [hfl, List.length_append, psB_len, HZL.out]; omega)
    (by rw [hfl]; intro x hx; rcases List.mem_append.1 hx with h | h; exact psB_rng _ _ _ _ (by omega) x h; exact HBR.out x h) (by omega)
  rw [hfl] at hsm
  have HSM := hide hsm
  clear hsm hfl
  refine HSM.out.mono ?_
  rintro e w7 ⟨rfl, b7⟩
  have OZ7 := hide (owns_below OZ6.out b7 (Nat.le_refl _))
  have hb07 := hide (hb06.out.trans (b7.mono hb06.out.size))
  clear b7
  have hcr := csum_rng (psB src dst 17 (8 + n) ++ udpZ p q xs)
  have hKr := udpK_rng src dst p q xs
  have hKe : toldI (csum (psB src dst 17 (8 + n) ++ udpZ p q xs)) = udpK src dst p q xs := by unfold udpK; rw [HL.out]
  generalize csum (psB src dst 17 (8 + n) ++ udpZ p q xs) = K at *
  have HKE := hide hKe
  have hc0 := hcr.1
  have hc1 := hcr.2
  clear hKe hcr
  go_wp2_with fail
  refine (told_any K w7 hc0 hc1).mono ?_
  rintro e w8 ⟨rfl, rfl⟩
  rw [HKE.out]
  have hS : spl (udpZ p q xs) 6 (numB 2 (udpK src dst p q xs).toNat) = udpS src dst p q xs := rfl
  have hKn : udpK src dst p q xs = (((udpK src dst p q xs).toNat : Nat) : Int) := by omega
  have hKle : (udpK src dst p q xs).toNat ≤ 65535 := by omega
  rw [hKn]
  have HSS := hide hS
  clear hKn hS hKr HKE
  generalize (udpK src dst p q xs).toNat = k at *
  have hlay := lay_any w.heap.size (8 + n) c5 6 a5 (udpZ p q xs) k w7 OZ7.out hb07.out.size (by omega) (by omega) hKle
  rw [HSS.out] at hlay
  have HLY := hide hlay
  clear hlay
  go_wp2_with fail
  refine HLY.out.mono ?_
  rintro e w9 ⟨rfl, o9, b9⟩
  have O9 := hide o9
  have B9 := hide (hb07.out.trans b9)
  clear o9 b9
  go_wp2
  go_ret2
  exact ⟨a5, c5, rfl, O9.out, B9.out⟩
end Go.Proofs.Ytgggcapgaikbeaa
