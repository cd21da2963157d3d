/- What sum.fold and sum.Sum answer: the check sum of texts, one behind the other. -/
import Derived.Test.YtlipckpacdioiaaDoorIter
import Derived.Test.YtlipckpacdioiaaDoorPlainSum
namespace Go.Proofs.YtlipckpacdioiaaDoor
open Go.RowKit Go.Shelf
set_option linter.unusedVariables false
set_option linter.unusedSimpArgs false
attribute [local go_sem] Oper.semAt_some

theorem fold_any (n : Int) (w : World) (h0 : 0 ≤ n) (hn : n ≤ 1152921504606846975) :
    Calls Tryd.prog 40 #[.int .u64 n] w fun e w' => e = .returned (.int .u16 (f16 n)) ∧ w = w' := by
  go_enter Tryd.func40, Tryd.ntmps40
  go_wp2
  go_loop [0] (fun v => ∃ m : Int, 0 ≤ m ∧ m ≤ 1152921504606846975 ∧ v = .int .u64 m ∧ f16 m = f16 n) (fun v => (intOf v).toNat)
  case atStart => exact ⟨n, h0, hn, rfl, rfl⟩
  case round =>
    obtain ⟨m, hm0, hm1, rfl, hf⟩ := hrel
    have HF := hide hf
    clear hf
    have hst := hide (f16_step m hm0)
    by_cases hlt : 65535 < m
    · have ha : bits .and .u64 m 65535 = m % 65536 := by
        have := bits_mask .u64 64 (by decide) wraps_u64 16 (by decide) m hm0 (by omega)
        simpa using this
      go_wp2
      go_round
      case rel => exact ⟨_, by omega, by omega, rfl, by rw [hst.out, HF.out]⟩
      case measure => simp only [intOf]; omega
    · have hs := hide (f16_small m hm0 (by omega))
      go_wp2
      go_ret
      exact ⟨by rw [← HF.out, hs.out]; rfl, rfl⟩

/-- What the loop of 'Sum' has when some numbers have come. -/
def totW (ys : List (Nat × Int)) : Int := ys.foldl (fun s v => IntKind.u64.wrap (s + IntKind.u64.wrap v.2)) 0
theorem totW_snoc (pre : List (Nat × Int)) (x : Nat × Int) : totW (pre ++ [x]) = IntKind.u64.wrap (totW pre + IntKind.u64.wrap x.2) := by simp [totW]
theorem upto_item (xs : List Int) (hb : ∀ x ∈ xs, 0 ≤ x ∧ x ≤ 255) (hl : xs.length < 1000000000) (k : Nat) (hk : k ≤ (xs.length + 1) / 2) : totW (upto (item xs) k) = ((prs xs).take k).sum := by
  induction k with
  | zero => simp [upto, totW]
  | succ k ih =>
    have h1 := prs_take xs k (by omega)
    have h2 := sum_rng ((prs xs).take k) (fun y hy => prs_rng xs hb y (List.mem_of_mem_take hy))
    have h3 : ((prs xs).take k).length ≤ 500000000 := by rw [List.length_take, prs_len]; omega
    have h4 := byte_at hb (2 * k)
    have h5 := byte_at hb (2 * k + 1)
    rw [upto_succ, totW_snoc, ih (by omega), h1, List.sum_append]
    show IntKind.u64.wrap (_ + IntKind.u64.wrap (256 * xs[2 * k]?.getD 0 + xs[2 * k + 1]?.getD 0)) = _
    rw [wraps_u64 (256 * _ + _) (by omega) (by omega), wraps_u64 _ (by omega) (by omega)]
    simp

theorem upto_all (xs : List Int) (hb : ∀ x ∈ xs, 0 ≤ x ∧ x ≤ 255) (hl : xs.length < 1000000000) : totW (upto (item xs) ((xs.length + 1) / 2)) = psum xs := by
  rw [upto_item xs hb hl _ (Nat.le_refl _), List.take_of_length_le (by rw [prs_len]; omega)]; rfl

set_option maxRecDepth 100000 in
set_option maxHeartbeats 2000000 in
theorem sum_any (a : Option Addr) (L : List Part) (cap : Nat) (w : World) (hp : Parts w a L) (hlen : (flat L).length < 1000000000) (hL : L.length ≤ 1099511627776) (hb : ∀ x ∈ flat L, 0 ≤ x ∧ x ≤ 255) :
    Calls Tryd.prog 22 #[.slice a L.length cap] w fun e w' => e = .returned (.int .u16 (csum (flat L))) ∧ Below w.heap.size w w' := by
  refine (callsIn_wide (n := 3)).1 ?_
  have hro : Fence.wide.round = none := rfl
  refine callsIn_of_wp_marks Tryd.func22 rfl trivial ?_ hro
  simp only [Tryd.ntmps22, List.size_toArray, List.length_cons, List.length_nil, Nat.reduceAdd, Nat.reduceSub, Array.replicate_succ, Array.replicate_zero, List.push_toArray, List.append_toArray, List.nil_append, List.cons_append]
  have hB0 : Below w.heap.size w (w.alloc (.cells #[.int .u64 0] 52)) := (Below.refl _ w).alloc (Nat.le_refl _) _
  have hj := join_any a L cap _ (hp.below hB0 (Nat.le_refl _)) (by omega) hL
  have HJ := hide hj
  clear hj
  generalize flat L = xs at *
  gi_wp2_with fail
  refine ⟨trivial, ?_⟩
  refine (callsIn_wide.2 HJ.out).mono ?_
  rintro e w1 ⟨a1, c1, rfl, hown, hbel⟩
  have hpm := pairs_make a1 xs c1 w1 (Row.of_owns hown) (by omega)
  have HP := hide hpm
  clear hpm hown
  gi_wp2_with fail
  refine ⟨trivial, ?_⟩
  refine (callsIn_wide.2 HP.out).mono ?_
  rintro e w2 ⟨a2, c2, K, rfl, hK1, hK, hown, hbel2⟩
  have hT0 : (w.alloc (.cells #[.int .u64 0] 52)).heap[w.heap.size]? = some (.cells #[.int .u64 0] 52 (0, 0)) := heap_alloc_new w _
  have hT1 := (hbel.block w.heap.size (by simp)).trans hT0
  have hT2 := (hbel2.block w.heap.size (lt_of_block hT1)).trans hT1
  have hB2 : Below w.heap.size w w2 := (hB0.trans (hbel.mono (by simp))).trans (hbel2.mono (by have := hbel.size; simp at this; omega))
  have hsz : w.heap.size + 1 ≤ w2.heap.size := by have := lt_of_block hT2; omega
  clear hT0 hT1 hbel hbel2
  gi_wp2_with fail
  refine wpIn_rangeFunc_ownG hro (by omega) (gf := 51) (lb := #[.pointer (some ⟨K, 0, none⟩)]) rfl trivial (enters_of Tryd.func51 (by kernel_rfl) rfl)
    (iter_stops Fence.wide 2 trivial hro (by omega) K _ a2 xs c2 hb hlen w2 hK hown) keep_t keep_b (Below.refl _ _) (fun _ => rfl)
    (fun pre W => W.heap[w.heap.size]? = some (.cells #[.int .u64 (totW pre)] 52 (0, 0)) ∧ Below w.heap.size w W)
    (fun _ _ _ => False)
    (OwnFrom.and (Own.from (fun s A B row hs hg hr => ?own1) _) (ownFrom_below (Nat.le_refl _) hB2.size))
    (fun _ _ _ _ _ hs _ _ => hs)
    ⟨hT2, hB2⟩
    (fun x => { tmps := #[.slice a L.length cap, undef, .int .u16 0, .pointer (some ⟨w.heap.size, 0, none⟩), undef, .int .u16 x.2, .slice a L.length cap, .slice a1 xs.length c1, .func (.func 51) #[] #[.pointer (some ⟨K, 0, none⟩)], .int .i64 (x.1 : Int), .int .u16 x.2, undef, undef, undef, undef, undef, undef, undef], defers := [] }) ?assign ?body ?done ?stop
  case own1 =>
    exact (grownBy_keeps_cells hg hr hs rfl).trans hs
  case assign =>
    intro l x W K hK
    gi_wp2
    exact hK
  case body =>
    rintro l pre x W ⟨hT, hB⟩ _
    have cT := cell_of_one hT
    have fT := free_of_one hT
    have HT := hide hT
    clear hT
    gi_wp2
    have hnew := one_setCell (u := .int .u64 (totW (pre ++ [x]))) HT.out
    rw [totW_snoc] at hnew
    exact ⟨(KeepsOthers.setCell _ _ _).from _, keep_set HT.out (by decide) (by decide), by rw [totW_snoc]; exact hnew, hB.setCell (p := ⟨w.heap.size, 0, none⟩) (Nat.le_refl _) _⟩
  case done =>
    rintro D ys W hD rfl ⟨hT, hB⟩ hKD
    rw [upto_all xs hb hlen] at hT
    have cT := cell_of_one hT
    have hfo := fold_any (psum xs) W (psum_rng xs hb).1 (by have := (psum_rng xs hb).2; omega)
    have HF := hide hfo
    clear hfo hT
    gi_wp2_with fail
    refine ⟨trivial, ?_⟩
    refine (callsIn_wide.2 HF.out).mono ?_
    rintro e w3 ⟨rfl, rfl⟩
    gi_wp2
    rw [xor16 _ (f16_rng _).1 (f16_rng _).2]
    refine ⟨by simp, .inl ⟨_, _, rfl, run_takeDeferred hKD, ?_⟩⟩
    exact ⟨_, results_tmp rfl _ _ _, rfl, hB.trans (belowK_b (w := w) (Nat.le_refl _) W D _ _ (by omega) hKD rfl rfl)⟩
  case stop =>
    rintro D c pre W _ _ h _
    exact h.elim
end Go.Proofs.YtlipckpacdioiaaDoor
