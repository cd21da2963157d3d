/- What an Eye and the document's numbers answer: take, Num, Left, NewEye. -/
import Derived.Test.YtlipckpacdioiaaDoorClone
import Derived.Test.YtlipckpacdioiaaDoorJoin
namespace Go.Proofs.YtlipckpacdioiaaDoor
open Go.RowKit
set_option linter.unusedVariables false
set_option linter.unusedSimpArgs false
set_option maxRecDepth 100000
/-- What an Eye at block E has left. -/
def Left (w : World) (E B : Nat) (v : Value) (rest : List Int) : Prop :=
  (v = .slice none 0 0 ∧ rest = []) ∨
  ∃ b off c, v = .slice (some ⟨b, off, none⟩) rest.length c ∧ b ≠ E ∧ b < B ∧ rest.length ≤ c ∧ c ≤ 9223372036854775807 ∧ ∀ i, i < rest.length → w.cell? ⟨b, off + i, none⟩ = some (.int .u8 (rest[i]?.getD 0))
def EyeAt (w : World) (E B : Nat) (rest : List Int) (bad : Bool) : Prop := B ≤ w.heap.size ∧ ∃ v, w.heap[E]? = some (.cells #[v, .bool bad] 84 (0, 0)) ∧ Left w E B v rest

theorem two_cell0 {w : World} {b : Nat} {u v : Value} {t : TypeId} (h : w.heap[b]? = some (.cells #[u, v] t (0, 0))) : w.cell? ⟨b, 0, none⟩ = some u := by simp [World.cell?, h]
theorem two_cell1 {w : World} {b : Nat} {u v : Value} {t : TypeId} (h : w.heap[b]? = some (.cells #[u, v] t (0, 0))) : w.cell? ⟨b, 1, none⟩ = some v := by simp [World.cell?, h]
theorem two_free {w : World} {b : Nat} {u v : Value} {t : TypeId} (h : w.heap[b]? = some (.cells #[u, v] t (0, 0))) (i : Nat) : w.frozen? ⟨b, i, none⟩ = false := by simp [World.frozen?, h]
theorem two_set0 {w : World} {b : Nat} {u v x : Value} {t : TypeId} (h : w.heap[b]? = some (.cells #[u, v] t (0, 0))) : (w.setCell ⟨b, 0, none⟩ x).heap[b]? = some (.cells #[x, v] t (0, 0)) := by
  have hlt := lt_of_block h
  have h' : w.heap[b] = .cells #[u, v] t (0, 0) := by simpa [Array.getElem?_eq_getElem hlt] using h
  show (w.heap.modify b _)[b]? = _
  rw [Array.getElem?_eq_getElem (by simpa using hlt), Array.getElem_modify_self, h']
  rfl
theorem two_set1 {w : World} {b : Nat} {u v x : Value} {t : TypeId} (h : w.heap[b]? = some (.cells #[u, v] t (0, 0))) : (w.setCell ⟨b, 1, none⟩ x).heap[b]? = some (.cells #[u, x] t (0, 0)) := by
  have hlt := lt_of_block h
  have h' : w.heap[b] = .cells #[u, v] t (0, 0) := by simpa [Array.getElem?_eq_getElem hlt] using h
  show (w.heap.modify b _)[b]? = _
  rw [Array.getElem?_eq_getElem (by simpa using hlt), Array.getElem_modify_self, h']
  rfl

theorem gb_set (w : World) (E i : Nat) (x : Value) : w.grownBy (w.setCell ⟨E, i, none⟩ x) (some E) :=
  ⟨rfl, rfl, rfl, by simp, fun k hk hne => Below.heap_setCell _ _ _ _ (by intro e; exact hne (by rw [e]))⟩
theorem gb_trans {a b c : World} {r : Option Nat} (h : a.grownBy b r) (k : b.grownBy c r) : a.grownBy c r :=
  ⟨k.os.trans h.os, k.tape.trans h.tape, k.output.trans h.output, Nat.le_trans h.size k.size, fun i hi hne => (k.block i (Nat.lt_of_lt_of_le hi h.size) hne).trans (h.block i hi hne)⟩
theorem cell_set_ne (w : World) (E i : Nat) (x : Value) {a : Addr} (h : a.block ≠ E) : (w.setCell ⟨E, i, none⟩ x).cell? a = w.cell? a :=
  World.cell?_of_block (Below.heap_setCell _ _ _ _ h)

theorem take_any (E B : Nat) (rest : List Int) (bad : Bool) (n : Nat) (w : World) (h : EyeAt w E B rest bad) (hn : n ≤ 9223372036854775807) (hl : rest.length ≤ 1099511627776) :
    Calls Tryd.prog 44 #[.pointer (some ⟨E, 0, none⟩), .int .i64 n] w fun e w' => ∃ a c, e = .returned (.slice a (if n ≤ rest.length then n else 0) c) ∧ Row .u8 w' a (if n ≤ rest.length then rest.take n else []) ∧
      EyeAt w' E B (if n ≤ rest.length then rest.drop n else []) (bad || decide (rest.length < n)) ∧ w.grownBy w' (some E) := by
  obtain ⟨hBs, v, hE, hL⟩ := h
  have c0 := two_cell0 hE
  have c1 := two_cell1 hE
  have f0 := two_free hE 0
  have f1 := two_free hE 1
  by_cases hle : n ≤ rest.length
  · rw [if_pos hle, if_pos hle, if_pos hle]
    have hbd : (bad || decide (rest.length < n)) = bad := by simp; omega
    rw [hbd]
    clear hbd
    rcases hL with ⟨rfl, rfl⟩ | ⟨b, off, c, rfl, hbE, hb, hlc, hc63, hc⟩
    · obtain rfl : n = 0 := by simpa using hle
      go_enter Tryd.func44, Tryd.ntmps44
      go_wp2
      go_ret
      exact ⟨none, 0, rfl, fun h => absurd rfl h, ⟨by simpa using hBs, _, two_set0 hE, .inl ⟨rfl, rfl⟩⟩, gb_set _ _ _ _⟩
    · by_cases hcn : c = n
      · go_enter Tryd.func44, Tryd.ntmps44
        go_wp2
        go_ret
        have hdl : (rest.drop n).length = rest.length - n := List.length_drop
        refine ⟨some ⟨b, off, none⟩, n, rfl, fun hne => ⟨b, off, rfl, by simp; omega, fun i hi => by rw [cell_set_ne _ _ _ _ hbE, hc i (by simp at hi; omega), List.getElem?_take_of_lt (by simp at hi; omega)]⟩, ⟨by simpa using hBs, _, two_set0 hE, .inr ⟨b, off, 0, by rw [hdl], hbE, hb, by rw [hdl]; omega, by omega, fun i hi => by rw [hdl] at hi; omega⟩⟩, gb_set _ _ _ _⟩
      · go_enter Tryd.func44, Tryd.ntmps44
        go_wp2
        go_ret
        have hdl : (rest.drop n).length = rest.length - n := List.length_drop
        refine ⟨some ⟨b, off, none⟩, c, rfl, fun hne => ⟨b, off, rfl, by simp; omega, fun i hi => by rw [cell_set_ne _ _ _ _ hbE, hc i (by simp at hi; omega), List.getElem?_take_of_lt (by simp at hi; omega)]⟩, ⟨by simpa using hBs, _, two_set0 hE, .inr ⟨b, off + n, c - n, by rw [hdl], hbE, hb, by rw [hdl]; omega, by omega, fun i hi => by rw [hdl] at hi; rw [cell_set_ne _ _ _ _ hbE, List.getElem?_drop, Nat.add_assoc]; exact hc (n + i) (by omega)⟩⟩, gb_set _ _ _ _⟩
  · have hbd : (bad || decide (rest.length < n)) = true := by simp; omega
    rw [if_neg hle, if_neg hle, if_neg hle, hbd]
    clear hbd
    obtain ⟨a, cc, rfl⟩ : ∃ a cc, v = .slice a rest.length cc := by
      rcases hL with ⟨rfl, rfl⟩ | ⟨b, off, c, rfl, _⟩
      · exact ⟨_, _, rfl⟩
      · exact ⟨_, _, rfl⟩
    go_enter Tryd.func44, Tryd.ntmps44
    go_wp2
    go_ret
    refine ⟨none, 0, rfl, fun h => absurd rfl h, ⟨by simpa using hBs, _, two_set1 (two_set0 hE), .inl ⟨rfl, rfl⟩⟩, gb_trans (gb_set _ _ _ _) (gb_set _ _ _ _)⟩

set_option maxHeartbeats 800000 in
theorem eyeNum_any (E B : Nat) (rest : List Int) (bad : Bool) (s : Int) (w : World) (h : EyeAt w E B rest bad) (hb : ∀ x ∈ rest, 0 ≤ x ∧ x ≤ 255) (hl : rest.length ≤ 1099511627776) :
    Calls Tryd.prog 27 #[.pointer (some ⟨E, 0, none⟩), .int .i64 s] w fun e w' => e = .returned (.int .u64 (valB (if sz s ≤ rest.length then rest.take (sz s) else []))) ∧
      EyeAt w' E B (if sz s ≤ rest.length then rest.drop (sz s) else []) (bad || decide (rest.length < sz s)) ∧ w.grownBy w' (some E) := by
  have hs8 := sz_le s
  have ht := take_any E B rest bad (sz s) w h (by omega) hl
  have hbd := bounded_any s w
  have hxb : ∀ x ∈ (if sz s ≤ rest.length then rest.take (sz s) else []), 0 ≤ x ∧ x ≤ 255 := by
    split
    · exact fun x hx => hb x (List.mem_of_mem_take hx)
    · simp
  have hxl : (if sz s ≤ rest.length then rest.take (sz s) else []).length = (if sz s ≤ rest.length then sz s else 0) := by
    split
    · rw [List.length_take]; omega
    · rfl
  have hx8 : (if sz s ≤ rest.length then sz s else 0) ≤ 8 := by split <;> omega
  generalize (if sz s ≤ rest.length then rest.take (sz s) else []) = xs at *
  generalize (if sz s ≤ rest.length then sz s else 0) = m at *
  generalize (if sz s ≤ rest.length then rest.drop (sz s) else []) = rest' at *
  generalize (bad || decide (rest.length < sz s)) = bad' at *
  generalize sz s = S at *
  have HT := hide ht
  have HBD := hide hbd
  have HXB := hide hxb
  have HXL := hide hxl
  clear ht hbd hxb hxl h hb hl hs8
  go_enter Tryd.func27, Tryd.ntmps27
  go_wp2_with fail
  refine HBD.out.mono ?_
  rintro e w1 ⟨rfl, rfl⟩
  go_wp2_with fail
  refine HT.out.mono ?_
  rintro e w2 ⟨a, c, rfl, hrow, heye, hgr⟩
  have HR := hide hrow
  have HE := hide heye
  have HG := hide hgr
  clear hrow heye hgr
  go_wp2
  go_loop [5, 13] (fun v i => ∃ k : Nat, k ≤ m ∧ i = .int .i64 k ∧ v = .int .u64 (valB (xs.take k))) (fun _ i => m - (intOf i).toNat)
  case atStart => exact ⟨0, Nat.zero_le _, rfl, rfl⟩
  case round =>
    obtain ⟨k, hk, rfl, rfl⟩ := hrel
    have HX := HXL.out
    by_cases hlt : k < m
    · obtain ⟨b, off, rfl, hbl, hc⟩ := HR.out.at (i := k) (by omega)
      have cx := hc k (by omega)
      have hv := valB_snoc xs k (by omega)
      have hr1 := valB_rng xs HXB.out k
      have hr2 := byte_at HXB.out k
      have hp : (256 : Int) ^ k ≤ 72057594037927936 := by
        have : k ≤ 7 := by omega
        have := Nat.pow_le_pow_right (show 0 < 256 by decide) this
        have h2 : ((256 ^ k : Nat) : Int) ≤ ((256 ^ 7 : Nat) : Int) := by exact_mod_cast this
        simpa using h2
      generalize xs[k]?.getD 0 = y at *
      generalize valB (xs.take k) = x at *
      have hx1 : 0 ≤ x := hr1.1
      have hx2 : x ≤ 72057594037927935 := by omega
      have hy1 := hr2.1
      have hy2 := hr2.2
      have HV := hide hv
      clear hv hr1 hr2 hp hc HX
      go_wp2
      go_round
      case rel => exact ⟨k + 1, by omega, by go_num, by rw [HV.out, or64 x y hx1 hx2 hy1 hy2]⟩
      case measure => simp [intOf]; omega
    · have hkm : k = m := by omega
      subst hkm
      rw [List.take_of_length_le (by omega)]
      clear HX
      go_wp2
      go_ret
      exact ⟨rfl, HE.out, HG.out⟩

theorem left_any (E B : Nat) (rest : List Int) (bad : Bool) (w : World) (h : EyeAt w E B rest bad) :
    Calls Tryd.prog 29 #[.pointer (some ⟨E, 0, none⟩)] w fun e w' => e = .returned (.int .i64 (rest.length : Nat)) ∧ w = w' := by
  obtain ⟨hBs, v, hE, hL⟩ := h
  obtain ⟨a, cc, rfl⟩ : ∃ a cc, v = .slice a rest.length cc := by
    rcases hL with ⟨rfl, rfl⟩ | ⟨b, off, c, rfl, _⟩
    · exact ⟨_, _, rfl⟩
    · exact ⟨_, _, rfl⟩
  have c0 := two_cell0 hE
  clear hE hL
  go_enter Tryd.func29, Tryd.ntmps29
  go_wp2
  go_ret
  exact ⟨rfl, rfl⟩
theorem newEye_any (a : Option Addr) (xs : List Int) (cap : Nat) (w : World) (hr : Row .u8 w a xs) (hlen : xs.length ≤ 1099511627776) :
    Calls Tryd.prog 26 #[.slice a xs.length cap] w fun e w' => ∃ E, e = .returned (.pointer (some ⟨E, 0, none⟩)) ∧ w.heap.size ≤ E ∧ EyeAt w' E E xs false ∧ Below w.heap.size w w' := by
  go_enter Tryd.func26, Tryd.ntmps26
  go_wp2_with (go_at_call 43; refine (clone_any a xs cap _ hr (by omega)).mono ?_; rintro e w1 ⟨a', cap', rfl, hown, hbel⟩)
  go_ret
  refine ⟨w1.heap.size, rfl, hbel.size, ⟨by simp, _, heap_alloc_new w1 _, ?_⟩, hbel.alloc hbel.size _⟩
  rcases hown.2 with ⟨h, h0⟩ | ⟨g, c, cur, hv, hg, hh, hnc, hcm, _⟩
  · exact .inl ⟨h, List.length_eq_zero_iff.1 h0⟩
  · have hgl := lt_of_block hh
    refine .inr ⟨g, 0, c, hv, by omega, hgl, hnc, by unfold maxLen at hcm; omega, fun i hi => ?_⟩
    obtain ⟨rfl, rfl⟩ : a' = some ⟨g, 0, none⟩ ∧ cap' = c := by simpa using hv
    rw [World.cell?_alloc_past _ _ _ hgl, show 0 + i = i from by omega, hown.cellAt i (by omega)]
    simp [List.getElem?_map, List.getElem?_eq_getElem hi]

end Go.Proofs.YtlipckpacdioiaaDoor
