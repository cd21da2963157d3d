/- What an Eye and the document's numbers answer: take, Num, Left, Bad, NewEye; the document's Size and Num. -/
import Derived.Test.YtpchmajgeanflaaPairs
import Derived.Test.YtpchmajgeanflaaJoin
namespace Go.Proofs.Ytpchmajgeanflaa
open Go.RowKit
set_option linter.unusedVariables false
set_option linter.unusedSimpArgs false
/-- What an Eye at block E has left. -/
def Left (w : World) (E : Nat) (v : Value) (rest : List Int) : Prop :=
  (v = .slice none 0 0 ∧ rest = []) ∨
  ∃ b off c, v = .slice (some ⟨b, off, none⟩) rest.length c ∧ b ≠ E ∧ b < w.heap.size ∧ rest.length ≤ c ∧ c ≤ 9223372036854775807 ∧ ∀ i, i < rest.length → w.cell? ⟨b, off + i, none⟩ = some (.int .u8 (rest[i]?.getD 0))
def EyeAt (w : World) (E : Nat) (rest : List Int) (bad : Bool) : Prop := ∃ v, w.heap[E]? = some (.cells #[v, .bool bad] 63 (0, 0)) ∧ Left w E v rest

theorem two_cell0 {w : World} {b : Nat} {u v : Value} {t : TypeId} (h : w.heap[b]? = some (.cells #[u, v] t (0, 0))) : w.cell? ⟨b, 0, none⟩ = some u := by simp [World.cell?, h]
theorem two_cell1 {w : World} {b : Nat} {u v : Value} {t : TypeId} (h : w.heap[b]? = some (.cells #[u, v] t (0, 0))) : w.cell? ⟨b, 1, none⟩ = some v := by simp [World.cell?, h]
theorem two_free {w : World} {b : Nat} {u v : Value} {t : TypeId} (h : w.heap[b]? = some (.cells #[u, v] t (0, 0))) (i : Nat) : w.frozen? ⟨b, i, none⟩ = false := by simp [World.frozen?, h]
theorem two_set0 {w : World} {b : Nat} {u v x : Value} {t : TypeId} (h : w.heap[b]? = some (.cells #[u, v] t (0, 0))) : (w.setCell ⟨b, 0, none⟩ x).heap[b]? = some (.cells #[x, v] t (0, 0)) := by
  have hlt := lt_of_block h
  have h' : w.heap[b] = .cells #[u, v] t (0, 0) := by simpa [Array.getElem?_eq_getElem hlt] using h
  show (w.heap.modify b _)[b]? = _
  rw [Array.getElem?_eq_getElem (by simpa using hlt), Array.getElem_modify_self, h']
  rfl
theorem two_set1 {w : World} {b : Nat} {u v x : Value} {t : TypeId} (h : w.heap[b]? = some (.cells #[u, v] t (0, 0))) : (w.setCell ⟨b, 1, none⟩ x).heap[b]? = some (.cells #[u, x] t (0, 0)) := by
  have hlt := lt_of_block h
  have h' : w.heap[b] = .cells #[u, v] t (0, 0) := by simpa [Array.getElem?_eq_getElem hlt] using h
  show (w.heap.modify b _)[b]? = _
  rw [Array.getElem?_eq_getElem (by simpa using hlt), Array.getElem_modify_self, h']
  rfl

theorem gb_set (w : World) (E i : Nat) (x : Value) : w.grownBy (w.setCell ⟨E, i, none⟩ x) (some E) :=
  ⟨rfl, rfl, rfl, by simp, fun k hk hne => Below.heap_setCell _ _ _ _ (by intro e; exact hne (by rw [e]))⟩
theorem gb_trans {a b c : World} {r : Option Nat} (h : a.grownBy b r) (k : b.grownBy c r) : a.grownBy c r :=
  ⟨k.os.trans h.os, k.tape.trans h.tape, k.output.trans h.output, Nat.le_trans h.size k.size, fun i hi hne => (k.block i (Nat.lt_of_lt_of_le hi h.size) hne).trans (h.block i hi hne)⟩
theorem cell_set_ne (w : World) (E i : Nat) (x : Value) {a : Addr} (h : a.block ≠ E) : (w.setCell ⟨E, i, none⟩ x).cell? a = w.cell? a :=
  World.cell?_of_block (Below.heap_setCell _ _ _ _ h)

theorem take_any (E : Nat) (rest : List Int) (bad : Bool) (n : Nat) (w : World) (h : EyeAt w E rest bad) (hn : n ≤ 9223372036854775807) (hl : rest.length ≤ 1099511627776) :
    Calls Try.prog 37 #[.pointer (some ⟨E, 0, none⟩), .int .i64 n] w fun e w' => ∃ a c, e = .returned (.slice a (if n ≤ rest.length then n else 0) c) ∧ Row .u8 w' a (if n ≤ rest.length then rest.take n else []) ∧
      EyeAt w' E (if n ≤ rest.length then rest.drop n else []) (bad || decide (rest.length < n)) ∧ w.grownBy w' (some E) := by
  obtain ⟨v, hE, hL⟩ := h
  have c0 := two_cell0 hE
  have c1 := two_cell1 hE
  have f0 := two_free hE 0
  have f1 := two_free hE 1
  by_cases hle : n ≤ rest.length
  · rw [if_pos hle, if_pos hle, if_pos hle]
    have hbd : (bad || decide (rest.length < n)) = bad := by simp; omega
    rw [hbd]
    clear hbd
    rcases hL with ⟨rfl, rfl⟩ | ⟨b, off, c, rfl, hbE, hb, hlc, hc63, hc⟩
    · obtain rfl : n = 0 := by simpa using hle
      go_enter Try.func37, Try.ntmps37
      go_wp2
      go_ret
      exact ⟨none, 0, rfl, fun h => absurd rfl h, ⟨_, two_set0 hE, .inl ⟨rfl, rfl⟩⟩, gb_set _ _ _ _⟩
    · by_cases hcn : c = n
      · go_enter Try.func37, Try.ntmps37
        go_wp2
        go_ret
        have hdl : (rest.drop n).length = rest.length - n := List.length_drop
        refine ⟨some ⟨b, off, none⟩, n, rfl, fun hne => ⟨b, off, rfl, by simpa using hb, fun i hi => by rw [cell_set_ne _ _ _ _ hbE, hc i (by simp at hi; omega), List.getElem?_take_of_lt (by simp at hi; omega)]⟩, ⟨_, two_set0 hE, .inr ⟨b, off, 0, by rw [hdl], hbE, by simpa using hb, by rw [hdl]; omega, by omega, fun i hi => by rw [hdl] at hi; omega⟩⟩, gb_set _ _ _ _⟩
      · go_enter Try.func37, Try.ntmps37
        go_wp2
        go_ret
        have hdl : (rest.drop n).length = rest.length - n := List.length_drop
        refine ⟨some ⟨b, off, none⟩, c, rfl, fun hne => ⟨b, off, rfl, by simpa using hb, fun i hi => by rw [cell_set_ne _ _ _ _ hbE, hc i (by simp at hi; omega), List.getElem?_take_of_lt (by simp at hi; omega)]⟩, ⟨_, two_set0 hE, .inr ⟨b, off + n, c - n, by rw [hdl], hbE, by simpa using hb, by rw [hdl]; omega, by omega, fun i hi => by rw [hdl] at hi; rw [cell_set_ne _ _ _ _ hbE, List.getElem?_drop, Nat.add_assoc]; exact hc (n + i) (by omega)⟩⟩, gb_set _ _ _ _⟩
  · have hbd : (bad || decide (rest.length < n)) = true := by simp; omega
    rw [if_neg hle, if_neg hle, if_neg hle, hbd]
    clear hbd
    obtain ⟨a, cc, rfl⟩ : ∃ a cc, v = .slice a rest.length cc := by
      rcases hL with ⟨rfl, rfl⟩ | ⟨b, off, c, rfl, _⟩
      · exact ⟨_, _, rfl⟩
      · exact ⟨_, _, rfl⟩
    go_enter Try.func37, Try.ntmps37
    go_wp2
    go_ret
    refine ⟨none, 0, rfl, fun h => absurd rfl h, ⟨_, two_set1 (two_set0 hE), .inl ⟨rfl, rfl⟩⟩, gb_trans (gb_set _ _ _ _) (gb_set _ _ _ _)⟩

set_option maxHeartbeats 800000 in
theorem eyeNum_any (E : Nat) (rest : List Int) (bad : Bool) (s : Int) (w : World) (h : EyeAt w E rest bad) (hb : ∀ x ∈ rest, 0 ≤ x ∧ x ≤ 255) (hl : rest.length ≤ 1099511627776) :
    Calls Try.prog 19 #[.pointer (some ⟨E, 0, none⟩), .int .i64 s] w fun e w' => e = .returned (.int .u64 (valB (if sz s ≤ rest.length then rest.take (sz s) else []))) ∧
      EyeAt w' E (if sz s ≤ rest.length then rest.drop (sz s) else []) (bad || decide (rest.length < sz s)) ∧ w.grownBy w' (some E) := by
  have hs8 := sz_le s
  have ht := take_any E rest bad (sz s) w h (by omega) hl
  have hbd := bounded_any s w
  have hxb : ∀ x ∈ (if sz s ≤ rest.length then rest.take (sz s) else []), 0 ≤ x ∧ x ≤ 255 := by
    split
    · exact fun x hx => hb x (List.mem_of_mem_take hx)
    · simp
  have hxl : (if sz s ≤ rest.length then rest.take (sz s) else []).length = (if sz s ≤ rest.length then sz s else 0) := by
    split
    · rw [List.length_take]; omega
    · rfl
  have hx8 : (if sz s ≤ rest.length then sz s else 0) ≤ 8 := by split <;> omega
  generalize (if sz s ≤ rest.length then rest.take (sz s) else []) = xs at *
  generalize (if sz s ≤ rest.length then sz s else 0) = m at *
  generalize (if sz s ≤ rest.length then rest.drop (sz s) else []) = rest' at *
  generalize (bad || decide (rest.length < sz s)) = bad' at *
  generalize sz s = S at *
  have HT := hide ht
  have HBD := hide hbd
  have HXB := hide hxb
  have HXL := hide hxl
  clear ht hbd hxb hxl h hb hl hs8
  go_enter Try.func19, Try.ntmps19
  go_wp2_with fail
  refine HBD.out.mono ?_
  rintro e w1 ⟨rfl, rfl⟩
  go_wp2_with fail
  refine HT.out.mono ?_
  rintro e w2 ⟨a, c, rfl, hrow, heye, hgr⟩
  have HR := hide hrow
  have HE := hide heye
  have HG := hide hgr
  clear hrow heye hgr
  go_wp2
  go_loop [5, 13] (fun v i => ∃ k : Nat, k ≤ m ∧ i = .int .i64 k ∧ v = .int .u64 (valB (xs.take k))) (fun _ i => m - (intOf i).toNat)
  case atStart => exact ⟨0, Nat.zero_le _, rfl, rfl⟩
  case round =>
    obtain ⟨k, hk, rfl, rfl⟩ := hrel
    have HX := HXL.out
    by_cases hlt : k < m
    · obtain ⟨b, off, rfl, hbl, hc⟩ := HR.out.at (i := k) (by omega)
      have cx := hc k (by omega)
      have hv := valB_snoc xs k (by omega)
      have hr1 := valB_rng xs HXB.out k
      have hr2 := byte_at HXB.out k
      have hp : (256 : Int) ^ k ≤ 72057594037927936 := by
        have : k ≤ 7 := by omega
        have := Nat.pow_le_pow_right (show 0 < 256 by decide) this
        have h2 : ((256 ^ k : Nat) : Int) ≤ ((256 ^ 7 : Nat) : Int) := by exact_mod_cast this
        simpa using h2
      generalize xs[k]?.getD 0 = y at *
      generalize valB (xs.take k) = x at *
      have hx1 : 0 ≤ x := hr1.1
      have hx2 : x ≤ 72057594037927935 := by omega
      have hy1 := hr2.1
      have hy2 := hr2.2
      have HV := hide hv
      clear hv hr1 hr2 hp hc HX
      go_wp2
      go_round
      case rel => exact ⟨k + 1, by omega, by go_num, by rw [HV.out, or64 x y hx1 hx2 hy1 hy2]⟩
      case measure => simp [intOf]; omega
    · have hkm : k = m := by omega
      subst hkm
      rw [List.take_of_length_le (by omega)]
      clear HX
      go_wp2
      go_ret
      exact ⟨rfl, HE.out, HG.out⟩

theorem left_any (E : Nat) (rest : List Int) (bad : Bool) (w : World) (h : EyeAt w E rest bad) :
    Calls Try.prog 20 #[.pointer (some ⟨E, 0, none⟩)] w fun e w' => e = .returned (.int .i64 (rest.length : Nat)) ∧ w = w' := by
  obtain ⟨v, hE, hL⟩ := h
  obtain ⟨a, cc, rfl⟩ : ∃ a cc, v = .slice a rest.length cc := by
    rcases hL with ⟨rfl, rfl⟩ | ⟨b, off, c, rfl, _⟩
    · exact ⟨_, _, rfl⟩
    · exact ⟨_, _, rfl⟩
  have c0 := two_cell0 hE
  clear hE hL
  go_enter Try.func20, Try.ntmps20
  go_wp2
  go_ret
  exact ⟨rfl, rfl⟩
theorem bad_any (E : Nat) (rest : List Int) (bad : Bool) (w : World) (h : EyeAt w E rest bad) :
    Calls Try.prog 21 #[.pointer (some ⟨E, 0, none⟩)] w fun e w' => e = .returned (.bool bad) ∧ w = w' := by
  obtain ⟨v, hE, hL⟩ := h
  have c1 := two_cell1 hE
  clear hE hL
  go_enter Try.func21, Try.ntmps21
  go_wp2
  go_ret
  exact ⟨rfl, rfl⟩

theorem newEye_any (a : Option Addr) (xs : List Int) (cap : Nat) (w : World) (hr : Row .u8 w a xs) (hlen : xs.length ≤ 1099511627776) :
    Calls Try.prog 17 #[.slice a xs.length cap] w fun e w' => ∃ E, e = .returned (.pointer (some ⟨E, 0, none⟩)) ∧ w.heap.size ≤ E ∧ EyeAt w' E xs false ∧ Below w.heap.size w w' := by
  go_enter Try.func17, Try.ntmps17
  go_wp2_with (go_at_call 36; refine (clone_any a xs cap _ hr (by omega)).mono ?_; rintro e w1 ⟨a', cap', rfl, hown, hbel⟩)
  go_ret
  refine ⟨w1.heap.size, rfl, hbel.size, ⟨_, heap_alloc_new w1 _, ?_⟩, hbel.alloc hbel.size _⟩
  rcases hown.2 with ⟨h, h0⟩ | ⟨g, c, cur, hv, hg, hh, hnc, hcm, _⟩
  · exact .inl ⟨h, List.length_eq_zero_iff.1 h0⟩
  · have hgl := lt_of_block hh
    refine .inr ⟨g, 0, c, hv, by omega, by simp; omega, hnc, by unfold maxLen at hcm; omega, fun i hi => ?_⟩
    obtain ⟨rfl, rfl⟩ : a' = some ⟨g, 0, none⟩ ∧ cap' = c := by simpa using hv
    rw [World.cell?_alloc_past _ _ _ hgl, show 0 + i = i from by omega, hown.cellAt i (by omega)]
    simp [List.getElem?_map, List.getElem?_eq_getElem hi]

theorem refSize_any (n : Int) (w : World) :
    Calls Try.prog 18 #[.int .i64 n] w fun e w' => e = .returned (.int .i64 (sz n : Nat)) ∧ w = w' := by
  by_cases h : n < 0
  · have e : sz n = 0 := by unfold sz; omega
    rw [e]; clear e
    go_enter Try.func18, Try.ntmps18
    go_wp2
    go_ret
    exact ⟨rfl, rfl⟩
  · by_cases h8 : 8 < n
    · have e : sz n = 8 := by unfold sz; omega
      rw [e]; clear e
      go_enter Try.func18, Try.ntmps18
      go_wp2
      go_ret
      exact ⟨rfl, rfl⟩
    · have e : ((sz n : Nat) : Int) = n := by unfold sz; omega
      rw [e]; clear e
      go_enter Try.func18, Try.ntmps18
      go_wp2
      go_ret
      exact ⟨rfl, rfl⟩

/-- The last k bytes of n. -/
theorem numB_succ (k n : Nat) : numB (k + 1) n = byteAt n k :: numB k n := by
  unfold numB
  rw [List.range_succ_eq_map]
  simp
  intro i hi
  congr 1; omega

set_option maxHeartbeats 800000 in
theorem refNum_full (s : Int) (n : Nat) (w : World) (hn : n < 18446744073709551616) :
    Calls Try.prog 15 #[.int .i64 s, .int .u64 n] w fun e w' => ∃ a c, e = .returned (.slice a (sz s) c) ∧ Row .u8 w' a (numB (sz s) n) ∧ Below w.heap.size w w' ∧ (a = none → c = 0) := by
  obtain ⟨i0, hi, hz0, hz1, hz2⟩ := info_parts Try.info5
  have hs8 := sz_le s
  have hsz : ∀ w, Calls Try.prog 18 #[.int .i64 s] w fun e w' => e = .returned (.int .i64 (sz s : Nat)) ∧ w = w' := fun w => refSize_any s w
  generalize sz s = L at *
  have HS := hide hsz
  clear hsz
  have hown0 : (w.alloc (.cells #[] 5)).ownsRow w.heap.size 5 1 (.slice (some ⟨w.heap.size, 0, none⟩) 0 0) 0 [] := World.ownsRow_lit w #[] 0 (Nat.le_refl _) (by unfold maxLen; omega) rfl
  go_enter Try.func15, Try.ntmps15
  go_wp2
  go_loopw [5, 6, 7] (fun v x i wr => ∃ k : Nat, ∃ g c', k ≤ L ∧ i = .int .i64 k ∧ x = .int .u64 ((n / 256 ^ k : Nat) : Int) ∧ v = .slice (some ⟨g, 0, none⟩) k c' ∧
      wr.ownsRow w.heap.size 5 1 (.slice (some ⟨g, 0, none⟩) k c') k ((numB k n).map (Value.int .u8)) ∧ Below w.heap.size w wr)
    (fun _ _ i _ => L - (intOf i).toNat)
  case atStart => exact ⟨0, _, _, Nat.zero_le _, rfl, by simp, rfl, hown0, (Below.refl _ _).alloc (Nat.le_refl _) _⟩
  case round =>
    clear hown0
    obtain ⟨k, g, c', hk, rfl, rfl, rfl, hown, hbel⟩ := hrel
    by_cases hlt : k < L
    · have HO := hide hown
      have hcl := (hown.alloc (.cells #[.int .u8 (byteAt n k)] 5)).cells (g := g) rfl
      have HC := hide hcl
      clear hown hcl
      have hq : n / 256 ^ k ≤ 18446744073709551615 := Nat.le_trans (Nat.div_le_self _ _) (by omega)
      have hby : ((n / 256 ^ k : Nat) : Int) % 256 = byteAt n k := by unfold byteAt; simp
      have hdv : ((n / 256 ^ k : Nat) : Int) / 256 = ((n / 256 ^ (k + 1) : Nat) : Int) := by rw [← div_step]; simp
      have hbr := byteAt_rng n k
      have HBY := hide hby
      have HDV := hide hdv
      clear hby hdv
      generalize n / 256 ^ k = q at *
      go_wp2_with fail
      refine (HS.out _).mono ?_
      rintro e w1 ⟨rfl, rfl⟩
      have hown1 := World.ownsRow_lit (base := w.heap.size) (e := 5) (size := 1) wr #[.int .u8 (byteAt n k)] 1 hbel.size (by unfold maxLen; omega) rfl
      have H1 := hide hown1
      clear hown1
      rw [← HBY.out] at H1 HC
      go_wp2_with (at_builtin; refine wpList_append_own _ rfl _ _ 24 rfl w.heap.size 5 i0 (.int .u8 0) 1 1 Try.underlying24 hi hz0 hz1 hz2 rfl (by decide) _ _ _ rfl H1.out ⟨g, 0, none⟩ k c' ((numB k n).map (Value.int .u8)) rfl (by simp [numB_len]) HC.out (ints_one _ _) (by unfold maxLen; omega) (by omega) (by have := hbel.size; simp; omega) ?_)
      intro v' w2 hown2 hgrow hnn
      have hv' : v' ≠ .slice none 0 0 := hnn
      obtain ⟨g2, c2, rfl⟩ : ∃ g2 c2, v' = .slice (some ⟨g2, 0, none⟩) (k + 1) c2 := by
        rcases hown2.2 with ⟨h, _⟩ | ⟨g, c, cur, h, _⟩
        · exact absurd h hv'
        · exact ⟨g, c, by rw [h, Nat.add_comm]⟩
      have hbel2 : Below w.heap.size w w2 := (hbel.alloc hbel.size _).grown hgrow (by have := hbel.size; simp; omega) (fun j e => by simp [Value.ownBlock] at e; have := hbel.size; omega)
      have hown3 : w2.ownsRow w.heap.size 5 1 (.slice (some ⟨g2, 0, none⟩) (k + 1) c2) (k + 1) ((numB (k + 1) n).map (Value.int .u8)) := by
        rw [numB_succ, List.map_cons, ← HBY.out]
        rw [Nat.add_comm 1 k] at hown2
        exact hown2
      have O3 := hide hown3
      have B2 := hide hbel2
      clear hown2 hown3 hbel2 hgrow hnn hv'
      go_wp2
      go_roundw
      case rel => exact ⟨k + 1, g2, c2, by omega, by go_num, by rw [HDV.out], rfl, O3.out, B2.out⟩
      case measure => simp [intOf]; omega
    · obtain rfl : k = L := by omega
      go_wp2_with fail
      refine (HS.out _).mono ?_
      rintro e w1 ⟨rfl, rfl⟩
      go_wp2
      go_ret
      exact ⟨_, _, rfl, Row.of_owns hown, hbel, by simp⟩
theorem refNum_any (s : Int) (n : Nat) (w : World) (hn : n < 18446744073709551616) :
    Calls Try.prog 15 #[.int .i64 s, .int .u64 n] w fun e w' => ∃ a c, e = .returned (.slice a (sz s) c) ∧ Row .u8 w' a (numB (sz s) n) ∧ Below w.heap.size w w' :=
  (refNum_full s n w hn).mono fun _ _ ⟨a, c, h1, h2, h3, _⟩ => ⟨a, c, h1, h2, h3⟩
end Go.Proofs.Ytpchmajgeanflaa
