/- http: the lines of a head. -/
import Derived.Test.YtbiblaeocbcfhaaGreatDoorZStp
import Derived.Lib.Split
namespace Go.Proofs.YtbiblaeocbcfhaaGreatDoor
open Go.RowKit Go.Deep
set_option linter.unusedVariables false
set_option linter.unusedSimpArgs false
set_option maxRecDepth 100000
def cutR (p : ByteArray) : ByteArray := bs (Lib.trimSuffix p.data.toList [13])
def endR (p : ByteArray) : Bool := Lib.hasSuffix p.data.toList [13]
def curR (ps : List ByteArray) (j : Nat) : List ByteArray := (ps.take j).map cutR ++ ps.drop j
theorem curR_at (ps : List ByteArray) (j : Nat) (p : ByteArray) (h : ps[j]? = some p) : (curR ps j)[j]? = some p := by
  have hj := (List.getElem?_eq_some_iff.1 h).1
  unfold curR
  rw [List.getElem?_append_right (by simp; omega)]
  simp only [List.length_map, List.length_take, Nat.min_eq_left (Nat.le_of_lt hj), Nat.sub_self, List.getElem?_drop, Nat.add_zero]
  exact h
theorem curR_set (ps : List ByteArray) (j : Nat) (p : ByteArray) (h : ps[j]? = some p) : (curR ps j).set j (cutR p) = curR ps (j + 1) := by
  obtain ⟨hj, he⟩ := List.getElem?_eq_some_iff.1 h
  unfold curR
  rw [List.set_append_right _ _ (by simp; omega)]
  simp only [List.length_map, List.length_take, Nat.min_eq_left (Nat.le_of_lt hj), Nat.sub_self]
  rw [List.drop_eq_getElem_cons hj, List.set_cons_zero, List.take_add_one, h, Option.toList_some, List.map_append, List.append_assoc]
  rfl
def strs (l : List ByteArray) : Array Value := (l.map Value.string).toArray
theorem strs_set (l : List ByteArray) (j : Nat) (p : ByteArray) : (strs l).setIfInBounds j (.string p) = strs (l.set j p) := by
  unfold strs
  apply Array.ext_getElem?
  intro i
  simp [List.map_set]
theorem strs_at (l : List ByteArray) (j : Nat) (p : ByteArray) (h : l[j]? = some p) : (strs l)[j]? = some (.string p) := by
  unfold strs; simp [h]
theorem bs_data (l : List UInt8) : (bs l).data.toList = l := by simp [bs]
theorem bs_len (l : List UInt8) : (bs l).size = l.length := by show (List.toArray l).size = _; simp
def piecesR (l : List UInt8) : List ByteArray := Lib.splitB ⟨#[10]⟩ 0 (Lib.countB (bs (Lib.trimSuffix l [10])) ⟨#[10]⟩) (bs (Lib.trimSuffix l [10]))
theorem textsL_pieces (l : List UInt8) : textsL l = (piecesR l).map fun p => Lib.trimSuffix p.data.toList [13] := by
  unfold textsL rawL linesB piecesR; rw [List.map_map]; rfl
theorem wholeL_pieces (l : List UInt8) : wholeL l = (piecesR l).all endR := by
  unfold wholeL rawL linesB piecesR; rw [List.all_map]; rfl
theorem pieces_len (l : List UInt8) : (piecesR l).length = Lib.countB (bs (Lib.trimSuffix l [10])) ⟨#[10]⟩ + 1 := Lib.splitB_all ⟨#[10]⟩ (by decide) 0 _ _ rfl
theorem split_size (sep : ByteArray) : ∀ (k : Nat) (s p : ByteArray), p ∈ Lib.splitB sep 0 k s → p.size ≤ s.size
  | 0, s, p, h => by
    rw [Lib.splitB_zero] at h
    rw [List.mem_singleton.1 h]; exact Nat.le_refl _
  | k + 1, s, p, h => by
    unfold Lib.splitB at h
    split at h
    · rw [List.mem_singleton.1 h]; exact Nat.le_refl _
    · rcases List.mem_cons.1 h with h | h
      · rw [h, ByteArray.size_extract]; omega
      · have := split_size sep k _ p h
        rw [ByteArray.size_extract] at this
        omega
theorem trimSuffix_le (l p : List UInt8) : (Lib.trimSuffix l p).length ≤ l.length := by
  unfold Lib.trimSuffix
  split
  · rw [List.length_take]; omega
  · exact Nat.le_refl _
theorem pieces_size (l : List UInt8) (p : ByteArray) (h : p ∈ piecesR l) : p.size ≤ l.length := by
  have h1 := split_size _ _ _ _ h
  rw [bs_len] at h1
  exact Nat.le_trans h1 (trimSuffix_le l [10])
theorem pieces_few (l : List UInt8) : (piecesR l).length ≤ l.length + 1 := by
  rw [pieces_len]
  have h1 := Lib.countB_le ⟨#[10]⟩ (by decide) _ (bs (Lib.trimSuffix l [10])) (Nat.le_refl _)
  rw [bs_len] at h1
  have := trimSuffix_le l [10]
  omega
set_option maxHeartbeats 2000000 in
theorem texts_any (l : List UInt8) (w : World) (hE : Env w) (hl : l.length ≤ 5000) :
    Calls Tryz.prog 28 #[.string (bs l)] w fun e w' => ∃ R, e = .returned (.tuple #[.slice (some ⟨R, 0, none⟩) (piecesR l).length (piecesR l).length, .bool (wholeL l)]) ∧ w.heap.size ≤ R ∧ w'.heap[R]? = some (.cells (strs ((piecesR l).map cutR)) 9 (0, 0)) ∧ Below w.heap.size w w' := by
  rw [wholeL_pieces]
  obtain ⟨m, hm⟩ := hE.m
  have h1 := Tryz.strings_TrimSuffix (bs l) ⟨#[10]⟩ w (by rw [bs_len]; omega)
  rw [bs_data, show (⟨#[10]⟩ : ByteArray).data.toList = [10] from rfl] at h1
  have hsz := trimSuffix_le l [10]
  have h2 := Tryz.strings_Split (bs (Lib.trimSuffix l [10])) ⟨#[10]⟩ m w (by rw [bs_len]; omega) hm (by decide)
  have hpl := pieces_len l
  have hps := pieces_size l
  have hfew := pieces_few l
  have hpe : Lib.splitB ⟨#[10]⟩ 0 (Lib.countB (bs (Lib.trimSuffix l [10])) ⟨#[10]⟩) (bs (Lib.trimSuffix l [10])) = piecesR l := rfl
  rw [hpe, ← hpl] at h2
  obtain ⟨ps, hpp⟩ : ∃ ps, piecesR l = ps := ⟨_, rfl⟩
  rw [hpp] at h2 hps hfew ⊢
  obtain ⟨N, hN⟩ : ∃ N, ps.length = N := ⟨_, rfl⟩
  rw [hN] at h2 hfew ⊢
  obtain ⟨S, hS⟩ : ∃ S, bs l = S := ⟨_, rfl⟩
  obtain ⟨T, hT⟩ : ∃ S, bs (Lib.trimSuffix l [10]) = S := ⟨_, rfl⟩
  have h1 : Calls Tryz.prog 39 #[.string S, .string ⟨#[10]⟩] w fun e w' => e = .returned (.string T) ∧ w' = w := by rw [← hS, ← hT]; exact h1
  rw [hT] at h2
  rw [hS]
  have H1 := hide h1
  have H2 := hide h2
  have HP := hide (And.intro hN (And.intro (fun p hp => Nat.le_trans (hps p hp) hl) (show N ≤ 5001 by omega)))
  have hB0 := (Below.refl w.heap.size w).alloc (Nat.le_refl _) (.cells (ps.map Value.string).toArray 9)
  have hr0 : (w.alloc (.cells (ps.map Value.string).toArray 9)).heap[w.heap.size]? = some (.cells (strs (curR ps 0)) 9 (0, 0)) := by rw [heap_alloc_new]; simp [curR, strs]
  obtain ⟨R, hR⟩ : ∃ R, w.heap.size = R := ⟨_, rfl⟩
  rw [hR] at hr0
  have HR := hide hR
  have HI := hide (show (w.alloc (.cells (ps.map Value.string).toArray 9)).heap[R]? = some (.cells (strs (curR ps 0)) 9 (0, 0)) ∧ (ps.take 0).all endR = true ∧ Below w.heap.size w (w.alloc (.cells (ps.map Value.string).toArray 9)) from ⟨hr0, rfl, hB0⟩)
  clear h1 h2 hpl hps hfew hpe hpp hN hS hT hB0 hr0 hm hE hsz hl
  go_enter Tryz.func28, Tryz.ntmps28
  go_wp2_with fail
  refine H1.out.mono ?_
  rintro e w1 ⟨rfl, rfl⟩
  go_wp2_with fail
  refine H2.out.mono ?_
  rintro e w2 ⟨rfl, rfl⟩
  simp only [hR]
  obtain ⟨w2, hw2⟩ : ∃ W, w1.alloc (.cells (ps.map Value.string).toArray 9) = W := ⟨_, rfl⟩
  rw [hw2] at HI ⊢
  clear hw2 H1 H2 hR
  go_wp2_with fail
  go_loopw [5, 15] (fun ok i wz => ∃ (j : Nat) (b : Bool), j ≤ N ∧ i = .int .i64 j ∧ ok = .bool b ∧ Hid (wz.heap[R]? = some (.cells (strs (curR ps j)) 9 (0, 0)) ∧ (ps.take j).all endR = b ∧ Below w1.heap.size w1 wz)) (fun _ i _ => N - (Lib.intOf i).toNat)
  case atStart => exact ⟨0, true, Nat.zero_le _, rfl, rfl, HI⟩
  case round =>
    clear HI
    obtain ⟨j, b, hj, rfl, rfl, HI⟩ := hrel
    have hj4 : (0 : Int) ≤ (j : Int) := by omega
    have hj5 : (j : Int) ≤ 5001 := by have := HP.out.2.2; omega
    by_cases hlt : j < N
    · have d1 : decide (j < N) = true := by simp; omega
      obtain ⟨p, hp⟩ : ∃ p, ps[j]? = some p := ⟨_, List.getElem?_eq_getElem (by have := HP.out.1; omega)⟩
      have hz := cell_at HI.out.1 j (strs_at _ _ _ (curR_at ps j p hp))
      have hf := free_at HI.out.1
      have h3 := fun W => Tryz.strings_CutSuffix p ⟨#[13]⟩ W (by have := HP.out.2.1 p (List.mem_of_getElem? hp); omega)
      rw [show (⟨#[13]⟩ : ByteArray).data.toList = [13] from rfl] at h3
      obtain ⟨q, hq⟩ : ∃ q, cutR p = q := ⟨_, rfl⟩
      obtain ⟨d, hd⟩ : ∃ d, endR p = d := ⟨_, rfl⟩
      have h3 : ∀ W, Calls Tryz.prog 25 #[.string p, .string ⟨#[13]⟩] W fun e w' => e = .returned (.tuple #[.string q, .bool d]) ∧ w' = W := by rw [← hq, ← hd]; exact h3
      have H3 := hide h3
      have hset := set_block HI.out.1 j (.string q)
      rw [strs_set, ← hq, curR_set ps j p hp, hq] at hset
      have HG := hide (show (wr.setCell ⟨R, j, none⟩ (.string q)).heap[R]? = some (.cells (strs (curR ps (j + 1))) 9 (0, 0)) ∧ (ps.take (j + 1)).all endR = (b && d) ∧ Below w1.heap.size w1 (wr.setCell ⟨R, j, none⟩ (.string q)) from ⟨hset, by
        rw [List.take_add_one, hp, Option.toList_some, List.all_append, HI.out.2.1, ← hd]; simp, HI.out.2.2.setCell (p := ⟨R, j, none⟩) (by rw [HR.out]; exact Nat.le_refl _) _⟩)
      clear h3 hset hq hd hp HI
      cases b
      all_goals
        go_wp2_with fail
        refine (H3.out _).mono ?_
        rintro e w3 ⟨rfl, rfl⟩
        clear H3
        go_wp2_with fail
        exact ⟨⟨j + 1, _, by omega, by go_num, rfl, HG⟩, by simp [Lib.intOf]; omega⟩
    · have d1 : decide (j < N) = false := by simp; omega
      obtain rfl : j = N := by omega
      have h := HI.out
      rw [show curR ps j = ps.map cutR from by unfold curR; rw [List.take_of_length_le (by have := HP.out.1; omega), List.drop_eq_nil_of_le (by have := HP.out.1; omega), List.append_nil], List.take_of_length_le (by have := HP.out.1; omega)] at h
      have HF := hide h
      clear h HI
      go_wp2_with fail
      go_ret2
      exact ⟨R, by rw [HF.out.2.1]; rfl, by rw [HR.out]; exact Nat.le_refl _, HF.out.1, HF.out.2.2⟩
end Go.Proofs.YtbiblaeocbcfhaaGreatDoor
