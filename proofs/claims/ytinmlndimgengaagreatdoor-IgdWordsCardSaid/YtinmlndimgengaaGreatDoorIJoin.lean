/- What slices.Grow, slices.Concat and octet.Join answer: the texts one behind the other, in new memory. -/
import Derived.Test.YtinmlndimgengaaGreatDoorCFindC
import Derived.Lib.AppendZerosOnto
import Derived.Laws.AppendOwnNone
namespace Go.Proofs.YtinmlndimgengaaGreatDoor
open Go.RowKit Go.Deep
set_option linter.unusedVariables false
set_option linter.unusedSimpArgs false
set_option maxRecDepth 100000
theorem info_str : (Tryz.prog.info? 9).map (fun i => (i.zero, i.size, i.bytes)) = some (some (.string ⟨#[]⟩), 1, 16) := by kernel_rfl
theorem sgrow_any (n : Nat) (w : World) (hn : n ≤ 1000000) :
    Calls Tryz.prog 152 #[.slice none 0 0, .int .i64 n] w fun e w' => ∃ v, e = .returned v ∧ w'.ownsRow w.heap.size 9 1 v 0 [] ∧ Below w.heap.size w w' := by
  obtain ⟨i0, hi, hz0, hz1, hz2⟩ := info_parts info_str
  by_cases h0 : 0 < n
  · have h1 : ¬ ((n : Int) < 0) := by omega
    have hrz := fun ty => Lib.run_append_nil_zeros (P := Tryz.prog) w 63 3 ty 9 i0 (.string ⟨#[]⟩) .i64 .i64 Tryz.underlying63 Tryz.underlying3 hi hz0 n h0 (by omega) (by omega) (by rw [hz2]; omega)
    obtain ⟨G, hG⟩ : ∃ G, G = grownCap w n 0 9 := ⟨_, rfl⟩
    have hGn : n ≤ G := by have := grownCap_ge w n 0 9; omega
    have hG63 : G ≤ maxLen := by rw [hG]; exact grownCap_le_maxLen w n 0 9 (by unfold maxLen; omega)
    rw [← hG] at hrz
    have hown := World.ownsRow_made (base := w.heap.size) (e := 9) (size := 1) w.drew (Builtin.zeroCells #[.string ⟨#[]⟩] n ++ Builtin.zeroCells #[.string ⟨#[]⟩] (G - n)) G (Nat.le_refl _) hG63 (by
      simp [size_zeroCells]; omega)
    have HO := hide hown
    have HR := hide hrz
    clear hown hrz hG
    have hG : G ≤ 9223372036854775807 := by unfold maxLen at hG63; omega
    clear hG63
    have hbel : Below w.heap.size w (w.drew.alloc (.cells (Builtin.zeroCells #[.string ⟨#[]⟩] n ++ Builtin.zeroCells #[.string ⟨#[]⟩] (G - n)) 9)) := ((Below.refl _ w).drew).alloc (Nat.le_refl _) _
    have HB := hide hbel
    clear hbel
    go_enter Tryz.func152, Tryz.ntmps152
    go_wp2_with (at_builtin; refine Lib.wpList_append_run _ rfl _ _ _ _ rfl _ _ rfl rfl _ _ (HR.out _) ?_)
    go_ret
    exact ⟨_, rfl, HO.out, HB.out⟩
  · obtain rfl : n = 0 := by omega
    go_enter Tryz.func152, Tryz.ntmps152
    go_wp2
    go_ret
    exact ⟨_, rfl, World.ownsRow_nil _ _ _ _, Below.refl _ _⟩

/-- A slice of texts that can be read. -/
def SRow (w : World) (a : Option Addr) (xs : List ByteArray) : Prop :=
  xs ≠ [] → ∃ b off, a = some ⟨b, off, none⟩ ∧ b < w.heap.size ∧ ∀ i, i < xs.length → w.cell? ⟨b, off + i, none⟩ = some (.string (xs[i]?.getD ⟨#[]⟩))
theorem SRow.at {w : World} {a : Option Addr} {xs : List ByteArray} (h : SRow w a xs) {i : Nat} (hi : i < xs.length) :
    ∃ b off, a = some ⟨b, off, none⟩ ∧ b < w.heap.size ∧ ∀ i, i < xs.length → w.cell? ⟨b, off + i, none⟩ = some (.string (xs[i]?.getD ⟨#[]⟩)) :=
  h (by intro e; subst e; simp at hi)
theorem SRow.below {w w' : World} {a : Option Addr} {xs : List ByteArray} {B : Nat} (h : SRow w a xs) (hb : Below B w w') (hB : w.heap.size ≤ B) : SRow w' a xs := by
  intro hne
  obtain ⟨b, off, rfl, hlt, hc⟩ := h hne
  exact ⟨b, off, rfl, Nat.lt_of_lt_of_le hlt hb.size, fun i hi => (hb.cell (p := ⟨b, off + i, none⟩) (show b < B by omega)).trans (hc i hi)⟩
theorem SRow.of_owns {w : World} {base : Nat} {e : TypeId} {a : Option Addr} {n cap : Nat} {xs : List ByteArray}
    (h : w.ownsRow base e 1 (.slice a n cap) n (xs.map Value.string)) : SRow w a xs := by
  intro hne
  have hl := h.1
  rcases h.2 with ⟨hv, hn⟩ | ⟨g, cap', cur, hv, hg, hh, r⟩
  · exact absurd (List.length_eq_zero_iff.1 (by simpa [hn] using hl)) hne
  · have h2 := h
    obtain ⟨rfl, rfl⟩ : a = some ⟨g, 0, none⟩ ∧ cap = cap' := by simpa using hv
    refine ⟨g, 0, rfl, (Array.getElem?_eq_some_iff.1 hh).1, fun i hi => ?_⟩
    have hl' : xs.length = n := by simpa using hl
    rw [show 0 + i = i from by omega, h.cellAt i (by omega)]
    simp [List.getElem?_eq_getElem hi]
theorem SRow.of_block {w : World} {b : Nat} {xs : List ByteArray} {T : TypeId} (h : w.heap[b]? = some (.cells (xs.map Value.string).toArray T (0, 0))) : SRow w (some ⟨b, 0, none⟩) xs := fun _ => by
  refine ⟨b, 0, rfl, lt_of_block h, fun i hi => ?_⟩
  rw [Nat.zero_add, cell_of_row _ _ _ _ _ (0, 0) h]
  simp [List.getElem?_eq_getElem hi]
/-- One of several slices of bytes: where it lies, its bytes, its capacity. -/
abbrev SPart := Option Addr × List ByteArray × Nat
def SPart.v (p : SPart) : Value := .slice p.1 p.2.1.length p.2.2
/-- A slice of slices of bytes that can be read. -/
structure SParts (w : World) (a : Option Addr) (L : List SPart) : Prop where
  cells : L ≠ [] → ∃ b off, a = some ⟨b, off, none⟩ ∧ b < w.heap.size ∧ ∀ i p, L[i]? = some p → w.cell? ⟨b, off + i, none⟩ = some (SPart.v p)
  rows : ∀ p ∈ L, SRow w p.1 p.2.1 ∧ (p.1 = none → p.2.2 = 0)
def sflat (L : List SPart) : List ByteArray := L.flatMap (·.2.1)
theorem sflat_snoc (L : List SPart) (k : Nat) (p : SPart) (h : L[k]? = some p) : sflat (L.take (k + 1)) = sflat (L.take k) ++ p.2.1 := by
  have hk : k < L.length := (List.getElem?_eq_some_iff.1 h).1
  rw [List.take_add_one, h]
  simp [sflat]
theorem sflat_le (L : List SPart) (k : Nat) : (sflat (L.take k)).length ≤ (sflat L).length := by
  have h : sflat L = sflat (L.take k) ++ sflat (L.drop k) := by
    unfold sflat
    rw [← List.flatMap_append, List.take_append_drop]
  rw [h]; simp
theorem SParts.below {w w' : World} {a : Option Addr} {L : List SPart} {B : Nat} (h : SParts w a L) (hb : Below B w w') (hB : w.heap.size ≤ B) : SParts w' a L := by
  refine ⟨fun hne => ?_, fun p hp => ⟨(h.rows p hp).1.below hb hB, (h.rows p hp).2⟩⟩
  obtain ⟨b, off, rfl, hlt, hc⟩ := h.cells hne
  exact ⟨b, off, rfl, Nat.lt_of_lt_of_le hlt hb.size, fun i p hi => (hb.cell (p := ⟨b, off + i, none⟩) (show b < B by omega)).trans (hc i p hi)⟩
theorem srow_none {w : World} {xs : List ByteArray} (h : SRow w none xs) : xs = [] := by
  cases xs with
  | nil => rfl
  | cons x r => obtain ⟨b, off, h, _⟩ := h (by simp); cases h

theorem srow_cells {w : World} {ad : Addr} {xs : List ByteArray} (h : SRow w (some ad) xs) : ∀ j u, (xs.map Value.string)[j]? = some u → w.cell? (ad.add j) = some u := by
  intro j u hj
  have hj2 : j < xs.length := by
    rcases Nat.lt_or_ge j xs.length with h | h
    · exact h
    · simp [List.getElem?_eq_none h] at hj
  obtain ⟨b, off, e, hlt, hc⟩ := h.at hj2
  cases e
  rw [Addr.add_lit, hc j hj2]
  simpa [List.getElem?_map, List.getElem?_eq_getElem hj2] using hj
theorem strs_one (xs : List ByteArray) : ∀ u ∈ xs.map Value.string, u.oneCell' = true := by intro u hu; simp at hu; obtain ⟨x, _, rfl⟩ := hu; rfl

set_option maxHeartbeats 800000 in
theorem sconcat_any (a : Option Addr) (L : List SPart) (cap : Nat) (w : World) (hp : SParts w a L) (hlen : (sflat L).length ≤ 1000000) (hL : L.length ≤ 1000000) :
    Calls Tryz.prog 105 #[.slice a L.length cap] w fun e w' => ∃ a' c', e = .returned (.slice a' (sflat L).length c') ∧
      w'.ownsRow w.heap.size 9 1 (.slice a' (sflat L).length c') (sflat L).length ((sflat L).map Value.string) ∧ Below w.heap.size w w' := by
  obtain ⟨i0, hi, hz0, hz1, hz2⟩ := info_parts info_str
  have HPT := hide hp
  clear hp
  go_enter Tryz.func105, Tryz.ntmps105
  go_wp2
  go_loop [3, 11] (fun s i => ∃ k : Nat, k ≤ L.length ∧ i = .int .i64 k ∧ s = .int .i64 ((sflat (L.take k)).length : Nat)) (fun _ i => L.length - (intOf i).toNat)
  case atStart => exact ⟨0, Nat.zero_le _, rfl, rfl⟩
  case round =>
    obtain ⟨k, hk, rfl, rfl⟩ := hrel
    by_cases hlt : k < L.length
    · obtain ⟨p, hpk⟩ : ∃ p, L[k]? = some p := ⟨L[k], List.getElem?_eq_getElem hlt⟩
      obtain ⟨b, off, rfl, hbl, hc⟩ := HPT.out.cells (by intro e; rw [e] at hlt; simp at hlt)
      have cx := hc k p hpk
      have hfs := congrArg List.length (sflat_snoc L k p hpk)
      have hfl := sflat_le L (k + 1)
      rw [List.length_append] at hfs
      unfold SPart.v at cx
      obtain ⟨pa, pxs, pc⟩ := p
      simp only at cx hfs
      generalize pxs.length = pn at *
      generalize (sflat (L.take k)).length = f0 at *
      have HF := hide hfs
      have hfb : f0 + pn ≤ 1000000 := by omega
      clear hfs hpk hc hfl
      go_wp2
      go_round
      case rel => exact ⟨k + 1, by omega, by go_num, by rw [HF.out]; go_num⟩
      case measure => simp [intOf]; omega
    · obtain rfl : k = L.length := by omega
      rw [List.take_length]
      go_wp2_with fail
      refine (sgrow_any _ w hlen).mono ?_
      rintro e w1 ⟨v, rfl, hown, hbel⟩
      obtain ⟨a1, c1, rfl⟩ := slice_form hown
      go_wp2
      go_loopw [6, 27] (fun s i wr => ∃ k : Nat, ∃ a' c', k ≤ L.length ∧ i = .int .i64 k ∧ s = .slice a' (sflat (L.take k)).length c' ∧
          wr.ownsRow w.heap.size 9 1 (.slice a' (sflat (L.take k)).length c') (sflat (L.take k)).length ((sflat (L.take k)).map Value.string) ∧ Below w.heap.size w wr)
        (fun _ i _ => L.length - (intOf i).toNat)
      case atStart => exact ⟨0, a1, c1, Nat.zero_le _, rfl, rfl, hown, hbel⟩
      case round =>
        clear hown hbel
        obtain ⟨k, a', c', hk, rfl, rfl, hown, hbel⟩ := hrel
        by_cases hlt : k < L.length
        · obtain ⟨p, hpk⟩ : ∃ p, L[k]? = some p := ⟨L[k], List.getElem?_eq_getElem hlt⟩
          obtain ⟨b, off, rfl, hbl, hc⟩ := (HPT.out.below hbel (Nat.le_refl _)).cells (by intro e; rw [e] at hlt; simp at hlt)
          obtain ⟨hrow, hnil⟩ := (HPT.out.below hbel (Nat.le_refl _)).rows p (List.mem_of_getElem? hpk)
          have cx := hc k p hpk
          have hfs := sflat_snoc L k p hpk
          have hfl := sflat_le L (k + 1)
          rw [hfs, List.length_append] at hfl
          unfold SPart.v at cx
          obtain ⟨pa, pxs, pc⟩ := p
          simp only at cx hfs hfl hrow hnil
          have HF := hide hfs
          have HO := hide hown
          generalize sflat (L.take k) = f0 at *
          have hfb : f0.length + pxs.length ≤ 1000000 := by omega
          clear hfs hpk hc hfl hown
          cases pa with
          | none =>
            obtain rfl := srow_none hrow
            obtain rfl := hnil rfl
            clear hrow hnil
            go_wp2_with (at_builtin; refine wpList_append_own_none rfl _ _ 63 rfl w.heap.size 9 i0 1 Tryz.underlying63 hi _ _ _ rfl HO.out rfl ?_)
            go_roundw
            case rel => exact ⟨k + 1, a', c', by omega, by go_num, by rw [HF.out]; simp, by rw [HF.out]; simpa using HO.out, hbel⟩
            case measure => simp [intOf]; omega
          | some ad =>
            clear hnil
            have hcl := srow_cells hrow
            have HC := hide hcl
            clear hcl hrow
            go_wp2_with (at_builtin; refine wpList_append_own _ rfl _ _ 63 rfl w.heap.size 9 i0 (.string ⟨#[]⟩) 1 16 Tryz.underlying63 hi hz0 hz1 hz2 rfl (by decide) _ _ _ rfl HO.out ad pxs.length pc (pxs.map Value.string) rfl (by simp) HC.out (strs_one _) (by unfold maxLen; omega) (by omega) hbel.size ?_)
            intro v' w2 hown2 hgrow _
            obtain ⟨a2, c2, rfl⟩ := slice_form hown2
            have hbel2 : Below w.heap.size w w2 := hbel.grown hgrow hbel.size (fun j e => (HO.out.lt j e).1)
            have O2 := hide hown2
            have B2 := hide hbel2
            clear hown2 hbel2 hgrow
            go_wp2
            go_roundw
            case rel => exact ⟨k + 1, a2, c2, by omega, by go_num, by rw [HF.out]; simp, by rw [HF.out]; simpa using O2.out, B2.out⟩
            case measure => simp [intOf]; omega
        · obtain rfl : k = L.length := by omega
          rw [List.take_length] at hown ⊢
          go_wp2
          go_ret
          exact ⟨a', c', rfl, hown, hbel⟩

end Go.Proofs.YtinmlndimgengaaGreatDoor
