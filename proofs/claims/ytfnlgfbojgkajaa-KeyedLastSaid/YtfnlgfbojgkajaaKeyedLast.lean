/- The law that a key's last value is its value, walked. -/
import Derived.Test.YtfnlgfbojgkajaaKM
import Derived.Test.YtfnlgfbojgkajaaKO
namespace Go.Proofs.Ytfnlgfbojgkajaa
open Go.RowKit Go.Deep
set_option linter.unusedVariables false
set_option linter.unusedSimpArgs false
set_option maxRecDepth 100000
set_option maxHeartbeats 800000 in
theorem klast_long (w : World) (a : Option Addr) (ops : List Op3) (n cap : Nat) (k v : Int) (hO : OpsAt w a ops) (hl : ops.length = n) (hn : n ≤ 9223372036854775807) (h : 200 < n) :
    Calls Try.prog 6 #[.slice a n cap, .int .i64 k, .int .i64 v] w fun e w' => e = .returned (.bool true) ∧ Below w.heap.size w w' := by
  clear hO hl
  go_enter Try.func6, Try.ntmps6
  go_wp2_with fail
  refine (speaks6_any _).mono ?_
  rintro e w1 ⟨rfl, b1⟩
  go_wp2
  go_ret
  exact ⟨rfl, b1⟩
set_option maxHeartbeats 2000000 in
theorem klast_main (w : World) (a : Option Addr) (ops : List Op3) (n cap : Nat) (k v : Int) (hO : OpsAt w a ops) (hl : ops.length = n) (hn : n ≤ 9223372036854775807) (h : n ≤ 200) :
    Calls Try.prog 6 #[.slice a n cap, .int .i64 k, .int .i64 v] w fun e w' => e = .returned (.bool true) ∧ Below w.heap.size w w' := by
  have HO := hide hO
  have HL := hide hl
  clear hO hl hn
  go_enter Try.func6, Try.ntmps6
  go_wp2_with fail
  refine (speaks6_any _).mono ?_
  rintro e w1 ⟨rfl, b1⟩
  have HB1 := hide b1
  have HN := hide (newL 300 (by omega) (.func (.func 10) #[] #[]) id w1 o_ord)
  clear b1
  go_wp2_with fail
  refine HN.out.mono ?_
  rintro e w2 ⟨rfl, h2, b2⟩
  rw [show ((300 : Nat) : Int) = 300 from rfl] at h2
  obtain ⟨t, ht⟩ : ∃ t, w1.heap.size = t := ⟨_, rfl⟩
  rw [ht] at h2
  try rw [ht]
  have hwt : w.heap.size ≤ t := by rw [← ht]; exact HB1.out.size
  have HB2 := hide (HB1.out.trans (b2.mono HB1.out.size))
  have HP := hide (PutL h2 o_ord k 5 (by simp) (.inr (by simp)))
  clear HN h2 b2 ht HB1
  go_wp2_with fail
  refine HP.out.mono ?_
  rintro e w3 ⟨rfl, h3, g3⟩
  rw [show insL id k 5 [] = [(k, 5)] from rfl] at h3
  have hb3 := HB2.out.grown g3 HB2.out.size (fun j e => by cases e; exact hwt)
  have HS := hide (show Tab w3 t 300 (.func (.func 10) #[] #[]) id [(k, 5)] ∧ hasL id k [(k, 5)] = true ∧ getL id k [(k, 5)] = 5 ∧ [((k, 5) : KV)].length ≤ 1 + 0 from ⟨h3, by simp [hasL], by simp [getL], by simp⟩)
  clear HP h3 g3 HB2
  go_wp2_with fail
  go_loopw [8, 29] (fun c i wz => ∃ (j cnt : Nat) (L : List KV), j ≤ n ∧ cnt ≤ j ∧ c = .int .i64 cnt ∧ i = .int .i64 j ∧ Hid (Tab wz t 300 (.func (.func 10) #[] #[]) id L ∧ hasL id k L = true ∧ getL id k L = 5 ∧ L.length ≤ 1 + cnt) ∧ Below w.heap.size w wz) (fun _ i _ => n - (intOf i).toNat)
  case atStart => exact ⟨0, 0, _, Nat.zero_le _, Nat.le_refl _, rfl, rfl, HS, hb3⟩
  case round =>
    clear HS hb3
    obtain ⟨j, cnt, L, hj, hc, rfl, rfl, HS, hbz⟩ := hrel
    by_cases hlt : j < n
    · obtain ⟨o, ho⟩ : ∃ o, ops[j]? = some o := ⟨ops[j]'(by rw [HL.out]; exact hlt), List.getElem?_eq_getElem _⟩
      obtain ⟨b, off, rfl, hbl, hcell⟩ := HO.out (by intro e; subst e; simp at ho)
      have hbw : b < wr.heap.size := Nat.lt_of_lt_of_le hbl hbz.size
      obtain ⟨p0, p1, p2⟩ := hcell j o ho
      have c0 := (hbz.cell (p := ⟨b, off + j * 3, none⟩) hbl).trans p0
      have c1 := (hbz.cell (p := ⟨b, off + j * 3 + 1, none⟩) hbl).trans p1
      have c2 := (hbz.cell (p := ⟨b, off + j * 3 + 2, none⟩) hbl).trans p2
      clear hcell p0 p1 p2 ho
      obtain ⟨o0, o1, o2⟩ := o
      simp only at c0 c1 c2
      have hba := hbz.alloc hbz.size (.cells #[.int .i64 o0, .int .i64 o1, .int .i64 o2] 30)
      have HBA := hide hba
      have HST := hide (HS.out.1.below (w' := wr.alloc (.cells #[.int .i64 o0, .int .i64 o1, .int .i64 o2] 30)) ((Below.refl wr.heap.size wr).alloc (Nat.le_refl _) _) (Nat.le_refl _))
      have HBZ := hide hbz
      clear hba hbz
      by_cases hk : o1 = k
      · have hd : (o1 != k) = false := by simp [hk]
        clear hk
        go_wp2_with fail
        go_roundw
        case rel => exact ⟨j + 1, cnt, L, by omega, by omega, rfl, by go_num, hide ⟨HST.out, HS.out.2⟩, HBA.out⟩
        case measure => simp [intOf]; omega
      · have hd : (o1 != k) = true := by simp [hk]
        have HK := hide (show id k ≠ id o1 from fun e => hk e.symm)
        have HP := hide (PutL HST.out o_ord o1 o2 (by have := HS.out.2.2.2; omega) (.inr (by have := HS.out.2.2.2; omega)))
        clear hk
        go_wp2_with fail
        refine HP.out.mono ?_
        rintro e w5 ⟨rfl, h5, g5⟩
        have hb5 := HBA.out.grown g5 HBA.out.size (fun j e => by cases e; exact hwt)
        have hle : (insL id o1 o2 L).length ≤ 1 + (cnt + 1) := by have := ins_le (τ := id) (k := o1) (v := o2) L; have := HS.out.2.2.2; omega
        have H5 := hide (show Tab w5 t 300 (.func (.func 10) #[] #[]) id (insL id o1 o2 L) ∧ hasL id k (insL id o1 o2 L) = true ∧ getL id k (insL id o1 o2 L) = 5 ∧ (insL id o1 o2 L).length ≤ 1 + (cnt + 1) from ⟨h5, by rw [has_ins_ne HK.out]; exact HS.out.2.1, by rw [get_ins_ne HK.out]; exact HS.out.2.2.1, hle⟩)
        clear HP h5 g5 hle c0 c1 c2
        go_wp2_with fail
        go_roundw
        case rel => exact ⟨j + 1, cnt + 1, insL id o1 o2 L, by omega, by omega, by go_num, by go_num, H5, hb5⟩
        case measure => simp [intOf]; omega
    · obtain ⟨wb, rfl⟩ : ∃ wb, wb = wr := ⟨_, rfl⟩
      have HBZ := hide hbz
      have hg := GetL HS.out.1 o_ord k
      rw [HS.out.2.1, HS.out.2.2.1] at hg
      have HG := hide hg
      have HLE := hide HS.out.2.2.2
      have hcn : cnt ≤ 200 := by omega
      have HHAS := hide HS.out.2.1
      have HAS := hide HS.out.1.asc
      clear hg hbz HS
      go_wp2_with fail
      refine HG.out.mono ?_
      rintro e w5 ⟨rfl, h5, g5⟩
      have HP := hide (PutL h5 o_ord k v (by have := HLE.out; omega) (.inl HHAS.out))
      have HB5 := hide (HBZ.out.grown g5 HBZ.out.size (fun j e => by cases e; exact hwt))
      clear HG h5 g5 HBZ
      go_wp2_with fail
      refine HP.out.mono ?_
      rintro e w6 ⟨rfl, h6, g6⟩
      have hg2 := GetL h6 o_ord k
      rw [has_ins, get_ins HAS.out] at hg2
      have HG2 := hide hg2
      have hl1 : (insL id k v L).length = L.length := by rw [ins_len HAS.out, if_pos HHAS.out]
      have HL1 := hide hl1
      have HB6 := hide (HB5.out.grown g6 HB5.out.size (fun j e => by cases e; exact hwt))
      clear HP h6 g6 HB5 hg2 hl1
      go_wp2_with fail
      refine HG2.out.mono ?_
      rintro e w7 ⟨rfl, h7, g7⟩
      have hd1 := DropL h7 o_ord k (by have := HL1.out; have := HLE.out; omega)
      rw [has_ins] at hd1
      have HD1 := hide hd1
      have HB7 := hide (HB6.out.grown g7 HB6.out.size (fun j e => by cases e; exact hwt))
      clear HG2 h7 g7 HB6 hd1
      go_wp2_with fail
      refine HD1.out.mono ?_
      rintro e w8 ⟨rfl, h8, g8⟩
      have hlt8 := del_lt (has_ins (τ := id) (k := k) (v := v) L)
      have hd2 := DropL h8 o_ord k (by have := HL1.out; have := HLE.out; omega)
      rw [del_has] at hd2
      have HD2 := hide hd2
      have HLT := hide hlt8
      have HB8 := hide (HB7.out.grown g8 HB7.out.size (fun j e => by cases e; exact hwt))
      clear HD1 h8 g8 HB7 hd2 hlt8
      go_wp2_with fail
      refine HD2.out.mono ?_
      rintro e w9 ⟨rfl, h9, g9⟩
      have HLN := hide (LenL h9)
      have HB9 := hide (HB8.out.grown g9 HB8.out.size (fun j e => by cases e; exact hwt))
      have hle9 : (delL id k (delL id k (insL id k v L))).length ≤ cnt := by
        have q1 := del_le (τ := id) (k := k) (delL id k (insL id k v L))
        have q2 := HLT.out
        have q3 := HL1.out
        have q4 := HLE.out
        omega
      generalize (delL id k (delL id k (insL id k v L))).length = len at *
      have hdl : decide ((len : Int) ≤ (cnt : Int)) = true := by simp; omega
      clear HD2 h9 g9 HB8
      go_wp2_with fail
      refine HLN.out.mono ?_
      rintro e w10 ⟨rfl, rfl⟩
      clear HLN
      go_wp2
      go_ret
      exact ⟨rfl, HB9.out⟩
theorem keyedLast_any (w : World) (a : Option Addr) (ops : List Op3) (n cap : Nat) (k v : Int) (hO : OpsAt w a ops) (hl : ops.length = n) (hn : n ≤ 9223372036854775807) :
    Calls Try.prog 6 #[.slice a n cap, .int .i64 k, .int .i64 v] w fun e w' => e = .returned (.bool true) ∧ Below w.heap.size w w' := by
  by_cases h : 200 < n
  · exact klast_long w a ops n cap k v hO hl hn h
  · exact klast_main w a ops n cap k v hO hl hn (by omega)
end Go.Proofs.Ytfnlgfbojgkajaa
