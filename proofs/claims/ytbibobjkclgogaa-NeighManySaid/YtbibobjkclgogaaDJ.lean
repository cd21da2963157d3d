/- Tables: the node at a place: [hearth/api.Addr, hearth/neigh.host]. -/
import Derived.Test.YtbibobjkclgogaaDI
namespace Go.Proofs.Ytbibobjkclgogaa.D
open Go.RowKit Go.Deep
open Go.Proofs.Ytbibobjkclgogaa
set_option linter.unusedVariables false
set_option linter.unusedSimpArgs false
set_option maxRecDepth 100000
/-- The node at a place. -/
def atT : BT KV → Int → BT KV
  | .nil, _ => .nil
  | .node b o a l r, i => if i < (nsz l : Int) then atT l i else if (nsz l : Int) < i then atT r (i - (nsz l : Int) - 1) else .node b o a l r
theorem atT_spec {w : World} : ∀ {T : BT KV} (i : Int), TIn w T → (atT T i = .nil ∧ (i < 0 ∨ (nsz T : Int) ≤ i)) ∨ ∃ b a l r, atT T i = .node b 0 a l r ∧ TIn w (.node b 0 a l r) ∧ 0 ≤ i ∧ (toL T)[i.toNat]? = some a
  | .nil, i, _ => .inl ⟨rfl, by simp [nsz, toL]; omega⟩
  | .node b o a l r, i, h => by
    obtain rfl := h.1
    have hsz := nsz_node b 0 a l r
    have hd : toL (.node b 0 a l r) = toL l ++ a :: toL r := rfl
    have hll : (toL l).length = nsz l := rfl
    unfold atT
    by_cases h1 : i < (nsz l : Int)
    · rw [if_pos h1]
      rcases atT_spec i h.2.2.1 with ⟨e1, e2⟩ | ⟨b', a', l', r', e1, e2, e3, e4⟩
      · refine .inl ⟨e1, ?_⟩; omega
      · refine .inr ⟨b', a', l', r', e1, e2, e3, ?_⟩
        rw [hd, List.getElem?_append_left (by omega)]
        exact e4
    · rw [if_neg h1]
      by_cases h2 : (nsz l : Int) < i
      · rw [if_pos h2]
        rcases atT_spec (i - (nsz l : Int) - 1) h.2.2.2 with ⟨e1, e2⟩ | ⟨b', a', l', r', e1, e2, e3, e4⟩
        · refine .inl ⟨e1, ?_⟩; omega
        · refine .inr ⟨b', a', l', r', e1, e2, by omega, ?_⟩
          rw [hd, List.getElem?_append_right (by omega), hll, show i.toNat - nsz l = (i - (nsz l : Int) - 1).toNat + 1 by omega, List.getElem?_cons_succ]
          exact e4
      · rw [if_neg h2]
        refine .inr ⟨b, a, l, r, rfl, h, by omega, ?_⟩
        rw [hd, List.getElem?_append_right (by omega), hll, show i.toNat - nsz l = 0 by omega]
        rfl

set_option maxHeartbeats 1600000 in
theorem at_any (T : BT KV) (i : Int) (w : World) (h : TIn w T) (hn : nsz T ≤ 1000000) (hi0 : -9223372036854775808 ≤ i) (hi1 : i ≤ 9223372036854775807) :
    Calls Try.prog 65 #[.pointer (ad T), .int .i64 i] w fun e w' => e = .returned (.pointer (ad (atT T i))) ∧ w = w' := by
  have HT0 := hide h
  clear h
  go_enter Try.func65, Try.ntmps65
  go_wp2_with fail
  go_loopg [0, 1] (nsz T) (fun gk p ix wz => ∃ T' i', p = .pointer (ad T') ∧ ix = .int .i64 i' ∧ nsz T' = gk ∧ wz = w ∧ nsz T' ≤ 1000000 ∧ -9223372036854775808 ≤ i' ∧ i' ≤ 9223372036854775807 ∧ Hid (TIn w T') ∧ Hid (atT T' i' = atT T i))
  case atStart => exact ⟨T, i, rfl, rfl, rfl, rfl, hn, hi0, hi1, HT0, hide rfl⟩
  case round =>
    clear HT0
    obtain ⟨T', i', rfl, rfl, rfl, rfl, hn', hj0, hj1, HT, HH⟩ := hrel
    cases T' with
    | nil =>
      rw [show ad .nil = none from rfl]
      go_wp2_with fail
      go_ret
      exact ⟨by rw [← HH.out]; rfl, rfl⟩
    | node b o a l r =>
      obtain rfl := HT.out.1
      rw [show ad (.node b 0 a l r) = some ⟨b, 0, none⟩ from rfl]
      have hsz := nsz_node b 0 a l r
      have hl0 : nsz l + nsz r ≤ 999999 := by omega
      have HSZ := hide hsz
      obtain ⟨_, _, _, _, _, _, _, _, _, c3, c4, cf⟩ := five_cells HT.out.2.1
      have HLN := hide (len_any l wr HT.out.2.2.1)
      clear hsz hn'
      by_cases h1 : i' < (nsz l : Int)
      · have hd1 : decide (i' < (nsz l : Int)) = true := by simpa using h1
        have HA := hide (show atT (.node b 0 a l r) i' = atT l i' by rw [atT, if_pos h1])
        go_wp2_with fail
        refine HLN.out.mono ?_
        rintro e w2 ⟨rfl, rfl⟩
        clear HLN
        go_wp2_with fail
        go_roundg (nsz l)
        case rel => exact ⟨l, i', rfl, rfl, rfl, rfl, by omega, hj0, hj1, hide HT.out.2.2.1, hide (HA.out.symm.trans HH.out)⟩
        case measure => have := HSZ.out; omega
      · have hd1 : decide (i' < (nsz l : Int)) = false := by simpa using h1
        by_cases h2 : (nsz l : Int) < i'
        · have hd2 : decide ((nsz l : Int) < i') = true := by simpa using h2
          have HA := hide (show atT (.node b 0 a l r) i' = atT r (i' - (nsz l : Int) - 1) by rw [atT, if_neg h1, if_pos h2])
          go_wp2_with fail
          refine HLN.out.mono ?_
          rintro e w2 ⟨rfl, rfl⟩
          clear HLN
          go_wp2_with fail
          go_roundg (nsz r)
          case rel => exact ⟨r, i' - (nsz l : Int) - 1, rfl, by go_num, rfl, rfl, by omega, by omega, by omega, hide HT.out.2.2.2, hide (HA.out.symm.trans HH.out)⟩
          case measure => have := HSZ.out; omega
        · have hd2 : decide ((nsz l : Int) < i') = false := by simpa using h2
          have HA := hide (show atT (.node b 0 a l r) i' = .node b 0 a l r by rw [atT, if_neg h1, if_neg h2])
          go_wp2_with fail
          refine HLN.out.mono ?_
          rintro e w2 ⟨rfl, rfl⟩
          clear HLN
          go_wp2_with fail
          go_ret
          exact ⟨by rw [← HH.out, HA.out]; rfl, rfl⟩
end Go.Proofs.Ytbibobjkclgogaa.D
