/- Tables: find, Len: [hearth/api.Addr, hearth/neigh.host]. -/
import Derived.Test.YtbibobjkclgogaaDF
namespace Go.Proofs.Ytbibobjkclgogaa.D
open Go.RowKit Go.Deep
open Go.Proofs.Ytbibobjkclgogaa
set_option linter.unusedVariables false
set_option linter.unusedSimpArgs false
set_option maxRecDepth 100000
theorem TabAt.drewN {w : World} {t : Nat} {most : Int} {fv : Value} {root : Option Addr} (h : TabAt w t most fv root) (n : Nat) : TabAt (w.drewN n) t most fv root := h
/-- The node of a key. -/
def findT (τ : Int → Int) (k : Int) : BT KV → BT KV
  | .nil => .nil
  | .node b o a l r => if τ k < τ a.1 then findT τ k l else if τ k = τ a.1 then .node b o a l r else findT τ k r
theorem way_lt0 {t b : Nat} {most : Int} {fv : Value} {root : Option Addr} {τ : Int → Int} {a : KV} {l r : BT KV} {k : Int} {w : World} (hT : TabAt w t most fv root) (hF : OrdF fv τ) (h : TIn w (.node b 0 a l r)) (hk : τ k < τ a.1) :
    Calls Try.prog 61 #[.pointer (some ⟨t, 0, none⟩), .int .u32 k, .pointer (some ⟨b, 0, none⟩)] w fun e w' => (e = .returned (.tuple #[.int .i64 0, .bool false])) ∧ ∃ n, w' = w.drewN n := by
  have h1 := way_any t b most fv root τ a l r k w hT hF h
  rw [if_pos hk, decide_eq_false (by omega)] at h1
  exact h1
theorem way_gt0 {t b : Nat} {most : Int} {fv : Value} {root : Option Addr} {τ : Int → Int} {a : KV} {l r : BT KV} {k : Int} {w : World} (hT : TabAt w t most fv root) (hF : OrdF fv τ) (h : TIn w (.node b 0 a l r)) (hk : τ a.1 < τ k) :
    Calls Try.prog 61 #[.pointer (some ⟨t, 0, none⟩), .int .u32 k, .pointer (some ⟨b, 0, none⟩)] w fun e w' => (e = .returned (.tuple #[.int .i64 1, .bool false])) ∧ ∃ n, w' = w.drewN n := by
  have h1 := way_any t b most fv root τ a l r k w hT hF h
  rw [if_neg (by omega), decide_eq_false (by omega)] at h1
  exact h1
theorem way_eq0 {t b : Nat} {most : Int} {fv : Value} {root : Option Addr} {τ : Int → Int} {a : KV} {l r : BT KV} {k : Int} {w : World} (hT : TabAt w t most fv root) (hF : OrdF fv τ) (h : TIn w (.node b 0 a l r)) (hk : τ k = τ a.1) :
    Calls Try.prog 61 #[.pointer (some ⟨t, 0, none⟩), .int .u32 k, .pointer (some ⟨b, 0, none⟩)] w fun e w' => (e = .returned (.tuple #[.int .i64 1, .bool true])) ∧ ∃ n, w' = w.drewN n := by
  have h1 := way_any t b most fv root τ a l r k w hT hF h
  rw [if_neg (by omega), decide_eq_true hk] at h1
  exact h1
def FindAns0 (τ : Int → Int) (k : Int) (T : BT KV) (w : World) (e : Ending) (w' : World) : Prop := e = .returned (.pointer (ad (findT τ k T))) ∧ ∃ n, w' = w.drewN n
theorem findT_spec {τ : Int → Int} {k : Int} {w : World} : ∀ {T : BT KV}, TIn w T → Asc τ (toL T) → (findT τ k T = .nil ∧ hasL τ k (toL T) = false) ∨ ∃ b a l r, findT τ k T = .node b 0 a l r ∧ TIn w (.node b 0 a l r) ∧ hasL τ k (toL T) = true ∧ getL τ k (toL T) = some a.2
  | .nil, _, _ => .inl ⟨rfl, rfl⟩
  | .node b o a l r, h, ha => by
    obtain rfl := h.1
    have hm := asc_mid.1 ha
    have hd : toL (.node b 0 a l r) = toL l ++ a :: toL r := rfl
    rw [hd]
    unfold findT
    rcases Int.lt_trichotomy (τ k) (τ a.1) with hk | hk | hk
    · rw [if_pos hk, has_left hk hm.2.2.2, get_left hk hm.2.2.2]
      exact findT_spec h.2.2.1 hm.1
    · rw [if_neg (by omega), if_pos hk]
      exact .inr ⟨b, a, l, r, rfl, h, has_here hk, get_here hk hm.2.2.1⟩
    · rw [if_neg (by omega), if_neg (by omega), has_right hk hm.2.2.1, get_right hk hm.2.2.1]
      exact findT_spec h.2.2.2 hm.2.1
set_option maxHeartbeats 1600000 in
theorem find_any0 (t : Nat) (most : Int) (fv : Value) (τ : Int → Int) (T : BT KV) (k : Int) (w : World) (hT : TabAt w t most fv (ad T)) (hF : OrdF fv τ) (h : TIn w T) (ha : Asc τ (toL T)) :
    Calls Try.prog 50 #[.pointer (some ⟨t, 0, none⟩), .int .u32 k] w (FindAns0 τ k T w) := by
  obtain ⟨t0, t1, t2, tf⟩ := three_cells hT
  have HTT0 := hide hT
  have HT0 := hide h
  have HA0 := hide ha
  clear hT h ha t0 t1 tf
  go_enter Try.func50, Try.ntmps50
  go_wp2_with fail
  clear t2
  go_loopg [5] (nsz T) (fun gk p wz => ∃ T', p = .pointer (ad T') ∧ nsz T' = gk ∧ Hid (∃ n, wz = w.drewN n) ∧ Hid (TabAt wz t most fv (ad T)) ∧ Hid (TIn wz T') ∧ Hid (Asc τ (toL T')) ∧ Hid (findT τ k T' = findT τ k T))
  case atStart => exact ⟨T, rfl, rfl, hide ⟨0, rfl⟩, HTT0, HT0, HA0, hide rfl⟩
  case round =>
    clear HTT0 HT0 HA0
    obtain ⟨T', rfl, rfl, HQ, HTT, HT, HA, HH⟩ := hrel
    cases T' with
    | nil =>
      have had : ad .nil = none := rfl
      rw [had]
      go_wp2_with fail
      go_ret
      exact ⟨by rw [← HH.out]; rfl, HQ.out⟩
    | node b o a l r =>
      obtain rfl := HT.out.1
      rw [show ad (.node b 0 a l r) = some ⟨b, 0, none⟩ from rfl]
      have ha := asc_mid.1 HA.out
      have HAA := hide ha
      clear ha
      rcases Int.lt_trichotomy (τ k) (τ a.1) with hk | hk | hk
      · have HW := hide (way_lt0 HTT.out hF HT.out hk)
        have HF0 := hide (show findT τ k l = findT τ k (.node b 0 a l r) by rw [findT]; rw [if_pos hk])
        go_wp2_with fail
        refine HW.out.mono ?_
        rintro e w2 ⟨rfl, m, hm⟩
        subst hm
        have HT2 := hide (TIn.keep (NK.drewN wr m) HT.out)
        obtain ⟨_, _, _, _, _, _, _, _, _, c3, c4, cf⟩ := five_cells HT2.out.2.1
        have HQ2 := hide (show ∃ n, wr.drewN m = w.drewN n by obtain ⟨n, hn⟩ := HQ.out; exact ⟨n + m, by rw [hn, World.drewN_drewN]⟩)
        clear HW
        go_wp2_with fail
        go_roundg (nsz l)
        case rel => exact ⟨l, rfl, rfl, HQ2, HTT, hide HT2.out.2.2.1, hide HAA.out.1, hide (HF0.out.trans HH.out)⟩
        case measure => rw [nsz_node]; omega
      · have HW := hide (way_eq0 HTT.out hF HT.out hk)
        have HE := hide (show findT τ k (.node b 0 a l r) = .node b 0 a l r by rw [findT, if_neg (by omega), if_pos hk])
        clear hk
        go_wp2_with fail
        refine HW.out.mono ?_
        rintro e w2 ⟨rfl, m, hm⟩
        subst hm
        have HT2 := hide (TIn.keep (NK.drewN wr m) HT.out)
        have HQ2 := hide (show ∃ n, wr.drewN m = w.drewN n by obtain ⟨n, hn⟩ := HQ.out; exact ⟨n + m, by rw [hn, World.drewN_drewN]⟩)
        clear HW
        go_wp2_with fail
        go_ret
        exact ⟨by rw [← HH.out, HE.out]; rfl, HQ2.out⟩
      · have HW := hide (way_gt0 HTT.out hF HT.out hk)
        have HF0 := hide (show findT τ k r = findT τ k (.node b 0 a l r) by rw [findT]; rw [if_neg (by omega), if_neg (by omega)])
        go_wp2_with fail
        refine HW.out.mono ?_
        rintro e w2 ⟨rfl, m, hm⟩
        subst hm
        have HT2 := hide (TIn.keep (NK.drewN wr m) HT.out)
        obtain ⟨_, _, _, _, _, _, _, _, _, c3, c4, cf⟩ := five_cells HT2.out.2.1
        have HQ2 := hide (show ∃ n, wr.drewN m = w.drewN n by obtain ⟨n, hn⟩ := HQ.out; exact ⟨n + m, by rw [hn, World.drewN_drewN]⟩)
        clear HW
        go_wp2_with fail
        go_roundg (nsz r)
        case rel => exact ⟨r, rfl, rfl, HQ2, HTT, hide HT2.out.2.2.2, hide HAA.out.2.1, hide (HF0.out.trans HH.out)⟩
        case measure => rw [nsz_node]; omega

theorem TabAt.below {w w' : World} {t : Nat} {most : Int} {fv : Value} {root : Option Addr} (h : TabAt w t most fv root) (hb : Below w.heap.size w w') : TabAt w' t most fv root := below_block hb h (Nat.le_refl _)
def FindAns (τ : Int → Int) (k : Int) (T : BT KV) (w : World) (e : Ending) (w' : World) : Prop := e = .returned (.pointer (ad (findT τ k T))) ∧ Below w.heap.size w w'
theorem find_any (t : Nat) (most : Int) (fv : Value) (τ : Int → Int) (T : BT KV) (k : Int) (w : World) (hT : TabAt w t most fv (ad T)) (hF : OrdF fv τ) (h : TIn w T) (ha : Asc τ (toL T)) :
    Calls Try.prog 50 #[.pointer (some ⟨t, 0, none⟩), .int .u32 k] w (FindAns τ k T w) :=
  (find_any0 t most fv τ T k w hT hF h ha).mono fun e w' ⟨h1, n, h2⟩ => ⟨h1, by rw [h2]; exact bdrewN (Below.refl _ _) n⟩
theorem way_lt {t b : Nat} {most : Int} {fv : Value} {root : Option Addr} {τ : Int → Int} {a : KV} {l r : BT KV} {k : Int} {w : World} (hT : TabAt w t most fv root) (hF : OrdF fv τ) (h : TIn w (.node b 0 a l r)) (hk : τ k < τ a.1) :
    Calls Try.prog 61 #[.pointer (some ⟨t, 0, none⟩), .int .u32 k, .pointer (some ⟨b, 0, none⟩)] w fun e w' => (e = .returned (.tuple #[.int .i64 0, .bool false])) ∧ Below w.heap.size w w' :=
  (way_lt0 hT hF h hk).mono fun e w' ⟨h1, n, h2⟩ => ⟨h1, by rw [h2]; exact bdrewN (Below.refl _ _) n⟩
theorem way_gt {t b : Nat} {most : Int} {fv : Value} {root : Option Addr} {τ : Int → Int} {a : KV} {l r : BT KV} {k : Int} {w : World} (hT : TabAt w t most fv root) (hF : OrdF fv τ) (h : TIn w (.node b 0 a l r)) (hk : τ a.1 < τ k) :
    Calls Try.prog 61 #[.pointer (some ⟨t, 0, none⟩), .int .u32 k, .pointer (some ⟨b, 0, none⟩)] w fun e w' => (e = .returned (.tuple #[.int .i64 1, .bool false])) ∧ Below w.heap.size w w' :=
  (way_gt0 hT hF h hk).mono fun e w' ⟨h1, n, h2⟩ => ⟨h1, by rw [h2]; exact bdrewN (Below.refl _ _) n⟩
theorem way_eq {t b : Nat} {most : Int} {fv : Value} {root : Option Addr} {τ : Int → Int} {a : KV} {l r : BT KV} {k : Int} {w : World} (hT : TabAt w t most fv root) (hF : OrdF fv τ) (h : TIn w (.node b 0 a l r)) (hk : τ k = τ a.1) :
    Calls Try.prog 61 #[.pointer (some ⟨t, 0, none⟩), .int .u32 k, .pointer (some ⟨b, 0, none⟩)] w fun e w' => (e = .returned (.tuple #[.int .i64 1, .bool true])) ∧ Below w.heap.size w w' :=
  (way_eq0 hT hF h hk).mono fun e w' ⟨h1, n, h2⟩ => ⟨h1, by rw [h2]; exact bdrewN (Below.refl _ _) n⟩
set_option maxHeartbeats 800000 in
theorem lenT_any (t : Nat) (most : Int) (fv : Value) (T : BT KV) (w : World) (hT : TabAt w t most fv (ad T)) (h : TIn w T) :
    Calls Try.prog 30 #[.pointer (some ⟨t, 0, none⟩)] w fun e w' => e = .returned (.int .i64 (nsz T : Int)) ∧ w = w' := by
  obtain ⟨t0, t1, t2, tf⟩ := three_cells hT
  have HL := hide (len_any T w h)
  clear hT h t0 t1 tf
  go_enter Try.func30, Try.ntmps30
  go_wp2_with fail
  refine HL.out.mono ?_
  rintro e w1 ⟨rfl, rfl⟩
  clear HL
  go_wp2
  go_ret
  exact ⟨rfl, rfl⟩
end Go.Proofs.Ytbibobjkclgogaa.D
