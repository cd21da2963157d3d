/- Tables: drop and Drop: [hearth/api.Addr, hearth/neigh.host]. -/
import Derived.Test.YtbibobjkclgogaaDJ
namespace Go.Proofs.Ytbibobjkclgogaa.D
open Go.RowKit Go.Deep
open Go.Proofs.Ytbibobjkclgogaa
set_option linter.unusedVariables false
set_option linter.unusedSimpArgs false
set_option maxRecDepth 100000
theorem atT_le : ∀ (T : BT KV) (i : Int), nsz (atT T i) ≤ nsz T
  | .nil, i => Nat.le_refl _
  | .node b o a l r, i => by
    have h1 := atT_le l i
    have h2 := atT_le r (i - (nsz l : Int) - 1)
    have h3 := nsz_node b o a l r
    unfold atT
    split
    · omega
    · split
      · omega
      · omega
theorem nsz_toL (T : BT KV) : (toL T).length = nsz T := rfl
theorem node_of {w : World} {T : BT KV} (h : TIn w T) (hne : T ≠ .nil) : ∃ b a l r, T = .node b 0 a l r := by
  cases T with
  | nil => exact absurd rfl hne
  | node b o a l r => obtain rfl := h.1; exact ⟨b, a, l, r, rfl⟩

set_option maxHeartbeats 1600000 in
theorem tail_any : ∀ (T : BT KV) (w : World), TIn w T → T ≠ .nil → nsz T ≤ 700000 →
    Calls Try.prog 70 #[.pointer (ad T)] w (TreeAns w (toL T).tail) := by
  intro T
  induction T with
  | nil => intro w h hne; exact absurd rfl hne
  | node b o a l r ihl ihr =>
    intro w h hne hn
    obtain rfl := h.1
    rw [nsz_node] at hn
    show Calls Try.prog 70 #[.pointer (some ⟨b, 0, none⟩)] w _
    obtain ⟨_, _, _, _, _, _, _, _, _, c3, c4, cf⟩ := five_cells h.2.1
    cases l with
    | nil =>
      rw [show ad (BT.nil : BT KV) = none from rfl] at c3
      have HT := hide h
      clear h
      go_enter Try.func70, Try.ntmps70
      go_wp2
      go_ret
      exact ⟨r, rfl, HT.out.2.2.2, rfl, Below.refl _ _⟩
    | node c p al ll lr =>
      obtain rfl := h.2.2.1.1
      rw [show ad (.node c 0 al ll lr) = some ⟨c, 0, none⟩ from rfl] at c3
      have HT := hide h
      have HIH := hide (ihl w h.2.2.1 (by intro e; cases e) (by omega))
      clear h
      go_enter Try.func70, Try.ntmps70
      go_wp2_with fail
      refine HIH.out.mono ?_
      rintro e w3 ⟨T1, rfl, k1, k2, k3⟩
      have hsz : nsz T1 ≤ nsz (.node c 0 al ll lr) := by
        have := congrArg List.length k2
        rw [nsz_toL, List.length_tail, nsz_toL] at this
        omega
      have HWI := hide (with0_any b a (.node c 0 al ll lr) r T1 w3 (TIn.keep (NK.of_below k3 (Nat.le_refl _)) HT.out) k1 (by omega) (by omega))
      have HL := hide k2
      have HB3 := hide k3
      clear k1 k2 k3 HIH c3 c4 cf
      go_wp2_with fail
      refine HWI.out.mono ?_
      rintro e w4 ⟨b1, rfl, k4, k5⟩
      have HEV := hide (even_any b1 a T1 r w4 k4 (by omega))
      have HB4 := hide (HB3.out.trans (k5.mono HB3.out.size))
      clear k4 k5 HWI
      go_wp2_with fail
      refine HEV.out.mono ?_
      rintro e w5 ⟨T2, rfl, k6, k7, k8⟩
      have H6 := hide k6
      have H7 := hide k7
      have HB5 := hide (HB4.out.trans (k8.mono HB4.out.size))
      clear k6 k7 k8 HEV
      go_wp2
      go_ret
      refine ⟨T2, rfl, H6.out, ?_, HB5.out⟩
      rw [H7.out, HL.out]
      show _ = ((toL ll ++ al :: toL lr) ++ a :: toL r).tail
      rw [List.tail_append_of_ne_nil (by simp)]
      rfl

set_option maxHeartbeats 1600000 in
theorem rest_any (b : Nat) (a : KV) (l r : BT KV) (w : World) (h : TIn w (.node b 0 a l r)) (hn : nsz l + nsz r ≤ 700000) :
    Calls Try.prog 64 #[.pointer (some ⟨b, 0, none⟩)] w (TreeAns w (toL l ++ toL r)) := by
  obtain ⟨_, _, _, _, _, _, _, _, _, c3, c4, cf⟩ := five_cells h.2.1
  cases r with
  | nil =>
    rw [show ad (BT.nil : BT KV) = none from rfl] at c4
    have HT := hide h
    clear h
    go_enter Try.func64, Try.ntmps64
    go_wp2
    go_ret
    exact ⟨l, rfl, HT.out.2.2.1, by simp [toL], Below.refl _ _⟩
  | node c p ar rl rr =>
    obtain rfl := h.2.2.2.1
    have c4' := c4
    rw [show ad (.node c 0 ar rl rr) = some ⟨c, 0, none⟩ from rfl] at c4'
    have HT := hide h
    have hnc := nsz_node c 0 ar rl rr
    have HAT := hide (at_any (.node c 0 ar rl rr) 0 w h.2.2.2 (by omega) (by omega) (by omega))
    obtain ⟨d, x, dl, dr, hd, hx⟩ : ∃ d x dl dr, atT (.node c 0 ar rl rr) 0 = .node d 0 x dl dr ∧ (TIn w (.node d 0 x dl dr) ∧ (toL (.node c 0 ar rl rr))[0]? = some x) := by
      rcases atT_spec 0 h.2.2.2 with ⟨e1, e2⟩ | ⟨d, x, dl, dr, e1, e2, e3, e4⟩
      · omega
      · exact ⟨d, x, dl, dr, e1, e2, e4⟩
    have HD := hide hd
    have HX := hide hx
    have HLL := hide (show toL (.node c 0 ar rl rr) = x :: (toL (.node c 0 ar rl rr)).tail by
      have := hx.2
      cases hq : toL (.node c 0 ar rl rr) with
      | nil => rw [hq] at this; simp at this
      | cons y ys => rw [hq] at this; simp at this; rw [this]; rfl)
    have hdn : nsz l + (nsz dl + nsz dr) ≤ 700000 := by have h7 := atT_le (.node c 0 ar rl rr) 0; rw [hd, nsz_node] at h7; omega
    have HNC := hide hnc
    clear h hd hx hnc c4
    go_enter Try.func64, Try.ntmps64
    go_wp2_with fail
    refine HAT.out.mono ?_
    rintro e w1 ⟨rfl, rfl⟩
    rw [HD.out, show ad (.node d 0 x dl dr) = some ⟨d, 0, none⟩ from rfl]
    clear HAT
    go_wp2_with fail
    have HW1 := hide (with0_any d x dl dr l w.drew (TIn.keep (NK.of_below (Below.refl w.heap.size w).drew (Nat.le_refl _)) HX.out.1) (TIn.keep (NK.of_below (Below.refl w.heap.size w).drew (Nat.le_refl _)) HT.out.2.2.1) (by omega) (by omega))
    go_region_held3 (fun w' => w'.cell? ⟨b, 9, none⟩ = some (.pointer (ad l)) ∧ w'.cell? ⟨b, 10, none⟩ = some (.pointer (some ⟨c, 0, none⟩))) (go_keep) (first
      | (go_at_call 62; (with_reducible refine HW1.out.mono ?_); rintro e w2 ⟨b2, rfl, k1, k2⟩;
          have HB2 := hide ((Below.refl w.heap.size w).drew.trans k2); have HK := hide k1; have HT2 := hide (TIn.keep (NK.of_below HB2.out (Nat.le_refl _)) HT.out);
          obtain ⟨_, _, _, _, _, _, _, _, _, e3, e4, ef⟩ := five_cells HT2.out.2.1; rw [show ad (.node c 0 ar rl rr) = some ⟨c, 0, none⟩ from rfl] at e4;
          have HTL := hide (show Calls Try.prog 70 #[.pointer (some ⟨c, 0, none⟩)] w2 (TreeAns w2 (toL (.node c 0 ar rl rr)).tail) from tail_any (.node c 0 ar rl rr) w2 HT2.out.2.2.2 (by intro e; cases e) (by have := HNC.out; omega)); clear k1 k2 ef)
      | (go_at_call 70; (with_reducible refine HTL.out.mono ?_); rintro e w3 ⟨T1, rfl, k3, k4, k5⟩;
          have HB3 := hide (HB2.out.trans (k5.mono HB2.out.size)); have HK3 := hide k3; have HL3 := hide k4; have HT3 := hide (TIn.keep (NK.of_below HB3.out (Nat.le_refl _)) HT.out);
          obtain ⟨_, _, _, _, _, _, _, _, _, f3, f4, ff⟩ := five_cells HT3.out.2.1; rw [show ad (.node c 0 ar rl rr) = some ⟨c, 0, none⟩ from rfl] at f4;
          have hs1 : nsz T1 ≤ nsz (.node c 0 ar rl rr) := (by have h9 := congrArg List.length k4; rw [nsz_toL, List.length_tail, nsz_toL] at h9; omega);
          have HW2 := hide (with1_any b2 x l dr T1 w3 (TIn.keep (NK.of_below k5 (Nat.le_refl _)) HK.out) k3 (by omega) (by omega)); clear k3 k4 k5 ff)
      | (go_at_call 62; (with_reducible refine HW2.out.mono ?_); rintro e w4 ⟨b4, rfl, k6, k7⟩;
          have HB4 := hide (HB3.out.trans (k7.mono HB3.out.size)); have HT4 := hide (TIn.keep (NK.of_below HB4.out (Nat.le_refl _)) HT.out);
          obtain ⟨_, _, _, _, _, _, _, _, _, g3, g4, gf⟩ := five_cells HT4.out.2.1; rw [show ad (.node c 0 ar rl rr) = some ⟨c, 0, none⟩ from rfl] at g4;
          have HEV := hide (even_any b4 x l T1 w4 k6 (by omega)); clear k6 k7 gf)
      | (go_at_call 63; (with_reducible refine HEV.out.mono ?_); rintro e w5 ⟨T2, rfl, k8, k9, k10⟩;
          have HB5 := hide (HB4.out.trans (k10.mono HB4.out.size)); have HK5 := hide k8; have HL5 := hide k9; have HT5 := hide (TIn.keep (NK.of_below HB5.out (Nat.le_refl _)) HT.out);
          obtain ⟨_, _, _, _, _, _, _, _, _, i3, i4, gf⟩ := five_cells HT5.out.2.1; rw [show ad (.node c 0 ar rl rr) = some ⟨c, 0, none⟩ from rfl] at i4; clear k8 k9 k10 gf)
      | fail)
    all_goals
      go_wp2
      go_ret
      refine ⟨T2, rfl, HK5.out, ?_, HB5.out⟩
      rw [HL5.out, HL3.out]
      exact congrArg _ HLL.out.symm

set_option maxHeartbeats 1600000 in
theorem drop_any (t : Nat) (most : Int) (fv : Value) (root : Option Addr) (τ : Int → Int) (k : Int) (hF : OrdF fv τ) : ∀ (T : BT KV) (w : World), TabAt w t most fv root → TIn w T → Asc τ (toL T) → nsz T ≤ 700000 →
    Calls Try.prog 54 #[.pointer (some ⟨t, 0, none⟩), .pointer (ad T), .int .u32 k] w (TreeAns w (delL τ k (toL T))) := by
  intro T
  induction T with
  | nil =>
    intro w hT h ha hn
    show Calls Try.prog 54 #[.pointer (some ⟨t, 0, none⟩), .pointer none, .int .u32 k] w _
    clear hT h ha hn
    go_enter Try.func54, Try.ntmps54
    go_wp2_with fail
    go_ret
    exact ⟨.nil, rfl, trivial, rfl, Below.refl _ _⟩
  | node b o a l r ihl ihr =>
    intro w hT h ha hn
    obtain rfl := h.1
    rw [nsz_node] at hn
    show Calls Try.prog 54 #[.pointer (some ⟨t, 0, none⟩), .pointer (some ⟨b, 0, none⟩), .int .u32 k] w _
    have HAA := hide (asc_mid.1 ha)
    clear ha
    rcases Int.lt_trichotomy (τ k) (τ a.1) with hk | hk | hk
    · have HW := hide (way_lt0 hT hF h hk)
      have HIN := hide (show delL τ k (toL (.node b 0 a l r)) = delL τ k (toL l) ++ a :: toL r from del_left hk HAA.out.2.2.2)
      have HTT := hide hT
      have HT := hide h
      clear hT h hk
      go_enter Try.func54, Try.ntmps54
      go_wp2_with fail
      refine HW.out.mono ?_
      rintro e w1 ⟨rfl, m, hm⟩
      subst hm
      have HT1 := hide (TIn.keep (NK.drewN w m) HT.out)
      obtain ⟨_, _, _, _, _, _, _, _, _, c3, c4, cf⟩ := five_cells HT1.out.2.1
      have HIH := hide (ihl (w.drewN m) (HTT.out.drewN m) HT1.out.2.2.1 HAA.out.1 (by omega))
      clear HW
      go_wp2_with fail
      refine HIH.out.mono ?_
      rintro e w3 ⟨T1, rfl, k1, k2, k3⟩
      have hsz : nsz T1 ≤ nsz l := by unfold nsz; rw [k2]; exact del_le _
      have hb3 := (bdrewN (Below.refl w.heap.size w) m).trans k3
      have HWI := hide (with0_any b a l r T1 w3 (TIn.keep (NK.of_below k3 (Nat.le_refl _)) HT1.out) k1 (by omega) (by omega))
      have HL := hide k2
      have HB3 := hide hb3
      clear k1 k2 k3 hb3 HIH c3 c4 cf
      go_wp2_with fail
      refine HWI.out.mono ?_
      rintro e w4 ⟨b1, rfl, k4, k5⟩
      have HEV := hide (even_any b1 a T1 r w4 k4 (by omega))
      have HB4 := hide (HB3.out.trans (k5.mono HB3.out.size))
      clear k4 k5 HWI
      go_wp2_with fail
      refine HEV.out.mono ?_
      rintro e w5 ⟨T2, rfl, k6, k7, k8⟩
      have H6 := hide k6
      have H7 := hide k7
      have HB5 := hide (HB4.out.trans (k8.mono HB4.out.size))
      clear k6 k7 k8 HEV
      go_wp2
      go_ret
      exact ⟨T2, rfl, H6.out, by rw [H7.out, HIN.out, HL.out], HB5.out⟩
    · have HW := hide (way_eq0 hT hF h hk)
      have HIN := hide (show delL τ k (toL (.node b 0 a l r)) = toL l ++ toL r from del_here hk HAA.out.2.2.1 HAA.out.2.2.2)
      have HT := hide h
      clear hT h hk
      go_enter Try.func54, Try.ntmps54
      go_wp2_with fail
      refine HW.out.mono ?_
      rintro e w1 ⟨rfl, m, hm⟩
      subst hm
      have HR := hide (rest_any b a l r (w.drewN m) (TIn.keep (NK.drewN w m) HT.out) (by omega))
      clear HW
      go_wp2_with fail
      refine HR.out.mono ?_
      rintro e w3 ⟨T1, rfl, k1, k2, k3⟩
      have H1 := hide k1
      have H2 := hide k2
      have H3 := hide ((bdrewN (Below.refl w.heap.size w) m).trans k3)
      clear k1 k2 k3 HR
      go_wp2
      go_ret
      exact ⟨T1, rfl, H1.out, by rw [H2.out, HIN.out], H3.out⟩
    · have HW := hide (way_gt0 hT hF h hk)
      have HIN := hide (show delL τ k (toL (.node b 0 a l r)) = toL l ++ a :: delL τ k (toL r) from del_right hk HAA.out.2.2.1)
      have HTT := hide hT
      have HT := hide h
      clear hT h hk
      go_enter Try.func54, Try.ntmps54
      go_wp2_with fail
      refine HW.out.mono ?_
      rintro e w1 ⟨rfl, m, hm⟩
      subst hm
      have HT1 := hide (TIn.keep (NK.drewN w m) HT.out)
      obtain ⟨_, _, _, _, _, _, _, _, _, c3, c4, cf⟩ := five_cells HT1.out.2.1
      have HIH := hide (ihr (w.drewN m) (HTT.out.drewN m) HT1.out.2.2.2 HAA.out.2.1 (by omega))
      clear HW
      go_wp2_with fail
      refine HIH.out.mono ?_
      rintro e w3 ⟨T1, rfl, k1, k2, k3⟩
      have hsz : nsz T1 ≤ nsz r := by unfold nsz; rw [k2]; exact del_le _
      have hb3 := (bdrewN (Below.refl w.heap.size w) m).trans k3
      have HWI := hide (with1_any b a l r T1 w3 (TIn.keep (NK.of_below k3 (Nat.le_refl _)) HT1.out) k1 (by omega) (by omega))
      have HL := hide k2
      have HB3 := hide hb3
      clear k1 k2 k3 hb3 HIH c3 c4 cf
      go_wp2_with fail
      refine HWI.out.mono ?_
      rintro e w4 ⟨b1, rfl, k4, k5⟩
      have HEV := hide (even_any b1 a l T1 w4 k4 (by omega))
      have HB4 := hide (HB3.out.trans (k5.mono HB3.out.size))
      clear k4 k5 HWI
      go_wp2_with fail
      refine HEV.out.mono ?_
      rintro e w5 ⟨T2, rfl, k6, k7, k8⟩
      have H6 := hide k6
      have H7 := hide k7
      have HB5 := hide (HB4.out.trans (k8.mono HB4.out.size))
      clear k6 k7 k8 HEV
      go_wp2
      go_ret
      exact ⟨T2, rfl, H6.out, by rw [H7.out, HIN.out, HL.out], HB5.out⟩

set_option maxHeartbeats 1600000 in
theorem Drop_any (t : Nat) (most : Int) (fv : Value) (τ : Int → Int) (T : BT KV) (k : Int) (w : World) (hT : TabAt w t most fv (ad T)) (hF : OrdF fv τ) (h : TIn w T) (ha : Asc τ (toL T)) (hn : nsz T ≤ 700000) :
    Calls Try.prog 36 #[.pointer (some ⟨t, 0, none⟩), .int .u32 k] w (RetTab (.bool (hasL τ k (toL T))) t most fv (delL τ k (toL T)) w) := by
  have HF := hide (find_any0 t most fv τ T k w hT hF h ha)
  have HT := hide h
  have HTT := hide hT
  have HA := hide ha
  rcases findT_spec (k := k) h ha with ⟨h1, h2⟩ | ⟨b, a, l, r, h1, h2, h3, h4⟩
  · rw [h2]
    have H1 := hide h1
    have HD := hide (show delL τ k (toL T) = toL T by
      unfold delL
      rw [List.filter_eq_self]
      intro x hx
      have := List.any_eq_false.1 h2 x hx
      simpa using this)
    clear hT h ha h1 h2
    go_enter Try.func36, Try.ntmps36
    go_wp2_with fail
    refine HF.out.mono ?_
    rintro e w1 ⟨rfl, n, hn'⟩
    subst hn'
    rw [H1.out, show ad (BT.nil : BT KV) = none from rfl]
    clear HF
    go_wp2
    go_ret
    exact ⟨rfl, T, HTT.out.drewN n, TIn.keep (NK.drewN w n) HT.out, HD.out.symm, gb_drewN w n _⟩
  · rw [h3]
    have H1 := hide h1
    clear hT h ha h1 h2 h3 h4
    go_enter Try.func36, Try.ntmps36
    go_wp2_with fail
    refine HF.out.mono ?_
    rintro e w1 ⟨rfl, n, hn'⟩
    obtain ⟨HT1, HTT1, HG1⟩ : Hid (TIn w1 T) ∧ Hid (TabAt w1 t most fv (ad T)) ∧ Hid (w.grownBy w1 (some t)) := by rw [hn']; exact ⟨hide (TIn.keep (NK.drewN w n) HT.out), hide (HTT.out.drewN n), hide (gb_drewN w n _)⟩
    rw [H1.out, show ad (.node b 0 a l r) = some ⟨b, 0, none⟩ from rfl]
    obtain ⟨t0, t1, t2, tf⟩ := three_cells HTT1.out
    have HP := hide (drop_any t most fv (ad T) τ k hF T w1 HTT1.out HT1.out HA.out hn)
    clear t0 t1 tf HF hn'
    go_wp2_with fail
    refine HP.out.mono ?_
    rintro e w2 ⟨T2, rfl, k1, k2, k3⟩
    have HS := hide (tab_store HTT1.out k1 k3)
    have HK := hide k2
    obtain ⟨_, _, q2, qf⟩ := three_cells (below_block k3 HTT1.out (Nat.le_refl _))
    clear t2 k1 k2 k3 HP
    go_wp2
    go_ret
    exact ⟨rfl, T2, HS.out.1, HS.out.2.1, HK.out, gb_trans HG1.out HS.out.2.2⟩
end Go.Proofs.Ytbibobjkclgogaa.D
