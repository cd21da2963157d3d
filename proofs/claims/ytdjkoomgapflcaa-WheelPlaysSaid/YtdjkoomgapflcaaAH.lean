/- Tables: put: [int, uint64]. -/
import Derived.Test.YtdjkoomgapflcaaAG
namespace Go.Proofs.Ytdjkoomgapflcaa.A
open Go.RowKit Go.Deep
open Go.Proofs.Ytdjkoomgapflcaa
set_option linter.unusedVariables false
set_option linter.unusedSimpArgs false
set_option maxRecDepth 100000
set_option maxHeartbeats 1600000 in
theorem put_any (t : Nat) (most : Int) (fv : Value) (root : Option Addr) (τ : Int → Int) (k : Int) (v : Int) (hF : OrdF fv τ) : ∀ (T : BT KV) (w : World), TabAt w t most fv root → TIn w T → Asc τ (toL T) → nsz T ≤ 700000 →
    Calls Try.prog 41 #[.pointer (some ⟨t, 0, none⟩), .pointer (ad T), .int .i64 k, .int .u64 v] w (TreeAns w (insL τ k v (toL T))) := by
  intro T
  induction T with
  | nil =>
    intro w hT h ha hn
    show Calls Try.prog 41 #[.pointer (some ⟨t, 0, none⟩), .pointer none, .int .i64 k, .int .u64 v] w _
    clear hT h ha hn
    go_enter Try.func41, Try.ntmps41
    go_wp2_with fail
    go_ret
    exact ⟨.node w.heap.size 0 (k, v) .nil .nil, rfl, ⟨rfl, heap_alloc_new w _, trivial, trivial⟩, rfl, (Below.refl _ _).alloc (Nat.le_refl _) _⟩
  | node b o a l r ihl ihr =>
    intro w hT h ha hn
    obtain rfl := h.1
    rw [nsz_node] at hn
    show Calls Try.prog 41 #[.pointer (some ⟨t, 0, none⟩), .pointer (some ⟨b, 0, none⟩), .int .i64 k, .int .u64 v] w _
    have HAA := hide (asc_mid.1 ha)
    clear ha
    rcases Int.lt_trichotomy (τ k) (τ a.1) with hk | hk | hk
    · have HW := hide (way_lt hT hF h hk)
      have HIN := hide (show insL τ k v (toL (.node b 0 a l r)) = insL τ k v (toL l) ++ a :: toL r from ins_left hk (toL l))
      have HTT := hide hT
      have HT := hide h
      clear hT h hk
      go_enter Try.func41, Try.ntmps41
      go_wp2_with fail
      refine HW.out.mono ?_
      rintro e w1 ⟨rfl, m, hm⟩
      subst hm
      have HT1 := hide (TIn.keep (NK.drewN w m) HT.out)
      obtain ⟨_, _, _, c3, c4, cf⟩ := five_cells HT1.out.2.1
      have HIH := hide (ihl (w.drewN m) (HTT.out.drewN m) HT1.out.2.2.1 HAA.out.1 (by omega))
      clear HW
      go_wp2_with fail
      refine HIH.out.mono ?_
      rintro e w3 ⟨T1, rfl, k1, k2, k3⟩
      have hsz : nsz T1 ≤ nsz l + 1 := by unfold nsz; rw [k2]; exact ins_le _
      have hb3 := (bdrewN (Below.refl w.heap.size w) m).trans k3
      have HWI := hide (with0_any b a l r T1 w3 (TIn.keep (NK.of_below k3 (Nat.le_refl _)) HT1.out) k1 (by omega) (by omega))
      have HL := hide k2
      have HB3 := hide hb3
      clear k1 k2 k3 hb3 HIH c3 c4 cf
      go_wp2_with fail
      refine HWI.out.mono ?_
      rintro e w4 ⟨b1, rfl, k4, k5⟩
      have HEV := hide (even_any b1 a T1 r w4 k4 (by omega))
      have HB4 := hide (HB3.out.trans (k5.mono HB3.out.size))
      clear k4 k5 HWI
      go_wp2_with fail
      refine HEV.out.mono ?_
      rintro e w5 ⟨T2, rfl, k6, k7, k8⟩
      have H6 := hide k6
      have H7 := hide k7
      have HB5 := hide (HB4.out.trans (k8.mono HB4.out.size))
      clear k6 k7 k8 HEV
      go_wp2
      go_ret
      exact ⟨T2, rfl, H6.out, by rw [H7.out, HIN.out, HL.out], HB5.out⟩
    · have HW := hide (way_eq hT hF h hk)
      have HIN := hide (show insL τ k v (toL (.node b 0 a l r)) = toL l ++ (a.1, v) :: toL r from ins_here hk (toL l) HAA.out.2.2.1)
      have HT := hide h
      clear hT h hk
      go_enter Try.func41, Try.ntmps41
      go_wp2_with fail
      refine HW.out.mono ?_
      rintro e w1 ⟨rfl, m, hm⟩
      subst hm
      have HT1 := hide (TIn.keep (NK.drewN w m) HT.out)
      obtain ⟨S0, hS0⟩ : ∃ S, nsz l + 1 + nsz r = S := ⟨_, rfl⟩
      have hh := HT1.out.2.1
      rw [hS0] at hh
      obtain ⟨c0, c1, c2, c3, c4, cf⟩ := five_cells hh
      have HS := hide hS0
      clear HW hh hS0
      have HBX := hide (bdrewN (Below.refl w.heap.size w) m)
      generalize w.drewN m = w1 at *
      go_wp2
      go_ret
      have hh := heap_setCell_same (w1.alloc (.cells #[.int .i64 a.1, .int .u64 a.2, .int .i64 (S0 : Int), .pointer (ad l), .pointer (ad r)] 76)) w1.heap.size 1 _ _ (.int .u64 v) (heap_alloc_new w1 _)
      have hb := HBX.out.alloc HBX.out.size (.cells #[.int .i64 a.1, .int .u64 v, .int .i64 (S0 : Int), .pointer (ad l), .pointer (ad r)] 76)
      have hb1 : Below w1.heap.size w1 (w1.alloc (.cells #[.int .i64 a.1, .int .u64 v, .int .i64 (S0 : Int), .pointer (ad l), .pointer (ad r)] 76)) := (Below.refl _ _).alloc (Nat.le_refl _) _
      have hk := NK.of_below hb1 (Nat.le_refl _)
      refine ⟨.node w1.heap.size 0 (a.1, v) l r, rfl, ⟨rfl, ?_, TIn.keep hk HT1.out.2.2.1, TIn.keep hk HT1.out.2.2.2⟩, HIN.out.symm, hb⟩
      rw [HS.out]
      exact heap_alloc_new w1 _
    · have HW := hide (way_gt hT hF h hk)
      have HIN := hide (show insL τ k v (toL (.node b 0 a l r)) = toL l ++ a :: insL τ k v (toL r) from ins_right hk (toL l) HAA.out.2.2.1)
      have HTT := hide hT
      have HT := hide h
      clear hT h hk
      go_enter Try.func41, Try.ntmps41
      go_wp2_with fail
      refine HW.out.mono ?_
      rintro e w1 ⟨rfl, m, hm⟩
      subst hm
      have HT1 := hide (TIn.keep (NK.drewN w m) HT.out)
      obtain ⟨_, _, _, c3, c4, cf⟩ := five_cells HT1.out.2.1
      have HIH := hide (ihr (w.drewN m) (HTT.out.drewN m) HT1.out.2.2.2 HAA.out.2.1 (by omega))
      clear HW
      go_wp2_with fail
      refine HIH.out.mono ?_
      rintro e w3 ⟨T1, rfl, k1, k2, k3⟩
      have hsz : nsz T1 ≤ nsz r + 1 := by unfold nsz; rw [k2]; exact ins_le _
      have hb3 := (bdrewN (Below.refl w.heap.size w) m).trans k3
      have HWI := hide (with1_any b a l r T1 w3 (TIn.keep (NK.of_below k3 (Nat.le_refl _)) HT1.out) k1 (by omega) (by omega))
      have HL := hide k2
      have HB3 := hide hb3
      clear k1 k2 k3 hb3 HIH c3 c4 cf
      go_wp2_with fail
      refine HWI.out.mono ?_
      rintro e w4 ⟨b1, rfl, k4, k5⟩
      have HEV := hide (even_any b1 a l T1 w4 k4 (by omega))
      have HB4 := hide (HB3.out.trans (k5.mono HB3.out.size))
      clear k4 k5 HWI
      go_wp2_with fail
      refine HEV.out.mono ?_
      rintro e w5 ⟨T2, rfl, k6, k7, k8⟩
      have H6 := hide k6
      have H7 := hide k7
      have HB5 := hide (HB4.out.trans (k8.mono HB4.out.size))
      clear k6 k7 k8 HEV
      go_wp2
      go_ret
      exact ⟨T2, rfl, H6.out, by rw [H7.out, HIN.out, HL.out], HB5.out⟩
end Go.Proofs.Ytdjkoomgapflcaa.A
