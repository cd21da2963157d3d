/- Tables: Put: [int, uint64]. -/
import Derived.Test.YtdjkoomgapflcaaAH
namespace Go.Proofs.Ytdjkoomgapflcaa.A
open Go.RowKit Go.Deep
open Go.Proofs.Ytdjkoomgapflcaa
set_option linter.unusedVariables false
set_option linter.unusedSimpArgs false
set_option maxRecDepth 100000
/-- What a change of a table leaves: the table's tree, and its keys. -/
def TabAns (t : Nat) (most : Int) (fv : Value) (L : List KV) (w w' : World) : Prop := ∃ T', TabAt w' t most fv (ad T') ∧ TIn w' T' ∧ toL T' = L ∧ w.grownBy w' (some t)
def RetTab (v : Value) (t : Nat) (most : Int) (fv : Value) (L : List KV) (w : World) (e : Ending) (w' : World) : Prop := e = .returned v ∧ TabAns t most fv L w w'
theorem find_q {t : Nat} {most : Int} {fv : Value} {τ : Int → Int} {T : BT KV} {k : Int} {w : World} (hT : TabAt w t most fv (ad T)) (hF : OrdF fv τ) (h : TIn w T) (ha : Asc τ (toL T)) (p : Option Addr) (hp : ad (findT τ k T) = p) (n : Nat) :
    Calls Try.prog 35 #[.pointer (some ⟨t, 0, none⟩), .int .i64 k] (w.drewN n) fun e w' => e = .returned (.pointer p) ∧ ∃ m, w' = (w.drewN n).drewN m := by
  rw [← hp]
  exact find_any t most fv τ T k (w.drewN n) (hT.drewN n) hF (TIn.keep (NK.drewN w n) h) ha
theorem len_q {t : Nat} {most : Int} {fv : Value} {T : BT KV} {w : World} (hT : TabAt w t most fv (ad T)) (h : TIn w T) (n : Nat) :
    Calls Try.prog 31 #[.pointer (some ⟨t, 0, none⟩)] (w.drewN n) fun e w' => e = .returned (.int .i64 (nsz T : Int)) ∧ w' = w.drewN n :=
  (lenT_any t most fv T (w.drewN n) (hT.drewN n) (TIn.keep (NK.drewN w n) h)).mono fun e w' ⟨h1, h2⟩ => ⟨h1, h2.symm⟩
theorem tab_store {w1 w2 : World} {t : Nat} {most : Int} {fv : Value} {root : Option Addr} {T' : BT KV} (hT : TabAt w1 t most fv root) (hk : TIn w2 T') (hb : Below w1.heap.size w1 w2) : TabAt (w2.setCell ⟨t, 2, none⟩ (.pointer (ad T'))) t most fv (ad T') ∧ TIn (w2.setCell ⟨t, 2, none⟩ (.pointer (ad T'))) T' ∧ w1.grownBy (w2.setCell ⟨t, 2, none⟩ (.pointer (ad T'))) (some t) := by
  have hT2 : w2.heap[t]? = some (.cells #[.int .i64 most, fv, .pointer root] 67 (0, 0)) := below_block hb hT (Nat.le_refl _)
  exact ⟨heap_setCell_same w2 t 2 _ _ _ hT2, TIn.keep (NK.set hT2 (by decide) 2 _) hk, gb_trans (gb_of_below hb (Nat.le_refl _)) (gb_set w2 t 2 _)⟩

set_option maxHeartbeats 1600000 in
theorem Put_ok (t : Nat) (most : Int) (fv : Value) (τ : Int → Int) (T : BT KV) (k : Int) (v : Int) (w : World) (hT : TabAt w t most fv (ad T)) (hF : OrdF fv τ) (h : TIn w T) (ha : Asc τ (toL T)) (hn : nsz T ≤ 700000) (hr : hasL τ k (toL T) = true ∨ (nsz T : Int) < most) :
    Calls Try.prog 28 #[.pointer (some ⟨t, 0, none⟩), .int .i64 k, .int .u64 v] w (RetTab (.int .i64 0) t most fv (insL τ k v (toL T)) w) := by
  obtain ⟨t0, t1, t2, tf⟩ := three_cells hT
  have HT := hide h
  have HTT := hide hT
  have HA := hide ha
  have HLN := hide (len_q hT h)
  rcases findT_spec (k := k) h ha with ⟨h1, h2⟩ | ⟨b, a, l, r, h1, h2, h3, h4⟩
  · have HF := hide (find_q hT hF h ha none (by rw [h1]; rfl))
    have hlt : (nsz T : Int) < most := by
      rcases hr with e | e
      · rw [h2] at e; cases e
      · exact e
    have hd : decide (most ≤ (nsz T : Int)) = false := by simp; omega
    clear hT h ha hr h1 h2 t1
    go_enter Try.func28, Try.ntmps28
    go_wp2_with fail
    go_quiet ((first | (go_at_call 35; exact Calls.quiet_of (HF.out _)) | (go_at_call 31; exact Calls.quiet_of_same (HLN.out _))))
    clear hd hlt
    obtain ⟨w1, hw1, HT1, HTT1, HG1⟩ : ∃ w1, w.drewN nq = w1 ∧ Hid (TIn w1 T) ∧ Hid (TabAt w1 t most fv (ad T)) ∧ Hid (w.grownBy w1 (some t)) := ⟨_, rfl, hide (TIn.keep (NK.drewN w nq) HT.out), hide (HTT.out.drewN nq), hide (gb_drewN w nq _)⟩
    rw [hw1]
    clear hw1 t0 t2 tf HF HLN
    obtain ⟨t0, t1, t2, tf⟩ := three_cells HTT1.out
    have HP := hide (put_any t most fv (ad T) τ k v hF T w1 HTT1.out HT1.out HA.out hn)
    clear t0 t1 tf
    go_wp2_with fail
    refine HP.out.mono ?_
    rintro e w2 ⟨T2, rfl, k1, k2, k3⟩
    have HS := hide (tab_store HTT1.out k1 k3)
    have HK := hide k2
    obtain ⟨_, _, q2, qf⟩ := three_cells (below_block k3 HTT1.out (Nat.le_refl _))
    clear t2 k1 k2 k3 HP
    go_wp2
    go_ret
    exact ⟨rfl, T2, HS.out.1, HS.out.2.1, HK.out, gb_trans HG1.out HS.out.2.2⟩
  · have HF := hide (find_q hT hF h ha (some ⟨b, 0, none⟩) (by rw [h1]; rfl))
    clear hT h ha hr h1 h2 h3 h4 t1
    go_enter Try.func28, Try.ntmps28
    go_wp2_with fail
    go_quiet ((first | (go_at_call 35; exact Calls.quiet_of (HF.out _)) | (go_at_call 31; exact Calls.quiet_of_same (HLN.out _))))
    obtain ⟨w1, hw1, HT1, HTT1, HG1⟩ : ∃ w1, w.drewN nq = w1 ∧ Hid (TIn w1 T) ∧ Hid (TabAt w1 t most fv (ad T)) ∧ Hid (w.grownBy w1 (some t)) := ⟨_, rfl, hide (TIn.keep (NK.drewN w nq) HT.out), hide (HTT.out.drewN nq), hide (gb_drewN w nq _)⟩
    rw [hw1]
    clear hw1 t0 t2 tf HF HLN
    obtain ⟨t0, t1, t2, tf⟩ := three_cells HTT1.out
    have HP := hide (put_any t most fv (ad T) τ k v hF T w1 HTT1.out HT1.out HA.out hn)
    clear t0 t1 tf
    go_wp2_with fail
    refine HP.out.mono ?_
    rintro e w2 ⟨T2, rfl, k1, k2, k3⟩
    have HS := hide (tab_store HTT1.out k1 k3)
    have HK := hide k2
    obtain ⟨_, _, q2, qf⟩ := three_cells (below_block k3 HTT1.out (Nat.le_refl _))
    clear t2 k1 k2 k3 HP
    go_wp2
    go_ret
    exact ⟨rfl, T2, HS.out.1, HS.out.2.1, HK.out, gb_trans HG1.out HS.out.2.2⟩

set_option maxHeartbeats 1600000 in
theorem Put_full (t : Nat) (most : Int) (fv : Value) (τ : Int → Int) (T : BT KV) (k : Int) (v : Int) (w : World) (hT : TabAt w t most fv (ad T)) (hF : OrdF fv τ) (h : TIn w T) (ha : Asc τ (toL T)) (hn : nsz T ≤ 700000) (hr : hasL τ k (toL T) = false) (hm : most ≤ (nsz T : Int)) :
    Calls Try.prog 28 #[.pointer (some ⟨t, 0, none⟩), .int .i64 k, .int .u64 v] w (RetTab (.int .i64 20) t most fv (toL T) w) := by
  obtain ⟨t0, t1, t2, tf⟩ := three_cells hT
  have HT := hide h
  have HTT := hide hT
  have HLN := hide (len_q hT h)
  rcases findT_spec (k := k) h ha with ⟨h1, h2⟩ | ⟨b, a, l, r, h1, h2, h3, h4⟩
  · have HF := hide (find_q hT hF h ha none (by rw [h1]; rfl))
    have hd : decide (most ≤ (nsz T : Int)) = true := by simp; omega
    clear hT h ha hr h1 h2 t1 hm
    go_enter Try.func28, Try.ntmps28
    go_wp2_with fail
    go_quiet ((first | (go_at_call 35; exact Calls.quiet_of (HF.out _)) | (go_at_call 31; exact Calls.quiet_of_same (HLN.out _))))
    clear hd
    go_wp2
    go_ret
    exact ⟨rfl, T, HTT.out.drewN nq, TIn.keep (NK.drewN w nq) HT.out, rfl, gb_drewN w nq _⟩
  · rw [h3] at hr; cases hr
end Go.Proofs.Ytdjkoomgapflcaa.A
