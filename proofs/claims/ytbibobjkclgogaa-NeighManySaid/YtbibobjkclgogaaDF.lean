/- Tables: the order, a key's way: [hearth/api.Addr, hearth/neigh.host]. -/
import Derived.Test.YtbibobjkclgogaaDE
import Derived.Test.YtbibobjkclgogaaKCmp
import Derived.Deep.LoopGhost
namespace Go.Proofs.Ytbibobjkclgogaa.D
open Go.RowKit Go.Deep
open Go.Proofs.Ytbibobjkclgogaa
set_option linter.unusedVariables false
set_option linter.unusedSimpArgs false
set_option maxRecDepth 100000
/-- A function value that puts keys in order, and the keys' measure. -/
def OrdF (fv : Value) (τ : Int → Int) : Prop := fv = .func (.func 20) #[] #[] ∧ τ = id
/-- A table lies in memory. -/
def TabAt (w : World) (t : Nat) (most : Int) (fv : Value) (root : Option Addr) : Prop := w.heap[t]? = some (.cells #[.int .i64 most, fv, .pointer root] 100 (0, 0))
set_option maxHeartbeats 800000 in
theorem way_any (t b : Nat) (most : Int) (fv : Value) (root : Option Addr) (τ : Int → Int) (a : KV) (l r : BT KV) (k : Int) (w : World) (hT : TabAt w t most fv root) (hF : OrdF fv τ) (h : TIn w (.node b 0 a l r)) :
    Calls Try.prog 61 #[.pointer (some ⟨t, 0, none⟩), .int .u32 k, .pointer (some ⟨b, 0, none⟩)] w fun e w' => (e = .returned (.tuple #[.int .i64 (if τ k < τ a.1 then 0 else 1), .bool (decide (τ k = τ a.1))])) ∧ ∃ n, w' = w.drewN n := by
  obtain ⟨t0, t1, t2, tf⟩ := three_cells hT
  obtain ⟨c0, c1, c1a, c1b, c1c, c1d, c1e, c1f, c2, c3, c4, cf⟩ := five_cells h.2.1
  clear hT h t0 t2 tf c1 c1a c1b c1c c1d c1e c1f c2 c3 c4 cf
  generalize a.1 = x at *
  obtain ⟨rfl, rfl⟩ := hF
  rcases Int.lt_trichotomy k x with hk | hk | hk
  · have e1 : sgn k x = -1 := by unfold sgn; rw [if_pos hk]
    have HO := hide (fun (n : Nat) => (cmpX_any k x (w.drewN n)))
    rw [ordI_sgn, e1] at HO
    rw [if_pos (show id k < id x from hk), decide_eq_false (show ¬ id k = id x by show ¬ k = x; omega)]
    clear e1 hk
    go_enter Try.func61, Try.ntmps61
    go_wp2_with fail
    go_quiet ((go_at_call 20; exact Calls.quiet_of_same (HO.out _)))
    go_wp2
    go_ret2
    exact ⟨rfl, _, rfl⟩
  · have e1 : sgn k x = 0 := by unfold sgn; subst hk; simp
    have HO := hide (fun (n : Nat) => (cmpX_any k x (w.drewN n)))
    rw [ordI_sgn, e1] at HO
    rw [if_neg (show ¬ id k < id x by show ¬ k < x; omega), decide_eq_true (show id k = id x by show k = x; omega)]
    clear e1 hk
    go_enter Try.func61, Try.ntmps61
    go_wp2_with fail
    go_quiet ((go_at_call 20; exact Calls.quiet_of_same (HO.out _)))
    go_wp2
    go_ret2
    exact ⟨rfl, _, rfl⟩
  · have e1 : sgn k x = 1 := by unfold sgn; rw [if_neg (by omega), if_pos hk]
    have HO := hide (fun (n : Nat) => (cmpX_any k x (w.drewN n)))
    rw [ordI_sgn, e1] at HO
    rw [if_neg (show ¬ id k < id x by show ¬ k < x; omega), decide_eq_false (show ¬ id k = id x by show ¬ k = x; omega)]
    clear e1 hk
    go_enter Try.func61, Try.ntmps61
    go_wp2_with fail
    go_quiet ((go_at_call 20; exact Calls.quiet_of_same (HO.out _)))
    go_wp2
    go_ret2
    exact ⟨rfl, _, rfl⟩
end Go.Proofs.Ytbibobjkclgogaa.D
