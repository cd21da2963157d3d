/- Tables: the order, a key's way, find. -/
import Derived.Test.YtcgkblmhfgjoaaaKE
namespace Go.Proofs.Ytcgkblmhfgjoaaa
open Go.RowKit Go.Deep
set_option linter.unusedVariables false
set_option linter.unusedSimpArgs false
set_option maxRecDepth 100000
def sgn (x y : Int) : Int := if x < y then -1 else if y < x then 1 else 0
set_option maxHeartbeats 400000 in
theorem order_any (x y : Int) (w : World) : Calls Try.prog 10 #[.int .i64 x, .int .i64 y] w fun e w' => e = .returned (.int .i64 (sgn x y)) ∧ w = w' := by
  by_cases h1 : x < y
  · have e1 : sgn x y = -1 := by unfold sgn; rw [if_pos h1]
    rw [e1]
    clear e1
    go_enter Try.func10, Try.ntmps10
    go_wp2
    go_ret
    exact ⟨rfl, rfl⟩
  · by_cases h2 : y < x
    · have e1 : sgn x y = 1 := by unfold sgn; rw [if_neg h1, if_pos h2]
      rw [e1]
      clear e1
      go_enter Try.func10, Try.ntmps10
      go_wp2
      go_ret
      exact ⟨rfl, rfl⟩
    · have e1 : sgn x y = 0 := by unfold sgn; rw [if_neg h1, if_neg h2]
      rw [e1]
      clear e1
      go_enter Try.func10, Try.ntmps10
      go_wp2
      go_ret
      exact ⟨rfl, rfl⟩
set_option maxHeartbeats 400000 in
theorem turned_any (x y : Int) (w : World) : Calls Try.prog 22 #[.int .i64 x, .int .i64 y] w fun e w' => e = .returned (.int .i64 (sgn y x)) ∧ w = w' := by
  have h := hide (order_any y x w)
  go_enter Try.func22, Try.ntmps22
  go_wp2_with fail
  refine h.out.mono ?_
  rintro e w' ⟨rfl, rfl⟩
  clear h
  go_wp2
  go_ret
  exact ⟨rfl, rfl⟩
/-- A function value that puts keys in order, and the keys' measure. -/
def OrdF (fv : Value) (τ : Int → Int) : Prop := (fv = .func (.func 10) #[] #[] ∧ τ = id) ∨ (fv = .func (.func 22) #[] #[] ∧ τ = Neg.neg)

theorem three_cells {w : World} {R : Nat} {t : TypeId} {v0 v1 v2 : Value} (h : w.heap[R]? = some (.cells #[v0, v1, v2] t (0, 0))) : w.cell? ⟨R, 0, none⟩ = some v0 ∧ w.cell? ⟨R, 1, none⟩ = some v1 ∧ w.cell? ⟨R, 2, none⟩ = some v2 ∧ ∀ i, w.frozen? ⟨R, i, none⟩ = false := by
  refine ⟨?_, ?_, ?_, fun i => ?_⟩ <;> simp [World.cell?, World.frozen?, h]
/-- A table lies in memory. -/
def TabAt (w : World) (t : Nat) (most : Int) (fv : Value) (root : Option Addr) : Prop := w.heap[t]? = some (.cells #[.int .i64 most, fv, .pointer root] 55 (0, 0))
set_option maxHeartbeats 800000 in
theorem way_any (t b : Nat) (most : Int) (fv : Value) (root : Option Addr) (τ : Int → Int) (a : KV) (l r : BT KV) (k : Int) (w : World) (hT : TabAt w t most fv root) (hF : OrdF fv τ) (h : TIn w (.node b 0 a l r)) :
    Calls Try.prog 36 #[.pointer (some ⟨t, 0, none⟩), .int .i64 k, .pointer (some ⟨b, 0, none⟩)] w fun e w' => (e = .returned (.tuple #[.int .i64 (if τ k < τ a.1 then 0 else 1), .bool (decide (τ k = τ a.1))])) ∧ ∃ n, w' = w.drewN n := by
  obtain ⟨t0, t1, t2, tf⟩ := three_cells hT
  obtain ⟨c0, c1, c2, c3, c4, cf⟩ := five_cells h.2.1
  clear hT h t0 t2 tf c1 c2 c3 c4 cf
  generalize a.1 = x at *
  rcases hF with ⟨rfl, rfl⟩ | ⟨rfl, rfl⟩
  · have HO := hide (fun (n : Nat) => ((order_any k x (w.drewN n)).mono fun e w' h => ⟨h.1, h.2.symm⟩ : Calls Try.prog 10 #[.int .i64 k, .int .i64 x] (w.drewN n) fun e w' => e = .returned (.int .i64 (sgn k x)) ∧ w' = w.drewN n))
    rcases Int.lt_trichotomy k x with hk | hk | hk
    · have e1 : sgn k x = -1 := by unfold sgn; rw [if_pos hk]
      rw [e1] at HO
      rw [if_pos (show id k < id x from hk), decide_eq_false (show ¬ id k = id x by show ¬ k = x; omega)]
      clear e1 hk
      go_enter Try.func36, Try.ntmps36
      go_wp2_with fail
      go_quiet ((go_at_call 10; exact Calls.quiet_of_same (HO.out _)))
      go_wp2
      go_ret2
      exact ⟨rfl, _, rfl⟩
    · have e1 : sgn k x = 0 := by unfold sgn; subst hk; simp
      rw [e1] at HO
      rw [if_neg (show ¬ id k < id x by show ¬ k < x; omega), decide_eq_true (show id k = id x by show k = x; omega)]
      clear e1 hk
      go_enter Try.func36, Try.ntmps36
      go_wp2_with fail
      go_quiet ((go_at_call 10; exact Calls.quiet_of_same (HO.out _)))
      go_wp2
      go_ret2
      exact ⟨rfl, _, rfl⟩
    · have e1 : sgn k x = 1 := by unfold sgn; rw [if_neg (by omega), if_pos hk]
      rw [e1] at HO
      rw [if_neg (show ¬ id k < id x by show ¬ k < x; omega), decide_eq_false (show ¬ id k = id x by show ¬ k = x; omega)]
      clear e1 hk
      go_enter Try.func36, Try.ntmps36
      go_wp2_with fail
      go_quiet ((go_at_call 10; exact Calls.quiet_of_same (HO.out _)))
      go_wp2
      go_ret2
      exact ⟨rfl, _, rfl⟩
  · have HO := hide (fun (n : Nat) => ((turned_any k x (w.drewN n)).mono fun e w' h => ⟨h.1, h.2.symm⟩ : Calls Try.prog 22 #[.int .i64 k, .int .i64 x] (w.drewN n) fun e w' => e = .returned (.int .i64 (sgn x k)) ∧ w' = w.drewN n))
    rcases Int.lt_trichotomy k x with hk | hk | hk
    · have e1 : sgn x k = 1 := by unfold sgn; rw [if_neg (by omega), if_pos hk]
      rw [e1] at HO
      rw [if_neg (show ¬ -k < -x by omega), decide_eq_false (show ¬ -k = -x by omega)]
      clear e1 hk
      go_enter Try.func36, Try.ntmps36
      go_wp2_with fail
      go_quiet ((go_at_call 22; exact Calls.quiet_of_same (HO.out _)))
      go_wp2
      go_ret2
      exact ⟨rfl, _, rfl⟩
    · have e1 : sgn x k = 0 := by unfold sgn; subst hk; simp
      rw [e1] at HO
      rw [if_neg (show ¬ -k < -x by omega), decide_eq_true (show -k = -x by omega)]
      clear e1 hk
      go_enter Try.func36, Try.ntmps36
      go_wp2_with fail
      go_quiet ((go_at_call 22; exact Calls.quiet_of_same (HO.out _)))
      go_wp2
      go_ret2
      exact ⟨rfl, _, rfl⟩
    · have e1 : sgn x k = -1 := by unfold sgn; rw [if_pos hk]
      rw [e1] at HO
      rw [if_pos (show -k < -x by omega), decide_eq_false (show ¬ -k = -x by omega)]
      clear e1 hk
      go_enter Try.func36, Try.ntmps36
      go_wp2_with fail
      go_quiet ((go_at_call 22; exact Calls.quiet_of_same (HO.out _)))
      go_wp2
      go_ret2
      exact ⟨rfl, _, rfl⟩
end Go.Proofs.Ytcgkblmhfgjoaaa
