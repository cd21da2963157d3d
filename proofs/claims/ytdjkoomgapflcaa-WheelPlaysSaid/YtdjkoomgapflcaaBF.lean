/- Tables: the order, a key's way: [hearth/wheel.end[int], struct{}]. -/
import Derived.Test.YtdjkoomgapflcaaBE
import Derived.Test.YtdjkoomgapflcaaKCmp
import Derived.Deep.LoopGhost
namespace Go.Proofs.Ytdjkoomgapflcaa.B
open Go.RowKit Go.Deep
open Go.Proofs.Ytdjkoomgapflcaa
set_option linter.unusedVariables false
set_option linter.unusedSimpArgs false
set_option maxRecDepth 100000
/-- A function value that puts keys in order, and the keys' measure. -/
def OrdF (fv : Value) (τ : EK → Int) : Prop := fv = .func (.func 22) #[] #[] ∧ τ = tE
/-- A table lies in memory. -/
def TabAt (w : World) (t : Nat) (most : Int) (fv : Value) (root : Option Addr) : Prop := w.heap[t]? = some (.cells #[.int .i64 most, fv, .pointer root] 70 (0, 0))
theorem key_cells {w : World} {R : Nat} {t : TypeId} {v0 v1 : Value} (h : w.heap[R]? = some (.cells #[v0, v1] t (0, 0))) : w.cell? ⟨R, 0, none⟩ = some v0 ∧ w.cell? ⟨R, 1, none⟩ = some v1 ∧ ∀ i, w.frozen? ⟨R, i, none⟩ = false := by
  refine ⟨?_, ?_, fun i => ?_⟩ <;> simp [World.cell?, World.frozen?, h]
set_option maxHeartbeats 800000 in
theorem way_any (t b : Nat) (most : Int) (fv : Value) (root : Option Addr) (τ : EK → Int) (a : KV) (l r : BT KV) (k : EK) (w : World) (hT : TabAt w t most fv root) (hF : OrdF fv τ) (h : TIn w (.node b 0 a l r)) :
    Calls Try.prog 51 #[.pointer (some ⟨t, 0, none⟩), .agg #[.int .u64 k.s, .int .i64 k.k], .pointer (some ⟨b, 0, none⟩)] w fun e w' => (e = .returned (.tuple #[.int .i64 (if τ k < τ a.1 then 0 else 1), .bool (decide (τ k = τ a.1))])) ∧ Below w.heap.size w w' := by
  obtain ⟨rfl, rfl⟩ := hF
  obtain ⟨W, hW, hb, hx⟩ : ∃ W, w.alloc (.cells #[.int .u64 k.s, .int .i64 k.k] 52) = W ∧ Below w.heap.size w W ∧ W.heap[w.heap.size]? = some (.cells #[.int .u64 k.s, .int .i64 k.k] 52 (0, 0)) := ⟨_, rfl, (Below.refl _ _).alloc (Nat.le_refl _) _, heap_alloc_new _ _⟩
  obtain ⟨B, hB⟩ : ∃ B, w.heap.size = B := ⟨_, rfl⟩
  rw [hB] at hx
  have hT2 := below_block hb hT (Nat.le_refl _)
  have hN2 := below_block hb h.2.1 (Nat.le_refl _)
  have l1 := lt_of_block hT2
  have l2 := lt_of_block hN2
  have l3 := lt_of_block hx
  obtain ⟨t0, t1, t2, tf⟩ := three_cells hT2
  obtain ⟨c0, c0a, c2, c3, c4, cf⟩ := five_cells hN2
  obtain ⟨x0, x1, xf⟩ := key_cells hx
  have HB := hide hb
  have HE := hide (And.intro hW hB)
  have HBB := hide (Below.refl W.heap.size W)
  clear hx hb hW hB hT h hT2 hN2 t0 t2 tf c2 c3 c4 cf xf
  obtain ⟨o, ho⟩ : ∃ o, sgn (tE k) (tE a.1) = o := ⟨_, rfl⟩
  have HO := hide (fun (V : World) => orderE_any k a.1 V)
  rw [ho] at HO
  rcases Int.lt_trichotomy (tE k) (tE a.1) with hk | hk | hk
  · obtain rfl : o = -1 := by rw [← ho]; exact sgn_lt hk
    rw [if_pos hk, decide_eq_false (by omega)]
    clear hk ho
    go_enter Try.func51, Try.ntmps51
    go_wp2_with fail
    rw [HE.out.1, HE.out.2]
    clear HE
    go_region_held3 (fun w' => w'.cell? ⟨t, 1, none⟩ = some (.func (.func 22) #[] #[]) ∧ w'.cell? ⟨B, 0, none⟩ = some (.int .u64 k.s) ∧ w'.cell? ⟨B, 1, none⟩ = some (.int .i64 k.k) ∧ w'.cell? ⟨b, 0, none⟩ = some (.int .u64 a.1.s) ∧ w'.cell? ⟨b, 1, none⟩ = some (.int .i64 a.1.k)) (go_keep) (first
      | (go_at_call 22; (with_reducible refine (HO.out _).mono ?_); rintro e z ⟨rfl, b9⟩; (try replace b9 := below_of_drew b9); have HZ := hide (HB.out.trans (b9.mono HB.out.size));
          have m0 := (b9.cell (p := ⟨t, 1, none⟩) l1).trans t1;have n0 := (b9.cell (p := ⟨B, 0, none⟩) l3).trans x0; have n1 := (b9.cell (p := ⟨B, 1, none⟩) l3).trans x1; have o0 := (b9.cell (p := ⟨b, 0, none⟩) l2).trans c0; have o1 := (b9.cell (p := ⟨b, 1, none⟩) l2).trans c0a; clear b9)
      | fail)
    go_wp2
    go_ret2
    exact ⟨rfl, HZ.out⟩
  · obtain rfl : o = 0 := by rw [← ho]; rw [hk]; exact sgn_eq _
    rw [if_neg (by omega), decide_eq_true hk]
    clear hk ho
    go_enter Try.func51, Try.ntmps51
    go_wp2_with fail
    rw [HE.out.1, HE.out.2]
    clear HE
    go_region_held3 (fun w' => w'.cell? ⟨t, 1, none⟩ = some (.func (.func 22) #[] #[]) ∧ w'.cell? ⟨B, 0, none⟩ = some (.int .u64 k.s) ∧ w'.cell? ⟨B, 1, none⟩ = some (.int .i64 k.k) ∧ w'.cell? ⟨b, 0, none⟩ = some (.int .u64 a.1.s) ∧ w'.cell? ⟨b, 1, none⟩ = some (.int .i64 a.1.k)) (go_keep) (first
      | (go_at_call 22; (with_reducible refine (HO.out _).mono ?_); rintro e z ⟨rfl, b9⟩; (try replace b9 := below_of_drew b9); have HZ := hide (HB.out.trans (b9.mono HB.out.size));
          have m0 := (b9.cell (p := ⟨t, 1, none⟩) l1).trans t1;have n0 := (b9.cell (p := ⟨B, 0, none⟩) l3).trans x0; have n1 := (b9.cell (p := ⟨B, 1, none⟩) l3).trans x1; have o0 := (b9.cell (p := ⟨b, 0, none⟩) l2).trans c0; have o1 := (b9.cell (p := ⟨b, 1, none⟩) l2).trans c0a; clear b9)
      | fail)
    go_wp2
    go_ret2
    exact ⟨rfl, HZ.out⟩
  · obtain rfl : o = 1 := by rw [← ho]; exact sgn_gt hk
    rw [if_neg (by omega), decide_eq_false (by omega)]
    clear hk ho
    go_enter Try.func51, Try.ntmps51
    go_wp2_with fail
    rw [HE.out.1, HE.out.2]
    clear HE
    go_region_held3 (fun w' => w'.cell? ⟨t, 1, none⟩ = some (.func (.func 22) #[] #[]) ∧ w'.cell? ⟨B, 0, none⟩ = some (.int .u64 k.s) ∧ w'.cell? ⟨B, 1, none⟩ = some (.int .i64 k.k) ∧ w'.cell? ⟨b, 0, none⟩ = some (.int .u64 a.1.s) ∧ w'.cell? ⟨b, 1, none⟩ = some (.int .i64 a.1.k)) (go_keep) (first
      | (go_at_call 22; (with_reducible refine (HO.out _).mono ?_); rintro e z ⟨rfl, b9⟩; (try replace b9 := below_of_drew b9); have HZ := hide (HB.out.trans (b9.mono HB.out.size));
          have m0 := (b9.cell (p := ⟨t, 1, none⟩) l1).trans t1;have n0 := (b9.cell (p := ⟨B, 0, none⟩) l3).trans x0; have n1 := (b9.cell (p := ⟨B, 1, none⟩) l3).trans x1; have o0 := (b9.cell (p := ⟨b, 0, none⟩) l2).trans c0; have o1 := (b9.cell (p := ⟨b, 1, none⟩) l2).trans c0a; clear b9)
      | fail)
    go_wp2
    go_ret2
    exact ⟨rfl, HZ.out⟩
end Go.Proofs.Ytdjkoomgapflcaa.B
