/- Tables: the order, a key's way: [hearth/maps.key, hearth/api.Entry]. -/
import Derived.Test.YtijjgnkfddklgaaCE
import Derived.Test.YtijjgnkfddklgaaKCmp
import Derived.Deep.LoopGhost
namespace Go.Proofs.Ytijjgnkfddklgaa.C
open Go.RowKit Go.Deep
open Go.Proofs.Ytijjgnkfddklgaa
set_option linter.unusedVariables false
set_option linter.unusedSimpArgs false
set_option maxRecDepth 100000
/-- A function value that puts keys in order, and the keys' measure. -/
def OrdF (fv : Value) (τ : MK → Int) : Prop := fv = .func (.func 30) #[] #[] ∧ τ = tM
/-- A table lies in memory. -/
def TabAt (w : World) (t : Nat) (most : Int) (fv : Value) (root : Option Addr) : Prop := w.heap[t]? = some (.cells #[.int .i64 most, fv, .pointer root] 107 (0, 0))
theorem key_cells {w : World} {R : Nat} {t : TypeId} {v0 v1 v2 : Value} (h : w.heap[R]? = some (.cells #[v0, v1, v2] t (0, 0))) : w.cell? ⟨R, 0, none⟩ = some v0 ∧ w.cell? ⟨R, 1, none⟩ = some v1 ∧ w.cell? ⟨R, 2, none⟩ = some v2 ∧ ∀ i, w.frozen? ⟨R, i, none⟩ = false := by
  refine ⟨?_, ?_, ?_, fun i => ?_⟩ <;> simp [World.cell?, World.frozen?, h]
set_option maxHeartbeats 800000 in
theorem way_any (t b : Nat) (most : Int) (fv : Value) (root : Option Addr) (τ : MK → Int) (a : KV) (l r : BT KV) (k : MK) (w : World) (hT : TabAt w t most fv root) (hF : OrdF fv τ) (h : TIn w (.node b 0 a l r)) :
    Calls Try.prog 96 #[.pointer (some ⟨t, 0, none⟩), .agg #[.int .u8 k.p, .int .u16 k.x, .int .u32 k.r], .pointer (some ⟨b, 0, none⟩)] w fun e w' => (e = .returned (.tuple #[.int .i64 (if τ k < τ a.1 then 0 else 1), .bool (decide (τ k = τ a.1))])) ∧ Below w.heap.size w w' := by
  obtain ⟨rfl, rfl⟩ := hF
  obtain ⟨W, hW, hb, hx⟩ : ∃ W, w.alloc (.cells #[.int .u8 k.p, .int .u16 k.x, .int .u32 k.r] 76) = W ∧ Below w.heap.size w W ∧ W.heap[w.heap.size]? = some (.cells #[.int .u8 k.p, .int .u16 k.x, .int .u32 k.r] 76 (0, 0)) := ⟨_, rfl, (Below.refl _ _).alloc (Nat.le_refl _) _, heap_alloc_new _ _⟩
  obtain ⟨B, hB⟩ : ∃ B, w.heap.size = B := ⟨_, rfl⟩
  rw [hB] at hx
  have hT2 := below_block hb hT (Nat.le_refl _)
  have hN2 := below_block hb h.2.1 (Nat.le_refl _)
  have l1 := lt_of_block hT2
  have l2 := lt_of_block hN2
  have l3 := lt_of_block hx
  obtain ⟨t0, t1, t2, tf⟩ := three_cells hT2
  obtain ⟨c0, c0a, c0b, c1, c1a, c1b, c1c, c1d, c1e, c1f, c1g, c2, c3, c4, cf⟩ := five_cells hN2
  obtain ⟨x0, x1, x2, xf⟩ := key_cells hx
  have HB := hide hb
  have HE := hide (And.intro hW hB)
  have HBB := hide (Below.refl W.heap.size W)
  clear hx hb hW hB hT h hT2 hN2 t0 t2 tf c1 c1a c1b c1c c1d c1e c1f c1g c2 c3 c4 cf xf
  obtain ⟨o, ho⟩ : ∃ o, sgn (tM k) (tM a.1) = o := ⟨_, rfl⟩
  have HO := hide (fun (V : World) => orderM_any k a.1 V)
  rw [ho] at HO
  rcases Int.lt_trichotomy (tM k) (tM a.1) with hk | hk | hk
  · obtain rfl : o = -1 := by rw [← ho]; exact sgn_lt hk
    rw [if_pos hk, decide_eq_false (by omega)]
    clear hk ho
    go_enter Try.func96, Try.ntmps96
    go_wp2_with fail
    rw [HE.out.1, HE.out.2]
    clear HE
    go_region_held3 (fun w' => w'.cell? ⟨t, 1, none⟩ = some (.func (.func 30) #[] #[]) ∧ w'.cell? ⟨B, 0, none⟩ = some (.int .u8 k.p) ∧ w'.cell? ⟨B, 1, none⟩ = some (.int .u16 k.x) ∧ w'.cell? ⟨B, 2, none⟩ = some (.int .u32 k.r) ∧ w'.cell? ⟨b, 0, none⟩ = some (.int .u8 a.1.p) ∧ w'.cell? ⟨b, 1, none⟩ = some (.int .u16 a.1.x) ∧ w'.cell? ⟨b, 2, none⟩ = some (.int .u32 a.1.r)) (go_keep) (first
      | (go_at_call 30; (with_reducible refine (HO.out _).mono ?_); rintro e z ⟨rfl, b9⟩; (try replace b9 := below_of_drew b9); have HZ := hide (HB.out.trans (b9.mono HB.out.size));
          have m0 := (b9.cell (p := ⟨t, 1, none⟩) l1).trans t1;have n0 := (b9.cell (p := ⟨B, 0, none⟩) l3).trans x0; have n1 := (b9.cell (p := ⟨B, 1, none⟩) l3).trans x1; have n2 := (b9.cell (p := ⟨B, 2, none⟩) l3).trans x2; have o0 := (b9.cell (p := ⟨b, 0, none⟩) l2).trans c0; have o1 := (b9.cell (p := ⟨b, 1, none⟩) l2).trans c0a; have o2 := (b9.cell (p := ⟨b, 2, none⟩) l2).trans c0b; clear b9)
      | fail)
    go_wp2
    go_ret2
    exact ⟨rfl, HZ.out⟩
  · obtain rfl : o = 0 := by rw [← ho]; rw [hk]; exact sgn_eq _
    rw [if_neg (by omega), decide_eq_true hk]
    clear hk ho
    go_enter Try.func96, Try.ntmps96
    go_wp2_with fail
    rw [HE.out.1, HE.out.2]
    clear HE
    go_region_held3 (fun w' => w'.cell? ⟨t, 1, none⟩ = some (.func (.func 30) #[] #[]) ∧ w'.cell? ⟨B, 0, none⟩ = some (.int .u8 k.p) ∧ w'.cell? ⟨B, 1, none⟩ = some (.int .u16 k.x) ∧ w'.cell? ⟨B, 2, none⟩ = some (.int .u32 k.r) ∧ w'.cell? ⟨b, 0, none⟩ = some (.int .u8 a.1.p) ∧ w'.cell? ⟨b, 1, none⟩ = some (.int .u16 a.1.x) ∧ w'.cell? ⟨b, 2, none⟩ = some (.int .u32 a.1.r)) (go_keep) (first
      | (go_at_call 30; (with_reducible refine (HO.out _).mono ?_); rintro e z ⟨rfl, b9⟩; (try replace b9 := below_of_drew b9); have HZ := hide (HB.out.trans (b9.mono HB.out.size));
          have m0 := (b9.cell (p := ⟨t, 1, none⟩) l1).trans t1;have n0 := (b9.cell (p := ⟨B, 0, none⟩) l3).trans x0; have n1 := (b9.cell (p := ⟨B, 1, none⟩) l3).trans x1; have n2 := (b9.cell (p := ⟨B, 2, none⟩) l3).trans x2; have o0 := (b9.cell (p := ⟨b, 0, none⟩) l2).trans c0; have o1 := (b9.cell (p := ⟨b, 1, none⟩) l2).trans c0a; have o2 := (b9.cell (p := ⟨b, 2, none⟩) l2).trans c0b; clear b9)
      | fail)
    go_wp2
    go_ret2
    exact ⟨rfl, HZ.out⟩
  · obtain rfl : o = 1 := by rw [← ho]; exact sgn_gt hk
    rw [if_neg (by omega), decide_eq_false (by omega)]
    clear hk ho
    go_enter Try.func96, Try.ntmps96
    go_wp2_with fail
    rw [HE.out.1, HE.out.2]
    clear HE
    go_region_held3 (fun w' => w'.cell? ⟨t, 1, none⟩ = some (.func (.func 30) #[] #[]) ∧ w'.cell? ⟨B, 0, none⟩ = some (.int .u8 k.p) ∧ w'.cell? ⟨B, 1, none⟩ = some (.int .u16 k.x) ∧ w'.cell? ⟨B, 2, none⟩ = some (.int .u32 k.r) ∧ w'.cell? ⟨b, 0, none⟩ = some (.int .u8 a.1.p) ∧ w'.cell? ⟨b, 1, none⟩ = some (.int .u16 a.1.x) ∧ w'.cell? ⟨b, 2, none⟩ = some (.int .u32 a.1.r)) (go_keep) (first
      | (go_at_call 30; (with_reducible refine (HO.out _).mono ?_); rintro e z ⟨rfl, b9⟩; (try replace b9 := below_of_drew b9); have HZ := hide (HB.out.trans (b9.mono HB.out.size));
          have m0 := (b9.cell (p := ⟨t, 1, none⟩) l1).trans t1;have n0 := (b9.cell (p := ⟨B, 0, none⟩) l3).trans x0; have n1 := (b9.cell (p := ⟨B, 1, none⟩) l3).trans x1; have n2 := (b9.cell (p := ⟨B, 2, none⟩) l3).trans x2; have o0 := (b9.cell (p := ⟨b, 0, none⟩) l2).trans c0; have o1 := (b9.cell (p := ⟨b, 1, none⟩) l2).trans c0a; have o2 := (b9.cell (p := ⟨b, 2, none⟩) l2).trans c0b; clear b9)
      | fail)
    go_wp2
    go_ret2
    exact ⟨rfl, HZ.out⟩
end Go.Proofs.Ytijjgnkfddklgaa.C
