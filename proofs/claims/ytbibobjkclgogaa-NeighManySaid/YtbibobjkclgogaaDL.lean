/- Tables as lists: what their calls answer: [hearth/api.Addr, hearth/neigh.host]. -/
import Derived.Test.YtbibobjkclgogaaDN
namespace Go.Proofs.Ytbibobjkclgogaa.D
open Go.RowKit Go.Deep
open Go.Proofs.Ytbibobjkclgogaa
set_option linter.unusedVariables false
set_option linter.unusedSimpArgs false
set_option maxRecDepth 100000
/-- A table is a list of keys with values. -/
def Tab (w : World) (t : Nat) (most : Int) (fv : Value) (τ : Int → Int) (L : List KV) : Prop := ∃ T, TabAt w t most fv (ad T) ∧ TIn w T ∧ toL T = L ∧ Asc τ L
theorem Tab.keep {w w' : World} {t : Nat} {most : Int} {fv : Value} {τ : Int → Int} {L : List KV} (h : Tab w t most fv τ L) (hg : NK w w') (ht : ∀ o, w.heap[t]? = some o → w'.heap[t]? = some o) : Tab w' t most fv τ L := by
  obtain ⟨T, h1, h2, h3, h4⟩ := h
  exact ⟨T, ht _ h1, TIn.keep hg h2, h3, h4⟩
theorem Tab.below {w w' : World} {t B : Nat} {most : Int} {fv : Value} {τ : Int → Int} {L : List KV} (h : Tab w t most fv τ L) (hb : Below B w w') (hB : w.heap.size ≤ B) : Tab w' t most fv τ L :=
  h.keep (NK.of_below hb hB) (fun o ho => below_block hb ho hB)
theorem Tab.drewN {w : World} {t : Nat} {most : Int} {fv : Value} {τ : Int → Int} {L : List KV} (h : Tab w t most fv τ L) (n : Nat) : Tab (w.drewN n) t most fv τ L := h.keep (NK.drewN w n) (fun _ h => h)
theorem Tab.asc {w : World} {t : Nat} {most : Int} {fv : Value} {τ : Int → Int} {L : List KV} (h : Tab w t most fv τ L) : Asc τ L := by obtain ⟨_, _, _, _, h⟩ := h; exact h
theorem Tab.lt {w : World} {t : Nat} {most : Int} {fv : Value} {τ : Int → Int} {L : List KV} (h : Tab w t most fv τ L) : t < w.heap.size := by obtain ⟨_, h, _⟩ := h; exact lt_of_block h
theorem PutL {w : World} {t : Nat} {most : Int} {fv : Value} {τ : Int → Int} {L : List KV} (h : Tab w t most fv τ L) (hF : OrdF fv τ) (k : Int) (v : NH) (hn : L.length ≤ 600000) (hr : hasL τ k L = true ∨ (L.length : Int) < most) :
    Calls Try.prog 35 #[.pointer (some ⟨t, 0, none⟩), .int .u32 k, .agg #[.int .u8 v.m0, .int .u8 v.m1, .int .u8 v.m2, .int .u8 v.m3, .int .u8 v.m4, .int .u8 v.m5, .int .u64 v.e]] w fun e w' => e = .returned (.int .i64 0) ∧ Tab w' t most fv τ (insL τ k v L) ∧ w.grownBy w' (some t) := by
  obtain ⟨T, h1, h2, rfl, h4⟩ := h
  refine (Put_ok t most fv τ T k v w h1 hF h2 h4 (by rw [← nsz_toL]; omega) (by rw [← nsz_toL]; exact hr)).mono ?_
  rintro e w' ⟨rfl, T', g1, g2, g3, g4⟩
  exact ⟨rfl, ⟨T', g1, g2, g3, ins_asc h4⟩, g4⟩
theorem DropL {w : World} {t : Nat} {most : Int} {fv : Value} {τ : Int → Int} {L : List KV} (h : Tab w t most fv τ L) (hF : OrdF fv τ) (k : Int) (hn : L.length ≤ 600000) :
    Calls Try.prog 36 #[.pointer (some ⟨t, 0, none⟩), .int .u32 k] w fun e w' => e = .returned (.bool (hasL τ k L)) ∧ Tab w' t most fv τ (delL τ k L) ∧ w.grownBy w' (some t) := by
  obtain ⟨T, h1, h2, rfl, h4⟩ := h
  refine (Drop_any t most fv τ T k w h1 hF h2 h4 (by rw [← nsz_toL]; omega)).mono ?_
  rintro e w' ⟨rfl, T', g1, g2, g3, g4⟩
  exact ⟨rfl, ⟨T', g1, g2, g3, del_asc h4⟩, g4⟩
theorem GetL {w : World} {t : Nat} {most : Int} {fv : Value} {τ : Int → Int} {L : List KV} (h : Tab w t most fv τ L) (hF : OrdF fv τ) (k : Int) :
    Calls Try.prog 27 #[.pointer (some ⟨t, 0, none⟩), .int .u32 k] w fun e w' => e = .returned (.tuple #[GV (getL τ k L), .bool (hasL τ k L)]) ∧ Below w.heap.size w w' := by
  obtain ⟨T, h1, h2, rfl, h4⟩ := h
  exact get_any t most fv τ T k w h1 hF h2 h4
theorem LenL {w : World} {t : Nat} {most : Int} {fv : Value} {τ : Int → Int} {L : List KV} (h : Tab w t most fv τ L) :
    Calls Try.prog 30 #[.pointer (some ⟨t, 0, none⟩)] w fun e w' => e = .returned (.int .i64 (L.length : Int)) ∧ w = w' := by
  obtain ⟨T, h1, h2, rfl, h4⟩ := h
  exact lenT_any t most fv T w h1 h2
theorem Tab.other {w w' : World} {t s : Nat} {m n : Int} {fv gv : Value} {τ σ : Int → Int} {L M : List KV} (h : Tab w t m fv τ L) (hs : Tab w s n gv σ M) (hne : t ≠ s) (hg : w.grownBy w' (some s)) : Tab w' t m fv τ L := by
  obtain ⟨S, hS, _⟩ := hs
  refine h.keep (fun b cs hb => (hg.block b (lt_of_block hb) (by intro e; cases e; rw [hS] at hb; cases hb)).trans hb) (fun o ho => (hg.block t (lt_of_block ho) (by intro e; cases e; exact hne rfl)).trans ho)
def oF : Value := .func (.func 20) #[] #[]
theorem oF_ord : OrdF oF id := ⟨rfl, rfl⟩
set_option maxHeartbeats 400000 in
theorem newL (m : Int) (hm : 0 ≤ m) (w : World) :
    Calls Try.prog 19 #[.int .i64 m, oF] w fun e w' => e = .returned (.pointer (some ⟨w.heap.size, 0, none⟩)) ∧ Tab w' w.heap.size m oF id [] ∧ Below w.heap.size w w' := by
  have hmx : max m 0 = m := by omega
  unfold oF
  go_enter Try.func19, Try.ntmps19
  go_wp2
  go_ret
  exact ⟨rfl, ⟨.nil, heap_alloc_new w _, trivial, rfl, List.Pairwise.nil⟩, (Below.refl _ _).alloc (Nat.le_refl _) _⟩
end Go.Proofs.Ytbibobjkclgogaa.D
