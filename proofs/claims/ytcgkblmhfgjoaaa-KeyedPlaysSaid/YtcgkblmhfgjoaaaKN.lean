/- Tables by the opposite order. -/
import Derived.Test.YtcgkblmhfgjoaaaKM
import Derived.Test.YtcgkblmhfgjoaaaKO
namespace Go.Proofs.Ytcgkblmhfgjoaaa
open Go.RowKit Go.Deep
set_option linter.unusedVariables false
set_option linter.unusedSimpArgs false
set_option maxRecDepth 100000
theorem rev_ins {k v : Int} : ∀ {L : List KV}, Asc id L → insL Neg.neg k v L.reverse = (insL id k v L).reverse
  | [], _ => rfl
  | x :: xs, ha => by
    have h' := List.pairwise_cons.1 ha
    have hm : ∀ y ∈ xs.reverse, -y.1 < -x.1 := fun y hy => by
      have := h'.1 y (List.mem_reverse.1 hy)
      have : x.1 < y.1 := this
      omega
    rw [List.reverse_cons, insL]
    show insL Neg.neg k v (xs.reverse ++ x :: []) = _
    by_cases h1 : k < x.1
    · rw [if_pos (show id k < id x.1 from h1), ins_right (τ := Neg.neg) (show -x.1 < -k by omega) xs.reverse hm]
      simp [insL]
    · by_cases h2 : k = x.1
      · rw [if_neg (show ¬ id k < id x.1 from h1), if_pos (show id k = id x.1 from h2), ins_here (τ := Neg.neg) (show -k = -x.1 by omega) xs.reverse hm]
        simp
      · rw [if_neg (show ¬ id k < id x.1 from h1), if_neg (show ¬ id k = id x.1 from h2), ins_left (τ := Neg.neg) (show -k < -x.1 by omega) xs.reverse, rev_ins h'.2]
        simp
theorem rev_has {k : Int} (L : List KV) : hasL Neg.neg k L.reverse = hasL id k L := by
  rw [Bool.eq_iff_iff, hasL_iff, hasL_iff]
  constructor
  · rintro ⟨x, hx, e⟩
    exact ⟨x, List.mem_reverse.1 hx, by show k = x.1; have : -k = -x.1 := e; omega⟩
  · rintro ⟨x, hx, e⟩
    exact ⟨x, List.mem_reverse.2 hx, by show -k = -x.1; have : k = x.1 := e; omega⟩
/-- What Put answers, and leaves. -/
def putC (τ : Int → Int) (m : Nat) (k v : Int) (L : List KV) : Int × List KV := if hasL τ k L = true ∨ L.length < m then (0, insL τ k v L) else (20, L)
theorem putC_len {τ : Int → Int} {m : Nat} {k v : Int} {L : List KV} (ha : Asc τ L) (h : L.length ≤ m) : (putC τ m k v L).2.length ≤ m := by
  unfold putC
  split
  · rename_i hr
    rw [show ((0, insL τ k v L) : Int × List KV).2 = insL τ k v L from rfl, ins_len ha]
    split
    · exact h
    · rename_i hh
      rcases hr with e | e
      · exact absurd e hh
      · omega
  · exact h
theorem putC_rev {m : Nat} {k v : Int} {L : List KV} (ha : Asc id L) : putC Neg.neg m k v L.reverse = ((putC id m k v L).1, (putC id m k v L).2.reverse) := by
  unfold putC
  rw [rev_has, List.length_reverse]
  split
  · rw [rev_ins ha]
  · rfl
theorem PutC {w : World} {t : Nat} {m : Nat} {fv : Value} {τ : Int → Int} {L : List KV} (h : Tab w t m fv τ L) (hF : OrdF fv τ) (k v : Int) (hn : L.length ≤ 600000) :
    Calls Try.prog 14 #[.pointer (some ⟨t, 0, none⟩), .int .i64 k, .int .i64 v] w fun e w' => e = .returned (.int .i64 (putC τ m k v L).1) ∧ Tab w' t m fv τ (putC τ m k v L).2 ∧ w.grownBy w' (some t) := by
  unfold putC
  split
  · rename_i hr
    exact PutL h hF k v hn (by rcases hr with e | e; exact .inl e; exact .inr (by omega))
  · rename_i hr
    refine PutF h hF k v hn ?_ (by omega)
    cases hh : hasL τ k L with
    | true => exact absurd (.inl hh) hr
    | false => rfl
theorem Tab.other {w w' : World} {t s : Nat} {m n : Int} {fv gv : Value} {τ σ : Int → Int} {L M : List KV} (h : Tab w t m fv τ L) (hs : Tab w s n gv σ M) (hne : t ≠ s) (hg : w.grownBy w' (some s)) : Tab w' t m fv τ L := by
  obtain ⟨S, hS, _⟩ := hs
  refine h.keep (fun b cs hb => (hg.block b (lt_of_block hb) (by intro e; cases e; rw [hS] at hb; cases hb)).trans hb) (fun o ho => (hg.block t (lt_of_block ho) (by intro e; cases e; exact hne rfl)).trans ho)
theorem gb_cell {w w' : World} {s b i : Nat} {v : Value} (hg : w.grownBy w' (some s)) (h : w.cell? ⟨b, i, none⟩ = some v) (hb : b < w.heap.size) (hne : b ≠ s) : w'.cell? ⟨b, i, none⟩ = some v :=
  (World.cell?_of_block (hg.block b hb (by intro e; cases e; exact hne rfl))).trans h
end Go.Proofs.Ytcgkblmhfgjoaaa
