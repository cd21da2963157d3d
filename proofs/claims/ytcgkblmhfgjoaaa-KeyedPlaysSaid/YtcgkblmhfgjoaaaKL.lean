/- Tables as lists: what their calls answer. -/
import Derived.Test.YtcgkblmhfgjoaaaKK
namespace Go.Proofs.Ytcgkblmhfgjoaaa
open Go.RowKit Go.Deep
set_option linter.unusedVariables false
set_option linter.unusedSimpArgs false
set_option maxRecDepth 100000
theorem hasL_iff {τ : Int → Int} {k : Int} {L : List KV} : hasL τ k L = true ↔ ∃ x ∈ L, τ k = τ x.1 := by
  unfold hasL
  rw [List.any_eq_true]
  simp
theorem ins_mem2 {τ : Int → Int} {k v : Int} : ∀ {L : List KV} {x : KV}, x ∈ L → τ x.1 ≠ τ k → x ∈ insL τ k v L
  | y :: L, x, h, hne => by
    rw [insL]
    split
    · exact List.mem_cons_of_mem _ h
    · split
      · rename_i h1 h2
        rcases List.mem_cons.1 h with rfl | h
        · exact absurd h2.symm hne
        · exact List.mem_cons_of_mem _ h
      · rcases List.mem_cons.1 h with rfl | h
        · simp
        · exact List.mem_cons_of_mem _ (ins_mem2 h hne)
theorem has_ins {τ : Int → Int} {k v : Int} : ∀ (L : List KV), hasL τ k (insL τ k v L) = true
  | [] => by simp [insL, hasL]
  | y :: L => by
    rw [insL]
    split
    · simp [hasL]
    · split
      · rename_i h1 h2; simp [hasL, h2]
      · rw [hasL_iff]
        obtain ⟨x, hx, e⟩ := hasL_iff.1 (has_ins L)
        exact ⟨x, List.mem_cons_of_mem _ hx, e⟩
theorem has_ins_ne {τ : Int → Int} {k j v : Int} (h : τ k ≠ τ j) (L : List KV) : hasL τ k (insL τ j v L) = hasL τ k L := by
  rw [Bool.eq_iff_iff, hasL_iff, hasL_iff]
  constructor
  · rintro ⟨x, hx, e⟩
    rcases ins_mem hx with h1 | h1
    · exact absurd (e.trans h1) h
    · exact ⟨x, h1, e⟩
  · rintro ⟨x, hx, e⟩
    exact ⟨x, ins_mem2 hx (fun e2 => h (e.trans e2)), e⟩
theorem get_ins {τ : Int → Int} {k v : Int} : ∀ {L : List KV}, Asc τ L → getL τ k (insL τ k v L) = v
  | [], _ => by simp [insL, getL]
  | y :: L, ha => by
    have ha' := List.pairwise_cons.1 ha
    rw [insL]
    split
    · simp [getL]
    · split
      · rename_i h1 h2; simp [getL, h2]
      · rename_i h1 h2
        have := get_ins (k := k) (v := v) ha'.2
        unfold getL at *
        rw [List.find?_cons, decide_eq_false h2]
        exact this
theorem get_ins_ne {τ : Int → Int} {k j v : Int} (h : τ k ≠ τ j) : ∀ (L : List KV), getL τ k (insL τ j v L) = getL τ k L
  | [] => by simp [insL, getL, h]
  | y :: L => by
    rw [insL]
    split
    · unfold getL; rw [List.find?_cons, decide_eq_false h]
    · split
      · rename_i h1 h2
        have : τ k ≠ τ y.1 := fun e => h (e.trans h2.symm)
        unfold getL
        rw [List.find?_cons, List.find?_cons, decide_eq_false this]
      · have ih := get_ins_ne (v := v) h L
        unfold getL at *
        rw [List.find?_cons, List.find?_cons]
        split
        · rfl
        · exact ih
theorem del_has {τ : Int → Int} {k : Int} (L : List KV) : hasL τ k (delL τ k L) = false := by
  unfold hasL delL
  rw [List.any_eq_false]
  intro x hx
  have := (List.mem_filter.1 hx).2
  simpa using this
theorem del_lt {τ : Int → Int} {k : Int} {L : List KV} (h : hasL τ k L = true) : (delL τ k L).length < L.length := by
  obtain ⟨x, hx, e⟩ := hasL_iff.1 h
  unfold delL
  rw [List.length_filter_lt_length_iff_exists]
  exact ⟨x, hx, by simp [e]⟩
theorem del_asc {τ : Int → Int} {k : Int} {L : List KV} (h : Asc τ L) : Asc τ (delL τ k L) := List.Pairwise.sublist (List.filter_sublist) h
/-- A table is a list of keys with values. -/
def Tab (w : World) (t : Nat) (most : Int) (fv : Value) (τ : Int → Int) (L : List KV) : Prop := ∃ T, TabAt w t most fv (ad T) ∧ TIn w T ∧ toL T = L ∧ Asc τ L
theorem Tab.keep {w w' : World} {t : Nat} {most : Int} {fv : Value} {τ : Int → Int} {L : List KV} (h : Tab w t most fv τ L) (hg : NK w w') (ht : ∀ o, w.heap[t]? = some o → w'.heap[t]? = some o) : Tab w' t most fv τ L := by
  obtain ⟨T, h1, h2, h3, h4⟩ := h
  exact ⟨T, ht _ h1, TIn.keep hg h2, h3, h4⟩
theorem Tab.below {w w' : World} {t B : Nat} {most : Int} {fv : Value} {τ : Int → Int} {L : List KV} (h : Tab w t most fv τ L) (hb : Below B w w') (hB : w.heap.size ≤ B) : Tab w' t most fv τ L :=
  h.keep (NK.of_below hb hB) (fun o ho => below_block hb ho hB)
theorem Tab.drewN {w : World} {t : Nat} {most : Int} {fv : Value} {τ : Int → Int} {L : List KV} (h : Tab w t most fv τ L) (n : Nat) : Tab (w.drewN n) t most fv τ L := h.keep (NK.drewN w n) (fun _ h => h)
theorem Tab.asc {w : World} {t : Nat} {most : Int} {fv : Value} {τ : Int → Int} {L : List KV} (h : Tab w t most fv τ L) : Asc τ L := by obtain ⟨_, _, _, _, h⟩ := h; exact h
theorem Tab.lt {w : World} {t : Nat} {most : Int} {fv : Value} {τ : Int → Int} {L : List KV} (h : Tab w t most fv τ L) : t < w.heap.size := by obtain ⟨_, h, _⟩ := h; exact lt_of_block h
theorem PutL {w : World} {t : Nat} {most : Int} {fv : Value} {τ : Int → Int} {L : List KV} (h : Tab w t most fv τ L) (hF : OrdF fv τ) (k v : Int) (hn : L.length ≤ 600000) (hr : hasL τ k L = true ∨ (L.length : Int) < most) :
    Calls Try.prog 14 #[.pointer (some ⟨t, 0, none⟩), .int .i64 k, .int .i64 v] w fun e w' => e = .returned (.int .i64 0) ∧ Tab w' t most fv τ (insL τ k v L) ∧ w.grownBy w' (some t) := by
  obtain ⟨T, h1, h2, rfl, h4⟩ := h
  refine (Put_ok t most fv τ T k v w h1 hF h2 h4 (by rw [← nsz_toL]; omega) (by rw [← nsz_toL]; exact hr)).mono ?_
  rintro e w' ⟨rfl, T', g1, g2, g3, g4⟩
  exact ⟨rfl, ⟨T', g1, g2, g3, ins_asc h4⟩, g4⟩
theorem PutF {w : World} {t : Nat} {most : Int} {fv : Value} {τ : Int → Int} {L : List KV} (h : Tab w t most fv τ L) (hF : OrdF fv τ) (k v : Int) (hn : L.length ≤ 600000) (hr : hasL τ k L = false) (hm : most ≤ (L.length : Int)) :
    Calls Try.prog 14 #[.pointer (some ⟨t, 0, none⟩), .int .i64 k, .int .i64 v] w fun e w' => e = .returned (.int .i64 20) ∧ Tab w' t most fv τ L ∧ w.grownBy w' (some t) := by
  obtain ⟨T, h1, h2, rfl, h4⟩ := h
  refine (Put_full t most fv τ T k v w h1 hF h2 h4 (by rw [← nsz_toL]; omega) hr (by rw [← nsz_toL]; exact hm)).mono ?_
  rintro e w' ⟨rfl, T', g1, g2, g3, g4⟩
  exact ⟨rfl, ⟨T', g1, g2, g3, h4⟩, g4⟩
theorem DropL {w : World} {t : Nat} {most : Int} {fv : Value} {τ : Int → Int} {L : List KV} (h : Tab w t most fv τ L) (hF : OrdF fv τ) (k : Int) (hn : L.length ≤ 600000) :
    Calls Try.prog 12 #[.pointer (some ⟨t, 0, none⟩), .int .i64 k] w fun e w' => e = .returned (.bool (hasL τ k L)) ∧ Tab w' t most fv τ (delL τ k L) ∧ w.grownBy w' (some t) := by
  obtain ⟨T, h1, h2, rfl, h4⟩ := h
  refine (Drop_any t most fv τ T k w h1 hF h2 h4 (by rw [← nsz_toL]; omega)).mono ?_
  rintro e w' ⟨rfl, T', g1, g2, g3, g4⟩
  exact ⟨rfl, ⟨T', g1, g2, g3, del_asc h4⟩, g4⟩
theorem GetL {w : World} {t : Nat} {most : Int} {fv : Value} {τ : Int → Int} {L : List KV} (h : Tab w t most fv τ L) (hF : OrdF fv τ) (k : Int) :
    Calls Try.prog 16 #[.pointer (some ⟨t, 0, none⟩), .int .i64 k] w fun e w' => e = .returned (.tuple #[.int .i64 (getL τ k L), .bool (hasL τ k L)]) ∧ Tab w' t most fv τ L ∧ w.grownBy w' (some t) := by
  have h0 := h
  obtain ⟨T, h1, h2, rfl, h4⟩ := h
  refine (get_any t most fv τ T k w h1 hF h2 h4).mono ?_
  rintro e w' ⟨rfl, n, rfl⟩
  exact ⟨rfl, h0.drewN n, gb_drewN w n _⟩
theorem LenL {w : World} {t : Nat} {most : Int} {fv : Value} {τ : Int → Int} {L : List KV} (h : Tab w t most fv τ L) :
    Calls Try.prog 23 #[.pointer (some ⟨t, 0, none⟩)] w fun e w' => e = .returned (.int .i64 (L.length : Int)) ∧ w = w' := by
  obtain ⟨T, h1, h2, rfl, h4⟩ := h
  exact lenT_any t most fv T w h1 h2
theorem AtL {w : World} {t : Nat} {most : Int} {fv : Value} {τ : Int → Int} {L : List KV} (h : Tab w t most fv τ L) (i : Nat) (x : KV) (hx : L[i]? = some x) (hn : L.length ≤ 600000) :
    Calls Try.prog 24 #[.pointer (some ⟨t, 0, none⟩), .int .i64 i] w fun e w' => e = .returned (.tuple #[.int .i64 x.1, .int .i64 x.2, .bool true]) ∧ Tab w' t most fv τ L ∧ w.grownBy w' (some t) := by
  have h0 := h
  obtain ⟨T, h1, h2, rfl, h4⟩ := h
  have hil : i < (toL T).length := by
    rcases Nat.lt_or_ge i (toL T).length with h | h
    · exact h
    · rw [List.getElem?_eq_none h] at hx; cases hx
  refine (At_any t most fv T (i : Int) w h1 h2 (by rw [← nsz_toL]; omega) (by omega) (by omega)).mono ?_
  rintro e w' ⟨⟨y, hy⟩, n, rfl⟩
  rcases hy with ⟨e1, e2, rfl⟩ | ⟨e1, rfl⟩
  · rw [Int.toNat_natCast, hx] at e1
    cases e1
    exact ⟨rfl, h0.drewN n, gb_drewN w n _⟩
  · rw [nsz_toL] at hil
    omega
def oF : Value := .func (.func 10) #[] #[]
theorem oF_ord : OrdF oF id := .inl ⟨rfl, rfl⟩
def tF : Value := .func (.func 22) #[] #[]
theorem tF_ord : OrdF tF Neg.neg := .inr ⟨rfl, rfl⟩
set_option maxHeartbeats 400000 in
theorem newL (m : Nat) (hm : m ≤ 1000000) (fv : Value) (τ : Int → Int) (w : World) (hF : OrdF fv τ) :
    Calls Try.prog 9 #[.int .i64 m, fv] w fun e w' => e = .returned (.pointer (some ⟨w.heap.size, 0, none⟩)) ∧ Tab w' w.heap.size m fv τ [] ∧ Below w.heap.size w w' := by
  have hmx : max (m : Int) 0 = (m : Int) := by omega
  rcases hF with ⟨rfl, rfl⟩ | ⟨rfl, rfl⟩
  · go_enter Try.func9, Try.ntmps9
    go_wp2
    go_ret
    exact ⟨rfl, ⟨.nil, heap_alloc_new w _, trivial, rfl, List.Pairwise.nil⟩, (Below.refl _ _).alloc (Nat.le_refl _) _⟩
  · go_enter Try.func9, Try.ntmps9
    go_wp2
    go_ret
    exact ⟨rfl, ⟨.nil, heap_alloc_new w _, trivial, rfl, List.Pairwise.nil⟩, (Below.refl _ _).alloc (Nat.le_refl _) _⟩
end Go.Proofs.Ytcgkblmhfgjoaaa
