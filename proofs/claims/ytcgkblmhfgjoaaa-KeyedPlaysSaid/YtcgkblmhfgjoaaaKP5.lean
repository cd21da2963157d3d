/- A new table of any bound. -/
import Derived.Test.YtcgkblmhfgjoaaaKP4
namespace Go.Proofs.Ytcgkblmhfgjoaaa
open Go.RowKit Go.Deep
set_option linter.unusedVariables false
set_option linter.unusedSimpArgs false
set_option maxRecDepth 100000
set_option maxHeartbeats 400000 in
theorem newI (m : Int) (fv : Value) (τ : Int → Int) (w : World) (hF : OrdF fv τ) :
    Calls Try.prog 9 #[.int .i64 m, fv] w fun e w' => e = .returned (.pointer (some ⟨w.heap.size, 0, none⟩)) ∧ Tab w' w.heap.size (if m < 0 then 0 else m) fv τ [] ∧ Below w.heap.size w w' := by
  have hmx : max m 0 = (if m < 0 then 0 else m) := by split <;> omega
  rcases hF with ⟨rfl, rfl⟩ | ⟨rfl, rfl⟩
  · go_enter Try.func9, Try.ntmps9
    go_wp2
    try rw [hmx]
    all_goals (go_ret; exact ⟨rfl, ⟨.nil, heap_alloc_new w _, trivial, rfl, List.Pairwise.nil⟩, (Below.refl _ _).alloc (Nat.le_refl _) _⟩)
  · go_enter Try.func9, Try.ntmps9
    go_wp2
    try rw [hmx]
    all_goals (go_ret; exact ⟨rfl, ⟨.nil, heap_alloc_new w _, trivial, rfl, List.Pairwise.nil⟩, (Below.refl _ _).alloc (Nat.le_refl _) _⟩)
/-- The document's Put at any bound. -/
theorem putR_all (w : World) (base p m : Nat) (L : List KV) (ks vs : List Int) (ka : Option Addr) (kc : Nat) (va : Option Addr) (vc : Nat) (k v : Int) (h : RT w base p m ks vs ka kc va vc) (hap : Apart ka va) (hL : Lk L ks vs) (hn : L.length ≤ m) (hm : L.length ≤ 100000) (hbw : base ≤ w.heap.size) :
    Calls Try.prog 15 #[.pointer (some ⟨p, 0, none⟩), .int .i64 k, .int .i64 v] w fun e w' => e = .returned (.int .i64 (putC id m k v L).1) ∧ FR base p w w' ∧ ∃ ks' vs' ka' kc' va' vc', RT w' base p m ks' vs' ka' kc' va' vc' ∧ Apart ka' va' ∧ Lk (putC id m k v L).2 ks' vs' := by
  have hc := hL.cnt
  rcases idxL_spec k ks with ⟨h1, h2⟩ | ⟨i, h1, h2, h3, h4⟩
  · have hh : ¬ hasL id k L = true := fun e => h2 ((hL.key k).1 (has_iff.1 e))
    unfold putC
    by_cases hf : L.length < m
    · rw [if_pos (Or.inr hf)]
      refine (putR_new w base p m ks vs ka kc va vc k v h hap (by omega) hbw h2 (by omega)).mono ?_
      rintro e w' ⟨rfl, hfr, ka', kc', va', vc', hr, ha⟩
      exact ⟨rfl, hfr, _, _, ka', kc', va', vc', hr, ha, hL.new h2⟩
    · rw [if_neg (by rintro (e | e); exact hh e; exact hf e)]
      refine (putR_full w base p m ks vs ka kc va vc k v h hap (by omega) hbw h2 (by omega)).mono ?_
      rintro e w' ⟨rfl, nq, rfl⟩
      exact ⟨rfl, FR.drewN base p w nq, ks, vs, ka, kc, va, vc, ⟨h.tab, h.krow, h.vrow, h.len, h.lt⟩, hap, hL⟩
  · have hh : hasL id k L = true := has_iff.2 ((hL.key k).2 (List.mem_of_getElem? h3))
    unfold putC
    rw [if_pos (Or.inl hh)]
    refine (putR_old w base p m ks vs ka kc va vc k v h hap (by omega) hbw i h1 h2).mono ?_
    rintro e w' ⟨rfl, hfr, hr⟩
    exact ⟨rfl, hfr, _, _, ka, kc, va, vc, hr, hap, hL.old h3⟩
end Go.Proofs.Ytcgkblmhfgjoaaa
