/- The two tables hold the same. -/
import Derived.Test.YtcgkblmhfgjoaaaKRefO
namespace Go.Proofs.Ytcgkblmhfgjoaaa
open Go.RowKit Go.Deep
set_option linter.unusedVariables false
set_option linter.unusedSimpArgs false
theorem ins_iff {k v : Int} : ∀ {L : List KV}, Asc id L → ∀ x : KV, x ∈ insL id k v L ↔ x = (k, v) ∨ (x.1 ≠ k ∧ x ∈ L)
  | [], _, x => by simp [insL]
  | y :: L, h, x => by
    obtain ⟨h1, h2⟩ := List.pairwise_cons.1 h
    have ih := ins_iff (k := k) (v := v) h2 x
    simp only [id] at h1
    unfold insL
    simp only [id]
    by_cases g : k < y.1
    · rw [if_pos g]
      constructor
      · intro e
        rcases List.mem_cons.1 e with e | e
        · exact .inl e
        · refine .inr ⟨?_, e⟩
          rcases List.mem_cons.1 e with e | e
          · rw [e]; omega
          · have := h1 x e; omega
      · rintro (e | ⟨_, e⟩)
        · rw [e]; simp
        · simp [e]
    · rw [if_neg g]
      by_cases g2 : y.1 < k
      · rw [if_neg (show ¬ k = y.1 by omega)]
        rw [List.mem_cons, ih, List.mem_cons]
        constructor
        · rintro (e | e | ⟨e, f⟩)
          · exact .inr ⟨by rw [e]; omega, .inl e⟩
          · exact .inl e
          · exact .inr ⟨e, .inr f⟩
        · rintro (e | ⟨e, f | f⟩)
          · exact .inr (.inl e)
          · exact .inl f
          · exact .inr (.inr ⟨e, f⟩)
      · rw [if_pos (show k = y.1 by omega)]
        have hk : y.1 = k := by omega
        rw [List.mem_cons, List.mem_cons]
        constructor
        · rintro (e | e)
          · exact .inl (by rw [e, hk])
          · exact .inr ⟨by have := h1 x e; omega, .inr e⟩
        · rintro (e | ⟨e, f | f⟩)
          · exact .inl (by rw [e, hk])
          · exact absurd (by rw [f, hk]) e
          · exact .inr f
theorem has_iff {k : Int} {L : List KV} : hasL id k L = true ↔ k ∈ L.map (·.1) := by
  unfold hasL
  rw [List.any_eq_true]
  constructor
  · rintro ⟨x, hx, e⟩
    exact List.mem_map.2 ⟨x, hx, (of_decide_eq_true e).symm⟩
  · intro g
    obtain ⟨x, hx, e⟩ := List.mem_map.1 g
    exact ⟨x, hx, decide_eq_true e.symm⟩
/-- The document's rows hold the list. -/
structure Lk (L : List KV) (ks vs : List Int) : Prop where
  asc : Asc id L
  len : vs.length = ks.length
  cnt : L.length = ks.length
  nd : ∀ (i j : Nat) (k : Int), ks[i]? = some k → ks[j]? = some k → i = j
  mem : ∀ k v, (k, v) ∈ L ↔ ∃ i : Nat, ks[i]? = some k ∧ vs[i]? = some v
theorem Lk.nil : Lk [] [] [] := ⟨List.Pairwise.nil, rfl, rfl, fun i j k h => by simp at h, fun k v => by simp⟩
theorem Lk.key {L : List KV} {ks vs : List Int} (h : Lk L ks vs) (k : Int) : k ∈ L.map (·.1) ↔ k ∈ ks := by
  constructor
  · intro g
    obtain ⟨x, hx, rfl⟩ := List.mem_map.1 g
    obtain ⟨i, hi, _⟩ := (h.mem x.1 x.2).1 hx
    exact List.mem_of_getElem? hi
  · intro g
    obtain ⟨i, hi, he⟩ := List.mem_iff_getElem.1 g
    exact List.mem_map.2 ⟨(k, vs[i]'(by rw [h.len]; exact hi)), (h.mem _ _).2 ⟨i, by rw [List.getElem?_eq_getElem hi, he], List.getElem?_eq_getElem _⟩, rfl⟩
theorem Lk.rising {L : List KV} {ks vs : List Int} (h : Lk L ks vs) : (L.map (·.1)).Pairwise (· < ·) := List.pairwise_map.2 h.asc
/-- Where a pair stands. -/
theorem Lk.at {L : List KV} {ks vs : List Int} (h : Lk L ks vs) {x : KV} (hx : x ∈ L) : ∃ i : Nat, i < ks.length ∧ idxL x.1 ks = (i : Int) ∧ ks[i]? = some x.1 ∧ vs[i]? = some x.2 := by
  obtain ⟨j, hj, hv⟩ := (h.mem x.1 x.2).1 hx
  rcases idxL_spec x.1 ks with ⟨_, h2⟩ | ⟨i, h1, h2, h3, _⟩
  · exact absurd (List.mem_of_getElem? hj) h2
  · have := h.nd i j _ h3 hj
    subst this
    exact ⟨i, h1, h2, h3, hv⟩
theorem Lk.old {L : List KV} {ks vs : List Int} (h : Lk L ks vs) {k v : Int} {i : Nat} (hi : ks[i]? = some k) : Lk (insL id k v L) ks (vs.set i v) := by
  have hlt : i < ks.length := (List.getElem?_eq_some_iff.1 hi).1
  refine ⟨ins_asc h.asc, by rw [List.length_set]; exact h.len, by rw [ins_len h.asc, if_pos (has_iff.2 ((h.key k).2 (List.mem_of_getElem? hi)))]; exact h.cnt, h.nd, fun a b => ?_⟩
  rw [ins_iff h.asc, h.mem]
  constructor
  · rintro (e | ⟨e, j, f, g⟩)
    · cases e; exact ⟨i, hi, by rw [List.getElem?_set_self (by rw [h.len]; exact hlt)]⟩
    · exact ⟨j, f, by rw [List.getElem?_set_ne (by rintro rfl; rw [hi] at f; cases f; exact e rfl)]; exact g⟩
  · rintro ⟨j, f, g⟩
    by_cases hj : i = j
    · subst hj
      rw [List.getElem?_set_self (by rw [h.len]; exact hlt)] at g
      rw [hi] at f; cases f; cases g
      exact .inl rfl
    · rw [List.getElem?_set_ne hj] at g
      exact .inr ⟨fun e => hj (h.nd i j k hi (by rw [f]; exact congrArg some e)), j, f, g⟩
theorem snoc_at {l : List Int} {a x : Int} {i : Nat} : (l ++ [a])[i]? = some x ↔ l[i]? = some x ∨ (i = l.length ∧ x = a) := by
  rcases Nat.lt_trichotomy i l.length with g | g | g
  · rw [List.getElem?_append_left g]
    constructor
    · exact .inl
    · rintro (e | ⟨e, _⟩)
      · exact e
      · omega
  · subst g
    simp
    exact ⟨fun e => e.symm, fun e => e.symm⟩
  · rw [List.getElem?_eq_none (by simp; omega), List.getElem?_eq_none (by omega)]
    simp; omega
theorem Lk.new {L : List KV} {ks vs : List Int} (h : Lk L ks vs) {k v : Int} (hk : k ∉ ks) : Lk (insL id k v L) (ks ++ [k]) (vs ++ [v]) := by
  refine ⟨ins_asc h.asc, by simp [h.len], by rw [ins_len h.asc, if_neg (fun e => hk ((h.key k).1 (has_iff.1 e))), List.length_append, h.cnt]; rfl, fun i j a hi hj => ?_, fun a b => ?_⟩
  · rcases snoc_at.1 hi with e | ⟨e, e2⟩ <;> rcases snoc_at.1 hj with f | ⟨f, f2⟩
    · exact h.nd i j a e f
    · subst f2; exact absurd (List.mem_of_getElem? e) hk
    · subst e2; exact absurd (List.mem_of_getElem? f) hk
    · omega
  · rw [ins_iff h.asc, h.mem]
    constructor
    · rintro (e | ⟨e, j, f, g⟩)
      · cases e; exact ⟨ks.length, snoc_at.2 (.inr ⟨rfl, rfl⟩), snoc_at.2 (.inr ⟨h.len.symm, rfl⟩)⟩
      · exact ⟨j, snoc_at.2 (.inl f), snoc_at.2 (.inl g)⟩
    · rintro ⟨j, f, g⟩
      rcases snoc_at.1 f with f1 | ⟨f, f2⟩
      · have hj : j < ks.length := (List.getElem?_eq_some_iff.1 f1).1
        have hka : a ∈ ks := List.mem_of_getElem? f1
        rcases snoc_at.1 g with g | ⟨g, _⟩
        · exact .inr ⟨fun e => hk (by have e' : a = k := e; rw [← e']; exact hka), j, f1, g⟩
        · have := h.len; omega
      · subst f2
        rcases snoc_at.1 g with g | ⟨_, g2⟩
        · have := (List.getElem?_eq_some_iff.1 g).1; have := h.len; omega
        · rw [g2]; exact .inl rfl
/-- The document's Put, over the list. -/
theorem putR_any (w : World) (base p m : Nat) (L : List KV) (ks vs : List Int) (ka : Option Addr) (kc : Nat) (va : Option Addr) (vc : Nat) (k v : Int) (h : RT w base p m ks vs ka kc va vc) (hap : Apart ka va) (hL : Lk L ks vs) (hn : L.length ≤ m) (hm : m ≤ 100000) (hbw : base ≤ w.heap.size) :
    Calls Try.prog 15 #[.pointer (some ⟨p, 0, none⟩), .int .i64 k, .int .i64 v] w fun e w' => e = .returned (.int .i64 (putC id m k v L).1) ∧ FR base p w w' ∧ ∃ ks' vs' ka' kc' va' vc', RT w' base p m ks' vs' ka' kc' va' vc' ∧ Apart ka' va' ∧ Lk (putC id m k v L).2 ks' vs' := by
  have hc := hL.cnt
  rcases idxL_spec k ks with ⟨h1, h2⟩ | ⟨i, h1, h2, h3, h4⟩
  · have hh : ¬ hasL id k L = true := fun e => h2 ((hL.key k).1 (has_iff.1 e))
    unfold putC
    by_cases hf : L.length < m
    · rw [if_pos (Or.inr hf)]
      refine (putR_new w base p m ks vs ka kc va vc k v h hap (by omega) hbw h2 (by omega)).mono ?_
      rintro e w' ⟨rfl, hfr, ka', kc', va', vc', hr, ha⟩
      exact ⟨rfl, hfr, _, _, ka', kc', va', vc', hr, ha, hL.new h2⟩
    · rw [if_neg (by rintro (e | e); exact hh e; exact hf e)]
      refine (putR_full w base p m ks vs ka kc va vc k v h hap (by omega) hbw h2 (by omega)).mono ?_
      rintro e w' ⟨rfl, nq, rfl⟩
      exact ⟨rfl, FR.drewN base p w nq, ks, vs, ka, kc, va, vc, ⟨h.tab, h.krow, h.vrow, h.len, h.lt⟩, hap, hL⟩
  · have hh : hasL id k L = true := has_iff.2 ((hL.key k).2 (List.mem_of_getElem? h3))
    unfold putC
    rw [if_pos (Or.inl hh)]
    refine (putR_old w base p m ks vs ka kc va vc k v h hap (by omega) hbw i h1 h2).mono ?_
    rintro e w' ⟨rfl, hfr, hr⟩
    exact ⟨rfl, hfr, _, _, ka, kc, va, vc, hr, hap, hL.old h3⟩
/-- The document's writing leaves the nodes. -/
theorem FR.nk {base p : Nat} {w w' : World} {cs : Array Value} (h : FR base p w w') (hp : w.heap[p]? = some (.cells cs 39 (0, 0))) : NK w w' := fun b ds hb => by
  refine h.block b _ hb ?_ (.inr fun es fz e => ?_)
  · rintro rfl; rw [hp] at hb; cases hb
  · cases e
/-- The program's writing leaves the document's table. -/
theorem RT.grown {w w' : World} {base p t : Nat} {most : Int} {ks vs : List Int} {ka : Option Addr} {kc : Nat} {va : Option Addr} {vc : Nat} (h : RT w base p most ks vs ka kc va vc) (hg : w.grownBy w' (some t)) (ht : t < p) : RT w' base p most ks vs ka kc va vc := by
  have hlt := h.lt
  refine ⟨(hg.block p (lt_of_block h.tab) (by intro e; cases e; omega)).trans h.tab, h.krow.kept hg (.inr fun e => ?_), h.vrow.kept hg (.inr fun e => ?_), h.len, h.lt⟩
  · have := (h.krow.lt t e).1; omega
  · have := (h.vrow.lt t e).1; omega
theorem FR.tab {base p t : Nat} {w w' : World} {m : Nat} {fv : Value} {τ : Int → Int} {L : List KV} {cs : Array Value} (h : FR base p w w') (hp : w.heap[p]? = some (.cells cs 39 (0, 0))) (ht : t < p) (hb : p < base) (hT : Tab w t m fv τ L) : Tab w' t m fv τ L :=
  hT.keep (h.nk hp) (fun o ho => h.block t o ho (by omega) (.inl (by omega)))
end Go.Proofs.Ytcgkblmhfgjoaaa
