/- The two tables beside one another: what a call leaves. -/
import Derived.Test.YtcgkblmhfgjoaaaKP7
namespace Go.Proofs.Ytcgkblmhfgjoaaa
open Go.RowKit Go.Deep
set_option linter.unusedVariables false
set_option linter.unusedSimpArgs false
set_option maxRecDepth 100000
theorem dropR_all (w : World) (base p : Nat) (m : Int) (L : List KV) (ks vs : List Int) (ka : Option Addr) (kc : Nat) (va : Option Addr) (vc : Nat) (k : Int) (h : RT w base p m ks vs ka kc va vc) (hap : Apart ka va) (hL : Lk L ks vs) (hm : L.length ≤ 100000) (hbw : base ≤ w.heap.size) :
    Calls Try.prog 13 #[.pointer (some ⟨p, 0, none⟩), .int .i64 k] w fun e w' => e = .returned (.bool (hasL id k L)) ∧ FR base p w w' ∧ ∃ ks' vs' ka' kc' va' vc', RT w' base p m ks' vs' ka' kc' va' vc' ∧ Apart ka' va' ∧ Lk (delL id k L) ks' vs' := by
  have hc := hL.cnt
  rcases idxL_spec k ks with ⟨h1, h2⟩ | ⟨i, h1, h2, h3, h4⟩
  · have hh : hasL id k L = false := by
      rw [Bool.eq_false_iff]; exact fun e => h2 ((hL.key k).1 (has_iff.1 e))
    rw [hh, delL_not hL h2]
    refine (dropR_not w p m ks vs ka kc va vc k h.r (by omega) h2).mono ?_
    rintro e w' ⟨rfl, rfl⟩
    exact ⟨rfl, FR.refl _ _ _, ks, vs, ka, kc, va, vc, h, hap, hL⟩
  · have hh : hasL id k L = true := has_iff.2 ((hL.key k).2 (List.mem_of_getElem? h3))
    rw [hh]
    refine (dropR_cut w base p m ks vs ka kc va vc k i h hap (by omega) h2 h1 hbw).mono ?_
    rintro e w' ⟨rfl, hfr, ka', kc', va', vc', hr, ha⟩
    exact ⟨rfl, hfr, _, _, ka', kc', va', vc', hr, ha, hL.drop h3⟩
theorem get_mem {k v : Int} {L : List KV} (ha : Asc id L) (h : (k, v) ∈ L) : getL id k L = v := by
  obtain ⟨l, r, rfl⟩ := List.append_of_mem h
  have hp := List.pairwise_append.1 ha
  exact get_here (a := (k, v)) rfl (fun x hx => hp.2.2 x hx _ (List.mem_cons_self ..))
theorem GetD {w : World} {t : Nat} {most : Int} {fv : Value} {τ : Int → Int} {L : List KV} (h : Tab w t most fv τ L) (hF : OrdF fv τ) (k : Int) :
    Calls Try.prog 16 #[.pointer (some ⟨t, 0, none⟩), .int .i64 k] w fun e w' => e = .returned (.tuple #[.int .i64 (getL τ k L), .bool (hasL τ k L)]) ∧ ∃ n, w' = w.drewN n := by
  obtain ⟨T, h1, h2, rfl, h4⟩ := h
  refine (get_any t most fv τ T k w h1 hF h2 h4).mono ?_
  rintro e w' ⟨rfl, n, rfl⟩
  exact ⟨rfl, n, rfl⟩
structure SP (w0 : World) (t p m : Nat) (j : Nat) (L : List KV) (wz : World) : Prop where
  tab : Tab wz t (m : Int) (.func (.func 10) #[] #[]) id L
  len : L.length ≤ j
  cap : L.length ≤ m
  ref : ∃ ks vs ka kc va vc, RT wz (p + 1) p (m : Int) ks vs ka kc va vc ∧ Apart ka va ∧ Lk L ks vs
  below : Below w0.heap.size w0 wz
  l0 : w0.heap.size ≤ t
  l1 : t < p
theorem SP.below' {w0 wz wy : World} {t p m j : Nat} {L : List KV} (h : SP w0 t p m j L wz) (hb : Below wz.heap.size wz wy) : SP w0 t p m j L wy := by
  obtain ⟨ks, vs, ka, kc, va, vc, g1, g2, g3⟩ := h.ref
  exact ⟨h.tab.below hb (Nat.le_refl _), h.len, h.cap, ⟨ks, vs, ka, kc, va, vc, g1.grown (gb_of_below hb (Nat.le_refl _)) h.l1, g2, g3⟩, h.below.trans (hb.mono h.below.size), h.l0, h.l1⟩
theorem SP.pl {w0 wz : World} {t p m j : Nat} {L : List KV} (h : SP w0 t p m j L wz) : p < wz.heap.size := by
  obtain ⟨ks, vs, ka, kc, va, vc, g1, g2, g3⟩ := h.ref
  exact lt_of_block g1.tab
/-- What the document's table says of a key, and where the value stands. -/
theorem SP.look {w0 wz : World} {t p m j : Nat} {L : List KV} (h : SP w0 t p m j L wz) (hm : L.length ≤ 100000) (k : Int) :
    (hasL id k L = false ∧ getL id k L = 0 ∧ ∀ q, Calls Try.prog 17 #[.pointer (some ⟨p, 0, none⟩), .int .i64 k] (wz.drewN q) fun e w' => e = .returned (.int .i64 (-1)) ∧ w' = wz.drewN q) ∨
    ∃ (i n vg vo vc : Nat) (v : Int), i < n ∧ n ≤ 100000 ∧ hasL id k L = true ∧ getL id k L = v ∧ wz.cell? ⟨p, 1, none⟩ = some (.slice (some ⟨vg, vo, none⟩) n vc) ∧ wz.cell? ⟨vg, vo + i, none⟩ = some (.int .i64 v) ∧ ∀ q, Calls Try.prog 17 #[.pointer (some ⟨p, 0, none⟩), .int .i64 k] (wz.drewN q) fun e w' => e = .returned (.int .i64 (i : Int)) ∧ w' = wz.drewN q := by
  obtain ⟨ks, vs, ka, kc, va, vc, hr, hap, hL⟩ := h.ref
  have hc := hL.cnt
  rcases idxL_spec k ks with ⟨h1, h2⟩ | ⟨i, h1, h2, h3, h4⟩
  · have hh : hasL id k L = false := by
      rw [Bool.eq_false_iff]; exact fun e => h2 ((hL.key k).1 (has_iff.1 e))
    refine .inl ⟨hh, get_none hh, fun q => ?_⟩
    have := atR_any (wz.drewN q) p m ks vs ka kc _ vc k (hr.r.drewN q) (by omega)
    rw [h1] at this
    exact this
  · have hh : hasL id k L = true := has_iff.2 ((hL.key k).2 (List.mem_of_getElem? h3))
    have hiv : i < vs.length := by rw [hL.len]; exact h1
    obtain ⟨vg, vo, hva, _, hvc⟩ := hr.r.vrow.at hiv
    subst hva
    have hv0 := hvc i hiv
    obtain ⟨_, t1, _, _⟩ := three_cells hr.tab
    refine .inr ⟨i, ks.length, vg, vo, vc, vs[i]?.getD 0, h1, by omega, hh, ?_, t1, hv0, fun q => ?_⟩
    · exact get_mem hL.asc ((hL.mem k _).2 ⟨i, h3, by rw [List.getElem?_eq_getElem hiv]; rfl⟩)
    · have := atR_any (wz.drewN q) p m ks vs ka kc _ vc k (hr.r.drewN q) (by omega)
      rw [h2] at this
      exact this
theorem SP.same {w0 wz : World} {t p m j : Nat} {L : List KV} (h : SP w0 t p m j L wz) (hm : L.length ≤ 100000) :
    Calls Try.prog 18 #[.pointer (some ⟨t, 0, none⟩), .pointer (some ⟨p, 0, none⟩)] wz fun e w' => e = .returned (.bool true) ∧ Below wz.heap.size wz w' := by
  obtain ⟨ks, vs, ka, kc, va, vc, hr, hap, hL⟩ := h.ref
  exact same_any wz t p m L ks vs ka kc va vc hr.r hL hm h.tab
/-- The program's change, then the document's. -/
theorem SP.step {w0 w4 w5 w6 : World} {t p m j : Nat} {L L' : List KV} (h : SP w0 t p m j L w4) (ht : Tab w5 t (m : Int) (.func (.func 10) #[] #[]) id L') (g : w4.grownBy w5 (some t)) (fr : FR (p + 1) p w5 w6)
    (hr : ∃ ks' vs' ka' kc' va' vc', RT w6 (p + 1) p (m : Int) ks' vs' ka' kc' va' vc' ∧ Apart ka' va' ∧ Lk L' ks' vs') (hl : L'.length ≤ j + 1) (hc : L'.length ≤ m) : SP w0 t p m (j + 1) L' w6 := by
  obtain ⟨ks, vs, ka, kc, va, vc, g1, g2, g3⟩ := h.ref
  have g5 := g1.grown g h.l1
  have hb5 : Below w0.heap.size w0 w5 := h.below.grown g h.below.size (fun j e => by cases e; exact h.l0)
  have hb6 : Below w0.heap.size w0 w6 := hb5.trans ⟨fr.os, fr.tape, fr.output, fr.size, fun i hi => by
    have hlt : i < w5.heap.size := Nat.lt_of_lt_of_le hi hb5.size
    have h0 := h.l0
    have h1 := h.l1
    have := fr.block i (w5.heap[i]'hlt) (Array.getElem?_eq_getElem hlt) (by omega) (.inl (by omega))
    rw [this, Array.getElem?_eq_getElem hlt]⟩
  exact ⟨fr.tab g5.tab h.l1 (by omega) ht, hl, hc, hr, hb6, h.l0, h.l1⟩
end Go.Proofs.Ytcgkblmhfgjoaaa
