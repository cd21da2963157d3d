/- Wheels: what holds between two that are told. -/
import Derived.Test.YtdjkoomgapflcaaWdY
import Derived.Test.YtdjkoomgapflcaaWdP
import Derived.Test.YtdjkoomgapflcaaBW
namespace Go.Proofs.Ytdjkoomgapflcaa
open Go.RowKit Go.Deep Go.Shelf
set_option linter.unusedVariables false
set_option linter.unusedSimpArgs false
set_option maxRecDepth 100000
/-- Blocks that are no cells. -/
def Off (W : World) (X : Nat → Prop) : Prop := ∀ k cs T f, X k → W.heap[k]? = some (.cells cs T f) → False
def yF (ob mb : Nat) : Value := .func (.func 27) #[] #[.pointer (some ⟨ob, 0, none⟩), .pointer (some ⟨mb, 0, none⟩)]
/-- The blocks of Due. -/
structure DU where
  base : Nat
  p : Nat
  ta : Nat
  tb : Nat
  wb : Nat
  nb : Nat
  yb : Nat
  ob : Nat
  mb : Nat
  now : Int
  most : Int
def XS (d : DU) : Nat → Prop := fun k => k = d.ta ∨ k = d.tb ∨ d.base ≤ k
structure St (d : DU) (w : World) (E pre : EL) (W : World) : Prop where
  wh : WAt W d.p d.ta d.tb (minus E pre)
  ya : YAt d.base W d.ob d.mb (pre.map (·.1.k)) d.most
  wb : W.heap[d.wb]? = some (.cells #[.pointer (some ⟨d.p, 0, none⟩)] 24 (0, 0))
  nb : W.heap[d.nb]? = some (.cells #[.int .u64 d.now] 31 (0, 0))
  yb : W.heap[d.yb]? = some (.cells #[yF d.ob d.mb] 34 (0, 0))
  only : OnlyS (XS d) w W
  base : d.base ≤ w.heap.size
theorem WAt.off {X : Nat → Prop} {w w' : World} {p ta tb : Nat} {E : EL} (h : WAt w p ta tb E) (ho : OnlyS X w w') (hoff : Off w X) : WAt w' p ta tb E := by
  have kA : A.NK w w' := fun b ds hb' => ho.heap hb' fun hx => hoff _ _ _ _ hx hb'
  have kB : B.NK w w' := fun b ds hb' => ho.heap hb' fun hx => hoff _ _ _ _ hx hb'
  obtain ⟨L, h1, h2⟩ := h
  obtain ⟨_, t1⟩ := h1.tabs.hd
  obtain ⟨_, t2⟩ := h1.ends.hd
  exact ⟨L, ⟨ho.heap h1.blk fun hx => hoff _ _ _ _ hx h1.blk, h1.tabs.keep kA (fun o hO => ho.heap hO fun hx => hoff _ _ _ _ hx t1), h1.ends.keep kB (fun o hO => ho.heap hO fun hx => hoff _ _ _ _ hx t2)⟩, h2⟩
theorem YAt.only {X : Nat → Prop} {base : Nat} {w w' : World} {ob mb : Nat} {xs : List Int} {most : Int} (h : YAt base w ob mb xs most) (ho : OnlyS X w w') (h1 : ¬ X ob) (h2 : ¬ X mb) (h3 : ∀ k cs f, X k → w.heap[k]? = some (.cells cs 3 f) → False) : YAt base w' ob mb xs most := by
  obtain ⟨v, hv, hr⟩ := h.out
  refine ⟨⟨v, ho.heap hv h1, hr.only ho fun k hk hx => ?_⟩, ho.heap h.mst h2, h.hob, fun u hu => ?_, fun u hu => by rw [ho.heap hv h1] at hu; exact h.nn u (hv.trans hu)⟩
  · obtain ⟨cs, f, h4⟩ := hr.ty hk
    exact h3 k cs f hx h4
  · rw [ho.heap hv h1] at hu
    exact h.apart u (hv.trans hu)
theorem St.off {d : DU} {w W W' : World} {E pre : EL} {X : Nat → Prop} (h : St d w E pre W) (ho : OnlyS X W W') (hoff : Off W X) (hX : ∀ k, X k → d.base ≤ k) : St d w E pre W' := by
  obtain ⟨v, hv, hr⟩ := h.ya.out
  exact ⟨h.wh.off ho hoff, h.ya.only ho (fun hx => hoff _ _ _ _ hx hv) (fun hx => hoff _ _ _ _ hx h.ya.mst) (fun k cs f hx hk => hoff _ _ _ _ hx hk), ho.heap h.wb fun hx => hoff _ _ _ _ hx h.wb, ho.heap h.nb fun hx => hoff _ _ _ _ hx h.nb, ho.heap h.yb fun hx => hoff _ _ _ _ hx h.yb, h.only.trans ho (fun i _ hi => .inr (.inr (hX i hi))), h.base⟩
/-- A block of a type that is no table's lies elsewhere. -/
theorem St.notTB {d : DU} {w W : World} {E pre : EL} (h : St d w E pre W) {k : Nat} {cs : Array Value} {T : TypeId} {f : Nat × Nat} (hk : W.heap[k]? = some (.cells cs T f)) (h1 : T ≠ 67) (h2 : T ≠ 70) : ¬ TB d.ta d.tb k := by
  obtain ⟨L, hW, _⟩ := h.wh
  obtain ⟨_, t1⟩ := hW.tabs.hd
  obtain ⟨_, t2⟩ := hW.ends.hd
  rintro (rfl | rfl)
  · exact blk_ne hk t1 h1 rfl
  · exact blk_ne hk t2 h2 rfl
theorem St.cancel {d : DU} {w W W' : World} {E pre : EL} (h : St d w E pre W) {x : EK × Unit} (hw : WAt W' d.p d.ta d.tb (cK x.1.k (minus E pre))) (ho : OnlyS (TB d.ta d.tb) W W') :
    WAt W' d.p d.ta d.tb (minus E (pre ++ [x])) ∧ YAt d.base W' d.ob d.mb (pre.map (·.1.k)) d.most ∧ W'.heap[d.wb]? = some (.cells #[.pointer (some ⟨d.p, 0, none⟩)] 24 (0, 0)) ∧ W'.heap[d.nb]? = some (.cells #[.int .u64 d.now] 31 (0, 0)) ∧ W'.heap[d.yb]? = some (.cells #[yF d.ob d.mb] 34 (0, 0)) ∧ OnlyS (XS d) w W' := by
  obtain ⟨v, hv, hr⟩ := h.ya.out
  refine ⟨by rw [minus_snoc]; exact hw, h.ya.only ho (h.notTB hv (by decide) (by decide)) (h.notTB h.ya.mst (by decide) (by decide)) (fun k cs f hx hk => h.notTB hk (by decide) (by decide) hx), ho.heap h.wb (h.notTB h.wb (by decide) (by decide)), ho.heap h.nb (h.notTB h.nb (by decide) (by decide)), ho.heap h.yb (h.notTB h.yb (by decide) (by decide)), h.only.trans ho ?_⟩
  rintro i _ (rfl | rfl)
  · exact .inl rfl
  · exact .inr (.inl rfl)
/-- Behind the function that collects. -/
theorem St.told {d : DU} {w W W' : World} {E pre : EL} {x : EK × Unit}
    (h : WAt W d.p d.ta d.tb (minus E (pre ++ [x])) ∧ YAt d.base W d.ob d.mb (pre.map (·.1.k)) d.most ∧ W.heap[d.wb]? = some (.cells #[.pointer (some ⟨d.p, 0, none⟩)] 24 (0, 0)) ∧ W.heap[d.nb]? = some (.cells #[.int .u64 d.now] 31 (0, 0)) ∧ W.heap[d.yb]? = some (.cells #[yF d.ob d.mb] 34 (0, 0)) ∧ OnlyS (XS d) w W) (hb : d.base ≤ w.heap.size)
    (hy : YAt d.base W' d.ob d.mb (pre.map (·.1.k) ++ [x.1.k]) d.most) (ho : OnlyS (fun k => d.base ≤ k ∧ (k = d.ob ∨ ∃ cs f, W.heap[k]? = some (.cells cs 3 f) ∧ k ≠ d.mb)) W W') : St d w E (pre ++ [x]) W' := by
  obtain ⟨h1, h2, h3, h4, h5, h6⟩ := h
  obtain ⟨v, hv, hr⟩ := h2.out
  have no : ∀ {k : Nat} {cs : Array Value} {T : TypeId} {f : Nat × Nat}, W.heap[k]? = some (.cells cs T f) → T ≠ 3 → T ≠ 27 → ¬ (d.base ≤ k ∧ (k = d.ob ∨ ∃ cs f, W.heap[k]? = some (.cells cs 3 f) ∧ k ≠ d.mb)) := by
    rintro k cs T f hk n1 n2 ⟨_, rfl | ⟨cs', f', hk', _⟩⟩
    · exact blk_ne hk hv n2 rfl
    · exact blk_ne hk hk' n1 rfl
  obtain ⟨L, hW, hR⟩ := h1
  obtain ⟨_, t1⟩ := hW.tabs.hd
  obtain ⟨_, t2⟩ := hW.ends.hd
  refine ⟨⟨L, ⟨ho.heap hW.blk (no hW.blk (by decide) (by decide)), hW.tabs.keep (fun b ds hb' => ho.heap hb' (no hb' (by decide) (by decide))) (fun o hO => ho.heap hO (no t1 (by decide) (by decide))), hW.ends.keep (fun b ds hb' => ho.heap hb' (no hb' (by decide) (by decide))) (fun o hO => ho.heap hO (no t2 (by decide) (by decide)))⟩, hR⟩, by rw [List.map_append]; exact hy, ho.heap h3 (no h3 (by decide) (by decide)), ho.heap h4 (no h4 (by decide) (by decide)), ho.heap h5 (no h5 (by decide) (by decide)), h6.trans ho (fun i _ hi => .inr (.inr hi.1)), hb⟩
/-- The nodes stay, behind the function that collects. -/
theorem nkB_told {d : DU} {W W' : World} {xs : List Int} (hy : YAt d.base W d.ob d.mb xs d.most) (ho : OnlyS (fun k => d.base ≤ k ∧ (k = d.ob ∨ ∃ cs f, W.heap[k]? = some (.cells cs 3 f) ∧ k ≠ d.mb)) W W') : B.NK W W' := fun b ds hb => by
  obtain ⟨v, hv, _⟩ := hy.out
  refine ho.heap hb ?_
  rintro ⟨_, rfl | ⟨cs', f', hk', _⟩⟩
  · exact blk_ne hb hv (by decide) rfl
  · exact blk_ne hb hk' (by decide) rfl
end Go.Proofs.Ytdjkoomgapflcaa
