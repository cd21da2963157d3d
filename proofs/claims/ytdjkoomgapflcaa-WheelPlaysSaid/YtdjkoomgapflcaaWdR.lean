/- Wheels: what due tells. -/
import Derived.Test.YtdjkoomgapflcaaWdU
namespace Go.Proofs.Ytdjkoomgapflcaa
open Go.RowKit Go.Deep
set_option linter.unusedVariables false
set_option linter.unusedSimpArgs false
set_option maxRecDepth 100000
set_option maxHeartbeats 400000 in
theorem dueM_any (p : Nat) (now : Int) (w : World) :
    Calls Try.prog 26 #[.pointer (some ⟨p, 0, none⟩), .int .u64 now] w fun e w' => e = .returned (.func (.func 39) #[] #[.pointer (some ⟨w.heap.size, 0, none⟩), .pointer (some ⟨w.heap.size + 1, 0, none⟩)]) ∧ w' = (w.alloc (.cells #[.pointer (some ⟨p, 0, none⟩)] 24)).alloc (.cells #[.int .u64 now] 31) := by
  go_enter Try.func26, Try.ntmps26
  go_wp2
  go_ret
  exact ⟨rfl, rfl⟩
def DueRes (p ta tb : Nat) (E : EL) (now most : Int) (w : World) (e : Ending) (w' : World) : Prop := ∃ v, e = .returned v ∧ (∃ g, v.ownBlock = some g) ∧ IRow w.heap.size w' v ((E.take (dueN E now most)).map (·.1.k)) ∧ WAt w' p ta tb (E.drop (dueN E now most)) ∧ OnlyS (TB ta tb) w w'
theorem WAt.dk {w : World} {p ta tb : Nat} {E : EL} (h : WAt w p ta tb E) : DK E := by obtain ⟨L, h1, h2⟩ := h; exact dk_of h2 h1.tabs.asc h1.ends.asc
/-- The variables of due. -/
theorem due_vars (w : World) (most : Int) : ∃ V, ((w.alloc (.cells #[.int .i64 most] 3)).alloc (.cells #[] 3)).alloc (.cells #[.slice (some ⟨w.heap.size + 1, 0, none⟩) 0 0] 27) = V ∧ YAt w.heap.size V (w.heap.size + 1 + 1) w.heap.size [] most ∧ Below w.heap.size w V := by
  have b1 := (Below.refl w.heap.size w).alloc (Nat.le_refl _) (.cells #[.int .i64 most] 3)
  have h1 := heap_alloc_new w (.cells #[.int .i64 most] 3)
  obtain ⟨w1, hw1⟩ : ∃ x, w.alloc (.cells #[.int .i64 most] 3) = x := ⟨_, rfl⟩
  have z1 : w1.heap.size = w.heap.size + 1 := by rw [← hw1]; simp
  rw [hw1] at b1 h1 ⊢
  have b2 := (Below.refl w1.heap.size w1).alloc (Nat.le_refl _) (.cells #[] 3)
  have r2 : (w1.alloc (.cells #[] 3)).ownsRow w1.heap.size 3 1 (.slice (some ⟨w1.heap.size, 0, none⟩) 0 0) 0 (([] : List Int).map (Value.int .i64)) := World.ownsRow_lit _ #[] 0 (Nat.le_refl _) (by unfold maxLen; omega) rfl
  obtain ⟨w2, hw2⟩ : ∃ x, w1.alloc (.cells #[] 3) = x := ⟨_, rfl⟩
  have z2 : w2.heap.size = w1.heap.size + 1 := by rw [← hw2]; simp
  rw [hw2] at b2 r2 ⊢
  have b3 := (Below.refl w2.heap.size w2).alloc (Nat.le_refl _) (.cells #[.slice (some ⟨w.heap.size + 1, 0, none⟩) 0 0] 27)
  have h3 := heap_alloc_new w2 (.cells #[.slice (some ⟨w.heap.size + 1, 0, none⟩) 0 0] 27)
  refine ⟨_, rfl, ⟨⟨.slice (some ⟨w.heap.size + 1, 0, none⟩) 0 0, by rw [z2, z1] at h3; exact h3, ?_⟩, ?_, by omega, ?_, ?_⟩, (b1.trans (b2.mono (by omega))).trans (b3.mono (by omega))⟩
  · have := owns_below (owns_mono r2 (show w.heap.size ≤ w1.heap.size by omega)) b3 (Nat.le_refl _)
    rw [z1] at this
    exact this
  · exact below_block b3 (below_block b2 h1 (Nat.le_refl _)) (Nat.le_refl _)
  · intro v hv e
    rw [z2, z1] at h3
    rw [h3] at hv
    injection hv with hv; injection hv with hv _ _
    have hvv : v = .slice (some ⟨w.heap.size + 1, 0, none⟩) 0 0 := by have := congrArg (fun z : Array Value => z[0]?) hv; simpa using this.symm
    rw [hvv] at e
    simp [Value.ownBlock] at e
  · intro v hv
    rw [z2, z1] at h3
    rw [h3] at hv
    injection hv with hv; injection hv with hv _ _
    have hvv : v = .slice (some ⟨w.heap.size + 1, 0, none⟩) 0 0 := by have := congrArg (fun z : Array Value => z[0]?) hv; simpa using this.symm
    rw [hvv]
    exact ⟨_, rfl⟩
set_option maxHeartbeats 1600000 in
theorem due_any (p ta tb : Nat) (E : EL) (now most : Int) (w : World) (h : WAt w p ta tb E) (hn : E.length ≤ 500000) :
    Calls Try.prog 11 #[.pointer (some ⟨p, 0, none⟩), .int .u64 now, .int .i64 most] w (DueRes p ta tb E now most w) := by
  obtain ⟨V, hV, hY, hB⟩ := due_vars w most
  obtain ⟨V2, hV2⟩ : ∃ X, (V.alloc (.cells #[.pointer (some ⟨p, 0, none⟩)] 24)).alloc (.cells #[.int .u64 now] 31) = X := ⟨_, rfl⟩
  have c1 := (Below.refl V.heap.size V).alloc (Nat.le_refl _) (.cells #[.pointer (some ⟨p, 0, none⟩)] 24)
  have g1 := heap_alloc_new V (.cells #[.pointer (some ⟨p, 0, none⟩)] 24)
  have c2 := (Below.refl _ (V.alloc (.cells #[.pointer (some ⟨p, 0, none⟩)] 24))).alloc (Nat.le_refl _) (.cells #[.int .u64 now] 31)
  have g2 := heap_alloc_new (V.alloc (.cells #[.pointer (some ⟨p, 0, none⟩)] 24)) (.cells #[.int .u64 now] 31)
  have z1 : (V.alloc (.cells #[.pointer (some ⟨p, 0, none⟩)] 24)).heap.size = V.heap.size + 1 := by simp
  rw [hV2] at c2 g2
  rw [z1] at g2
  have g3 := below_block c2 g1 (Nat.le_refl _)
  have hB2 : Below V.heap.size V V2 := c1.trans (c2.mono (by omega))
  have hBw : Below w.heap.size w V2 := hB.trans (hB2.mono hB.size)
  have HM := hide (dueM_any p now V)
  obtain ⟨wb, hwb⟩ : ∃ b, V.heap.size = b := ⟨_, rfl⟩
  obtain ⟨nb, hnb⟩ : ∃ b, V.heap.size + 1 = b := ⟨_, rfl⟩
  obtain ⟨ob, hob⟩ : ∃ b, w.heap.size + 1 + 1 = b := ⟨_, rfl⟩
  obtain ⟨mb, hmb⟩ : ∃ b, w.heap.size = b := ⟨_, rfl⟩
  rw [hV2] at HM
  rw [hnb, hwb] at HM
  rw [hwb] at g3
  rw [hnb] at g2
  rw [hob] at hY
  have hdu := due1_any ⟨w.heap.size, p, ta, tb, wb, nb, V2.heap.size, ob, mb, now, most⟩ E V2 (h.below hBw) (by rw [hmb] at hY ⊢; exact hY.only (X := fun _ => False) (OnlyS.of hB2) id id (fun _ _ _ hx _ => hx)) g3 g2 rfl (by have := hBw.size; exact this) hn
  unfold yF at hdu
  have HD := hide hdu
  have HE := hide (And.intro hV (And.intro hob hmb))
  have HBW := hide hBw
  have HK := hide h.dk
  have HZ := hide hmb
  clear h hV hY hB hV2 c1 g1 c2 g2 z1 g3 hB2 hBw hdu hwb hnb hob hmb
  go_enter Try.func11, Try.ntmps11
  go_upto_region 2 with (fail)
  rw [HE.out.1]
  try rw [HE.out.2.1]
  try rw [HZ.out]
  go_wp2_with fail
  refine HM.out.mono ?_
  rintro e w1 ⟨rfl, rfl⟩
  clear HM
  go_wp2_with fail
  refine HD.out.mono ?_
  rintro e w3 ⟨⟨v, rfl⟩, hS⟩
  obtain ⟨u, hu, hr⟩ := hS.ya.out
  have HNO := hide (hS.ya.nn u hu)
  have HS := hide hS
  have HR := hide hr
  obtain ⟨o0, of⟩ := one_cell hu
  dsimp only at o0
  clear HD hS hu hr of
  go_wp2
  go_ret
  refine ⟨u, rfl, HNO.out, HR.out, ?_, ?_⟩
  · have := HS.out.wh
    rw [minus_take HK.out] at this
    exact this
  · refine (OnlyS.of HBW.out).trans HS.out.only ?_
    intro i hi hx
    rcases hx with hx | hx | hx
    · exact .inl hx
    · exact .inr hx
    · have : w.heap.size ≤ i := hx
      omega
end Go.Proofs.Ytdjkoomgapflcaa
