/- The document's wheel: Find. -/
import Derived.Test.YtdjkoomgapflcaaRWr
import Derived.Test.YtdjkoomgapflcaaRegU
namespace Go.Proofs.Ytdjkoomgapflcaa
open Go.RowKit Go.Deep
set_option linter.unusedVariables false
set_option linter.unusedSimpArgs false
set_option maxRecDepth 100000
/-- Where a key stands in a list; -1: nowhere. -/
def idxL (k : Int) : List Int → Int
  | [] => -1
  | x :: xs => if x = k then 0 else if idxL k xs < 0 then -1 else idxL k xs + 1
theorem idxL_spec (k : Int) : ∀ (ks : List Int), (idxL k ks = -1 ∧ k ∉ ks) ∨ ∃ i : Nat, i < ks.length ∧ idxL k ks = (i : Int) ∧ ks[i]? = some k ∧ ∀ j, j < i → ks[j]? ≠ some k
  | [] => .inl ⟨rfl, by simp⟩
  | x :: xs => by
    unfold idxL
    by_cases h : x = k
    · rw [if_pos h]
      exact .inr ⟨0, by simp, rfl, by simp [h], fun j hj => by omega⟩
    · rw [if_neg h]
      rcases idxL_spec k xs with ⟨h1, h2⟩ | ⟨i, h1, h2, h3, h4⟩
      · rw [h1, if_pos (by omega)]
        exact .inl ⟨rfl, by simp [h2]; exact fun e => h e.symm⟩
      · rw [h2, if_neg (by omega)]
        refine .inr ⟨i + 1, by simp; omega, by omega, by simpa using h3, fun j hj => ?_⟩
        cases j with
        | zero => simp; exact h
        | succ j => simpa using h4 j (by omega)
theorem idxL_not {k : Int} {ks : List Int} (h : k ∉ ks) : idxL k ks = -1 := by
  rcases idxL_spec k ks with ⟨h1, _⟩ | ⟨i, _, _, h3, _⟩
  · exact h1
  · exact absurd (List.mem_of_getElem? h3) h
abbrev RL := List (Int × Int)
/-- The document's wheel in memory. -/
structure RW (w : World) (base rp : Nat) (R : RL) (ka : Option Addr) (kc : Nat) (va : Option Addr) (vc : Nat) : Prop where
  tab : w.heap[rp]? = some (.cells #[.slice ka R.length kc, .slice va R.length vc] 30 (0, 0))
  krow : IRow base w (.slice ka R.length kc) (R.map (·.1))
  vrow : URow base w (.slice va R.length vc) (R.map (·.2))
theorem RW.at {w : World} {base rp : Nat} {R : RL} {ka : Option Addr} {kc : Nat} {va : Option Addr} {vc : Nat} (h : RW w base rp R ka kc va vc) (hn : 0 < R.length) : ∃ g f, ka = some ⟨g, 0, none⟩ ∧ va = some ⟨f, 0, none⟩ ∧ ∀ i x, R[i]? = some x → w.cell? ⟨g, i, none⟩ = some (.int .i64 x.1) ∧ w.cell? ⟨f, i, none⟩ = some (.int .u64 x.2) := by
  obtain ⟨g, hg⟩ := h.krow.hasBlk (by rw [List.length_map]; exact hn)
  obtain ⟨f, hf⟩ := h.vrow.hasBlk (by rw [List.length_map]; exact hn)
  obtain ⟨c, e1, hc⟩ := h.krow.cells' hg
  obtain ⟨d, e2, hd⟩ := h.vrow.cells' hf
  injection e1 with e1 _ _
  injection e2 with e2 _ _
  refine ⟨g, f, e1, e2, fun i x hx => ?_⟩
  obtain ⟨hi, rfl⟩ := List.getElem?_eq_some_iff.1 hx
  have h1 := hc i (by rw [List.length_map]; exact hi)
  have h2 := hd i (by rw [List.length_map]; exact hi)
  rw [List.getElem_map] at h1 h2
  exact ⟨h1, h2⟩
/-- What lies elsewhere plays no part. -/
theorem RW.only {X : Nat → Prop} {w w' : World} {base rp : Nat} {R : RL} {ka : Option Addr} {kc : Nat} {va : Option Addr} {vc : Nat} (h : RW w base rp R ka kc va vc) (ho : OnlyS X w w') (hX : ∀ k cs T f, w.heap[k]? = some (.cells cs T f) → (T = 30 ∨ base ≤ k ∧ (T = 3 ∨ T = 31)) → ¬ X k) : RW w' base rp R ka kc va vc :=
  ⟨ho.heap h.tab (hX _ _ _ _ h.tab (.inl rfl)), h.krow.only ho (fun k hk => by obtain ⟨cs, f, h1⟩ := h.krow.ty hk; exact hX _ _ _ _ h1 (.inr ⟨(h.krow.lt k hk).1, .inl rfl⟩)), h.vrow.only ho (fun k hk => by obtain ⟨cs, f, h1⟩ := h.vrow.ty hk; exact hX _ _ _ _ h1 (.inr ⟨(h.vrow.lt k hk).1, .inr rfl⟩))⟩
theorem RW.below {w w' : World} {base rp : Nat} {R : RL} {ka : Option Addr} {kc : Nat} {va : Option Addr} {vc : Nat} (h : RW w base rp R ka kc va vc) (hb : Below w.heap.size w w') : RW w' base rp R ka kc va vc :=
  h.only (X := fun _ => False) (OnlyS.of hb) (fun _ _ _ _ _ _ h => h)
set_option maxHeartbeats 800000 in
theorem findR_any (w : World) (base rp : Nat) (R : RL) (ka : Option Addr) (kc : Nat) (va : Option Addr) (vc : Nat) (k : Int) (h : RW w base rp R ka kc va vc) (hn : R.length ≤ 1000000) :
    Calls Try.prog 16 #[.pointer (some ⟨rp, 0, none⟩), .int .i64 k] w fun e w' => e = .returned (.int .i64 (idxL k (R.map (·.1)))) ∧ w' = w := by
  obtain ⟨t0, t1, tf⟩ := two_cells h.tab
  have HR := hide h
  obtain ⟨ks, hks⟩ : ∃ ks, R.map (·.1) = ks := ⟨_, rfl⟩
  rw [hks]
  have HKS := hide hks
  obtain ⟨n, hnn⟩ : ∃ n, R.length = n := ⟨_, rfl⟩
  rw [hnn] at t0 hn
  have HN := hide hnn
  have HNK := hide (show ks.length = n by rw [← hks, List.length_map]; exact hnn)
  clear h t1 tf hnn hks
  go_enter Try.func16, Try.ntmps16
  go_wp2_with fail
  go_loop [5] (fun i => ∃ j : Nat, j ≤ n ∧ i = .int .i64 j ∧ Hid (∀ i, i < j → ks[i]? ≠ some k)) (fun i => n - (intOf i).toNat)
  case atStart => exact ⟨0, Nat.zero_le _, rfl, hide (fun i hi => by omega)⟩
  case round =>
    obtain ⟨j, hj, rfl, HJ⟩ := hrel
    by_cases hlt : j < n
    · have hjR : j < R.length := by have := HN.out; omega
      obtain ⟨g, f, rfl, rfl, hc⟩ := HR.out.at (by omega)
      have cj := (hc j _ (List.getElem?_eq_getElem hjR)).1
      obtain ⟨x, hx⟩ : ∃ x, R[j].1 = x := ⟨_, rfl⟩
      rw [hx] at cj
      have HX := hide (show ks[j]? = some x by rw [← HKS.out, List.getElem?_map, List.getElem?_eq_getElem hjR, ← hx]; rfl)
      clear hc hx hjR
      by_cases hk : x = k
      · have hd : (x == k) = true := by simpa using hk
        have hfin : idxL k ks = (j : Int) := by
          rcases idxL_spec k ks with ⟨h1, h2⟩ | ⟨i, h1, h2, h3, h4⟩
          · exact absurd (List.mem_of_getElem? (HX.out.trans (by rw [hk]))) h2
          · have : i = j := by
              rcases Nat.lt_trichotomy i j with g | g | g
              · exact absurd h3 (HJ.out i g)
              · exact g
              · exact absurd (HX.out.trans (by rw [hk])) (h4 j g)
            rw [h2, this]
        have HF := hide hfin
        clear hk hfin
        go_wp2
        go_ret
        exact ⟨by rw [HF.out]; rfl, rfl⟩
      · have hd : (x == k) = false := by simpa using hk
        have H2 := hide (show ∀ i, i < j + 1 → ks[i]? ≠ some k from fun i hi => by
          rcases Nat.lt_or_ge i j with g | g
          · exact HJ.out i g
          · have : i = j := by omega
            subst this
            rw [HX.out]
            intro e; cases e; exact hk rfl)
        clear hk
        go_wp2
        go_round
        case rel => exact ⟨j + 1, by omega, by go_num, H2⟩
        case measure => simp [intOf]; omega
    · have hfin : idxL k ks = -1 := by
        rcases idxL_spec k ks with ⟨h1, h2⟩ | ⟨i, h1, h2, h3, h4⟩
        · exact h1
        · exact absurd h3 (HJ.out i (by have := HNK.out; omega))
      have HF := hide hfin
      clear hfin
      go_wp2
      go_ret
      exact ⟨by rw [HF.out]; rfl, rfl⟩
end Go.Proofs.Ytdjkoomgapflcaa
