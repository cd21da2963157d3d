/- The document's table: a list of keys and one of values. -/
import Derived.Test.YtcgkblmhfgjoaaaKN
namespace Go.Proofs.Ytcgkblmhfgjoaaa
open Go.RowKit Go.Deep
set_option linter.unusedVariables false
set_option linter.unusedSimpArgs false
set_option maxRecDepth 100000
/-- Where a key stands in a list; -1: nowhere. -/
def idxL (k : Int) : List Int → Int
  | [] => -1
  | x :: xs => if x = k then 0 else if idxL k xs < 0 then -1 else idxL k xs + 1
theorem idxL_spec (k : Int) : ∀ (ks : List Int), (idxL k ks = -1 ∧ k ∉ ks) ∨ ∃ i : Nat, i < ks.length ∧ idxL k ks = (i : Int) ∧ ks[i]? = some k ∧ ∀ j, j < i → ks[j]? ≠ some k
  | [] => .inl ⟨rfl, by simp⟩
  | x :: xs => by
    unfold idxL
    by_cases h : x = k
    · rw [if_pos h]
      exact .inr ⟨0, by simp, rfl, by simp [h], fun j hj => by omega⟩
    · rw [if_neg h]
      rcases idxL_spec k xs with ⟨h1, h2⟩ | ⟨i, h1, h2, h3, h4⟩
      · rw [h1, if_pos (by omega)]
        exact .inl ⟨rfl, by simp [h2]; exact fun e => h e.symm⟩
      · rw [h2, if_neg (by omega)]
        refine .inr ⟨i + 1, by simp; omega, by omega, by simpa using h3, fun j hj => ?_⟩
        cases j with
        | zero => simp; exact h
        | succ j => simpa using h4 j (by omega)
/-- The document's table lies in memory, its rows from base on. -/
structure RT (w : World) (base p : Nat) (most : Int) (ks vs : List Int) (ka : Option Addr) (kc : Nat) (va : Option Addr) (vc : Nat) : Prop where
  tab : w.heap[p]? = some (.cells #[.slice ka ks.length kc, .slice va ks.length vc, .int .i64 most] 39 (0, 0))
  krow : w.ownsRow base 3 1 (.slice ka ks.length kc) ks.length (ks.map (Value.int .i64))
  vrow : w.ownsRow base 3 1 (.slice va ks.length vc) ks.length (vs.map (Value.int .i64))
  len : vs.length = ks.length
  lt : p < base
/-- The document's table can be read. -/
structure RTr (w : World) (p : Nat) (most : Int) (ks vs : List Int) (ka : Option Addr) (kc : Nat) (va : Option Addr) (vc : Nat) : Prop where
  tab : w.heap[p]? = some (.cells #[.slice ka ks.length kc, .slice va ks.length vc, .int .i64 most] 39 (0, 0))
  krow : Row .i64 w ka ks
  vrow : Row .i64 w va vs
  len : vs.length = ks.length
theorem RT.r {w : World} {base p : Nat} {most : Int} {ks vs : List Int} {ka : Option Addr} {kc : Nat} {va : Option Addr} {vc : Nat} (h : RT w base p most ks vs ka kc va vc) : RTr w p most ks vs ka kc va vc :=
  ⟨h.tab, Row.of_owns h.krow, Row.of_owns (by have := h.vrow; rw [← h.len] at this; exact this), h.len⟩
theorem RTr.below {w w' : World} {N p : Nat} {most : Int} {ks vs : List Int} {ka : Option Addr} {kc : Nat} {va : Option Addr} {vc : Nat} (h : RTr w p most ks vs ka kc va vc) (hb : Below N w w') (hN : w.heap.size ≤ N) : RTr w' p most ks vs ka kc va vc :=
  ⟨below_block hb h.tab hN, h.krow.below hb hN, h.vrow.below hb hN, h.len⟩
set_option maxHeartbeats 800000 in
theorem atR_any (w : World) (p : Nat) (most : Int) (ks vs : List Int) (ka : Option Addr) (kc : Nat) (va : Option Addr) (vc : Nat) (k : Int) (h : RTr w p most ks vs ka kc va vc) (hn : ks.length ≤ 1000000) :
    Calls Try.prog 17 #[.pointer (some ⟨p, 0, none⟩), .int .i64 k] w fun e w' => e = .returned (.int .i64 (idxL k ks)) ∧ w' = w := by
  obtain ⟨t0, t1, t2, tf⟩ := three_cells h.tab
  have HR := hide h.krow
  obtain ⟨n, hnn⟩ : ∃ n, ks.length = n := ⟨_, rfl⟩
  rw [hnn] at t0 hn
  have HN := hide hnn
  clear h t1 t2 tf hnn
  go_enter Try.func17, Try.ntmps17
  go_wp2_with fail
  go_loop [5] (fun i => ∃ j : Nat, j ≤ n ∧ i = .int .i64 j ∧ Hid (∀ i, i < j → ks[i]? ≠ some k)) (fun i => n - (intOf i).toNat)
  case atStart => exact ⟨0, Nat.zero_le _, rfl, hide (fun i hi => by omega)⟩
  case round =>
    obtain ⟨j, hj, rfl, HJ⟩ := hrel
    by_cases hlt : j < n
    · obtain ⟨x, hx⟩ : ∃ x, ks[j]? = some x := ⟨ks[j]'(by rw [HN.out]; exact hlt), List.getElem?_eq_getElem _⟩
      obtain ⟨b, off, rfl, hbl, hc⟩ := HR.out.at (i := j) (by rw [HN.out]; exact hlt)
      have cj := hc j (by rw [HN.out]; exact hlt)
      rw [hx, Option.getD_some] at cj
      have HX := hide hx
      clear hc hx
      by_cases hk : x = k
      · have hd : (x == k) = true := by simpa using hk
        have hfin : idxL k ks = (j : Int) := by
          rcases idxL_spec k ks with ⟨h1, h2⟩ | ⟨i, h1, h2, h3, h4⟩
          · exact absurd (List.mem_of_getElem? (HX.out.trans (by rw [hk]))) h2
          · have : i = j := by
              rcases Nat.lt_trichotomy i j with g | g | g
              · exact absurd h3 (HJ.out i g)
              · exact g
              · exact absurd (HX.out.trans (by rw [hk])) (h4 j g)
            rw [h2, this]
        have HF := hide hfin
        clear hk hfin
        go_wp2
        go_ret
        exact ⟨by rw [HF.out]; rfl, rfl⟩
      · have hd : (x == k) = false := by simpa using hk
        have H2 := hide (show ∀ i, i < j + 1 → ks[i]? ≠ some k from fun i hi => by
          rcases Nat.lt_or_ge i j with g | g
          · exact HJ.out i g
          · have : i = j := by omega
            subst this
            rw [HX.out]
            intro e; cases e; exact hk rfl)
        clear hk
        go_wp2
        go_round
        case rel => exact ⟨j + 1, by omega, by go_num, H2⟩
        case measure => simp [intOf]; omega
    · have hfin : idxL k ks = -1 := by
        rcases idxL_spec k ks with ⟨h1, h2⟩ | ⟨i, h1, h2, h3, h4⟩
        · exact h1
        · exact absurd h3 (HJ.out i (by rw [HN.out] at h1; omega))
      have HF := hide hfin
      clear hfin
      go_wp2
      go_ret
      exact ⟨by rw [HF.out]; rfl, rfl⟩
end Go.Proofs.Ytcgkblmhfgjoaaa
