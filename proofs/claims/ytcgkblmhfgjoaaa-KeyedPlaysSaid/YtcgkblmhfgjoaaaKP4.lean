/- The document's table: Drop's parts: a key without a value; the lists; an append of a part. -/
import Derived.Test.YtcgkblmhfgjoaaaKP3
namespace Go.Proofs.Ytcgkblmhfgjoaaa
open Go.RowKit Go.Deep
set_option linter.unusedVariables false
set_option linter.unusedSimpArgs false
set_option maxRecDepth 100000
theorem dropR_not (w : World) (p : Nat) (most : Int) (ks vs : List Int) (ka : Option Addr) (kc : Nat) (va : Option Addr) (vc : Nat) (k : Int) (h : RTr w p most ks vs ka kc va vc) (hn : ks.length ≤ 1000000) (hk : k ∉ ks) :
    Calls Try.prog 13 #[.pointer (some ⟨p, 0, none⟩), .int .i64 k] w fun e w' => e = .returned (.bool false) ∧ w' = w := by
  have hA := atR_any w p most ks vs ka kc va vc k h hn
  rw [idxL_not hk] at hA
  have HA := hide hA
  clear h hA hk hn
  go_enter Try.func13, Try.ntmps13
  go_wp2_with fail
  refine HA.out.mono ?_
  rintro e w1 ⟨rfl, rfl⟩
  go_wp2_with fail
  go_ret
  exact ⟨rfl, rfl⟩
theorem app_ints (V : World) (base : Nat) (a : Option Addr) (n c : Nat) (xs : List Int) (hV : V.ownsRow base 3 1 (.slice a n c) n (xs.map (Value.int .i64))) (s : Addr) (m cc : Nat) (ys : List Int) (hl : ys.length = m) (hc : ∀ j u, ys[j]? = some u → V.cell? (s.add j) = some (.int .i64 u)) (hs : n + m ≤ 2000000) (hb : base ≤ V.heap.size) :
    ∃ a' c' w', (Builtin.append_ #[37, 37] 37 #[.slice a n c, .slice (some s) m cc]).run Try.prog V = .ok (.slice a' (n + m) c') w' ∧ w'.ownsRow base 3 1 (.slice a' (n + m) c') (n + m) ((xs ++ ys).map (Value.int .i64)) ∧ V.grownBy w' (Value.slice a n c).ownBlock ∧ (∀ b, a' = some b → (∃ b0, a = some b0 ∧ b0.block = b.block) ∨ b.block = V.heap.size) := by
  obtain ⟨i0, hi, hz0, hz1, hz2⟩ := info_parts info_int
  obtain ⟨v', w', h1, h2, h3, _, h5⟩ := run_append_own_at (P := Try.prog) V base 37 37 3 i0 (.int .i64 0) 1 8 Try.underlying37 hi hz0 hz1 hz2 rfl (by decide) (.slice a n c) n (xs.map (Value.int .i64)) hV s m cc (ys.map (Value.int .i64)) (by rw [List.length_map, hl, Nat.mul_one]) (fun j u hj => by
    rw [List.getElem?_map] at hj
    cases hy : ys[j]? with
    | none => rw [hy] at hj; cases hj
    | some y => rw [hy] at hj; cases hj; exact hc j y hy) (by intro u hu; obtain ⟨y, _, rfl⟩ := List.mem_map.1 hu; rfl) (by unfold maxLen; omega) (by omega) hb
  obtain ⟨a', c', rfl⟩ := owns_slice h2
  refine ⟨a', c', w', h1, ?_, h3, fun b hb' => ?_⟩
  · rw [List.map_append]; exact h2
  · subst hb'
    rcases h5 with h5 | h5
    · cases a with
      | none => simp [Value.ownBlock] at h5
      | some b0 => simp only [Value.ownBlock, Option.some.injEq] at h5; exact .inl ⟨b0, rfl, h5.symm⟩
    · simp only [Value.ownBlock, Option.some.injEq] at h5; exact .inr h5
theorem take_drop_erase (xs : List Int) (i : Nat) : xs.take i ++ xs.drop (i + 1) = xs.eraseIdx i := (List.eraseIdx_eq_take_drop_succ xs i).symm
theorem Lk.drop {L : List KV} {ks vs : List Int} (h : Lk L ks vs) {k : Int} {i : Nat} (hi : ks[i]? = some k) : Lk (delL id k L) (ks.eraseIdx i) (vs.eraseIdx i) := by
  have hil : i < ks.length := (List.getElem?_eq_some_iff.1 hi).1
  have hiv : i < vs.length := by rw [h.len]; exact hil
  have hmem : (k, vs[i]) ∈ L := (h.mem k _).2 ⟨i, hi, List.getElem?_eq_getElem hiv⟩
  refine ⟨?_, ?_, ?_, ?_, ?_⟩
  · exact List.Pairwise.filter _ h.asc
  · rw [List.length_eraseIdx_of_lt hiv, List.length_eraseIdx_of_lt hil, h.len]
  · obtain ⟨l, r, rfl⟩ := List.append_of_mem hmem
    have hp := List.pairwise_append.1 h.asc
    have hr := List.pairwise_cons.1 hp.2.1
    rw [del_here (a := (k, vs[i])) rfl (fun x hx => hp.2.2 x hx _ (List.mem_cons_self ..)) hr.1, List.length_eraseIdx_of_lt hil, ← h.cnt]
    simp
  · intro a b x ha hb
    rw [List.getElem?_eraseIdx] at ha hb
    split at ha <;> split at hb
    · exact h.nd _ _ _ ha hb
    · have := h.nd _ _ _ ha hb; omega
    · have := h.nd _ _ _ ha hb; omega
    · have := h.nd _ _ _ ha hb; omega
  · intro a v
    unfold delL
    rw [List.mem_filter, decide_eq_true_eq]
    constructor
    · rintro ⟨h1, h2⟩
      obtain ⟨j, hj, hv⟩ := (h.mem a v).1 h1
      have hne : j ≠ i := by rintro rfl; rw [hi] at hj; cases hj; exact h2 rfl
      by_cases hlt : j < i
      · exact ⟨j, by rw [List.getElem?_eraseIdx, if_pos hlt]; exact hj, by rw [List.getElem?_eraseIdx, if_pos hlt]; exact hv⟩
      · obtain ⟨q, rfl⟩ : ∃ q, j = q + 1 := ⟨j - 1, by omega⟩
        exact ⟨q, by rw [List.getElem?_eraseIdx, if_neg (by omega)]; exact hj, by rw [List.getElem?_eraseIdx, if_neg (by omega)]; exact hv⟩
    · rintro ⟨j, hj, hv⟩
      rw [List.getElem?_eraseIdx] at hj hv
      by_cases hlt : j < i
      · rw [if_pos hlt] at hj hv
        exact ⟨(h.mem a v).2 ⟨j, hj, hv⟩, fun e => by have e' : k = a := e; rw [← e'] at hj; have := h.nd _ _ _ hi hj; omega⟩
      · rw [if_neg hlt] at hj hv
        exact ⟨(h.mem a v).2 ⟨j + 1, hj, hv⟩, fun e => by have e' : k = a := e; rw [← e'] at hj; have := h.nd _ _ _ hi hj; omega⟩
theorem delL_not {L : List KV} {ks vs : List Int} (h : Lk L ks vs) {k : Int} (hk : k ∉ ks) : delL id k L = L := by
  unfold delL
  rw [List.filter_eq_self]
  intro x hx
  rw [decide_eq_true_eq]
  intro e
  exact hk ((h.key k).1 (List.mem_map.2 ⟨x, hx, (show k = x.1 from e).symm⟩))
end Go.Proofs.Ytcgkblmhfgjoaaa
