/- As many mappings as may be: the plain facts, and a row of truths. -/
import Derived.Test.YtijjgnkfddklgaaMSpk
import Derived.Deep.OwnRows
namespace Go.Proofs.Ytijjgnkfddklgaa
open Go.RowKit Go.Deep Go.Shelf
set_option linter.unusedVariables false
set_option linter.unusedSimpArgs false
set_option maxRecDepth 100000
theorem and_63 (x : Int) : ∃ k : Nat, k ≤ 63 ∧ bits .and .i64 x 63 = (k : Int) := by
  refine ⟨(BitVec.ofInt 64 x &&& BitVec.ofInt 64 63).toNat, ?_, ?_⟩
  · rw [BitVec.toNat_and]
    exact Nat.and_le_right
  · have hle : (BitVec.ofInt 64 x &&& BitVec.ofInt 64 63).toNat ≤ 63 := by rw [BitVec.toNat_and]; exact Nat.and_le_right
    show IntKind.i64.wrap (((BitVec.ofInt 64 x &&& BitVec.ofInt 64 63).toNat : Nat) : Int) = _
    rw [IntKind.wrap_i64]
    omega
theorem fld_map (W : World) (v0 v1 v2 v3 v4 v5 v6 v7 : Value) : (Instr.field 40 (.agg #[v0, v1, v2, v3, v4, v5, v6, v7]) 0).run Try.prog W = .ok (.agg #[v0, v1, v2, v3, v4]) W := by
  simp [Instr.field, run_underlying Try.underlying40, go_sem, asAgg]
theorem info_bool1 : (Try.prog.info? 4).map (fun i => (i.zero, i.size, i.bytes)) = some (some (.bool false), 1, 1) := by kernel_rfl
def none_ : Nat → Bool := fun _ => false
def putN (s : Nat → Bool) (i : Nat) (v : Bool) : Nat → Bool := fun k => if k = i then v else s k
/-- A row of truths of one's own. -/
def SeenAt (w : World) (g N : Nat) (s : Nat → Bool) : Prop := ∃ cs : Array Value, w.heap[g]? = some (.cells cs 4 (0, 0)) ∧ cs.size = N ∧ ∀ i, i < N → cs[i]? = some (.bool (s i))
theorem SeenAt.heap {w w' : World} {g N : Nat} {s : Nat → Bool} (h : SeenAt w g N s) (hb : ∀ o, w.heap[g]? = some o → w'.heap[g]? = some o) : SeenAt w' g N s := by
  obtain ⟨cs, h1, h2⟩ := h
  exact ⟨cs, hb _ h1, h2⟩
theorem SeenAt.lt {w : World} {g N : Nat} {s : Nat → Bool} (h : SeenAt w g N s) : g < w.heap.size := lt_of_block h.choose_spec.1
theorem SeenAt.at {w : World} {g N : Nat} {s : Nat → Bool} (h : SeenAt w g N s) (i : Nat) (hi : i < N) : w.cell? ⟨g, i, none⟩ = some (.bool (s i)) ∧ w.frozen? ⟨g, i, none⟩ = false := by
  obtain ⟨cs, h1, h2, h3⟩ := h
  simp [World.cell?, World.frozen?, h1, h3 i hi]
theorem SeenAt.put {w : World} {g N : Nat} {s : Nat → Bool} (h : SeenAt w g N s) (i : Nat) (v : Bool) : SeenAt (w.setCell ⟨g, i, none⟩ (.bool v)) g N (putN s i v) := by
  obtain ⟨cs, h1, h2, h3⟩ := h
  refine ⟨_, heap_setCell_same w g i cs _ (.bool v) h1, by simp [h2], fun k hk => ?_⟩
  rw [Array.getElem?_setIfInBounds]
  unfold putN
  by_cases e : i = k
  · rw [if_pos e, if_pos (by omega), if_pos e.symm]
  · rw [if_neg e, h3 k hk, if_neg (fun x => e x.symm)]
theorem make_seen (N : Nat) (hN : N = 65536) : ∃ Z : Array Value, (∀ W, (Instr.makeSlice 64 (.int .i64 65536) (.int .i64 65536)).run Try.prog W = .ok (.slice (some ⟨W.heap.size, 0, none⟩) N N) (W.alloc (.cells Z 4))) ∧ ∀ W : World, SeenAt (W.alloc (.cells Z 4)) W.heap.size N none_ := by
  refine ⟨madeCells #[.bool false] N, fun W => ?_, fun W => ⟨_, heap_alloc_new _ _, by simp [madeCells], fun i hi => ?_⟩⟩
  · have h := run_make_row' (P := Try.prog) 64 4 (.bool false) 1 Try.underlying64 info_bool1 rfl .i64 .i64 N (by omega) (by omega) W
    rw [hN] at h ⊢
    exact h
  · simp [madeCells, hi, none_, Nat.mod_one]
/-- The plain configuration, with another number of mappings. -/
def plM (m : Int) : Cfg := { pl with mm := m }
abbrev plMG (m : Int) (a : Option Addr) (cap : Nat) : CG := cgOf (plM m) a cap []
theorem kE_tM {p q : Nat} (hp : p ≤ 65535) (hq : q ≤ 65535) : tM (kE p hp) = tM (kE q hq) ↔ p = q := by
  constructor
  · intro h
    have := congrArg MK.x (tM_inj h)
    unfold kE at this
    dsimp only at this
    omega
  · rintro rfl; rfl
theorem ins_in {κ ν : Type} {τ : κ → Int} {k : κ} {v : ν} : ∀ {L : List (κ × ν)} {x : κ × ν}, x ∈ insL τ k v L → x.2 = v ∨ x ∈ L
  | [], x, h => by
    rw [insL, List.mem_singleton] at h
    subst h; exact .inl rfl
  | y :: L, x, h => by
    rw [insL] at h
    split at h
    · rcases List.mem_cons.1 h with rfl | h
      · exact .inl rfl
      · exact .inr h
    · split at h
      · rcases List.mem_cons.1 h with rfl | h
        · exact .inl rfl
        · exact .inr (List.mem_cons_of_mem _ h)
      · rcases List.mem_cons.1 h with rfl | h
        · exact .inr (by simp)
        · rcases ins_in h with h | h
          · exact .inl h
          · exact .inr (List.mem_cons_of_mem _ h)
/-- Which mappings there are. -/
structure FulL (L : ML) (s : Nat → Bool) (k : Nat) : Prop where
  len : L.length = k
  has : ∀ p (hp : p ≤ 65535), p ≠ 0 → hasL tM (kE p hp) L = s p
  own : ∀ x ∈ L, x.2.h = (hA : Int) ∧ x.2.t = 80
  asc : Asc tM L
theorem FulL.nil : FulL [] none_ 0 := ⟨rfl, fun _ _ _ => rfl, fun x hx => by simp at hx, List.Pairwise.nil⟩
theorem FulL.con {L : ML} {s : Nat → Bool} {k : Nat} (h : FulL L s k) (q : MK) : conflB q 80 (hA : Int) L = false := by
  unfold conflB
  rw [List.any_eq_false]
  intro x hx
  have h1 := h.own x ((btw_sub q q.x L).subset hx)
  unfold hitE
  rw [h1.1, h1.2]
  simp
theorem ful_hin {L : ML} {s : Nat → Bool} {k : Nat} (h : FulL L s k) (m : Int) (a : Option Addr) (cap p : Nat) (hp : p ≤ 65535) (h0 : p ≠ 0) :
    hinV (plMG m a cap) L (kE p hp) 80 (hA : Int) = if (!s p && decide (m ≤ (k : Int))) = true then 728 else 0 := by
  unfold hinV
  rw [h.con, h.has p hp h0, h.len, show fgB (plMG m a cap) (kE p hp) = false from rfl, show (plMG m a cap).mm = m from rfl]
  generalize (!s p && decide (m ≤ (k : Int))) = b
  cases b <;> rfl
theorem ref_M (m : Int) (a : Option Addr) (cap p : Nat) (hp : p ≤ 65535) : refE (plMG m a cap) hA (kE p hp) (hA : Int) 0 = 0 := by
  unfold refE refV
  rw [show hostB (plMG m a cap).lan (plMG m a cap).nb hA = true from pl_hA, show (kE p hp).p = 6 from rfl, decide_eq_false (by omega)]
  simp [nzF]
theorem ful_add0 (L : ML) (m : Int) (a : Option Addr) (cap : Nat) : addV (plMG m a cap) L hA (kE 0 (by omega)) 80 (hA : Int) 0 = 716 := by
  unfold addV
  rfl
theorem ful_add {L : ML} {s : Nat → Bool} {k : Nat} (h : FulL L s k) (m : Int) (a : Option Addr) (cap p : Nat) (hp : p ≤ 65535) (h0 : p ≠ 0) :
    addV (plMG m a cap) L hA (kE p hp) 80 (hA : Int) 0 = if (!s p && decide (m ≤ (k : Int))) = true then 728 else 0 := by
  unfold addV
  rw [ref_M, ful_hin h m a cap p hp h0, show (kE p hp).x = (p : Int) from rfl]
  have e : ((p : Int) == 0) = false := by simp; omega
  rw [e, show ((80 : Int) == 0) = false from rfl]
  generalize (!s p && decide (m ≤ (k : Int))) = b
  cases b <;> rfl
theorem FulL.ins {L : ML} {s : Nat → Bool} {k : Nat} (h : FulL L s k) (p : Nat) (hp : p ≤ 65535) (h0 : p ≠ 0) (e : Int) :
    FulL (insL tM (kE p hp) (mkE (kE p hp) 80 (hA : Int) true ⟨#[]⟩ e) L) (putN s p true) (if s p then k else k + 1) := by
  refine ⟨?_, ?_, ?_, ins_asc h.asc⟩
  · rw [ins_len h.asc, h.has p hp h0, h.len]
  · intro q hq hq0
    unfold putN
    by_cases e1 : q = p
    · subst e1; rw [if_pos rfl]; exact has_ins L
    · rw [if_neg e1, has_ins_ne (fun e2 => e1 ((kE_tM hq hp).1 e2)), h.has q hq hq0]
  · intro x hx
    rcases ins_in hx with h1 | h1
    · rw [h1]; exact ⟨rfl, rfl⟩
    · exact h.own x h1
end Go.Proofs.Ytijjgnkfddklgaa
