/- The document's table: Put. -/
import Derived.Test.YtcgkblmhfgjoaaaKRefK
import Derived.Maps.AppendAt
namespace Go.Proofs.Ytcgkblmhfgjoaaa
open Go.RowKit Go.Deep
set_option linter.unusedVariables false
set_option linter.unusedSimpArgs false
set_option maxRecDepth 100000
/-- What a table's own writing leaves: all but the table's block and rows of numbers from base on. -/
structure FR (base p : Nat) (w w' : World) : Prop where
  os : w'.os = w.os
  tape : w'.tape = w.tape
  output : w'.output = w.output
  size : w.heap.size ≤ w'.heap.size
  block : ∀ (L : Nat) (o : Obj), w.heap[L]? = some o → L ≠ p → (L < base ∨ ∀ cs fz, o ≠ .cells cs 3 fz) → w'.heap[L]? = some o
theorem FR.refl (base p : Nat) (w : World) : FR base p w w := ⟨rfl, rfl, rfl, Nat.le_refl _, fun _ _ h _ _ => h⟩
theorem FR.trans {base p : Nat} {a b c : World} (h : FR base p a b) (g : FR base p b c) : FR base p a c :=
  ⟨g.os.trans h.os, g.tape.trans h.tape, g.output.trans h.output, Nat.le_trans h.size g.size, fun L o ho hp hc => g.block L o (h.block L o ho hp hc) hp hc⟩
theorem FR.drewN (base p : Nat) (w : World) (n : Nat) : FR base p w (w.drewN n) := ⟨rfl, rfl, rfl, Nat.le_refl _, fun _ _ h _ _ => h⟩
theorem FR.grown {base p : Nat} {w w' : World} {v : Value} {n : Nat} {xs : List Value} (hv : w.ownsRow base 3 1 v n xs) (h : w.grownBy w' v.ownBlock) : FR base p w w' :=
  ⟨h.os, h.tape, h.output, h.size, fun L o ho hp hc => by
    refine (h.block L (lt_of_block ho) ?_).trans ho
    intro e
    rcases hv.2 with ⟨h1, _⟩ | ⟨g, cap, cur, hv', hb, hg, _⟩
    · rw [h1] at e; cases e
    · rw [hv'] at e; cases e
      rcases hc with hc | hc
      · have : g < base := hc
        omega
      · rw [hg] at ho; cases ho; exact hc _ _ rfl⟩
theorem FR.alloc (base p : Nat) (w : World) (o : Obj) : FR base p w (w.alloc o) :=
  ⟨rfl, rfl, rfl, by simp, fun L x hx _ _ => (heap_alloc_old w o (lt_of_block hx)).trans hx⟩
theorem FR.set (base p : Nat) (w : World) (i : Nat) (u : Value) : FR base p w (w.setCell ⟨p, i, none⟩ u) := by
  have hb : Below 0 w (w.setCell ⟨p, i, none⟩ u) := (Below.refl 0 w).setCell (Nat.zero_le _) u
  exact ⟨hb.os, hb.tape, hb.output, hb.size, fun L o ho hp _ => (heap_setCell_other _ _ _ _ hp).trans ho⟩
/-- Two rows don't lie in one block. -/
def Apart (ka va : Option Addr) : Prop := ∀ a b, ka = some a → va = some b → a.block ≠ b.block
theorem idxL_not {k : Int} {ks : List Int} (h : k ∉ ks) : idxL k ks = -1 := by
  rcases idxL_spec k ks with ⟨h1, _⟩ | ⟨i, _, _, h3, _⟩
  · exact h1
  · exact absurd (List.mem_of_getElem? h3) h
theorem app_int2 (V : World) (base : Nat) (a : Option Addr) (n c : Nat) (xs : List Int) (hV : V.ownsRow base 3 1 (.slice a n c) n (xs.map (Value.int .i64))) (g : Nat) (y : Int) (hc : V.heap[g]? = some (.cells #[.int .i64 y] 3 (0, 0))) (hs : n ≤ 1000000) (hb : base ≤ V.heap.size) :
    ∃ a' c' w', (Builtin.append_ #[37, 37] 37 #[.slice a n c, .slice (some ⟨g, 0, none⟩) 1 1]).run Try.prog V = .ok (.slice a' (n + 1) c') w' ∧ w'.ownsRow base 3 1 (.slice a' (n + 1) c') (n + 1) ((xs ++ [y]).map (Value.int .i64)) ∧ V.grownBy w' (Value.slice a n c).ownBlock ∧ (∀ b, a' = some b → (∃ b0, a = some b0 ∧ b0.block = b.block) ∨ b.block = V.heap.size) := by
  obtain ⟨i0, hi, hz0, hz1, hz2⟩ := info_parts info_int
  obtain ⟨v', w', h1, h2, h3, _, h5⟩ := run_append_own_at (P := Try.prog) V base 37 37 3 i0 (.int .i64 0) 1 8 Try.underlying37 hi hz0 hz1 hz2 rfl (by decide) (.slice a n c) n (xs.map (Value.int .i64)) hV ⟨g, 0, none⟩ 1 1 [.int .i64 y] rfl (fun j u hj => by
    cases j with
    | zero => cases hj; show V.cell? ⟨g, 0, none⟩ = _; simp [World.cell?, hc]
    | succ j => simp at hj) (by intro u hu; rw [List.mem_singleton.1 hu]; rfl) (by unfold maxLen; omega) (by omega) hb
  obtain ⟨a', c', rfl⟩ := owns_slice h2
  refine ⟨a', c', w', h1, ?_, h3, fun b hb' => ?_⟩
  · rw [List.map_append]; exact h2
  · subst hb'
    rcases h5 with h5 | h5
    · cases a with
      | none => simp [Value.ownBlock] at h5
      | some b0 => simp only [Value.ownBlock, Option.some.injEq] at h5; exact .inl ⟨b0, rfl, h5.symm⟩
    · simp only [Value.ownBlock, Option.some.injEq] at h5; exact .inr h5
theorem own_apart {ka va : Option Addr} {n m c d : Nat} (h : Apart ka va) : (Value.slice va n c).ownBlock = none ∨ (Value.slice va n c).ownBlock ≠ (Value.slice ka m d).ownBlock := by
  cases va with
  | none => exact .inl rfl
  | some b =>
    cases ka with
    | none => exact .inr (by simp [Value.ownBlock])
    | some a => exact .inr (by simp only [Value.ownBlock, ne_eq, Option.some.injEq]; exact fun e => h a b rfl rfl e.symm)
set_option maxHeartbeats 800000 in
theorem putR_full (w : World) (base p : Nat) (most : Int) (ks vs : List Int) (ka : Option Addr) (kc : Nat) (va : Option Addr) (vc : Nat) (k v : Int) (h : RT w base p most ks vs ka kc va vc) (hap : Apart ka va) (hn : ks.length ≤ 100000) (hbw : base ≤ w.heap.size) (hk : k ∉ ks) (hm : (ks.length : Int) = most) :
    Calls Try.prog 15 #[.pointer (some ⟨p, 0, none⟩), .int .i64 k, .int .i64 v] w fun e w' => e = .returned (.int .i64 20) ∧ ∃ nq, w' = w.drewN nq := by
  obtain ⟨t0, t1, t2, tf⟩ := three_cells h.tab
  have hA := atR_any w p most ks vs ka kc va vc k h.r (by omega)
  rw [idxL_not hk] at hA
  have HA := hide hA
  obtain ⟨n, hnn⟩ : ∃ n, ks.length = n := ⟨_, rfl⟩
  rw [hnn] at t0 hm hn
  have hd : ((n : Int) == most) = true := by simpa using hm
  clear h hA hk hm hnn t1
  go_enter Try.func15, Try.ntmps15
  go_wp2_with fail
  refine HA.out.mono ?_
  rintro e w1 ⟨rfl, rfl⟩
  go_wp2_with fail
  go_quiet (fail)
  go_wp2
  go_ret
  exact ⟨rfl, nq, rfl⟩
set_option maxHeartbeats 1000000 in
theorem putR_new (w : World) (base p : Nat) (most : Int) (ks vs : List Int) (ka : Option Addr) (kc : Nat) (va : Option Addr) (vc : Nat) (k v : Int) (h : RT w base p most ks vs ka kc va vc) (hap : Apart ka va) (hn : ks.length ≤ 100000) (hbw : base ≤ w.heap.size) (hk : k ∉ ks) (hm : (ks.length : Int) ≠ most) :
    Calls Try.prog 15 #[.pointer (some ⟨p, 0, none⟩), .int .i64 k, .int .i64 v] w fun e w' => e = .returned (.int .i64 0) ∧ FR base p w w' ∧ ∃ ka' kc' va' vc', RT w' base p most (ks ++ [k]) (vs ++ [v]) ka' kc' va' vc' ∧ Apart ka' va' := by
  obtain ⟨t0, t1, t2, tf⟩ := three_cells h.tab
  have hA := atR_any w p most ks vs ka kc va vc k h.r (by omega)
  rw [idxL_not hk] at hA
  have HA := hide hA
  have H := hide h
  have HAP := hide hap
  obtain ⟨n, hnn⟩ : ∃ n, ks.length = n := ⟨_, rfl⟩
  rw [hnn] at t0 t1 hm hn
  have HN := hide hnn
  have hd : ((n : Int) == most) = false := by simpa using hm
  clear h hA hk hm hnn hap
  go_enter Try.func15, Try.ntmps15
  go_wp2_with fail
  refine HA.out.mono ?_
  rintro e w1 ⟨rfl, rfl⟩
  clear HA
  go_wp2_with fail
  go_quiet (fail)
  obtain ⟨w0, hw0, HH, HF0⟩ : ∃ w0, w1.drewN nq = w0 ∧ Hid (RT w0 base p most ks vs ka kc va vc ∧ base ≤ w0.heap.size) ∧ Hid (FR base p w1 w0) := ⟨_, rfl, hide ⟨⟨H.out.tab, H.out.krow, H.out.vrow, H.out.len, H.out.lt⟩, hbw⟩, hide (FR.drewN base p w1 nq)⟩
  rw [hw0]
  clear hw0 t0 t1 t2 tf hd H
  have hR := HH.out.1
  have hb0 := HH.out.2
  have hkr := hR.krow
  have hvr := hR.vrow
  rw [HN.out] at hkr hvr
  obtain ⟨wa, hwa⟩ : ∃ wt, w0.alloc (.cells #[.int .i64 k] 3) = wt := ⟨_, rfl⟩
  have hka : wa.ownsRow base 3 1 (.slice ka n kc) n (ks.map (Value.int .i64)) := by rw [← hwa]; exact hkr.alloc _
  have hva : wa.ownsRow base 3 1 (.slice va n vc) n (vs.map (Value.int .i64)) := by rw [← hwa]; exact hvr.alloc _
  have hta : wa.heap[p]? = some (.cells #[.slice ka n kc, .slice va n vc, .int .i64 most] 39 (0, 0)) := by
    have := hR.tab
    rw [HN.out] at this
    rw [← hwa, heap_alloc_old _ _ (lt_of_block this)]; exact this
  have hfa : FR base p w0 wa := by rw [← hwa]; exact FR.alloc base p w0 _
  have hga : wa.heap[w0.heap.size]? = some (.cells #[.int .i64 k] 3 (0, 0)) := by rw [← hwa]; exact heap_alloc_new _ _
  have hsa : wa.heap.size = w0.heap.size + 1 := by rw [← hwa]; simp
  obtain ⟨ka2, kc2, w2, hrun2, ho2, hg2, hat2⟩ := app_int2 wa base ka n kc ks hka w0.heap.size k hga (by omega) (by omega)
  have hv2 : w2.ownsRow base 3 1 (.slice va n vc) n (vs.map (Value.int .i64)) := hva.kept hg2 (own_apart HAP.out)
  have hne2 : some p ≠ (Value.slice ka n kc).ownBlock := fun e => by have := (hka.lt p e.symm).1; have := hR.lt; omega
  have ht2 : w2.heap[p]? = some (.cells #[.slice ka n kc, .slice va n vc, .int .i64 most] 39 (0, 0)) := (hg2.block p (lt_of_block hta) hne2).trans hta
  have hap2 : Apart ka2 va := fun a b ea eb => by
    rcases hat2 a ea with ⟨b0, e0, e1⟩ | e1
    · rw [← e1]; exact HAP.out b0 b e0 eb
    · have := (hvr.lt b.block (by rw [eb]; rfl)).2
      omega
  have hf2 : FR base p wa w2 := FR.grown hka hg2
  have HRUN2 := hide (show (Builtin.append_ #[37, 37] 37 #[.slice ka n kc, .slice (some ⟨w0.heap.size, 0, none⟩) 1 1]).run Try.prog (w0.alloc (.cells #[.int .i64 k] 3)) = .ok (.slice ka2 (n + 1) kc2) w2 by rw [hwa]; exact hrun2)
  obtain ⟨t0, t1, t2, tf⟩ := three_cells (by have := hR.tab; rw [HN.out] at this; exact this)
  obtain ⟨q0, q1, q2, qf⟩ := three_cells ht2
  obtain ⟨w3, hw3⟩ : ∃ wt, w2.setCell ⟨p, 0, none⟩ (.slice ka2 (n + 1) kc2) = wt := ⟨_, rfl⟩
  have ht3 : w3.heap[p]? = some (.cells #[.slice ka2 (n + 1) kc2, .slice va n vc, .int .i64 most] 39 (0, 0)) := by rw [← hw3]; exact heap_setCell_same _ _ 0 _ _ _ ht2
  have hk3 : w3.ownsRow base 3 1 (.slice ka2 (n + 1) kc2) (n + 1) ((ks ++ [k]).map (Value.int .i64)) := by rw [← hw3]; exact ownsRow_setCell_below ho2 hR.lt _
  have hv3 : w3.ownsRow base 3 1 (.slice va n vc) n (vs.map (Value.int .i64)) := by rw [← hw3]; exact ownsRow_setCell_below hv2 hR.lt _
  have hf3 : FR base p w2 w3 := by rw [← hw3]; exact FR.set base p w2 0 _
  obtain ⟨wb, hwb⟩ : ∃ wt, w3.alloc (.cells #[.int .i64 v] 3) = wt := ⟨_, rfl⟩
  have hkb : wb.ownsRow base 3 1 (.slice ka2 (n + 1) kc2) (n + 1) ((ks ++ [k]).map (Value.int .i64)) := by rw [← hwb]; exact hk3.alloc _
  have hvb : wb.ownsRow base 3 1 (.slice va n vc) n (vs.map (Value.int .i64)) := by rw [← hwb]; exact hv3.alloc _
  have htb : wb.heap[p]? = some (.cells #[.slice ka2 (n + 1) kc2, .slice va n vc, .int .i64 most] 39 (0, 0)) := by rw [← hwb, heap_alloc_old _ _ (lt_of_block ht3)]; exact ht3
  have hfb : FR base p w3 wb := by rw [← hwb]; exact FR.alloc base p w3 _
  have hgb : wb.heap[w3.heap.size]? = some (.cells #[.int .i64 v] 3 (0, 0)) := by rw [← hwb]; exact heap_alloc_new _ _
  have hs3 : base ≤ w3.heap.size := Nat.le_trans hb0 (hfa.trans (hf2.trans hf3)).size
  have hsb : wb.heap.size = w3.heap.size + 1 := by rw [← hwb]; simp
  obtain ⟨va2, vc2, w4, hrun4, ho4, hg4, hat4⟩ := app_int2 wb base va n vc vs hvb w3.heap.size v hgb (by omega) (by omega)
  have hap2' : Apart va ka2 := fun a b ea eb e => hap2 b a eb ea e.symm
  have hk4 : w4.ownsRow base 3 1 (.slice ka2 (n + 1) kc2) (n + 1) ((ks ++ [k]).map (Value.int .i64)) := hkb.kept hg4 (own_apart hap2')
  have hne4 : some p ≠ (Value.slice va n vc).ownBlock := fun e => by have := (hvb.lt p e.symm).1; have := hR.lt; omega
  have ht4 : w4.heap[p]? = some (.cells #[.slice ka2 (n + 1) kc2, .slice va n vc, .int .i64 most] 39 (0, 0)) := (hg4.block p (lt_of_block htb) hne4).trans htb
  have hap4 : Apart ka2 va2 := fun a b ea eb => by
    rcases hat4 b eb with ⟨b0, e0, e1⟩ | e1
    · rw [← e1]; exact hap2 a b0 ea e0
    · have := (hk3.lt a.block (by rw [ea]; rfl)).2
      omega
  have hf4 : FR base p wb w4 := FR.grown hvb hg4
  have HRUN4 := hide (show (Builtin.append_ #[37, 37] 37 #[.slice va n vc, .slice (some ⟨w3.heap.size, 0, none⟩) 1 1]).run Try.prog (w3.alloc (.cells #[.int .i64 v] 3)) = .ok (.slice va2 (n + 1) vc2) w4 by rw [hwb]; exact hrun4)
  obtain ⟨x0, x1, x2, xf⟩ := three_cells ht3
  obtain ⟨y0, y1, y2, yf⟩ := three_cells ht4
  obtain ⟨w5, hw5⟩ : ∃ wt, w4.setCell ⟨p, 1, none⟩ (.slice va2 (n + 1) vc2) = wt := ⟨_, rfl⟩
  have ht5 : w5.heap[p]? = some (.cells #[.slice ka2 (n + 1) kc2, .slice va2 (n + 1) vc2, .int .i64 most] 39 (0, 0)) := by rw [← hw5]; exact heap_setCell_same _ _ 1 _ _ _ ht4
  have hln : (ks ++ [k]).length = n + 1 := by rw [List.length_append, HN.out]; rfl
  have HEND := hide (show FR base p w1 w5 ∧ RT w5 base p most (ks ++ [k]) (vs ++ [v]) ka2 kc2 va2 vc2 ∧ Apart ka2 va2 by
    refine ⟨HF0.out.trans (hfa.trans (hf2.trans (hf3.trans (hfb.trans (hf4.trans (by rw [← hw5]; exact FR.set base p w4 1 _)))))), ⟨?_, ?_, ?_, ?_, hR.lt⟩, hap4⟩
    · rw [hln]; exact ht5
    · rw [hln, ← hw5]; exact ownsRow_setCell_below hk4 hR.lt _
    · rw [hln, ← hw5]; exact ownsRow_setCell_below ho4 hR.lt _
    · rw [List.length_append, List.length_append, hR.len]; rfl)
  have HW5 := hide hw5
  clear hR hb0 hkr hvr hwa hka hva hta hfa hga hsa hrun2 ho2 hg2 hat2 hv2 hne2 ht2 hap2 hf2 ht3 hk3 hv3 hf3 hwb hkb hvb htb hfb hgb hs3 hsb hrun4 ho4 hg4 hat4 hap2' hk4 hne4 ht4 hap4 hf4 hw5 ht5 hln HF0
  go_wp2_with (first
    | (at_builtin; refine Lib.wpList_append_run (o := ⟨some 37, _, _, _, _, _⟩) _ rfl _ _ _ _ rfl _ _ rfl rfl _ _ HRUN2.out ?_)
    | (at_builtin; refine Lib.wpList_append_run (o := ⟨some 47, _, _, _, _, _⟩) _ rfl _ _ _ _ rfl _ _ rfl rfl _ _ HRUN4.out ?_))
  try rw [HW5.out]
  go_ret
  exact ⟨rfl, HEND.out.1, _, _, _, _, HEND.out.2⟩
end Go.Proofs.Ytcgkblmhfgjoaaa
