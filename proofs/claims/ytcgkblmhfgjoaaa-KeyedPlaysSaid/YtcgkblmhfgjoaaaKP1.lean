/- What the law's keys tells of a table. -/
import Derived.Test.YtcgkblmhfgjoaaaKWK
import Derived.Test.YtcgkblmhfgjoaaaKS
import Derived.Deep.Cut
import Derived.Lib.AppendZeros
namespace Go.Proofs.Ytcgkblmhfgjoaaa
open Go.RowKit Go.Deep
set_option linter.unusedVariables false
set_option linter.unusedSimpArgs false
set_option maxRecDepth 100000
/-- What the function's variables hold when j keys have been told. -/
structure KI (w : World) (t p bm bo bu bq : Nat) (most : Int) (L : List KV) (j : Nat) (V : World) : Prop where
  below : Below w.heap.size w V
  cm : V.heap[bm]? = some (.cells #[.pointer (some ⟨p, 0, none⟩)] 27 (0, 0))
  cq : V.heap[bq]? = some (.cells #[.int .i64 most] 3 (0, 0))
  co : V.heap[bo]? = some (.cells #[.bool true] 4 (0, 0))
  out : ∃ ua uc, V.heap[bu]? = some (.cells #[.slice ua j uc] 37 (0, 0)) ∧ V.ownsRow w.heap.size 3 1 (.slice ua j uc) j (((L.take j).map (·.1)).map (Value.int .i64)) ∧ ∀ b, ua = some b → b.block ≠ bm ∧ b.block ≠ bo ∧ b.block ≠ bu ∧ b.block ≠ bq
theorem KI.drew {w V : World} {t p bm bo bu bq j : Nat} {most : Int} {L : List KV} (h : KI w t p bm bo bu bq most L j V) : KI w t p bm bo bu bq most L j V.drew := ⟨h.below.drew, h.cm, h.cq, h.co, h.out⟩
def stK : Nat → KV → Bool × Nat := fun j _ => (true, j + 1)
theorem nk_below {V V' : World} (h : Below V.heap.size V V') : NK V V' := NK.of_below h (Nat.le_refl _)
set_option maxHeartbeats 1000000 in
theorem keys1_any (w : World) (t p bm bo bu bq : Nat) (most : Int) (L : List KV) (ks vs : List Int) (ka : Option Addr) (kc : Nat) (va : Option Addr) (vc : Nat) (most' : Int) (HRT : Hid (RTr w p most' ks vs ka kc va vc)) (HLK : Hid (Lk L ks vs)) (hmost : most = (L.length : Int) + 1) (hlen : L.length ≤ 100000)
    (hb1 : w.heap.size ≤ bm) (hb2 : bm < bq) (hb3 : bq < bu) (hb4 : bu < bo) (hp : p < w.heap.size)
    (j : Nat) (x : KV) (V : World) (hx : gdS L j x) (h : KI w t p bm bo bu bq most L j V) :
    Calls Try.prog 40 #[.int .i64 x.1, .int .i64 x.2, .pointer (some ⟨bm, 0, none⟩), .pointer (some ⟨bo, 0, none⟩), .pointer (some ⟨bu, 0, none⟩), .pointer (some ⟨bq, 0, none⟩)] V fun e V' => e = .returned (.bool (stK j x).1) ∧ KI w t p bm bo bu bq most L (stK j x).2 V' ∧ NK V V' := by
  have hjl : j < L.length := (List.getElem?_eq_some_iff.1 hx).1
  obtain ⟨i, hi, hix, hik, hiv⟩ := HLK.out.at (List.mem_of_getElem? hx)
  have hcnt := HLK.out.cnt
  have hrt := HRT.out.below h.below (Nat.le_refl _)
  obtain ⟨T0, T1, T2, TF⟩ := three_cells hrt.tab
  obtain ⟨vb, voff, rfl, hvl, hvc⟩ := hrt.vrow.at (i := i) (by rw [hrt.len]; exact hi)
  have v0 := hvc i (by rw [hrt.len]; exact hi)
  rw [hiv] at v0
  simp only [Option.getD_some] at v0
  have hA := atR_any V p _ ks vs ka kc (some ⟨vb, voff, none⟩) vc x.1 hrt (by omega)
  rw [hix] at hA
  have HA := hide hA
  have HH := hide h
  obtain ⟨m0, mf⟩ := one_cell h.cm
  obtain ⟨q0, qf⟩ := one_cell h.cq
  obtain ⟨o0, of⟩ := one_cell h.co
  obtain ⟨ua, uc, hbu, hrow, hua⟩ := h.out
  obtain ⟨u0, uf⟩ := one_cell hbu
  obtain ⟨n, hkn⟩ : ∃ n, ks.length = n := ⟨_, rfl⟩
  rw [hkn] at T1 hi
  have hge : decide ((0 : Int) ≤ (i : Int)) = true := by simp
  have hlt : decide (((j : Int) + 1) < most) = true := by rw [hmost]; simp; omega
  obtain ⟨k, hk⟩ : ∃ k, x.1 = k := ⟨_, rfl⟩
  obtain ⟨v, hv⟩ : ∃ k, x.2 = k := ⟨_, rfl⟩
  have HX := hide hx
  have HK := hide hk
  rw [hk] at HA ⊢
  rw [hv] at v0 ⊢
  have hST : (stK j x).1 = true := rfl
  have hST2 : (stK j x).2 = j + 1 := rfl
  rw [hST, hST2]
  have hVs : w.heap.size ≤ V.heap.size := h.below.size
  have l1 := lt_of_block h.cm
  have l2 := lt_of_block h.cq
  have l3 := lt_of_block h.co
  have l4 := lt_of_block hbu
  -- the world behind the store of ok
  have ha1 : (V.setCell ⟨bo, 0, none⟩ (.bool true)).heap[bo]? = some (.cells #[.bool true] 4 (0, 0)) := heap_setCell_same _ _ 0 _ _ _ h.co
  have ho := fun b (hb : b ≠ bo) => heap_setCell_other V ⟨bo, 0, none⟩ b (.bool true) hb
  have hrow1 : (V.setCell ⟨bo, 0, none⟩ (.bool true)).ownsRow w.heap.size 3 1 (.slice ua j uc) j (((L.take j).map (·.1)).map (Value.int .i64)) := by
    refine ⟨hrow.1, ?_⟩
    rcases hrow.2 with g | ⟨g, cap, cur, hg, hb, hh, r⟩
    · exact .inl g
    · obtain ⟨rfl, rfl⟩ : ua = some ⟨g, 0, none⟩ ∧ uc = cap := by simpa using hg
      exact .inr ⟨g, _, cur, rfl, hb, (ho g (hua _ rfl).2.1).trans hh, r⟩
  obtain ⟨V1, hV1, H1o, H1m, H1q, H1u, H1r, H1b, H1n, hs1⟩ : ∃ wt, V.setCell ⟨bo, 0, none⟩ (.bool true) = wt ∧ Hid (wt.heap[bo]? = some (.cells #[.bool true] 4 (0, 0))) ∧ Hid (wt.heap[bm]? = some (.cells #[.pointer (some ⟨p, 0, none⟩)] 27 (0, 0))) ∧ Hid (wt.heap[bq]? = some (.cells #[.int .i64 most] 3 (0, 0))) ∧ Hid (wt.heap[bu]? = some (.cells #[.slice ua j uc] 37 (0, 0))) ∧ Hid (wt.ownsRow w.heap.size 3 1 (.slice ua j uc) j (((L.take j).map (·.1)).map (Value.int .i64))) ∧ Hid (Below w.heap.size w wt) ∧ Hid (NK V wt) ∧ wt.heap.size = V.heap.size :=
    ⟨_, rfl, hide ha1, hide ((ho _ (by omega)).trans h.cm), hide ((ho _ (by omega)).trans h.cq), hide ((ho _ (by omega)).trans hbu), hide hrow1, hide (h.below.setCell (by show w.heap.size ≤ bo; omega) _), hide (NK.set h.co (by decide) 0 _), by simp⟩
  have HV1 := hide hV1
  -- the row behind the append
  obtain ⟨V2, hV2⟩ : ∃ wt, V1.alloc (.cells #[.int .i64 k] 3) = wt := ⟨_, rfl⟩
  have hal : Below V1.heap.size V1 V2 := by rw [← hV2]; exact (Below.refl _ _).alloc (Nat.le_refl _) _
  have hr2 : V2.ownsRow w.heap.size 3 1 (.slice ua j uc) j (((L.take j).map (·.1)).map (Value.int .i64)) := by rw [← hV2]; exact H1r.out.alloc _
  have hn2 : V2.heap[V1.heap.size]? = some (.cells #[.int .i64 k] 3 (0, 0)) := by rw [← hV2]; exact heap_alloc_new _ _
  obtain ⟨ua2, uc2, V3, hrun, hown3, hg3, hat3⟩ := app_int2 V2 w.heap.size ua j uc _ hr2 V1.heap.size k hn2 (by omega) (by have := hal.size; omega)
  have hblk : ∀ b o, V1.heap[b]? = some o → (∀ c, ua = some c → c.block ≠ b) → V3.heap[b]? = some o := fun b o hb hne => by
    have h2 := below_block hal hb (Nat.le_refl _)
    refine (hg3.block b (lt_of_block h2) ?_).trans h2
    cases hua' : ua with
    | none => simp [Value.ownBlock]
    | some c => simp only [Value.ownBlock, ne_eq, Option.some.injEq]; exact fun e => hne c hua' e.symm
  have hcat : (L.take j).map (·.1) ++ [k] = (L.take (j + 1)).map (·.1) := by
    have hx2 : L[j]? = some x := HX.out
    rw [List.take_add_one, hx2, ← HK.out]; simp
  rw [hcat] at hown3
  have H3u := hide (hblk _ _ H1u.out (fun c e => (hua c e).2.2.1))
  have H3m := hide (hblk _ _ H1m.out (fun c e => (hua c e).1))
  have H3q := hide (hblk _ _ H1q.out (fun c e => (hua c e).2.2.2))
  have H3o := hide (hblk _ _ H1o.out (fun c e => (hua c e).2.1))
  have H3b := hide ((H1b.out.trans (hal.mono H1b.out.size)).grown hg3 (by have := hal.size; omega) (fun z e => (hr2.lt z e).1))
  have H3n := hide (show NK V1 V3 from (nk_below hal).trans (fun b cs hb => by
    refine (hg3.block b (lt_of_block hb) ?_).trans hb
    rcases hr2.2 with ⟨hv2, _⟩ | ⟨g, cap, cur, hv2, _, hh, _⟩
    · rw [hv2]; simp [Value.ownBlock]
    · rw [hv2]
      simp only [Value.ownBlock, ne_eq, Option.some.injEq]
      intro e; subst e; rw [hh] at hb; cases hb))
  have H3r := hide hown3
  have H3a := hide (fun b (hb : ua2 = some b) => (by
    rcases hat3 b hb with ⟨b0, e0, e1⟩ | e1
    · rw [← e1]; exact hua b0 e0
    · have := hal.size
      exact ⟨by omega, by omega, by omega, by omega⟩ : b.block ≠ bm ∧ b.block ≠ bo ∧ b.block ≠ bu ∧ b.block ≠ bq))
  have HRUN := hide (show (Builtin.append_ #[37, 37] 37 #[.slice ua j uc, .slice (some ⟨V1.heap.size, 0, none⟩) 1 1]).run Try.prog (V1.alloc (.cells #[.int .i64 k] 3)) = .ok (.slice ua2 (j + 1) uc2) V3 by rw [hV2]; exact hrun)
  have hu1 := (one_cell H1u.out).1
  have hu3 := one_cell H3u.out
  have hjle : (j : Int) ≤ 100000 := by omega
  clear h hA hrt hrow hrow1 ha1 ho hua hvc hvl hik hiv hix hcnt hkn hx hk hv T0 T2 TF mf qf uf hbu hV1 hV2 hal hr2 hn2 hrun hown3 hg3 hat3 hblk hcat l1 l2 l3 l4 hs1
  go_enter Try.func40, Try.ntmps40
  go_wp2_with fail
  refine HA.out.mono ?_
  rintro e w1 ⟨rfl, rfl⟩
  go_upto_region 3 with (fail)
  rw [HV1.out]
  clear m0 q0 o0 u0 v0 T1 HA of hmost hge hVs
  obtain ⟨u3, uf3⟩ := hu3
  go_upto_region 4 with (at_builtin; refine Lib.wpList_append_run (o := ⟨some 32, _, _, _, _, _⟩) _ rfl _ _ _ _ rfl _ _ rfl rfl _ _ HRUN.out ?_)
  have g4 := heap_setCell_same V3 bu 0 _ _ (.slice ua2 (j + 1) uc2) H3u.out
  have ho4 := fun b (hb : b ≠ bu) => heap_setCell_other V3 ⟨bu, 0, none⟩ b (.slice ua2 (j + 1) uc2) hb
  have hrow4 : (V3.setCell ⟨bu, 0, none⟩ (.slice ua2 (j + 1) uc2)).ownsRow w.heap.size 3 1 (.slice ua2 (j + 1) uc2) (j + 1) (((L.take (j + 1)).map (·.1)).map (Value.int .i64)) := by
    refine ⟨H3r.out.1, ?_⟩
    rcases H3r.out.2 with g | ⟨g, cap, cur, hg, hb, hh, r⟩
    · exact .inl g
    · obtain ⟨rfl, rfl⟩ : ua2 = some ⟨g, 0, none⟩ ∧ uc2 = cap := by simpa using hg
      exact .inr ⟨g, _, cur, rfl, hb, (ho4 g (H3a.out _ rfl).2.2.1).trans hh, r⟩
  obtain ⟨V4, hV4, HK4, HN4⟩ : ∃ wt, V3.setCell ⟨bu, 0, none⟩ (.slice ua2 (j + 1) uc2) = wt ∧ Hid (KI w t p bm bo bu bq most L (j + 1) wt) ∧ Hid (NK V3 wt) :=
    ⟨_, rfl, hide ⟨H3b.out.setCell (by show w.heap.size ≤ bu; omega) _, (ho4 _ (by omega)).trans H3m.out, (ho4 _ (by omega)).trans H3q.out, (ho4 _ (by omega)).trans H3o.out, ⟨ua2, uc2, g4, hrow4, H3a.out⟩⟩, hide (NK.set H3u.out (by decide) 0 _)⟩
  rw [hV4]
  have q4 := (one_cell HK4.out.cq).1
  have u4 : V4.cell? ⟨bu, 0, none⟩ = some (.slice ua2 (j + 1) uc2) := by rw [← hV4]; exact (one_cell g4).1
  clear g4 ho4 hrow4 hV4 u3 uf3 hu1
  go_wp2_with fail
  go_ret
  exact ⟨rfl, HK4.out, H1n.out.trans (H3n.out.trans HN4.out)⟩
end Go.Proofs.Ytcgkblmhfgjoaaa
