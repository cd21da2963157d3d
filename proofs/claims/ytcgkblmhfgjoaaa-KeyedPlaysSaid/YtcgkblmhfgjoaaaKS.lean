/- The law that what goes through a table ends when it is told so: what is told of it. -/
import Derived.Test.YtcgkblmhfgjoaaaKWS
import Derived.Test.YtcgkblmhfgjoaaaKR
import Derived.Test.YtcgkblmhfgjoaaaKLink
namespace Go.Proofs.Ytcgkblmhfgjoaaa
open Go.RowKit Go.Deep
set_option linter.unusedVariables false
set_option linter.unusedSimpArgs false
set_option maxRecDepth 100000
theorem nk_grown {V V' : World} {t : Nat} {cs : Array Value} (hT : V.heap[t]? = some (.cells cs 55 (0, 0))) (hg : V.grownBy V' (some t)) : NK V V' := fun b ds hb => by
  refine (hg.block b (lt_of_block hb) ?_).trans hb
  intro e; cases e
  rw [hT] at hb; cases hb
theorem Tab.blk {w : World} {t : Nat} {m : Int} {fv : Value} {τ : Int → Int} {L : List KV} (h : Tab w t m fv τ L) : ∃ cs, w.heap[t]? = some (.cells cs 55 (0, 0)) := by
  obtain ⟨_, h, _⟩ := h; exact ⟨_, h⟩
theorem gb_set_new {w v : World} {r : Option Nat} (h : w.grownBy v r) {g i : Nat} {u : Value} (hg : w.heap.size ≤ g) : w.grownBy (v.setCell ⟨g, i, none⟩ u) r :=
  ⟨h.os, h.tape, h.output, by simpa using h.size, fun k hk hne => (Below.heap_setCell _ _ _ _ (by intro e; simp at e; omega)).trans (h.block k hk hne)⟩
/-- What stays while the keys are told. -/
structure SC (wp : World) (t p base bt bm bw bq : Nat) (most : Int) (L : List KV) (ks vs : List Int) (ka : Option Addr) (kc : Nat) (va : Option Addr) (vc : Nat) (a : Option Addr) (c : Nat) : Prop where
  rt : RT wp base p 1000 ks vs ka kc va vc
  lk : Lk L ks vs
  row : wp.ownsRow base 3 1 (.slice a L.length c) L.length ((L.map (·.1)).map (Value.int .i64))
  ct : wp.heap[bt]? = some (.cells #[.pointer (some ⟨t, 0, none⟩)] 24 (0, 0))
  cm : wp.heap[bm]? = some (.cells #[.pointer (some ⟨p, 0, none⟩)] 27 (0, 0))
  cw : wp.heap[bw]? = some (.cells #[.slice a L.length c] 37 (0, 0))
  cq : wp.heap[bq]? = some (.cells #[.int .i64 most] 3 (0, 0))
  l1 : bq < t
  l2 : t < p
  l3 : t < bt ∧ t < bm ∧ t < bw
  len : L.length ≤ 1000
/-- What turns. -/
structure SI (wp : World) (t bn bo : Nat) (j : Nat) (V : World) : Prop where
  tab : ∃ M, Tab V t 1000 (.func (.func 10) #[] #[]) id M ∧ M.length ≤ 1000
  g : wp.grownBy V (some t)
  n : V.heap[bn]? = some (.cells #[.int .i64 (j : Int)] 3 (0, 0))
  o : V.heap[bo]? = some (.cells #[.bool true] 4 (0, 0))
theorem SI.drew {wp V : World} {t bn bo j : Nat} (h : SI wp t bn bo j V) : SI wp t bn bo j V.drew := by
  obtain ⟨M, h1, h2⟩ := h.tab
  exact ⟨⟨M, h1.below (Below.refl V.heap.size V).drew (Nat.le_refl _), h2⟩, gb_trans h.g (gb_drewN V 1 _), h.n, h.o⟩
def stS (most : Int) : Nat → KV → Bool × Nat := fun j _ => (decide ((j : Int) + 1 < most), j + 1)
def gdS (L : List KV) : Nat → KV → Prop := fun j x => L[j]? = some x
theorem slice_some {w : World} {base n c : Nat} {e : TypeId} {a : Option Addr} {xs : List Value} (h : w.ownsRow base e 1 (.slice a n c) n xs) (hn : 0 < n) : ∃ b, a = some ⟨b, 0, none⟩ := by
  rcases h.2 with ⟨h1, h2⟩ | ⟨g, cap, cur, h1, _⟩
  · omega
  · injection h1 with h1 _ _; exact ⟨g, h1⟩

set_option maxHeartbeats 3000000 in
theorem stops1_any (wp : World) (t p base bt bm bw bq bn bo : Nat) (most : Int) (L : List KV) (ks vs : List Int) (ka : Option Addr) (kc : Nat) (va : Option Addr) (vc : Nat) (a : Option Addr) (c : Nat) (HC : Hid (SC wp t p base bt bm bw bq most L ks vs ka kc va vc a c)) (hb1 : wp.heap.size ≤ bn) (hb2 : bn < bo)
    (j : Nat) (x : KV) (V : World) (hx : gdS L j x) (h : SI wp t bn bo j V) :
    Calls Try.prog 21 #[.int .i64 x.1, .int .i64 x.2, .pointer (some ⟨bo, 0, none⟩), .pointer (some ⟨bn, 0, none⟩), .pointer (some ⟨bw, 0, none⟩), .pointer (some ⟨bm, 0, none⟩), .pointer (some ⟨bt, 0, none⟩), .pointer (some ⟨bq, 0, none⟩)] V fun e V' => e = .returned (.bool (stS most j x).1) ∧ SI wp t bn bo (stS most j x).2 V' ∧ NK V V' := by
  have hjl : j < L.length := (List.getElem?_eq_some_iff.1 hx).1
  have hn1 := HC.out.len
  obtain ⟨i, hi, hix, hik, hiv⟩ := HC.out.lk.at (List.mem_of_getElem? hx)
  have hcnt := HC.out.lk.cnt
  have hrt := HC.out.rt.grown h.g HC.out.l2
  have hle := HC.out.rt.lt
  have hlt2 := HC.out.l2
  have hrow : V.ownsRow base 3 1 (.slice a L.length c) L.length ((L.map (·.1)).map (Value.int .i64)) := HC.out.row.kept h.g (.inr fun e => by have := (HC.out.row.lt t e).1; omega)
  obtain ⟨ab, rfl⟩ := slice_some hrow (by omega)
  obtain ⟨vb, rfl⟩ := slice_some hrt.vrow (by omega)
  have r0 : V.cell? ⟨ab, j, none⟩ = some (.int .i64 x.1) := by
    rw [hrow.cellAt j (by omega)]; simp [gdS] at hx; simp [hx]
  have v0 : V.cell? ⟨vb, i, none⟩ = some (.int .i64 x.2) := by
    rw [hrt.vrow.cellAt i (by omega)]; simp [hiv]
  obtain ⟨l3, l4, l5⟩ := HC.out.l3
  have l1 := HC.out.l1
  obtain ⟨T0, T1, T2, TF⟩ := three_cells hrt.tab
  obtain ⟨o0, of⟩ := one_cell h.o
  obtain ⟨n0, nf⟩ := one_cell h.n
  have KT := hide (gb_block h.g HC.out.ct (by omega))
  obtain ⟨q0, qf⟩ := one_cell KT.out
  have KM := hide (gb_block h.g HC.out.cm (by omega))
  obtain ⟨m0, mf⟩ := one_cell KM.out
  have KW := hide (gb_block h.g HC.out.cw (by omega))
  obtain ⟨w0, wf⟩ := one_cell KW.out
  have KQ := hide (gb_block h.g HC.out.cq (by omega))
  have bsz : bt < wp.heap.size ∧ bm < wp.heap.size ∧ bw < wp.heap.size ∧ bq < wp.heap.size ∧ p < wp.heap.size := ⟨lt_of_block HC.out.ct, lt_of_block HC.out.cm, lt_of_block HC.out.cw, lt_of_block HC.out.cq, lt_of_block HC.out.rt.tab⟩
  have hA := atR_any V.drew p 1000 ks vs ka kc (some ⟨vb, 0, none⟩) vc x.1 (hrt.r.below (Below.refl V.heap.size V).drew (Nat.le_refl _)) (by omega)
  rw [hix] at hA
  have HA := hide hA
  have HH := hide h
  obtain ⟨n, hn⟩ : ∃ n, L.length = n := ⟨_, rfl⟩
  have hkn : ks.length = n := by omega
  rw [hn] at w0 hjl hn1
  rw [hkn] at T1 hi
  have HN := hide (And.intro hn hkn)
  have HROW := hide hrow
  have habV : ab < wp.heap.size := by have := HC.out.row.lt ab rfl; omega
  have hab : base ≤ ab := by have := HC.out.row.lt ab rfl; omega
  have hvb : vb < wp.heap.size := by have := HC.out.rt.vrow.lt vb rfl; omega
  obtain ⟨k, hk⟩ : ∃ k, x.1 = k := ⟨_, rfl⟩
  obtain ⟨v, hv⟩ : ∃ k, x.2 = k := ⟨_, rfl⟩
  rw [hk] at r0 HA ⊢
  rw [hv] at v0 ⊢
  have hlt : decide ((j : Int) < (n : Int)) = true := by simpa using hjl
  have hST : (stS most j x).1 = decide ((j : Int) + 1 < most) := rfl
  have hST2 : (stS most j x).2 = j + 1 := rfl
  rw [hST, hST2]
  clear hST hST2 h hA hrow hrt hn hkn hx hik hiv hcnt hix hk hv T0 T2 TF nf qf mf wf
  have oc : ∀ b i, b ≠ bo → ((V.setCell ⟨bo, 0, none⟩ (.bool true)).drew).cell? ⟨b, i, none⟩ = V.cell? ⟨b, i, none⟩ := fun b i hb => World.cell?_of_block (heap_setCell_other _ _ _ _ hb)
  have HK := hide (show ((V.setCell ⟨bo, 0, none⟩ (.bool true)).drew).cell? ⟨bo, 0, none⟩ = some (.bool true) ∧ ((V.setCell ⟨bo, 0, none⟩ (.bool true)).drew).cell? ⟨bn, 0, none⟩ = some (.int .i64 (j : Int)) ∧ ((V.setCell ⟨bo, 0, none⟩ (.bool true)).drew).cell? ⟨bw, 0, none⟩ = some (.slice (some ⟨ab, 0, none⟩) n c) ∧ ((V.setCell ⟨bo, 0, none⟩ (.bool true)).drew).cell? ⟨ab, j, none⟩ = some (.int .i64 k) ∧ ((V.setCell ⟨bo, 0, none⟩ (.bool true)).drew).cell? ⟨bm, 0, none⟩ = some (.pointer (some ⟨p, 0, none⟩)) ∧ ((V.setCell ⟨bo, 0, none⟩ (.bool true)).drew).cell? ⟨p, 1, none⟩ = some (.slice (some ⟨vb, 0, none⟩) n vc) ∧ ((V.setCell ⟨bo, 0, none⟩ (.bool true)).drew).cell? ⟨vb, i, none⟩ = some (.int .i64 v) from
    ⟨(one_cell (heap_setCell_same _ _ 0 _ _ _ HH.out.o)).1, (oc _ _ (by omega)).trans n0, (oc _ _ (by omega)).trans w0, (oc _ _ (by omega)).trans r0, (oc _ _ (by omega)).trans m0, (oc _ _ (by omega)).trans T1, (oc _ _ (by omega)).trans v0⟩)
  have oc2 : ∀ b i, b ≠ bo → (V.drew.setCell ⟨bo, 0, none⟩ (.bool true)).cell? ⟨b, i, none⟩ = V.cell? ⟨b, i, none⟩ := fun b i hb => World.cell?_of_block (heap_setCell_other V.drew _ _ _ hb)
  have HK2 := hide (show (V.drew.setCell ⟨bo, 0, none⟩ (.bool true)).cell? ⟨bo, 0, none⟩ = some (.bool true) ∧ (V.drew.setCell ⟨bo, 0, none⟩ (.bool true)).cell? ⟨bn, 0, none⟩ = some (.int .i64 (j : Int)) ∧ (V.drew.setCell ⟨bo, 0, none⟩ (.bool true)).cell? ⟨bw, 0, none⟩ = some (.slice (some ⟨ab, 0, none⟩) n c) ∧ (V.drew.setCell ⟨bo, 0, none⟩ (.bool true)).cell? ⟨ab, j, none⟩ = some (.int .i64 k) ∧ (V.drew.setCell ⟨bo, 0, none⟩ (.bool true)).cell? ⟨bm, 0, none⟩ = some (.pointer (some ⟨p, 0, none⟩)) ∧ (V.drew.setCell ⟨bo, 0, none⟩ (.bool true)).cell? ⟨p, 1, none⟩ = some (.slice (some ⟨vb, 0, none⟩) n vc) ∧ (V.drew.setCell ⟨bo, 0, none⟩ (.bool true)).cell? ⟨vb, i, none⟩ = some (.int .i64 v) from
    ⟨(one_cell (heap_setCell_same _ _ 0 _ _ _ HH.out.drew.o)).1, (oc2 _ _ (by omega)).trans n0, (oc2 _ _ (by omega)).trans w0, (oc2 _ _ (by omega)).trans r0, (oc2 _ _ (by omega)).trans m0, (oc2 _ _ (by omega)).trans T1, (oc2 _ _ (by omega)).trans v0⟩)
  clear oc oc2
  go_enter Try.func21, Try.ntmps21
  go_wp2_with fail
  go_region_held3 (fun w' => w'.cell? ⟨bo, 0, none⟩ = some (.bool true) ∧ w'.cell? ⟨bn, 0, none⟩ = some (.int .i64 (j : Int)) ∧ w'.cell? ⟨bw, 0, none⟩ = some (.slice (some ⟨ab, 0, none⟩) n c) ∧ w'.cell? ⟨ab, j, none⟩ = some (.int .i64 k) ∧ w'.cell? ⟨bm, 0, none⟩ = some (.pointer (some ⟨p, 0, none⟩)) ∧ w'.cell? ⟨p, 1, none⟩ = some (.slice (some ⟨vb, 0, none⟩) n vc) ∧ w'.cell? ⟨vb, i, none⟩ = some (.int .i64 v)) (first | (go_keep; done) | exact HK.out | exact HK2.out) (first
    | (go_at_call 17; refine HA.out.mono ?_; rintro e w2 ⟨rfl, rfl⟩)
    | fail)
  obtain ⟨V1, hV1, H1, N1⟩ : ∃ V1, (V.setCell ⟨bo, 0, none⟩ (.bool true)).drew = V1 ∧ Hid (SI wp t bn bo j V1) ∧ Hid (NK V V1) := ⟨_, rfl, hide (by
    obtain ⟨M, hM, hMl⟩ := HH.out.tab
    have ho := HH.out.o
    refine SI.drew ⟨⟨M, hM.keep (NK.set ho (by decide) 0 _) (fun o h => (heap_setCell_other _ _ _ _ (show t ≠ bo by omega)).trans h), hMl⟩, gb_set_new HH.out.g (by omega), (heap_setCell_other _ _ _ _ (show bn ≠ bo by omega)).trans HH.out.n, heap_setCell_same _ _ 0 _ _ _ ho⟩), hide ((NK.set HH.out.o (by decide) 0 _).trans (nk_drew _))⟩
  rw [hV1]
  clear hV1 o0 n0 w0 r0 m0 T1 v0 q0 of HA HK HK2 HH
  have HC1 := hide (gb_block H1.out.g HC.out.cw (by omega))
  obtain ⟨w0, wf⟩ := one_cell HC1.out
  rw [HN.out.1] at w0
  clear wf
  go_wp2_with fail
  go_loopw [43] (fun i wz => ∃ (k : Nat) (M : List KV), k ≤ n ∧ i = .int .i64 k ∧ Hid (Tab wz t 1000 (.func (.func 10) #[] #[]) id M ∧ M.length ≤ 1000 ∧ wz.heap.size ≥ V1.heap.size) ∧ Hid (V1.grownBy wz (some t))) (fun i _ => n - (intOf i).toNat)
  case atStart =>
    obtain ⟨M, hM, hMl⟩ := H1.out.tab
    exact ⟨0, M, Nat.zero_le _, rfl, hide ⟨hM, hMl, Nat.le_refl _⟩, hide (gb_drewN V1 0 _)⟩
  case round =>
    obtain ⟨q, M, hq, rfl, HS, HG⟩ := hrel
    obtain ⟨wa, rfl⟩ : ∃ wa, wa = wr := ⟨_, rfl⟩
    have HGP := hide (gb_trans H1.out.g HG.out)
    clear w0
    by_cases hlt : q < n
    · have hro := HC.out.row.kept HGP.out (.inr fun e => by have := (HC.out.row.lt t e).1; omega)
      obtain ⟨y, hy⟩ : ∃ y, L[q]? = some y := ⟨L[q]'(by have := HN.out.1; omega), List.getElem?_eq_getElem _⟩
      have r0 : wa.cell? ⟨ab, q, none⟩ = some (.int .i64 y.1) := by
        rw [hro.cellAt q (by have := HN.out.1; omega)]; simp [hy]
      obtain ⟨t0, tf⟩ := one_cell (gb_block HGP.out HC.out.ct (by omega))
      have HP := hide (DropL HS.out.1 o_ord y.1 (by have := HS.out.2.1; omega))
      obtain ⟨y1, hy1⟩ : ∃ y1, y.1 = y1 := ⟨_, rfl⟩
      rw [hy1] at r0 HP
      clear hro hy hy1 tf
      go_wp2_with fail
      refine HP.out.mono ?_
      rintro e w5 ⟨rfl, h5, g5⟩
      have H5 := hide (show Tab w5 t 1000 (.func (.func 10) #[] #[]) id (delL id y1 M) ∧ (delL id y1 M).length ≤ 1000 ∧ w5.heap.size ≥ V1.heap.size from ⟨h5, by have := del_le (τ := id) (k := y1) M; have := HS.out.2.1; omega, by have := g5.size; have := HS.out.2.2; omega⟩)
      have HG5 := hide (gb_trans HG.out g5)
      clear HP h5 g5 r0 t0
      go_wp2_with fail
      go_roundw
      case rel => exact ⟨q + 1, _, by omega, by go_num, H5, HG5⟩
      case measure => simp [intOf]; omega
    · obtain ⟨t0, tf⟩ := one_cell (gb_block HGP.out HC.out.ct (by omega))
      have HP := hide (PutC (m := 1000) HS.out.1 o_ord (wrap64 (k + 1)) 0 (by have := HS.out.2.1; omega))
      have hplen := putC_len (m := 1000) (k := wrap64 (k + 1)) (v := 0) HS.out.1.asc HS.out.2.1
      have HPL := hide hplen
      clear hplen tf
      go_wp2_with fail
      refine HP.out.mono ?_
      rintro e w5 ⟨rfl, h5, g5⟩
      have HG5 := hide (gb_trans HGP.out g5)
      have H5 := hide (show Tab w5 t 1000 (.func (.func 10) #[] #[]) id (putC id 1000 (wrap64 (k + 1)) 0 M).2 ∧ (putC id 1000 (wrap64 (k + 1)) 0 M).2.length ≤ 1000 from ⟨h5, HPL.out⟩)
      have HG15 := hide (gb_trans HG.out g5)
      have HB0 := hide (gb_block HG15.out H1.out.n (by obtain ⟨M1, hM1, _⟩ := H1.out.tab; omega))
      have HB1 := hide (gb_block HG15.out H1.out.o (by omega))
      obtain ⟨n0, nf⟩ := one_cell HB0.out
      obtain ⟨q0, qf⟩ := one_cell (gb_block HG5.out HC.out.cq (by omega))
      have e1 : bq ≠ bn := by omega
      have e2 : bn ≠ bq := by omega
      clear HP h5 g5 t0 qf
      go_wp2_with fail
      go_ret
      refine ⟨rfl, ⟨?_, ?_, ?_, ?_⟩, ?_⟩
      · exact ⟨_, H5.out.1.keep (NK.set HB0.out (by decide) 0 _) (fun o h => (heap_setCell_other _ _ _ _ (show t ≠ bn by omega)).trans h), H5.out.2⟩
      · exact gb_set_new HG5.out hb1
      · exact heap_setCell_same _ _ 0 _ _ _ HB0.out
      · exact (heap_setCell_other _ _ _ _ (show bo ≠ bn by omega)).trans HB1.out
      · obtain ⟨M1, hM1, _⟩ := H1.out.tab
        obtain ⟨cs, hcs⟩ := hM1.blk
        exact N1.out.trans ((nk_grown hcs HG15.out).trans (NK.set HB0.out (by decide) 0 _))

theorem good_stS (most : Int) (L : List KV) : ∀ (l : List KV) (j : Nat), L.drop j = l → GoodW (stS most) (gdS L) j l
  | [], _, _ => trivial
  | x :: l, j, h => by
    have hx : L[j]? = some x := by have := congrArg (fun l => l[0]?) h; simpa using this
    exact ⟨hx, fun _ => good_stS most L l (j + 1) (by rw [← List.drop_drop, h]; rfl)⟩
def cntS (most : Int) (j : Nat) (n : Nat) : Int := if n = 0 then (j : Int) else max (min ((j : Int) + n) most) ((j : Int) + 1)
theorem fold_stS (most : Int) : ∀ (l : List KV) (j : Nat), ((foldW (stS most) j l).2 : Int) = cntS most j l.length
  | [], j => by simp [foldW, cntS]
  | x :: l, j => by
    rw [foldW]
    have hs1 : (stS most j x).1 = decide ((j : Int) + 1 < most) := rfl
    have hs2 : (stS most j x).2 = j + 1 := rfl
    rw [hs1, hs2]
    by_cases hc : (j : Int) + 1 < most
    · rw [if_pos (by simpa using hc), fold_stS most l (j + 1)]
      unfold cntS
      rw [List.length_cons, if_neg (Nat.succ_ne_zero _)]
      split
      · rename_i h0; rw [h0]; omega
      · omega
    · rw [if_neg (by simpa using hc)]
      unfold cntS
      rw [List.length_cons, if_neg (Nat.succ_ne_zero _)]
      show ((j + 1 : Nat) : Int) = _
      omega
set_option maxHeartbeats 1600000 in
theorem iter_stops (wp : World) (t p base bt bm bw bq bn bo bx : Nat) (most : Int) (L : List KV) (ks vs : List Int) (ka : Option Addr) (kc : Nat) (va : Option Addr) (vc : Nat) (a : Option Addr) (c : Nat) (HC : Hid (SC wp t p base bt bm bw bq most L ks vs ka kc va vc a c)) (hb1 : wp.heap.size ≤ bn) (hb2 : bn < bo)
    (V : World) (h : SI wp t bn bo 0 V) (hT : Tab V t 1000 (.func (.func 10) #[] #[]) id L) (hbx : V.heap[bx]? = some (.cells #[.pointer (some ⟨t, 0, none⟩)] 24 (0, 0))) :
    Calls Try.prog 32 #[(.func (.func 21) #[] #[.pointer (some ⟨bo, 0, none⟩), .pointer (some ⟨bn, 0, none⟩), .pointer (some ⟨bw, 0, none⟩), .pointer (some ⟨bm, 0, none⟩), .pointer (some ⟨bt, 0, none⟩), .pointer (some ⟨bq, 0, none⟩)]), .pointer (some ⟨bx, 0, none⟩)] V fun e V' => (∃ v, e = .returned v) ∧ ∃ j : Nat, (j : Int) = cntS most 0 L.length ∧ SI wp t bn bo j V' := by
  obtain ⟨T, hT1, hIn, hTL, hA⟩ := hT
  obtain ⟨p0, pf⟩ := one_cell hbx
  obtain ⟨t0, t1, t2, tf⟩ := three_cells hT1
  have hw := walk_stops (stS most) (fun j V => SI wp t bn bo j V) (fun σ V h => h.drew) bo bn bw bm bt bq (gdS L) (hide (fun σ x V hx hi => stops1_any wp t p base bt bm bw bq bn bo most L ks vs ka kc va vc a c HC hb1 hb2 σ x V hx hi)) T V 0 hIn (by rw [hTL]; exact good_stS most L L 0 rfl) h
  rw [hTL] at hw
  have HF := hide (fold_stS most L 0)
  have HW := hide hw
  obtain ⟨fw, hfw⟩ : ∃ fw, foldW (stS most) 0 L = fw := ⟨_, rfl⟩
  rw [hfw] at HW HF
  clear hT1 hIn hTL hA h hbx pf t0 t1 tf hw hfw
  go_enter Try.func32, Try.ntmps32
  go_wp2_with fail
  refine HW.out.mono ?_
  rintro e V' ⟨rfl, i1, _⟩
  have HI := hide i1
  clear i1 HW
  go_wp2
  all_goals
    first
      | (go_end0; exact ⟨⟨_, rfl⟩, _, HF.out, HI.out⟩)
      | (go_ret; exact ⟨⟨_, rfl⟩, _, HF.out, HI.out⟩)
end Go.Proofs.Ytcgkblmhfgjoaaa
