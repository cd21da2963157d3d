/- neigh: leave, give. -/
import Derived.Test.YtbibobjkclgogaaNPut
import Derived.Lib.AppendZeros
import Derived.Deep.LoopGhost
namespace Go.Proofs.Ytbibobjkclgogaa
open Go.RowKit Go.Deep Go.Shelf
set_option linter.unusedVariables false
set_option linter.unusedSimpArgs false
set_option maxRecDepth 100000
theorem info_pkt : (Try.prog.info? 44).map (fun i => (i.zero, i.size, i.bytes)) = some (some (.agg #[.int .u8 0, .int .u8 0, .int .u16 0, .int .u32 0, .int .u32 0, .slice none 0 0]), 6, 40) := by kernel_rfl
/-- One more is given: the row behind an append. -/
theorem app_p (V : World) (base : Nat) (a : Option Addr) (n c : Nat) (H : List HV) (x : HV) (h : PRow V base (.slice a n c) H) (hl : H.length ≤ 600000) (hb : base ≤ V.heap.size) :
    ∃ a' c' w', (Builtin.append_ #[55, 55] 55 #[.slice a n c, .slice (some ⟨V.heap.size, 0, none⟩) 1 1]).run Try.prog (V.alloc (.cells #[.int .u8 x.t, .int .u8 x.p, .int .u16 x.i, .int .u32 x.s, .int .u32 x.d, .slice x.a x.n x.c] 44)) = .ok (.slice a' (n + 1) c') w' ∧ PRow w' base (.slice a' (n + 1) c') (H ++ [x]) ∧ OnlyS (RB (.slice a n c)) V w' := by
  obtain ⟨i0, hi, hz0, hz1, hz2⟩ := info_parts info_pkt
  have hn : n = H.length := by
    rcases h.2 with ⟨h1, h2⟩ | ⟨g, cap', cur, h1, _⟩
    · simp at h1; rw [h2]; exact h1.2.1
    · simp at h1; exact h1.2.1
  subst hn
  have hal : Below V.heap.size V (V.alloc (.cells #[.int .u8 x.t, .int .u8 x.p, .int .u16 x.i, .int .u32 x.s, .int .u32 x.d, .slice x.a x.n x.c] 44)) := (Below.refl _ _).alloc (Nat.le_refl _) _
  have hx := heap_alloc_new V (.cells #[.int .u8 x.t, .int .u8 x.p, .int .u16 x.i, .int .u32 x.s, .int .u32 x.d, .slice x.a x.n x.c] 44)
  have hown := h.below hal
  have hsz : V.heap.size ≤ (V.alloc (.cells #[.int .u8 x.t, .int .u8 x.p, .int .u16 x.i, .int .u32 x.s, .int .u32 x.d, .slice x.a x.n x.c] 44)).heap.size := hal.size
  generalize V.alloc (.cells #[.int .u8 x.t, .int .u8 x.p, .int .u16 x.i, .int .u32 x.s, .int .u32 x.d, .slice x.a x.n x.c] 44) = W at *
  obtain ⟨c0, c1, c2, c3, c4, c5, _⟩ := cells6 hx
  have hcells : ∀ j u, (pkc x)[j]? = some u → W.cell? ((⟨V.heap.size, 0, none⟩ : Addr).add j) = some u := by
    intro j u hj
    rw [Addr.add_lit, Nat.zero_add]
    unfold pkc at hj
    match j, hj with
    | 0, hj => cases hj; exact c0
    | 1, hj => cases hj; exact c1
    | 2, hj => cases hj; exact c2
    | 3, hj => cases hj; exact c3
    | 4, hj => cases hj; exact c4
    | 5, hj => cases hj; exact c5
    | j + 6, hj => simp at hj
  obtain ⟨v', w', hrun, ho, hg, _⟩ := run_append_own_at (P := Try.prog) W base 55 55 44 i0 (.agg #[.int .u8 0, .int .u8 0, .int .u16 0, .int .u32 0, .int .u32 0, .slice none 0 0]) 6 40 Try.underlying55 hi hz0 hz1 hz2 rfl (by decide) (.slice a H.length c) H.length (prow H) hown ⟨V.heap.size, 0, none⟩ 1 1 (pkc x) rfl hcells (by
    intro u hu
    simp [pkc] at hu
    rcases hu with rfl | rfl | rfl | rfl | rfl | rfl <;> rfl) (by unfold maxLen; omega) (by omega) (by omega)
  obtain ⟨a', c', rfl⟩ := slice_form ho
  refine ⟨a', c', w', hrun, ?_, (OnlyS.of hal).grown hg (fun k e => .inl e)⟩
  unfold PRow
  rw [List.length_append, prow_snoc]
  exact ho
theorem CAx.len {w : World} {K c tb n cap : Nat} {a : Option Addr} {L : List D.KV} {H : List HV} (h : CAx w K c tb a n cap L H) : n = H.length := by
  rcases h.row.form with ⟨h1, h2⟩ | ⟨b, cap', h1, _⟩
  · simp at h1; rw [h2]; exact h1.2.1
  · simp at h1; exact h1.2.1
set_option maxHeartbeats 800000 in
theorem leave_any (g : Nat) (cb : Array Value) (p : HV → Bool) (eg : ∀ args w, (callFunc g args).run Try.prog w = .ok (.enter g args) w) (K c tb n cap : Nat) (a : Option Addr) (L : List D.KV) (H : List HV) (w : World) (h : CAx w K c tb a n cap L H) (hp : TstV g cb p (.slice a n cap) w) (hl : H.length ≤ 1000000) :
    Calls Try.prog 45 #[.pointer (some ⟨c, 0, none⟩), .func (.func g) #[] cb] w fun e w' => e = .returned (.tuple #[]) ∧ CAx w' K c tb a (H.filter fun x => !p x).length cap L (H.filter fun x => !p x) ∧ OnlyS (fun k => k = c ∨ RB (.slice a n cap) k) w w' := by
  have HD := hide (delete_row g cb p eg K a n cap H w h.row hp hl)
  have HX := hide h
  obtain ⟨c0, c1, cf⟩ := two_cells h.blk
  clear h hp c0
  go_enter Try.func45, Try.ntmps45
  go_wp2_with fail
  refine HD.out.mono ?_
  rintro e w1 ⟨rfl, r1, o1⟩
  have nC : ¬ RB (.slice a n cap) c := fun e => (HX.out.row.ty e).1.ne HX.out.tyC (by decide) rfl
  obtain ⟨_, k1, kf⟩ := two_cells (o1.heap (g := c) HX.out.blk nC)
  have HR := hide r1
  have HO := hide o1
  clear HD r1 o1 c1 cf nC
  go_wp2_with fail
  go_end0
  obtain ⟨k5, k6⟩ := HX.out.rowed HO.out HR.out (fun y hy => (HX.out.bod y (List.mem_filter.1 hy).1).only HO.out (fun k hk e => (HX.out.row.ty e).1.ne hk (by decide) rfl)) rfl
  exact ⟨rfl, k5, k6⟩
theorem eg_give : ∀ args w, (callFunc 56 args).run Try.prog w = .ok (.enter 56 args) w := enters_of Try.func56 (by kernel_rfl) rfl
def pGive (d : Int) (x : HV) : Bool := x.d == d
theorem give1_any (A : Nat) (d : Int) (x : HV) (w : World) (hA : w.cell? ⟨A, 0, none⟩ = some (.int .u32 d)) (lA : A < w.heap.size) :
    Calls Try.prog 56 #[hv x, .pointer (some ⟨A, 0, none⟩)] w fun z w' => z = .returned (.bool (pGive d x)) ∧ Below w.heap.size w w' := by
  unfold hv pGive
  go_enter Try.func56, Try.ntmps56
  go_wp2_with fail
  go_ret
  exact ⟨rfl, (Below.refl _ _).alloc (Nat.le_refl _) _⟩
theorem give_tst {w : World} {K c tb n cap : Nat} {a : Option Addr} {L : List D.KV} {H : List HV} (h : CAx w K c tb a n cap L H) (A : Nat) (d : Int) (hA : w.heap[A]? = some (.cells #[.int .u32 d] 25 (0, 0))) :
    TstV 56 #[.pointer (some ⟨A, 0, none⟩)] (pGive d) (.slice a n cap) w := fun W x hW => by
  have hq := hW.heap hA (fun e => (h.row.ty e).1.ne ⟨_, _, hA⟩ (by decide) rfl)
  exact give1_any A d x W (one_cell hq).1 (lt_of_block hq)
/-- What give leaves: the packets of a host, and the cache without them. -/
def GiveAns (K c : Nat) (L : List D.KV) (H : List HV) (d : Int) (w : World) (e : Ending) (w' : World) : Prop := ∃ a' n' c', e = .returned (.slice a' n' c') ∧ n' = (H.filter (pGive d)).length ∧ PRow w' w.heap.size (.slice a' n' c') (H.filter (pGive d)) ∧ CAt w' K c L (H.filter fun x => !pGive d x) ∧ (∀ x ∈ H, BodOk w' K x) ∧ Below K w w' ∧ KO w w'
set_option maxHeartbeats 1600000 in
theorem give_any (K c : Nat) (L : List D.KV) (H : List HV) (d : Int) (w : World) (h : CAt w K c L H) (hK : K ≤ w.heap.size) (hl : H.length ≤ 1000) :
    Calls Try.prog 38 #[.pointer (some ⟨c, 0, none⟩), .int .u32 d] w (GiveAns K c L H d w) := by
  obtain ⟨tb, a, n, cap, hx⟩ := h
  obtain ⟨W, hW⟩ : ∃ W, w.alloc (.cells #[.int .u32 d] 25) = W := ⟨_, rfl⟩
  have q1 : W.heap[w.heap.size]? = some (.cells #[.int .u32 d] 25 (0, 0)) := by rw [← hW]; exact heap_alloc_new _ _
  have b1 : Below w.heap.size w W := by rw [← hW]; exact (Below.refl _ _).alloc (Nat.le_refl _) _
  obtain ⟨A, hA⟩ : ∃ A, w.heap.size = A := ⟨_, rfl⟩
  have hsz : Hid (w.heap.size ≤ W.heap.size) := hide b1.size
  rw [hA] at q1
  have HE := hide (And.intro hW hA)
  have HB := hide b1
  have HA := hide q1
  have HX := hide (hx.below b1)
  have HN := hide (hx.len)
  have hnl : n ≤ 1000 := by rw [hx.len]; exact hl
  have HK := hide hK
  clear hx hW hA q1 b1 hl hK
  obtain ⟨c0, c1, cf⟩ := two_cells HX.out.blk
  clear c0
  go_enter Try.func38, Try.ntmps38
  go_upto_region 1 with (fail)
  rw [HE.out.1]
  try rw [HE.out.2]
  go_wp2_with fail
  go_loopg [5, 7, 13] n (fun gg s5 _ s13 wr => ∃ (j : Nat) (a' : Option Addr) (n' c' : Nat), s5 = .slice a' n' c' ∧ s13 = .int .i64 j ∧ j ≤ n ∧ n - j ≤ gg ∧ Hid (n' = ((H.take j).filter (pGive d)).length) ∧ Hid (PRow wr W.heap.size (.slice a' n' c') ((H.take j).filter (pGive d))) ∧ Hid (Below W.heap.size W wr))
  case atStart => exact ⟨0, none, 0, 0, rfl, rfl, Nat.zero_le _, by omega, hide rfl, hide (PRow.nil _ _), hide (Below.refl _ _)⟩
  case round =>
    clear c1 cf
    obtain ⟨j, a', n', c', rfl, rfl, hjn, hgg, HNN, HP, HBB⟩ := hrel
    by_cases hlt : j < n
    · have hltz : (j : Int) < (n : Int) := by omega
      have hjH : j < H.length := by have := HN.out; omega
      have hrow := HX.out.row.below HBB.out
      obtain ⟨b, off, hab⟩ : ∃ b cap', a = some ⟨b, 0, none⟩ := by
        rcases hrow.form with ⟨h1, h2⟩ | ⟨b, cap', h1, _⟩
        · rw [h2] at hjH; simp at hjH
        · simp at h1; exact ⟨b, 0, h1.1⟩
      subst hab
      obtain ⟨c0, c1, c2, c3, c4, c5, c6⟩ := hrow.cells hjH
      have hq0 := below_block HBB.out HA.out (Nat.le_refl _)
      obtain ⟨a0, _⟩ := one_cell hq0
      have lA := lt_of_block hq0
      have lb := hrow.live.2.2.1
      generalize hy : H[j] = y at c0 c1 c2 c3 c4 c5 c6
      have HY := hide hy
      clear hy hrow hq0
      have hal : Below wr.heap.size wr (wr.alloc (.cells #[.int .u8 y.t, .int .u8 y.p, .int .u16 y.i, .int .u32 y.s, .int .u32 y.d, .slice y.a y.n y.c, .int .u64 y.e] 84)) := (Below.refl _ _).alloc (Nat.le_refl _) _
      have hsz1 : (wr.alloc (.cells #[.int .u8 y.t, .int .u8 y.p, .int .u16 y.i, .int .u32 y.s, .int .u32 y.d, .slice y.a y.n y.c, .int .u64 y.e] 84)).heap.size = wr.heap.size + 1 := by simp
      obtain ⟨v, hv⟩ : ∃ v, (y.d == d) = v := ⟨_, rfl⟩
      have htk : (H.take (j + 1)).filter (pGive d) = if v then (H.take j).filter (pGive d) ++ [y] else (H.take j).filter (pGive d) := by
        rw [List.take_succ_eq_append_getElem hjH, List.filter_append, HY.out]
        have : pGive d y = v := hv
        cases v
        · rw [List.filter_cons_of_neg (by rw [this]; decide), List.filter_nil, List.append_nil]; rfl
        · rw [List.filter_cons_of_pos this, List.filter_nil]; rfl
      have hln : ((H.take j).filter (pGive d)).length ≤ j := Nat.le_trans (List.length_filter_le _ _) (List.length_take_le _ _)
      have hWs := HBB.out.size
      cases v with
      | true =>
        obtain ⟨a2, c2, w4, hrun, hr4, ho4⟩ := app_p (wr.alloc (.cells #[.int .u8 y.t, .int .u8 y.p, .int .u16 y.i, .int .u32 y.s, .int .u32 y.d, .slice y.a y.n y.c, .int .u64 y.e] 84)) W.heap.size a' n' c' _ y (HP.out.below hal) (by omega) (by rw [hsz1]; omega)
        rw [hsz1] at hrun
        have HR4 := hide hr4
        have HO4 := hide (show Below W.heap.size W w4 from (HBB.out.trans (hal.mono hWs)).trans (ho4.below (K := W.heap.size) (fun k hk => by
          rcases HP.out.2 with ⟨h1, _⟩ | ⟨g, cap', cur, h1, h2, h3, _⟩
          · rw [RB, h1] at hk; simp [Value.ownBlock] at hk
          · rw [RB, h1] at hk
            simp [Value.ownBlock] at hk
            subst hk
            exact h2) (by rw [hsz1]; omega)))
        have HTK := hide htk
        have HN2 := hide (And.intro HNN.out hln)
        have HRUN := hide hrun
        clear hal hsz1 htk hr4 ho4 hWs hrun hln
        go_wp2_with (at_builtin; refine Lib.wpList_append_run _ rfl _ _ _ _ rfl _ _ rfl rfl _ _ HRUN.out ?_)
        go_roundg (n - (j + 1))
        case measure => omega
        case rel =>
          have e := HTK.out
          simp only [if_true] at e
          exact ⟨j + 1, a2, n' + 1, c2, rfl, by go_num, by omega, Nat.le_refl _, hide (by rw [e, List.length_append, ← HN2.out.1]; rfl), hide (by rw [e]; exact HR4.out), hide HO4.out⟩
      | false =>
        have HTK := hide htk
        have HAL := hide hal
        clear htk hsz1 hal hWs hln
        go_wp2_with fail
        go_roundg (n - (j + 1))
        case measure => omega
        case rel =>
          have e := HTK.out
          simp only [Bool.false_eq_true, if_false] at e
          exact ⟨j + 1, a', n', c', rfl, by go_num, by omega, Nat.le_refl _, hide (by rw [e]; exact HNN.out), hide (by rw [e]; exact HP.out.below HAL.out), hide (HBB.out.trans (HAL.out.mono HBB.out.size))⟩
    · obtain rfl : j = n := by omega
      have hltz : ¬ (j : Int) < (j : Int) := by omega
      have hXr := HX.out.below HBB.out
      have HL := hide (leave_any _ _ _ eg_give K c tb j cap a L H wr hXr (give_tst hXr A d (below_block HBB.out HA.out (Nat.le_refl _))) (by have := HN.out; omega))
      have HTY := hide (fun (k : Nat) (e : RB (.slice a j cap) k) => HX.out.row.ty e)
      have HXr := hide hXr
      have hall : H.take j = H := by rw [HN.out, List.take_length]
      rw [hall] at HNN HP
      clear hXr hall
      go_wp2_with fail
      refine HL.out.mono ?_
      rintro e w5 ⟨rfl, x5, o5⟩
      have HX5 := hide x5
      have HO5 := hide o5
      clear HL x5 o5
      go_wp2_with fail
      go_ret
      have hPty : ∀ k, RB (.slice a' n' c') k → TyB wr k 44 := fun k hk => by
        rcases HP.out.2 with ⟨h1, _⟩ | ⟨g, cap', cur, h1, h2, h3, _⟩
        · rw [RB, h1] at hk; simp [Value.ownBlock] at hk
        · rw [RB, h1] at hk
          simp [Value.ownBlock] at hk
          subst hk
          exact ⟨_, _, h3⟩
      have hP5 : PRow w5 W.heap.size (.slice a' n' c') (H.filter (pGive d)) := HP.out.only HO5.out (fun k hk => by
        rintro (rfl | e)
        · exact (hPty _ hk).ne HXr.out.tyC (by decide) rfl
        · exact (hPty _ hk).ne (HXr.out.row.ty e).1 (by decide) rfl)
      refine ⟨a', n', c', rfl, HNN.out, owns_mono hP5 hsz.out, ⟨_, _, _, _, HX5.out⟩, fun x hx => (HXr.out.bod x hx).only HO5.out (fun k hk => ?_), ?_, ?_⟩
      · rintro (rfl | e)
        · exact hk.ne HXr.out.tyC (by decide) rfl
        · exact hk.ne (HXr.out.row.ty e).1 (by decide) rfl
      · have hb5 : Below K wr w5 := HO5.out.below (fun k hk => by
          rcases hk with rfl | e
          · exact HXr.out.hc
          · exact (HXr.out.row.ty e).2) (Nat.le_trans HK.out (Nat.le_trans hsz.out HBB.out.size))
        exact (((HB.out.trans (HBB.out.mono hsz.out)).mono HK.out)).trans hb5
      · exact (KO.of (HB.out.trans (HBB.out.mono hsz.out))).trans (KO.row HXr.out HO5.out)
end Go.Proofs.Ytbibobjkclgogaa
