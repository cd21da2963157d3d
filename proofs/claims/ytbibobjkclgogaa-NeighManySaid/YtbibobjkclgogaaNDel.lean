/- The packets of which a test says so are left out of a row. -/
import Derived.Test.YtbibobjkclgogaaNIdx
namespace Go.Proofs.Ytbibobjkclgogaa
open Go.RowKit Go.Deep Go.Shelf
set_option linter.unusedVariables false
set_option linter.unusedSimpArgs false
set_option maxRecDepth 100000
theorem zero_wait (w : World) : (zeroValue 84).run Try.prog w = .ok (.agg #[.int .u8 0, .int .u8 0, .int .u16 0, .int .u32 0, .int .u32 0, .slice none 0 0, .int .u64 0]) w := by kernel_rfl
def zc : List Value := [.int .u8 0, .int .u8 0, .int .u16 0, .int .u32 0, .int .u32 0, .slice none 0 0, .int .u64 0]
/-- The tail of a row is cleared. -/
theorem clear_tail (w : World) (ty : TypeId) (b o n c : Nat) (hn : 0 < n) (hc : ∀ j, j < n * 7 → (w.cell? ⟨b, o + j, none⟩).isSome = true) (hf : ∀ j, w.frozen? ⟨b, j, none⟩ = false) :
    ∃ L : List Value, (Builtin.clear_ #[70] ty #[.slice (some ⟨b, o, none⟩) n c]).run Try.prog w = .ok (.tuple #[]) (w.setCells b o L) := by
  refine ⟨(Builtin.zeroCells (Value.cells (.agg #[.int .u8 0, .int .u8 0, .int .u16 0, .int .u32 0, .int .u32 0, .slice none 0 0, .int .u64 0])) n).toList, ?_⟩
  have hone : ∀ v ∈ (Builtin.zeroCells (Value.cells (.agg #[.int .u8 0, .int .u8 0, .int .u16 0, .int .u32 0, .int .u32 0, .slice none 0 0, .int .u64 0])) n).toList, v.oneCell' = true := by
    intro v hv
    simp only [Builtin.zeroCells, Array.toList_map, List.mem_map] at hv
    obtain ⟨i, _, rfl⟩ := hv
    have h7 : i % (Value.cells (.agg #[.int .u8 0, .int .u8 0, .int .u16 0, .int .u32 0, .int .u32 0, .slice none 0 0, .int .u64 0])).size < 7 := Nat.mod_lt _ (by decide)
    generalize i % (Value.cells (.agg #[.int .u8 0, .int .u8 0, .int .u16 0, .int .u32 0, .int .u32 0, .slice none 0 0, .int .u64 0])).size = j at h7
    match j, h7 with
    | 0, _ => rfl
    | 1, _ => rfl
    | 2, _ => rfl
    | 3, _ => rfl
    | 4, _ => rfl
    | 5, _ => rfl
    | 6, _ => rfl
  have hsz : (Builtin.zeroCells (Value.cells (.agg #[.int .u8 0, .int .u8 0, .int .u16 0, .int .u32 0, .int .u32 0, .slice none 0 0, .int .u64 0])) n).toList.length = n * 7 := by rw [Array.length_toList, size_zeroCells]; rfl
  have hst := run_storeCells_cells (P := Try.prog) b o (Builtin.zeroCells (Value.cells (.agg #[.int .u8 0, .int .u8 0, .int .u16 0, .int .u32 0, .int .u32 0, .slice none 0 0, .int .u64 0])) n).toList 0 w (by rw [hsz]; exact hc) (fun j _ => hf _) hone
  simp only [Nat.add_zero] at hst
  obtain ⟨m, rfl⟩ : ∃ m, n = m + 1 := ⟨n - 1, by omega⟩
  simp [Builtin.clear_, run_underlying Try.underlying70, zero_wait, hst]
theorem setCells_row (b : Nat) (T : TypeId) : ∀ (L : List Value) (o : Nat) (w : World) (cur : Array Value), w.heap[b]? = some (.cells cur T (0, 0)) →
    ∃ cur', (w.setCells b o L).heap[b]? = some (.cells cur' T (0, 0)) ∧ cur'.size = cur.size ∧ cur'.toList.take o = cur.toList.take o ∧ OnlyS (fun k => k = b) w (w.setCells b o L)
  | [], o, w, cur, h => ⟨cur, h, rfl, rfl, OnlyS.refl _ _⟩
  | v :: r, o, w, cur, h => by
    have q := heap_setCell_same w b o cur _ v h
    obtain ⟨c2, h1, h2, h3, h4⟩ := setCells_row b T r (o + 1) _ _ q
    have h0 : OnlyS (fun k => k = b) w (w.setCell ⟨b, o, none⟩ v) := OnlyS.setCell (OnlyS.refl _ w) b o v (.inl rfl)
    refine ⟨c2, h1, by rw [h2]; simp, ?_, h0.tr h4⟩
    have h5 := congrArg (List.take o) h3
    rw [List.take_take, List.take_take, Nat.min_eq_left (by omega)] at h5
    rw [h5]
    simp [List.take_set_of_le]
/-- What is kept of a row. -/
theorem HRow.cut {w : World} {base b cap n : Nat} {D : List HV} (h : HRow w base (.slice (some ⟨b, 0, none⟩) n cap) D) (i : Nat) (hi : i ≤ D.length) (L : List Value) :
    HRow (w.setCells b (i * 7) L) base (.slice (some ⟨b, 0, none⟩) i cap) (D.take i) ∧ OnlyS (fun k => k = b) w (w.setCells b (i * 7) L) := by
  have hn := h.live.1
  rcases h.2 with ⟨h1, _⟩ | ⟨b', cap', cur, h1, h2, h3, h4, h5, h6, h7⟩
  · simp at h1
  · simp at h1
    obtain ⟨rfl, _, rfl⟩ := h1
    obtain ⟨c2, q1, q2, q3, q4⟩ := setCells_row b _ L (i * 7) w cur h3
    have hl : (D.take i).length = i := by rw [List.length_take]; omega
    refine ⟨⟨by rw [hrow_len], .inr ⟨b, cap, c2, by rw [hl], h2, q1, by rw [hl]; omega, h5, by rw [q2, h6], ?_⟩⟩, q4⟩
    rw [hl, q3, hrow_take, ← h7, List.take_take, Nat.min_eq_left (by omega)]
/-- What is asked of a test while a row turns. -/
def TstO (g : Nat) (cb : Array Value) (p : HV → Bool) (b : Nat) (w : World) : Prop := ∀ (W : World) (x : HV), OnlyS (fun k => k = b) w W → Calls Try.prog g (#[hv x] ++ cb) W fun e w' => e = .returned (.bool (p x)) ∧ Below W.heap.size W w'
theorem TstO.tst {g : Nat} {cb : Array Value} {p : HV → Bool} {b : Nat} {w : World} (h : TstO g cb p b w) : Tst g cb p w := fun W x hb => h W x (OnlyS.of hb)
/-- The rows while packets are left out: i are kept of the first j. -/
structure DInv (p : HV → Bool) (H D : List HV) (i j : Nat) : Prop where
  len : D.length = H.length
  lt : i < j
  kept : D.take i = (H.take j).filter fun x => !p x
  rest : D.drop j = H.drop j
theorem DInv.start {p : HV → Bool} {H : List HV} {k : Nat} (hk : k < H.length) (h : p H[k] = true) (hb : ∀ j (hj : j < H.length), j < k → p H[j] = false) : DInv p H H k (k + 1) := by
  refine ⟨rfl, Nat.lt_succ_self _, ?_, rfl⟩
  rw [List.take_succ_eq_append_getElem hk, List.filter_append, List.filter_cons_of_neg (by simp [h]), List.filter_nil, List.append_nil]
  symm
  rw [List.filter_eq_self]
  intro x hx
  obtain ⟨i, hi, rfl⟩ := List.mem_iff_getElem.1 hx
  rw [List.length_take] at hi
  rw [List.getElem_take, hb i (by omega) (by omega)]
  rfl
theorem DInv.at {p : HV → Bool} {H D : List HV} {i j : Nat} (h : DInv p H D i j) (hj : j < H.length) : ∃ hd : j < D.length, D[j] = H[j] := by
  have hd : j < D.length := by rw [h.len]; exact hj
  refine ⟨hd, ?_⟩
  have h1 := h.rest
  rw [List.drop_eq_getElem_cons hd, List.drop_eq_getElem_cons hj] at h1
  injection h1
theorem DInv.skip {p : HV → Bool} {H D : List HV} {i j : Nat} (h : DInv p H D i j) (hj : j < H.length) (hp : p H[j] = true) : DInv p H D i (j + 1) := by
  refine ⟨h.len, by have := h.lt; omega, ?_, ?_⟩
  · rw [h.kept, List.take_succ_eq_append_getElem hj, List.filter_append, List.filter_cons_of_neg (by simp [hp]), List.filter_nil, List.append_nil]
  · have h1 := congrArg (List.drop 1) h.rest
    rwa [List.drop_drop, List.drop_drop] at h1
theorem DInv.keep {p : HV → Bool} {H D : List HV} {i j : Nat} (h : DInv p H D i j) (hj : j < H.length) (hp : p H[j] = false) : DInv p H (D.set i H[j]) (i + 1) (j + 1) := by
  have hi : i < D.length := by rw [h.len]; have := h.lt; omega
  refine ⟨by rw [List.length_set, h.len], by have := h.lt; omega, ?_, ?_⟩
  · rw [List.take_succ_eq_append_getElem (by rw [List.length_set]; exact hi), List.getElem_set_self, List.take_set_of_le (Nat.le_refl _), h.kept, List.take_succ_eq_append_getElem hj, List.filter_append, List.filter_cons_of_pos (by simp [hp]), List.filter_nil]
  · rw [List.drop_set_of_lt (by have := h.lt; omega)]
    have h1 := congrArg (List.drop 1) h.rest
    rwa [List.drop_drop, List.drop_drop] at h1
theorem DInv.done {p : HV → Bool} {H D : List HV} {i : Nat} (h : DInv p H D i H.length) : D.take i = H.filter fun x => !p x := by rw [h.kept, List.take_length]
set_option maxHeartbeats 1600000 in
theorem delete_any (g : Nat) (cb : Array Value) (p : HV → Bool) (eg : ∀ args w, (callFunc g args).run Try.prog w = .ok (.enter g args) w) (base b n cap : Nat) (H : List HV) (w : World) (hr : HRow w base (.slice (some ⟨b, 0, none⟩) n cap) H) (hp : TstO g cb p b w) (hl : H.length ≤ 1000000) :
    Calls Try.prog 60 #[.slice (some ⟨b, 0, none⟩) n cap, .func (.func g) #[] cb] w fun e w' => e = .returned (.slice (some ⟨b, 0, none⟩) (H.filter fun x => !p x).length cap) ∧ HRow w' base (.slice (some ⟨b, 0, none⟩) (H.filter fun x => !p x).length cap) (H.filter fun x => !p x) ∧ OnlyS (fun k => k = b) w w' := by
  have HI := hide (index_any g cb p eg base b n cap H w hr hp.tst hl)
  have hn := hr.live.1
  have hb := hr.live.2.2.1
  have hnl : n ≤ 1000000 := by omega
  have HR := hide hr
  have HP := hide hp
  have HN := hide hn
  obtain ⟨Q, hQ⟩ : ∃ Q, (H.filter fun x => !p x) = Q := ⟨_, rfl⟩
  obtain ⟨m, hm⟩ : ∃ m, Q.length = m := ⟨_, rfl⟩
  rw [hQ, hm]
  have HQ := hide hQ
  have HM := hide hm
  rcases idxH_cases p H with ⟨h1, h2⟩ | ⟨k, hk, h1, h2, h3⟩
  · rw [h1] at HI
    have hQH : Q = H := by
      rw [← hQ, List.filter_eq_self]
      intro x hx
      obtain ⟨i, hi, rfl⟩ := List.mem_iff_getElem.1 hx
      rw [h2 i hi]; rfl
    have HQH := hide hQH
    have HMN := hide (show m = n by rw [← hm, hQH, hn])
    clear hr hp hn hQ hm h1 h2 hQH
    go_enter Try.func60, Try.ntmps60
    go_wp2_with fail
    refine HI.out.mono ?_
    rintro e w1 ⟨rfl, b1⟩
    have HB := hide b1
    clear b1 HI
    go_wp2_with fail
    go_ret
    rw [HMN.out, HQH.out]
    exact ⟨rfl, HR.out.below HB.out, OnlyS.of HB.out⟩
  · rw [h1] at HI
    have HD := hide (DInv.start hk h2 h3)
    have hkn : k < n := by omega
    have hk1 : ((k : Int) == -1) = false := beq_eq_false_iff_ne.2 (by omega)
    clear hr hp hn hQ hm h1 h2 h3 hk
    go_enter Try.func60, Try.ntmps60
    go_wp2_with fail
    refine HI.out.mono ?_
    rintro e w1 ⟨rfl, b1⟩
    have HB := hide b1
    clear b1 HI
    go_wp2_with fail
    go_loopg [5, 6, 7] n (fun gg s5 s6 _ wr => ∃ (i j : Nat) (D : List HV), s5 = .int .i64 i ∧ s6 = .int .i64 j ∧ j ≤ n ∧ n - j ≤ gg ∧ Hid (HRow wr base (.slice (some ⟨b, 0, none⟩) n cap) D) ∧ Hid (OnlyS (fun k => k = b) w wr) ∧ Hid (DInv p H D i j))
    case atStart => exact ⟨k, k + 1, H, rfl, by rfl, by omega, by omega, hide (HR.out.below HB.out), hide (OnlyS.of HB.out), HD⟩
    case round =>
      clear HD HB hkn hk1
      obtain ⟨i, j, D, rfl, rfl, hjn, hgg, HRR, HO, HI⟩ := hrel
      by_cases hlt : j < n
      · have hltz : (j : Int) < (n : Int) := by omega
        have hjH : j < H.length := by have := HN.out; omega
        obtain ⟨hjD, hDj⟩ := HI.out.at hjH
        have hij := HI.out.lt
        obtain ⟨c0, c1, c2, c3, c4, c5, c6⟩ := HRR.out.cells hjD
        rw [hDj] at c0 c1 c2 c3 c4 c5 c6
        generalize hy : H[j] = y at c0 c1 c2 c3 c4 c5 c6
        have HY := hide hy
        have lb := HRR.out.live.2.2.1
        clear hy hDj
        have hcall := HP.out (wr.alloc (.cells #[.int .u8 y.t, .int .u8 y.p, .int .u16 y.i, .int .u32 y.s, .int .u32 y.d, .slice y.a y.n y.c, .int .u64 y.e] 84)) y (HO.out.then ((Below.refl _ _).alloc (Nat.le_refl _) _))
        unfold hv at hcall
        have hal : Below wr.heap.size wr (wr.alloc (.cells #[.int .u8 y.t, .int .u8 y.p, .int .u16 y.i, .int .u32 y.s, .int .u32 y.d, .slice y.a y.n y.c, .int .u64 y.e] 84)) := (Below.refl _ _).alloc (Nat.le_refl _) _
        have HX := hide (heap_alloc_new wr (.cells #[.int .u8 y.t, .int .u8 y.p, .int .u16 y.i, .int .u32 y.s, .int .u32 y.d, .slice y.a y.n y.c, .int .u64 y.e] 84))
        have HAL := hide hal
        clear hal
        cases hq : p y with
        | true =>
          rw [hq] at hcall
          have HSK := hide (HI.out.skip hjH (by rw [HY.out]; exact hq))
          clear hq
          go_wp2_with (go_at_fn g; refine hcall.mono ?_; clear hcall; rintro e w2 ⟨rfl, b2⟩; have HB2 := hide b2; clear b2)
          go_roundg (n - (j + 1))
          case measure => omega
          case rel =>
            have hb2 := HAL.out.trans (HB2.out.mono HAL.out.size)
            exact ⟨i, j + 1, D, rfl, by go_num, by omega, Nat.le_refl _, hide (HRR.out.below hb2), hide (HO.out.then hb2), HSK⟩
        | false =>
          rw [hq] at hcall
          have HKP := hide (HI.out.keep hjH (by rw [HY.out]; exact hq))
          rw [HY.out] at HKP
          clear hq
          have hiD : i < D.length := by omega
          go_wp2_with (go_at_fn g; refine hcall.mono ?_; clear hcall; rintro e w2 ⟨rfl, b2⟩; have HB2 := hide (HAL.out.trans (b2.mono HAL.out.size)); obtain ⟨x0, x1, x2, x3, x4, x5, x6, _⟩ := _root_.Go.Proofs.Ytbibobjkclgogaa.D.val_cells (below_block b2 HX.out (Nat.le_refl _)); obtain ⟨d0, d1, d2, d3, d4, d5, d6⟩ := (HRR.out.below HB2.out).cells hiD; have fz := (HRR.out.below HB2.out).live.2.2.2.2.1; clear b2 c0 c1 c2 c3 c4 c5 c6)
          go_roundg (n - (j + 1))
          case measure => omega
          case rel =>
            obtain ⟨k1, k2⟩ := (HRR.out.below HB2.out).put i hiD y rfl
            exact ⟨i + 1, j + 1, D.set i y, by go_num, by go_num, by omega, Nat.le_refl _, hide k1, hide ((HO.out.then HB2.out).tr k2), HKP⟩
      · obtain rfl : j = n := by omega
        have hltz : ¬ (j : Int) < (j : Int) := by omega
        have hDn := HI.out
        have hlv := HRR.out.live
        have hij := hDn.lt
        have hjc := hlv.2.2.2.1
        obtain ⟨L, hL⟩ := clear_tail wr 0 b (i * 7) (j - i) (cap - i) (by omega) (fun k hk => hlv.2.2.2.2.2 (i * 7 + k) (by omega)) hlv.2.2.2.2.1
        have hcl : ∀ ty, (Builtin.clear_ #[70] ty #[.slice (some ⟨b, i * 7, none⟩) (j - i) (cap - i)]).run Try.prog wr = .ok (.tuple #[]) (wr.setCells b (i * 7) L) := fun ty => hL
        have hq := HRR.out.cut i (by rw [hDn.len, ← HN.out]; omega) L
        have hdn : D.take i = Q := by
          have h1 := hDn
          rw [HN.out] at h1
          rw [h1.done]
          exact HQ.out
        have him : m = i := by
          rw [← HM.out, ← hdn, List.length_take, hDn.len, ← HN.out]
          omega
        rw [hdn] at hq
        have HF := hide hq
        have HMI := hide him
        have HO2 := hide (HO.out.tr hq.2)
        clear hDn hlv hL hq hdn him
        go_wp2
        go_ret
        rw [HMI.out]
        exact ⟨rfl, HF.out.1, HO2.out⟩
theorem delete_nil (g : Nat) (cb : Array Value) (w : World) :
    Calls Try.prog 60 #[.slice none 0 0, .func (.func g) #[] cb] w fun e w' => e = .returned (.slice none 0 0) ∧ Below w.heap.size w w' := by
  have HI := hide (index_nil g cb w)
  go_enter Try.func60, Try.ntmps60
  go_wp2_with fail
  refine HI.out.mono ?_
  rintro e w1 ⟨rfl, b1⟩
  have HB := hide b1
  clear b1 HI
  go_wp2_with fail
  go_ret
  exact ⟨rfl, HB.out⟩
/-- The block of a row. -/
def RB (v : Value) (k : Nat) : Prop := v.ownBlock = some k
/-- What is asked of a test while a row, or none, turns. -/
def TstV (g : Nat) (cb : Array Value) (p : HV → Bool) (v : Value) (w : World) : Prop := ∀ (W : World) (x : HV), OnlyS (RB v) w W → Calls Try.prog g (#[hv x] ++ cb) W fun e w' => e = .returned (.bool (p x)) ∧ Below W.heap.size W w'
theorem delete_row (g : Nat) (cb : Array Value) (p : HV → Bool) (eg : ∀ args w, (callFunc g args).run Try.prog w = .ok (.enter g args) w) (base : Nat) (a : Option Addr) (n cap : Nat) (H : List HV) (w : World) (hr : HRow w base (.slice a n cap) H) (hp : TstV g cb p (.slice a n cap) w) (hl : H.length ≤ 1000000) :
    Calls Try.prog 60 #[.slice a n cap, .func (.func g) #[] cb] w fun e w' => e = .returned (.slice a (H.filter fun x => !p x).length cap) ∧ HRow w' base (.slice a (H.filter fun x => !p x).length cap) (H.filter fun x => !p x) ∧ OnlyS (RB (.slice a n cap)) w w' := by
  rcases hr.form with ⟨h1, rfl⟩ | ⟨b, cap', h1, _⟩
  · simp at h1
    obtain ⟨rfl, rfl, rfl⟩ := h1
    exact (delete_nil g cb w).mono fun e w' ⟨h1, h2⟩ => ⟨h1, HRow.nil _ _, OnlyS.of h2⟩
  · simp at h1
    obtain ⟨rfl, rfl, rfl⟩ := h1
    have hX : (fun k => k = b) = RB (.slice (some ⟨b, 0, none⟩) H.length cap) := by
      funext k
      simp [RB, Value.ownBlock, eq_comm]
    rw [← hX]
    exact delete_any g cb p eg base b _ _ H w hr (fun W x hW => hp W x (hX ▸ hW)) hl
end Go.Proofs.Ytbibobjkclgogaa
