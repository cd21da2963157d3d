/- Where a key stands among a set's. -/
import Derived.Test.YtijjgnkfddklgaaMFns
import Derived.Deep.LoopGhost
namespace Go.Proofs.Ytijjgnkfddklgaa
open Go.RowKit Go.Deep
set_option linter.unusedVariables false
set_option linter.unusedSimpArgs false
set_option maxRecDepth 100000
/-- What a search finds: the first place of which it holds. -/
def SearchAns (n : Nat) (q : Nat → Bool) (w : World) (e : Ending) (w' : World) : Prop := ∃ m : Nat, e = .returned (.int .i64 (m : Int)) ∧ m ≤ n ∧ (∀ i, i < m → q i = false) ∧ (∀ i, m ≤ i → i < n → q i = true) ∧ Below w.heap.size w w'
set_option maxHeartbeats 1600000 in
theorem search_any (w : World) (n : Nat) (q : Nat → Bool) (sb kb : Nat) (hn : n ≤ 1000000) (hm : ∀ i j, i ≤ j → j < n → q i = true → q j = true)
    (hf : ∀ V, Below w.heap.size w V → ∀ i : Nat, i < n → Calls Try.prog 101 #[.int .i64 (i : Int), .pointer (some ⟨sb, 0, none⟩), .pointer (some ⟨kb, 0, none⟩)] V fun e w' => e = .returned (.bool (q i)) ∧ Below V.heap.size V w') :
    Calls Try.prog 100 #[.int .i64 (n : Int), .func (.func 101) #[] #[.pointer (some ⟨sb, 0, none⟩), .pointer (some ⟨kb, 0, none⟩)]] w (SearchAns n q w) := by
  have HF := hide hf
  have HM := hide hm
  clear hf hm
  go_enter Try.func100, Try.ntmps100
  go_wp2_with fail
  go_loopw [5, 6] (fun lv hv wr => ∃ lo hi : Nat, lo ≤ hi ∧ hi ≤ n ∧ lv = .int .i64 (lo : Int) ∧ hv = .int .i64 (hi : Int) ∧ Hid (∀ i, i < lo → q i = false) ∧ Hid (∀ i, hi ≤ i → i < n → q i = true) ∧ Hid (Below w.heap.size w wr)) (fun lv hv _ => (intOf hv).toNat - (intOf lv).toNat)
  case atStart => exact ⟨0, n, Nat.zero_le _, Nat.le_refl _, rfl, rfl, hide (fun i hi => by omega), hide (fun i h1 h2 => by omega), hide (Below.refl _ _)⟩
  case round =>
    obtain ⟨lo, hi, h1, h2, rfl, rfl, HLO, HHI, HB⟩ := hrel
    by_cases hlt : lo < hi
    · obtain ⟨md, hmd⟩ : ∃ md, (lo + hi) / 2 = md := ⟨_, rfl⟩
      have hq := HF.out wr HB.out md (by omega)
      have HQ := hide hq
      have hd : decide ((lo : Int) < (hi : Int)) = true := by simp; omega
      have hw1 : IntKind.i64.wrap ((lo : Int) + (hi : Int)) = ((lo + hi : Nat) : Int) := by rw [IntKind.wrap_i64]; omega
      have hw2 : IntKind.u64.wrap ((lo + hi : Nat) : Int) = ((lo + hi : Nat) : Int) := by rw [IntKind.wrap_u64]; omega
      have hw3 : ((lo + hi : Nat) : Int) / (2 : Int) ^ 1 = (md : Int) := by omega
      have hw4 : IntKind.i64.wrap (md : Int) = (md : Int) := by rw [IntKind.wrap_i64]; omega
      clear hq
      go_wp2_with fail
      rw [show ((lo : Int) + (hi : Int)) / 2 = (md : Int) by omega]
      refine HQ.out.mono ?_
      rintro e w1 ⟨rfl, b1⟩
      have HB1 := hide (HB.out.trans (b1.mono HB.out.size))
      have hw5 : IntKind.i64.wrap ((md : Int) + 1) = ((md + 1 : Nat) : Int) := by rw [IntKind.wrap_i64]; omega
      clear HQ b1
      obtain ⟨b, hb⟩ : ∃ b, q md = b := ⟨_, rfl⟩
      rw [hb]
      have HQB := hide hb
      clear hb
      cases b with
      | false =>
        have HLO2 := hide (show ∀ i, i < md + 1 → q i = false from fun i hi' => by
          cases hqi : q i with
          | false => rfl
          | true =>
            have := HM.out i md (by omega) (by omega) hqi
            rw [HQB.out] at this; cases this)
        go_wp2_with fail
        go_roundw
        case rel => exact ⟨md + 1, hi, by omega, h2, by go_num, rfl, HLO2, HHI, HB1⟩
        case measure => simp [intOf]; omega
      | true =>
        have HHI2 := hide (show ∀ i, md ≤ i → i < n → q i = true from fun i h1' h2' => HM.out md i h1' h2' HQB.out)
        go_wp2_with fail
        go_roundw
        case rel => exact ⟨lo, md, by omega, by omega, rfl, by go_num, HLO, HHI2, HB1⟩
        case measure => simp [intOf]; omega
    · obtain rfl : lo = hi := by omega
      have hd : decide ((lo : Int) < (lo : Int)) = false := by simp
      go_wp2_with fail
      go_ret
      exact ⟨lo, rfl, h2, HLO.out, HHI.out, HB.out⟩
/-- How many keys stand ahead of one. -/
def ahL (k : MK) (L : ML) : Nat := (L.takeWhile fun x => decide (tM x.1 < tM k)).length
set_option maxHeartbeats 3000000 in
theorem place1_any (w : World) (sp tt sb kb : Nat) (cs : Array Value) (up : Int) (L : ML) (k : MK) (i : Nat) (h : SAt w sp tt cs up L) (hs : w.heap[sb]? = some (.cells #[.pointer (some ⟨sp, 0, none⟩)] 33 (0, 0))) (hk : w.heap[kb]? = some (.cells #[.int .u8 k.p, .int .u16 k.x, .int .u32 k.r] 76 (0, 0))) (x : MK × ME) (hx : L[i]? = some x) (hn : L.length ≤ 600000) :
    Calls Try.prog 101 #[.int .i64 (i : Int), .pointer (some ⟨sb, 0, none⟩), .pointer (some ⟨kb, 0, none⟩)] w fun e w' => e = .returned (.bool (decide (tM k ≤ tM x.1))) ∧ Below w.heap.size w w' := by
  have hiL : i < L.length := (List.getElem?_eq_some_iff.1 hx).1
  have HA := hide (C.AtL h.tab (i : Int) hn (by omega) (by omega))
  have c28 := h.c28
  obtain ⟨s0, sf⟩ := one_cell hs
  have HK := hide hk
  have HX := hide hx
  have HI := hide hiL
  clear h hs hk hx hiL hn
  go_enter Try.func101, Try.ntmps101
  go_wp2_with fail
  refine HA.out.mono ?_
  rintro e w1 ⟨ha, b1⟩
  have HB1 := hide b1
  have HK1 := hide (below_block b1 HK.out (Nat.le_refl _))
  rcases ha with ⟨y, hy, _, rfl⟩ | ⟨hbad, _⟩
  · have hyx : y = x := by
      have : (i : Int).toNat = i := by omega
      rw [this, HX.out] at hy
      exact (Option.some.inj hy).symm
    subst hyx
    have HO := hide (fun (V : World) => orderM_any y.1 k V)
    obtain ⟨o, ho⟩ : ∃ o, sgn (tM y.1) (tM k) = o := ⟨_, rfl⟩
    have hres : decide ((0 : Int) ≤ o) = decide (tM k ≤ tM y.1) := by
      rw [← ho]
      rcases Int.lt_trichotomy (tM y.1) (tM k) with g | g | g
      · rw [sgn_lt g, decide_eq_false (show ¬ tM k ≤ tM y.1 by omega)]; rfl
      · rw [g, sgn_eq]; simp
      · rw [sgn_gt g, decide_eq_true (show tM k ≤ tM y.1 by omega)]; rfl
    have HRES := hide hres
    rw [ho] at HO
    obtain ⟨k0, k1, k2, kf⟩ := three_cells HK1.out
    have lk := lt_of_block HK1.out
    clear hy ho hres b1 HA c28 s0 sf
    have HB2 := hide (show ∀ V, Below w1.heap.size w1 V → Below w.heap.size w V from fun V hV => HB1.out.trans (hV.mono HB1.out.size))
    go_wp2_with fail
    refine (HO.out _).mono ?_
    rintro e w2 ⟨rfl, b2⟩
    have HB3 := hide (HB2.out w2 ((((Below.refl w1.heap.size w1).alloc (Nat.le_refl _) _).alloc (by simp) _).trans (b2.mono (by simp; omega))))
    clear b2 k0 k1 k2 kf
    go_wp2_with fail
    go_ret
    exact ⟨by rw [HRES.out]; rfl, HB3.out⟩
  · exfalso
    have := HI.out
    rcases hbad with g | g <;> omega
def qL (k : MK) (L : ML) (i : Nat) : Bool := match L[i]? with | some x => decide (tM k ≤ tM x.1) | none => true
theorem q_mono {k : MK} {L : ML} (ha : Asc tM L) : ∀ i j, i ≤ j → j < L.length → qL k L i = true → qL k L j = true := by
  intro i j hij hj hq
  have hi : i < L.length := by omega
  unfold qL at hq ⊢
  rw [List.getElem?_eq_getElem hi] at hq
  rw [List.getElem?_eq_getElem hj]
  have h1 := of_decide_eq_true hq
  refine decide_eq_true ?_
  rcases Nat.lt_or_ge i j with g | g
  · have h2 := List.pairwise_iff_getElem.1 ha i j hi hj g
    omega
  · obtain rfl : i = j := by omega
    exact h1
theorem ah_le (k : MK) : ∀ L : ML, ahL k L ≤ L.length
  | [] => Nat.le_refl _
  | x :: L => by
    have := ah_le k L
    unfold ahL at this ⊢
    rw [List.takeWhile_cons]
    split
    · simp only [List.length_cons]; omega
    · simp
theorem ah_of {k : MK} : ∀ {L : ML} {m : Nat}, m ≤ L.length → (∀ i, i < m → qL k L i = false) → (∀ i, m ≤ i → i < L.length → qL k L i = true) → m = ahL k L
  | [], m, h, _, _ => by simp at h; rw [h]; rfl
  | x :: L, 0, h, h1, h2 => by
    have h3 := h2 0 (Nat.le_refl _) (by simp)
    have h4 : tM k ≤ tM x.1 := by simpa [qL] using h3
    unfold ahL
    rw [List.takeWhile_cons_of_neg (by simp; omega)]
    rfl
  | x :: L, m + 1, h, h1, h2 => by
    have h3 := h1 0 (by omega)
    have h4 : tM x.1 < tM k := by simpa [qL] using h3
    have h5 := ah_of (k := k) (L := L) (m := m) (by simpa using h) (fun i hi => by simpa [qL] using h1 (i + 1) (by omega)) (fun i h6 h7 => by simpa [qL] using h2 (i + 1) (by omega) (by simpa using h7))
    unfold ahL at h5 ⊢
    rw [List.takeWhile_cons_of_pos (by simpa using h4)]
    simp only [List.length_cons]
    omega
set_option maxHeartbeats 1600000 in
theorem place_any (w : World) (sp tt : Nat) (cs : Array Value) (up : Int) (L : ML) (k : MK) (h : SAt w sp tt cs up L) (hn : L.length ≤ 600000) :
    Calls Try.prog 88 #[.pointer (some ⟨sp, 0, none⟩), .agg #[.int .u8 k.p, .int .u16 k.x, .int .u32 k.r]] w fun e w' => e = .returned (.int .i64 (ahL k L : Int)) ∧ Below w.heap.size w w' := by
  obtain ⟨W, hW, hb, hx, hy⟩ : ∃ W, (w.alloc (.cells #[.pointer (some ⟨sp, 0, none⟩)] 33)).alloc (.cells #[.int .u8 k.p, .int .u16 k.x, .int .u32 k.r] 76) = W ∧ Below w.heap.size w W ∧ W.heap[w.heap.size]? = some (.cells #[.pointer (some ⟨sp, 0, none⟩)] 33 (0, 0)) ∧ W.heap[w.heap.size + 1]? = some (.cells #[.int .u8 k.p, .int .u16 k.x, .int .u32 k.r] 76 (0, 0)) := by
    refine ⟨_, rfl, ((Below.refl _ _).alloc (Nat.le_refl _) _).alloc (by simp) _, below_block ((Below.refl _ _).alloc (Nat.le_refl _) _) (heap_alloc_new w _) (Nat.le_refl _), ?_⟩
    have h1 := heap_alloc_new (w.alloc (.cells #[.pointer (some ⟨sp, 0, none⟩)] 33)) (.cells #[.int .u8 k.p, .int .u16 k.x, .int .u32 k.r] 76)
    rw [show (w.alloc (.cells #[.pointer (some ⟨sp, 0, none⟩)] 33)).heap.size = w.heap.size + 1 by simp] at h1
    exact h1
  obtain ⟨B, hB⟩ : ∃ B, w.heap.size = B := ⟨_, rfl⟩
  obtain ⟨C, hC⟩ : ∃ C, w.heap.size + 1 = C := ⟨_, rfl⟩
  rw [hB] at hx
  rw [hC] at hy
  have HE := hide (And.intro hW (And.intro hC hB))
  have HB := hide hb
  have HS := hide (h.below hb)
  have HLN := hide (slen_any W sp tt cs up L HS.out)
  have HSE := hide (search_any W L.length (qL k L) B C (by omega) (q_mono HS.out.tab.asc) (fun V hV i hi => by
    have h2 := place1_any V sp tt B C cs up L k i (HS.out.below hV) (below_block hV hx (Nat.le_refl _)) (below_block hV hy (Nat.le_refl _)) L[i] (List.getElem?_eq_getElem hi) hn
    have h3 : qL k L i = decide (tM k ≤ tM L[i].1) := by unfold qL; rw [List.getElem?_eq_getElem hi]
    rw [h3]
    exact h2))
  obtain ⟨x0, xf⟩ := one_cell hx
  clear hW hB hC hb hx hy h
  go_enter Try.func88, Try.ntmps88
  go_upto_region 1 with (fail)
  rw [HE.out.1]
  try rw [HE.out.2.1]
  try rw [HE.out.2.2]
  clear HE
  go_wp2_with fail
  refine HLN.out.mono ?_
  rintro e w1 ⟨rfl, rfl⟩
  clear HLN
  go_wp2_with fail
  refine HSE.out.mono ?_
  rintro e w2 ⟨m, rfl, hm, q1, q2, b2⟩
  have HM := hide (ah_of hm q1 q2)
  have HB2 := hide (HB.out.trans (b2.mono HB.out.size))
  clear HSE hm q1 q2 b2 x0 xf
  go_wp2_with fail
  go_ret
  exact ⟨by rw [← HM.out]; rfl, HB2.out⟩
end Go.Proofs.Ytijjgnkfddklgaa
