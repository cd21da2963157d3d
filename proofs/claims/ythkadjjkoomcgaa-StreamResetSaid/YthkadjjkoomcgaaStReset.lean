/- An RST of the next place ends a connection, and whatever comes then changes nothing: the law walked. -/
import Derived.Test.YthkadjjkoomcgaaStOver
import Derived.Test.YthkadjjkoomcgaaStOps
namespace Go.Proofs.Ythkadjjkoomcgaa
open Go.RowKit Go.Deep
set_option linter.unusedVariables false
set_option linter.unusedSimpArgs false
set_option maxRecDepth 100000
theorem ret_bool2 {a b : Bool} (h : a = b) : Ending.returned (.bool a) = .returned (.bool b) := by rw [h]
theorem IsRow.carry {k : IntKind} {w w1 : World} {K : Nat} {a : Option Addr} {len cap : Nat} {zs : List Int} (h : IsRow k w a len cap zs) (hb : Below K w w1) (hK : w.heap.size ≤ K) : IsRow k w1 a len cap zs := by
  rcases h with h | ⟨x, e, h1, h2, h3, h4, h5⟩
  · exact .inl h
  · refine .inr ⟨x, e, h1, h2, h3, fun i hi => ?_, h5⟩
    have hl := World.block_lt_of_cell? w _ (h4 i hi)
    exact (hb.cell (Nat.lt_of_lt_of_le hl hK)).trans (h4 i hi)
def SomeBool (w : World) (e : Ending) (w' : World) : Prop := ∃ b : Bool, e = .returned (.bool b) ∧ Below w.heap.size w w'
set_option maxHeartbeats 2000000 in
theorem great_any (w : World) (a : Option Addr) (l : List opsRec) (n cap : Nat) (hO : opsAt w a l) (hl : l.length = n) (hn : n ≤ 9223372036854775807) :
    Calls Try.prog 20 #[.slice a n cap] w (SomeBool w) := by
  by_cases h : 100 < n
  · go_enter Try.func20, Try.ntmps20
    go_wp2_with fail
    go_ret
    exact ⟨true, rfl, Below.refl _ _⟩
  · have HO := hide hO
    have HL := hide hl
    have HB := hide (Below.refl w.heap.size w)
    clear hO hl hn
    go_enter Try.func20, Try.ntmps20
    go_wp2_with fail
    go_loopw [10] (fun i wz => ∃ j : Nat, j ≤ n ∧ i = .int .i64 j ∧ Hid (Below w.heap.size w wz)) (fun i _ => n - (intOf i).toNat)
    case atStart => exact ⟨0, Nat.zero_le _, rfl, HB⟩
    case round =>
      clear HB
      obtain ⟨j, hj, rfl, HB⟩ := hrel
      by_cases hlt : j < n
      · obtain ⟨o, ho⟩ : ∃ o, l[j]? = some o := ⟨l[j]'(by rw [HL.out]; exact hlt), List.getElem?_eq_getElem _⟩
        obtain ⟨b, off, rfl, hbl, hcell⟩ := HO.out (by intro e; subst e; simp at ho)
        obtain ⟨p0, p1, p2, p3, p4, p5, p6, _⟩ := hcell j o ho
        have c0 := (HB.out.cell (p := ⟨b, off + j * 7, none⟩) hbl).trans p0
        have c1 := (HB.out.cell (p := ⟨b, off + j * 7 + 1, none⟩) hbl).trans p1
        have c2 := (HB.out.cell (p := ⟨b, off + j * 7 + 2, none⟩) hbl).trans p2
        have c3 := (HB.out.cell (p := ⟨b, off + j * 7 + 3, none⟩) hbl).trans p3
        have c4 := (HB.out.cell (p := ⟨b, off + j * 7 + 4, none⟩) hbl).trans p4
        have c5 := (HB.out.cell (p := ⟨b, off + j * 7 + 5, none⟩) hbl).trans p5
        have c6 := (HB.out.cell (p := ⟨b, off + j * 7 + 6, none⟩) hbl).trans p6
        have HB1 := hide (HB.out.alloc HB.out.size (.cells #[.int .i64 o.x0, .int .u64 o.x1, .int .u8 o.x2, .int .i32 o.x3, .int .i32 o.x4, .int .u16 o.x5, .slice o.a6 o.n6 o.c6] 60))
        clear hcell p0 p1 p2 p3 p4 p5 p6 ho
        go_wp2_with fail
        · go_ret
          exact ⟨true, rfl, HB1.out⟩
        · go_roundw
          case rel => exact ⟨j + 1, by omega, by go_num, HB1⟩
          case measure => simp [intOf]; omega
      · go_wp2_with fail
        go_ret
        exact ⟨false, rfl, HB.out⟩
/-- A connection that is over, of which nothing is received. -/
def OvAt (w wz : World) (B : Nat) : Prop := ∃ c : Cn, CnAt wz B c ∧ c.ib = .slice none 0 0 ∧ c.ph = 4 ∧ w.heap.size ≤ B ∧ Below w.heap.size w wz
theorem OvAt.alloc {w wz : World} {B : Nat} (h : OvAt w wz B) (o : Obj) : OvAt w (wz.alloc o) B := by
  obtain ⟨c, h1, h2, h3, h4, h5⟩ := h
  exact ⟨c, h1.below ((Below.refl _ _).alloc (Nat.le_refl _) _) (Nat.le_refl _), h2, h3, h4, h5.alloc h5.size _⟩
def NilTo (w wz : World) (B : Nat) (e : Ending) (w' : World) : Prop := e = .returned (.slice none 0 0) ∧ OvAt w w' B ∧ OnlyB B wz w'
theorem NilTo.of {w wz : World} {B : Nat} {c : Cn} (h2 : c.ib = .slice none 0 0) (h3 : c.ph = 4) (h4 : w.heap.size ≤ B) (h5 : Below w.heap.size w wz) {e : Ending} {w' : World} (h : TakeTo B c wz e w') : NilTo w wz B e w' :=
  ⟨h.1, ⟨c, h.2.1, h2, h3, h4, h5.trans (h.2.2.below h4 h5.size)⟩, h.2.2⟩
theorem ov_take (w wz : World) (B : Nat) (h : OvAt w wz B) (x0 x1 x2 x3 x4 x5 x6 x7 x8 : Value) (now : Int) :
    Calls Try.prog 19 #[.pointer (some ⟨B, 0, none⟩), .agg #[x0, x1, x2, x3, x4, x5, x6, x7, x8], .int .u64 now] wz (NilTo w wz B) := by
  obtain ⟨c, h1, h2, h3, h4, h5⟩ := h
  exact (take_over B c x0 x1 x2 x3 x4 x5 x6 x7 x8 now wz h1 (.inr h3)).mono fun e w' k => NilTo.of h2 h3 h4 h5 k
theorem ov_tick (w wz : World) (B : Nat) (h : OvAt w wz B) (now : Int) :
    Calls Try.prog 14 #[.pointer (some ⟨B, 0, none⟩), .int .u64 now] wz (NilTo w wz B) := by
  obtain ⟨c, h1, h2, h3, h4, h5⟩ := h
  exact (tick_over B c now wz h1 (.inr h3)).mono fun e w' k => NilTo.of h2 h3 h4 h5 k
theorem ov_flush (w wz : World) (B : Nat) (h : OvAt w wz B) (now : Int) :
    Calls Try.prog 13 #[.pointer (some ⟨B, 0, none⟩), .int .u64 now] wz (NilTo w wz B) := by
  obtain ⟨c, h1, h2, h3, h4, h5⟩ := h
  exact (flush_over B c now wz h1 (by rw [h3]; decide)).mono fun e w' k => NilTo.of h2 h3 h4 h5 k
theorem ov_read (w wz : World) (B : Nat) (h : OvAt w wz B) :
    Calls Try.prog 12 #[.pointer (some ⟨B, 0, none⟩)] wz (NilTo w wz B) := by
  obtain ⟨c, h1, h2, h3, h4, h5⟩ := h
  exact (read_nil B c wz h1 h2).mono fun e w' k => NilTo.of h2 h3 h4 h5 k
theorem ov_send (w wz : World) (B : Nat) (h : OvAt w wz B) (x : Value) :
    Calls Try.prog 18 #[.pointer (some ⟨B, 0, none⟩), x] wz fun e w' => e = .returned (.int .i64 0) ∧ w' = wz := by
  obtain ⟨c, h1, h2, h3, h4, h5⟩ := h
  exact send_over B c x wz h1 (.inr h3)
theorem ov_phase (w wz : World) (B : Nat) (h : OvAt w wz B) :
    Calls Try.prog 16 #[.pointer (some ⟨B, 0, none⟩)] wz fun e w' => e = .returned (.int .i64 4) ∧ w' = wz := by
  obtain ⟨c, h1, h2, h3, h4, h5⟩ := h
  exact phase_any B 4 wz (by rw [← h3]; exact h1.all.2.2.1)
def OneBool (w : World) (e : Ending) (w' : World) : Prop := e = .returned (.bool true) ∧ Below w.heap.size w w'
set_option maxHeartbeats 4000000 in
theorem reset_any (w : World) (own seq : Int) (a : Option Addr) (l : List opsRec) (n cap : Nat) (hO : opsAt w a l) (hl : l.length = n) (hn : n ≤ 9223372036854775807) :
    Calls Try.prog 6 #[.int .u32 own, .int .u32 seq, .slice a n cap] w (OneBool w) := by
  have HO := hide hO
  have HL := hide hl
  have HGR := hide (fun (w1 : World) (b1 : Below w.heap.size w w1) => great_any w1 a l n cap (by
    intro hne
    obtain ⟨b, off, e, hb, hcell⟩ := hO hne
    refine ⟨b, off, e, Nat.lt_of_lt_of_le hb b1.size, fun i o ho => ?_⟩
    obtain ⟨p0, p1, p2, p3, p4, p5, p6, q0, q1, q2, q3, q4, q5, q6⟩ := hcell i o ho
    exact ⟨(b1.cell (p := ⟨b, off + i * 7, none⟩) hb).trans p0, (b1.cell (p := ⟨b, off + i * 7 + 1, none⟩) hb).trans p1, (b1.cell (p := ⟨b, off + i * 7 + 2, none⟩) hb).trans p2, (b1.cell (p := ⟨b, off + i * 7 + 3, none⟩) hb).trans p3, (b1.cell (p := ⟨b, off + i * 7 + 4, none⟩) hb).trans p4, (b1.cell (p := ⟨b, off + i * 7 + 5, none⟩) hb).trans p5, (b1.cell (p := ⟨b, off + i * 7 + 6, none⟩) hb).trans p6, q0, q1, q2, q3, q4, q5, q6.carry b1 (Nat.le_refl _)⟩) hl hn)
  clear hO hl
  go_enter Try.func6, Try.ntmps6
  go_wp2_with fail
  refine (speaks14_any w).mono ?_
  rintro e w1 ⟨rfl, b1⟩
  have HB1 := hide b1
  clear b1
  go_wp2_with fail
  refine (HGR.out w1 HB1.out).mono ?_
  rintro e w2 ⟨g, rfl, b2⟩
  have HB2 := hide (HB1.out.trans (b2.mono HB1.out.size))
  clear b2 HB1 HGR
  cases g
  case true =>
    go_wp2_with fail
    go_ret
    exact ⟨rfl, HB2.out⟩
  go_wp2_with fail
  refine (accept_any 5 80 99 100 own 0 (.int .u32 0) (.int .u8 2) (.int .u16 0) (.slice none 0 0) (.slice none 0 0) (by omega) (by omega) (by omega) (by omega) w2).mono ?_
  rintro e w3 ⟨a0, cp, B, R, rfl, hB, hC, hR, hs, hb⟩
  have HC := hide hC
  have HLB := hide (Nat.le_trans HB2.out.size hB)
  have HB3 := hide (HB2.out.trans (hb.mono HB2.out.size))
  clear hB hC hR hs hb HB2
  have hack : (accepted 5 80 99 100 own 0).ack = 100 := by simp [accepted, out0, Cn.ack]
  obtain ⟨w5, HOv⟩ : ∃ w5 : Nat, True := ⟨0, trivial⟩
  clear HOv w5
  by_cases h100 : seq = 100
  · have ht1 := take_rst B (accepted 5 80 99 100 own 0) (.int .u16 5) (.int .u16 80) (.int .u32 0) (.int .u16 0) (.int .u16 0) (.slice none 0 0) (.slice none 0 0) seq 1 w3 HC.out (.inl rfl)
    rw [if_pos (by rw [hack]; exact h100)] at ht1
    have HT1 := hide ht1
    have dd : (seq == 100) = true := by simp [h100]
    have hov := hide (fun (w4 : World) (c4 : CnAt w4 B { accepted 5 80 99 100 own 0 with ph := 4 }) (o4 : OnlyB B w3 w4) => show OvAt w w4 B from ⟨_, c4, rfl, rfl, HLB.out, HB3.out.trans (o4.below HLB.out HB3.out.size)⟩)
    clear ht1 h100 hack HC
    go_wp2_with fail
    refine HT1.out.mono ?_
    rintro e w4 ⟨rfl, c4, o4⟩
    have HV := hide (hov.out w4 c4 o4)
    clear c4 o4 hov HT1
    go_wp2_with ((with_reducible refine (ov_phase w w4 B HV.out).mono ?_); rintro e w5 ⟨rfl, rfl⟩)
    go_wp2_with fail
    refine (ov_take w w5 B HV.out _ _ _ _ _ _ _ _ _ _).mono ?_
    rintro e w6 ⟨rfl, v6, o6⟩
    replace HV := hide v6
    clear v6 o6
    go_wp2_with fail
    go_loopw [44] (fun i wz => ∃ j : Nat, j ≤ n ∧ i = .int .i64 j ∧ Hid (OvAt w wz B)) (fun i _ => n - (intOf i).toNat)
    case atStart => exact ⟨0, Nat.zero_le _, rfl, HV⟩
    case round =>
      clear HV
      obtain ⟨j, hj, rfl, HV⟩ := hrel
      by_cases hlt : j < n
      · obtain ⟨o, ho⟩ : ∃ o, l[j]? = some o := ⟨l[j]'(by rw [HL.out]; exact hlt), List.getElem?_eq_getElem _⟩
        obtain ⟨b, off, rfl, hbl, hcell⟩ := HO.out (by intro e; subst e; simp at ho)
        obtain ⟨p0, p1, p2, p3, p4, p5, p6, _⟩ := hcell j o ho
        obtain ⟨x0, x1, x2, x3, x4, x5, a6, n6, k6, z6⟩ := o
        have HBW := HV.out.choose_spec.2.2.2.2
        have c0 := (HBW.cell (p := ⟨b, off + j * 7, none⟩) hbl).trans p0
        have c1 := (HBW.cell (p := ⟨b, off + j * 7 + 1, none⟩) hbl).trans p1
        have c2 := (HBW.cell (p := ⟨b, off + j * 7 + 2, none⟩) hbl).trans p2
        have c3 := (HBW.cell (p := ⟨b, off + j * 7 + 3, none⟩) hbl).trans p3
        have c4 := (HBW.cell (p := ⟨b, off + j * 7 + 4, none⟩) hbl).trans p4
        have c5 := (HBW.cell (p := ⟨b, off + j * 7 + 5, none⟩) hbl).trans p5
        have c6 := (HBW.cell (p := ⟨b, off + j * 7 + 6, none⟩) hbl).trans p6
        dsimp only at c0 c1 c2 c3 c4 c5 c6
        clear hcell p0 p1 p2 p3 p4 p5 p6 ho HBW
        go_wp2_with fail
        have hBr : B < wr.heap.size := HV.out.choose_spec.1.lt
        have hX := heap_alloc_new wr (.cells #[.int .i64 x0, .int .u64 x1, .int .u8 x2, .int .i32 x3, .int .i32 x4, .int .u16 x5, .slice a6 n6 k6] 60)
        have HV1 := hide (HV.out.alloc (.cells #[.int .i64 x0, .int .u64 x1, .int .u8 x2, .int .i32 x3, .int .i32 x4, .int .u16 x5, .slice a6 n6 k6] 60))
        obtain ⟨X, hXs⟩ : ∃ X, wr.heap.size = X := ⟨_, rfl⟩
        obtain ⟨wa, hwa⟩ : ∃ V, wr.alloc (.cells #[.int .i64 x0, .int .u64 x1, .int .u8 x2, .int .i32 x3, .int .i32 x4, .int .u16 x5, .slice a6 n6 k6] 60) = V := ⟨_, rfl⟩
        have hne : X ≠ B := by omega
        rw [hwa] at HV1 hX ⊢
        rw [hXs] at hX ⊢
        have HX := hide hX
        clear hX hXs hwa hBr c0 c1 c2 c3 c4 c5 c6 HV
        refine (ov_take w wa B HV1.out _ _ _ _ _ _ _ _ _ _).mono ?_
        rintro e wb ⟨rfl, v2, o2⟩
        have HV2 := hide v2
        have HX2 := hide (o2.cell HX.out hne)
        clear v2 o2 HV1 HX
        go_wp2_with fail
        refine (ov_tick w wb B HV2.out _).mono ?_
        rintro e wd ⟨rfl, v3, o3⟩
        have HV3 := hide v3
        have z6 := cell_at (o3.cell HX2.out hne) 6 rfl
        clear v3 o3 HV2 HX2
        go_wp2_with fail
        refine (ov_send w wd B HV3.out _).mono ?_
        rintro e we ⟨rfl, rfl⟩
        clear z6
        go_wp2_with fail
        refine (ov_flush w _ B HV3.out _).mono ?_
        rintro e wf ⟨rfl, v4, o4⟩
        have HV4 := hide v4
        clear v4 o4 HV3
        go_wp2_with fail
        go_roundw
        case rel => exact ⟨j + 1, by omega, by go_num, HV4⟩
        case measure => simp [intOf]; omega
      · have HV0 := HV
        go_wp2_with fail
        refine (ov_phase w _ B HV0.out).mono ?_
        rintro e wb ⟨rfl, rfl⟩
        go_wp2_with fail
        refine (ov_read w _ B HV0.out).mono ?_
        rintro e wd ⟨rfl, v2, o2⟩
        have HE := hide v2.choose_spec.2.2.2.2
        clear v2 o2
        go_wp2_with fail
        go_ret
        exact ⟨rfl, HE.out⟩
  · have ht1 := take_rst B (accepted 5 80 99 100 own 0) (.int .u16 5) (.int .u16 80) (.int .u32 0) (.int .u16 0) (.int .u16 0) (.slice none 0 0) (.slice none 0 0) seq 1 w3 HC.out (.inl rfl)
    rw [if_neg (by rw [hack]; exact h100)] at ht1
    have HT1 := hide ht1
    have HT2 := hide (fun (w4 : World) (c4 : CnAt w4 B (accepted 5 80 99 100 own 0)) => show Calls Try.prog 19 #[.pointer (some ⟨B, 0, none⟩), .agg #[.int .u16 5, .int .u16 80, .int .u32 100, .int .u32 0, .int .u8 4, .int .u16 0, .int .u16 0, .slice none 0 0, .slice none 0 0], .int .u64 1] w4 (TakeTo B { accepted 5 80 99 100 own 0 with ph := 4 } w4) by
      have ht2 := take_rst B (accepted 5 80 99 100 own 0) (.int .u16 5) (.int .u16 80) (.int .u32 0) (.int .u16 0) (.int .u16 0) (.slice none 0 0) (.slice none 0 0) 100 1 w4 c4 (.inl rfl)
      rw [if_pos (by rw [hack])] at ht2
      exact ht2)
    have dd : (seq == 100) = false := by simp [h100]
    have hov := hide (fun (w4 : World) (c4 : CnAt w4 B { accepted 5 80 99 100 own 0 with ph := 4 }) (o4 : OnlyB B w3 w4) => show OvAt w w4 B from ⟨_, c4, rfl, rfl, HLB.out, HB3.out.trans (o4.below HLB.out HB3.out.size)⟩)
    clear ht1 h100 hack HC
    go_wp2_with fail
    refine HT1.out.mono ?_
    rintro e w4 ⟨rfl, c4, o4⟩
    have HC4 := hide c4
    have HO4 := hide o4
    have hph := c4.all.2.2.1
    have HP4 := hide (phase_any B 1 w4 hph)
    clear c4 o4 HT1 hph
    go_wp2_with ((with_reducible refine HP4.out.mono ?_); rintro e w5 ⟨rfl, rfl⟩)
    refine (HT2.out w5 HC4.out).mono ?_
    rintro e w6 ⟨rfl, c6, o6⟩
    have HV := hide (hov.out w6 c6 (HO4.out.trans o6))
    clear c6 o6 HT2 HC4 HO4 HP4 hov
    go_wp2_with fail
    go_loopw [44] (fun i wz => ∃ j : Nat, j ≤ n ∧ i = .int .i64 j ∧ Hid (OvAt w wz B)) (fun i _ => n - (intOf i).toNat)
    case atStart => exact ⟨0, Nat.zero_le _, rfl, HV⟩
    case round =>
      clear HV
      obtain ⟨j, hj, rfl, HV⟩ := hrel
      by_cases hlt : j < n
      · obtain ⟨o, ho⟩ : ∃ o, l[j]? = some o := ⟨l[j]'(by rw [HL.out]; exact hlt), List.getElem?_eq_getElem _⟩
        obtain ⟨b, off, rfl, hbl, hcell⟩ := HO.out (by intro e; subst e; simp at ho)
        obtain ⟨p0, p1, p2, p3, p4, p5, p6, _⟩ := hcell j o ho
        obtain ⟨x0, x1, x2, x3, x4, x5, a6, n6, k6, z6⟩ := o
        have HBW := HV.out.choose_spec.2.2.2.2
        have c0 := (HBW.cell (p := ⟨b, off + j * 7, none⟩) hbl).trans p0
        have c1 := (HBW.cell (p := ⟨b, off + j * 7 + 1, none⟩) hbl).trans p1
        have c2 := (HBW.cell (p := ⟨b, off + j * 7 + 2, none⟩) hbl).trans p2
        have c3 := (HBW.cell (p := ⟨b, off + j * 7 + 3, none⟩) hbl).trans p3
        have c4 := (HBW.cell (p := ⟨b, off + j * 7 + 4, none⟩) hbl).trans p4
        have c5 := (HBW.cell (p := ⟨b, off + j * 7 + 5, none⟩) hbl).trans p5
        have c6 := (HBW.cell (p := ⟨b, off + j * 7 + 6, none⟩) hbl).trans p6
        dsimp only at c0 c1 c2 c3 c4 c5 c6
        clear hcell p0 p1 p2 p3 p4 p5 p6 ho HBW
        go_wp2_with fail
        have hBr : B < wr.heap.size := HV.out.choose_spec.1.lt
        have hX := heap_alloc_new wr (.cells #[.int .i64 x0, .int .u64 x1, .int .u8 x2, .int .i32 x3, .int .i32 x4, .int .u16 x5, .slice a6 n6 k6] 60)
        have HV1 := hide (HV.out.alloc (.cells #[.int .i64 x0, .int .u64 x1, .int .u8 x2, .int .i32 x3, .int .i32 x4, .int .u16 x5, .slice a6 n6 k6] 60))
        obtain ⟨X, hXs⟩ : ∃ X, wr.heap.size = X := ⟨_, rfl⟩
        obtain ⟨wa, hwa⟩ : ∃ V, wr.alloc (.cells #[.int .i64 x0, .int .u64 x1, .int .u8 x2, .int .i32 x3, .int .i32 x4, .int .u16 x5, .slice a6 n6 k6] 60) = V := ⟨_, rfl⟩
        have hne : X ≠ B := by omega
        rw [hwa] at HV1 hX ⊢
        rw [hXs] at hX ⊢
        have HX := hide hX
        clear hX hXs hwa hBr c0 c1 c2 c3 c4 c5 c6 HV
        refine (ov_take w wa B HV1.out _ _ _ _ _ _ _ _ _ _).mono ?_
        rintro e wb ⟨rfl, v2, o2⟩
        have HV2 := hide v2
        have HX2 := hide (o2.cell HX.out hne)
        clear v2 o2 HV1 HX
        go_wp2_with fail
        refine (ov_tick w wb B HV2.out _).mono ?_
        rintro e wd ⟨rfl, v3, o3⟩
        have HV3 := hide v3
        have z6 := cell_at (o3.cell HX2.out hne) 6 rfl
        clear v3 o3 HV2 HX2
        go_wp2_with fail
        refine (ov_send w wd B HV3.out _).mono ?_
        rintro e we ⟨rfl, rfl⟩
        clear z6
        go_wp2_with fail
        refine (ov_flush w _ B HV3.out _).mono ?_
        rintro e wf ⟨rfl, v4, o4⟩
        have HV4 := hide v4
        clear v4 o4 HV3
        go_wp2_with fail
        go_roundw
        case rel => exact ⟨j + 1, by omega, by go_num, HV4⟩
        case measure => simp [intOf]; omega
      · have HV0 := HV
        go_wp2_with fail
        refine (ov_phase w _ B HV0.out).mono ?_
        rintro e wb ⟨rfl, rfl⟩
        go_wp2_with fail
        refine (ov_read w _ B HV0.out).mono ?_
        rintro e wd ⟨rfl, v2, o2⟩
        have HE := hide v2.choose_spec.2.2.2.2
        clear v2 o2
        go_wp2_with fail
        go_ret
        exact ⟨rfl, HE.out⟩
end Go.Proofs.Ythkadjjkoomcgaa
