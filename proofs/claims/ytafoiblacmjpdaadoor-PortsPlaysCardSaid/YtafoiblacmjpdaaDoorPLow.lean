/- Ports: PortsLow. -/
import Derived.Test.YtafoiblacmjpdaaDoorPAll
import Derived.Deep.DeepCutAuto
namespace Go.Proofs.YtafoiblacmjpdaaDoor
open Go.RowKit
set_option linter.unusedVariables false
set_option linter.unusedSimpArgs false
set_option maxRecDepth 100000
theorem Row.only {k : IntKind} {w w' : World} {a : Option Addr} {xs : List Int} {B : Nat} (h : Row k w a xs) (hb : OnlyB B w w') (hn : ∀ b, a = some b → b.block ≠ B) : Row k w' a xs := by
  intro hne
  obtain ⟨b, off, e, hlt, hc⟩ := h hne
  exact ⟨b, off, e, Nat.lt_of_lt_of_le hlt hb.size, fun i hi => (World.cell?_of_block (w := w) (hb.block b hlt (hn _ e))).trans (hc i hi)⟩
/-- The set, and what was seen, beside one another. -/
def LowSt (w wz : World) (B g N : Nat) (t s : Nat → Bool) (k : Nat) : Prop := PAt wz B t (k : Int) ∧ SeenAt wz g N s ∧ (∀ q, q < 64512 → s (1024 + q) = t q) ∧ Below w.heap.size w wz ∧ w.heap.size ≤ B ∧ w.heap.size ≤ g ∧ B ≠ g
theorem LowSt.below {w wz w' : World} {B g N k : Nat} {t s : Nat → Bool} (h : LowSt w wz B g N t s k) (hb : Below wz.heap.size wz w') : LowSt w w' B g N t s k :=
  ⟨h.1.below hb (Nat.le_refl _), h.2.1.below hb (Nat.le_refl _), h.2.2.1, h.2.2.2.1.trans (hb.mono h.2.2.2.1.size), h.2.2.2.2⟩
theorem LowSt.set {w wz w' : World} {B g N k m : Nat} {t s t' : Nat → Bool} (h : LowSt w wz B g N t s k) (hp : PAt w' B t' (m : Int)) (ho : OnlyB B wz w') (he : ∀ q, q < 64512 → s (1024 + q) = t' q) : LowSt w w' B g N t' s m :=
  ⟨hp, h.2.1.only ho (Ne.symm h.2.2.2.2.2.2), he, h.2.2.2.1.trans (ho.below h.2.2.2.2.1 h.2.2.2.1.size), h.2.2.2.2⟩
set_option maxHeartbeats 8000000 in
theorem portsLow_any (w : World) (p : Nat) (a : Option Addr) (xs : List Int) (n cap : Nat) (hp : p ≤ 65535) (hr : Row .u16 w a xs) (hl : xs.length = n) (hno : a = none → cap = 0) (hx : ∀ x ∈ xs, 0 ≤ x ∧ x ≤ 65535) (hT : PtT w) :
    Calls Tryd.prog 7 #[.int .u16 (p : Int), .slice a n cap] w (Yes w) := by
  have HS := hide (speaks7_any w hT)
  have HR := hide hr
  have HL := hide hl
  have HNO := hide hno
  have HXB := hide hx
  obtain ⟨N, hN⟩ : ∃ N : Nat, N = 65536 := ⟨_, rfl⟩
  obtain ⟨Z, hmk, hseen⟩ := make_seen N hN
  have HSN := hide hseen
  have HN := hide hN
  clear hT hr hl hno hx hseen hN
  go_enter Tryd.func7, Tryd.ntmps7
  go_wp2_with fail
  refine HS.out.mono ?_
  rintro e w1 ⟨rfl, b1⟩
  have HB1 := hide b1
  clear b1 HS
  by_cases h2 : 200 < n
  · have d1 : decide ((200 : Int) < (n : Int)) = true := by simp; omega
    go_wp2_with fail
    go_ret
    exact ⟨rfl, HB1.out⟩
  have d1 : decide ((200 : Int) < (n : Int)) = false := by simp; omega
  go_upto_region 5 with (fail)
  go_cut [5, 6, 7] (fun pb nz sl wx => ∃ B g, pb = .pointer (some ⟨B, 0, none⟩) ∧ nz = .int .i64 0 ∧ sl = .slice (some ⟨g, 0, none⟩) N N ∧ Hid (LowSt w wx B g N none_ none_ 0))
  case first =>
    go_region_held3 (fun w' => True) (trivial) (first
      | (go_at_call 9; (with_reducible refine (new_any _).mono ?_); rintro e w2 ⟨B, rfl, hB, hp2, b2⟩)
      | fail)
    · try go_wp2_with fail
      have hb2 : Below w1.heap.size w1 w2 := (Below.refl w1.heap.size w1).drew.trans b2
      have hB' : w1.heap.size = B := hB
      have hal := (Below.refl w2.heap.size w2).alloc (Nat.le_refl _) (.cells Z 4)
      have hsz := HB1.out.size
      have hlt := hp2.lt
      have HLO := hide (show LowSt w (w2.alloc (.cells Z 4)) B w2.heap.size N none_ none_ 0 from ⟨hp2.below hal (Nat.le_refl _), HSN.out w2, fun q hq => rfl, (HB1.out.trans (hb2.mono hsz)).trans (hal.mono (HB1.out.trans (hb2.mono hsz)).size), by omega, by omega, by omega⟩)
      clear hb2 hB' hal hsz hlt hp2 b2 hB
      go_meet
      exact ⟨B, _, rfl, rfl, rfl, HLO⟩
    · try go_wp2_with fail
      have hal : Below w1.heap.size w1 (w1.drew.alloc (.cells Z 4)) := (Below.refl w1.heap.size w1).drew.alloc (Nat.le_refl _) _
      have hsn := HSN.out w1.drew
      have hsz := HB1.out.size
      have hB' : w1.heap.size + 1 = B := by rw [← hB]; simp
      have hb2 : Below w1.heap.size (w1.drew.alloc (.cells Z 4)) w2 := b2.mono (by simp)
      have HLO := hide (show LowSt w w2 B w1.heap.size N none_ none_ 0 from ⟨hp2, hsn.below b2 (by simp), fun q hq => rfl, HB1.out.trans ((hal.trans hb2).mono hsz), by omega, hsz, by omega⟩)
      clear hal hsn hsz hB' hb2 hp2 b2 hB
      go_meet
      exact ⟨B, w1.heap.size, rfl, rfl, rfl, HLO⟩
  case rest =>
  obtain ⟨B, g, rfl, rfl, rfl, HX⟩ := hcut
  obtain ⟨wy, rfl⟩ : ∃ wz, wz = wc := ⟨_, rfl⟩
  clear hmk HSN
  have HV := hide (show Below w.heap.size w wy from HX.out.2.2.2.1)
  have hrow := HR.out.below HV.out (Nat.le_refl _)
  have hal := (Below.refl wy.heap.size wy).alloc (Nat.le_refl _) (.cells #[.int .u16 (p : Int)] 30)
  obtain ⟨v', w5, hrun, o5, b5, _⟩ := app16 (wy.alloc (.cells #[.int .u16 (p : Int)] 30)) wy.heap.size (.slice (some ⟨wy.heap.size, 0, none⟩) 1 1) 1 [(p : Int)] (World.ownsRow_lit wy #[.int .u16 (p : Int)] 1 (Nat.le_refl _) (by unfold maxLen; omega) rfl) a xs n cap (hrow.below hal (Nat.le_refl _)) HL.out HNO.out (by omega) hal.size
  obtain ⟨a5, c5, rfl⟩ := slice_form o5
  obtain ⟨ys, hys⟩ : ∃ ys, [(p : Int)] ++ xs = ys := ⟨_, rfl⟩
  rw [hys] at o5
  have HR5 := hide (Row.of_owns o5)
  have HYL := hide (show ys.length = 1 + n by rw [← hys, ← HL.out]; simp; omega)
  have HY0 := hide (show ys[0]?.getD 0 = (p : Int) by rw [← hys]; rfl)
  have HYB := hide (show ∀ x ∈ ys, 0 ≤ x ∧ x ≤ 65535 by
    intro x hx
    rw [← hys] at hx
    rcases List.mem_append.1 hx with h | h
    · rw [List.mem_singleton.1 h]; omega
    · exact HXB.out x h)
  have HBK := hide (show B < wy.heap.size ∧ g < wy.heap.size from ⟨HX.out.1.lt, HX.out.2.1.lt⟩)
  have HAB := hide (show ∀ b, a5 = some b → wy.heap.size ≤ b.block from fun b e => (o5.lt b.block (by rw [e]; rfl)).1)
  have HL5 := hide (HX.out.below (hal.trans b5))
  have HRUN := hide hrun
  clear hrow hal hrun o5 b5 hys HX HR HL HNO HXB HV
  obtain ⟨K, hK⟩ : ∃ K, wy.heap.size = K := ⟨_, rfl⟩
  rw [hK] at HBK HAB HRUN
  go_wp2_with (at_builtin; refine Lib.wpList_append_run _ rfl _ _ _ _ rfl _ _ rfl rfl _ _ HRUN.out ?_)
  have HX := hide (show ∃ t s : Nat → Bool, LowSt w w5 B g N t s 0 ∧ Row .u16 w5 a5 ys ∧ (1 ≤ 0 → 1024 ≤ p → t (p - 1024) = true ∧ 1 ≤ 0) ∧ (0 = 0 → ∀ r, t r = false) from ⟨none_, none_, HL5.out, HR5.out, fun h => absurd h (by omega), fun _ _ => rfl⟩)
  clear HL5 HR5 HRUN hK
  go_loopw [6, 24] (fun m i wz => ∃ j k : Nat, j ≤ 1 + n ∧ k ≤ j ∧ i = .int .i64 j ∧ m = .int .i64 k ∧ Hid (∃ t s : Nat → Bool, LowSt w wz B g N t s k ∧ Row .u16 wz a5 ys ∧ (1 ≤ j → 1024 ≤ p → t (p - 1024) = true ∧ 1 ≤ k) ∧ (j = 0 → ∀ r, t r = false))) (fun _ i _ => 1 + n - (intOf i).toNat)
  case atStart => exact ⟨0, 0, Nat.zero_le _, Nat.le_refl _, rfl, rfl, HX⟩
  case round =>
    clear HX
    obtain ⟨j, k, hj, hkj, rfl, rfl, HX⟩ := hrel
    by_cases hlt : j < 1 + n
    · have d1 : decide ((j : Int) < 1 + (n : Int)) = true := by simp; omega
      obtain ⟨t, s, hl, hr, hpk, hj0⟩ := HX.out
      obtain ⟨b, off, he, hbl, hc⟩ := hr.at (i := j) (by have := HYL.out; omega)
      have hkb := HAB.out _ he
      have hcj := hc j (by have := HYL.out; omega)
      have hxm := HYB.out (ys[j]?.getD 0) (by
        have hj2 : j < ys.length := by have := HYL.out; omega
        rw [List.getElem?_eq_getElem hj2]
        exact List.getElem_mem hj2)
      obtain ⟨q, hq⟩ := Int.eq_ofNat_of_zero_le hxm.1
      rw [hq] at hcj hxm
      have hq2 : q ≤ 65535 := by omega
      have HQ0 := hide (show j = 0 → q = p from fun e => by
        have := HY0.out
        rw [← e, hq] at this
        omega)
      have HNE := hide (show B ≠ g ∧ (∀ b, a5 = some b → b.block ≠ B) ∧ (∀ b, a5 = some b → b.block ≠ g) from ⟨hl.2.2.2.2.2.2, fun b e => by have := HAB.out b e; have := HBK.out; omega, fun b e => by have := HAB.out b e; have := HBK.out; omega⟩)
      have HI := hide (And.intro hl (And.intro hr hpk))
      have HJ := hide (show j + 1 ≤ 1 + n ∧ k + 1 ≤ j + 1 by omega)
      have hj3 : (j : Int) ≤ 1000 := by omega
      have hk3 : (k : Int) ≤ 1000 := by omega
      have hj4 : (0 : Int) ≤ (j : Int) := by omega
      have hk4 : (0 : Int) ≤ (k : Int) := by omega
      have q4 : (0 : Int) ≤ (q : Int) := by omega
      have p2 : (q : Int) < (N : Int) := by have := HN.out; omega
      by_cases hql : q < 1024
      · have HTK := hide (take_low B q t (k : Int) hql wr hl.1)
        have d2 : decide ((1024 : Int) ≤ (q : Int)) = false := by simp; omega
        have HQL := hide hql
        clear hl hr hpk hj0 hc hxm hq hql hkb hbl hq2
        subst he
        go_wp2_with fail
        (with_reducible refine HTK.out.mono ?_)
        rintro e w6 ⟨rfl, h6, o6⟩
        have HX6 := hide (show ∃ t s : Nat → Bool, LowSt w w6 B g N t s k ∧ Row .u16 w6 (some ⟨b, off, none⟩) ys ∧ (1 ≤ j + 1 → 1024 ≤ p → t (p - 1024) = true ∧ 1 ≤ k) ∧ (j + 1 = 0 → ∀ r, t r = false) from ⟨t, s, HI.out.1.set h6 o6 HI.out.1.2.2.1, HI.out.2.1.only o6 HNE.out.2.1, fun _ hp4 => by
          rcases Nat.eq_zero_or_pos j with h0 | h0
          · have := HQ0.out h0; have := HQL.out; omega
          · exact HI.out.2.2 h0 hp4, fun h => absurd h (by omega)⟩)
        clear h6 o6 HTK HI
        go_wp2_with fail
        go_roundw
        case rel => exact ⟨j + 1, k, HJ.out.1, by have := HJ.out.2; omega, by go_num, rfl, HX6⟩
        case measure => simp [intOf]; omega
      · have d2 : decide ((1024 : Int) ≤ (q : Int)) = true := by simp; omega
        obtain ⟨r, hr1⟩ : ∃ r, q - 1024 = r := ⟨_, rfl⟩
        have hr2 : 1024 + r = q := by omega
        have hr3 : r < 64512 := by omega
        have hse := hl.2.2.1 r hr3
        rw [hr2] at hse
        cases htr : t r with
        | true =>
          have HTK := hide (take_has B q r t (k : Int) (by omega) hq2 hr1 htr wr hl.1)
          rw [htr] at hse
          have HSE := hide hse
          have HPQ := hide (show j ≠ 0 from fun e => by rw [hj0 e r] at htr; cases htr)
          clear hl hr hpk hj0 hc hxm hq hql hkb hbl hq2 hr1 hr2 hr3 hse htr
          subst he
          go_wp2_with fail
          (with_reducible refine HTK.out.mono ?_)
          rintro e w6 ⟨rfl, h6, o6⟩
          have HX6 := hide (show ∃ t s : Nat → Bool, LowSt w w6 B g N t s k ∧ Row .u16 w6 (some ⟨b, off, none⟩) ys ∧ (1 ≤ j + 1 → 1024 ≤ p → t (p - 1024) = true ∧ 1 ≤ k) ∧ (j + 1 = 0 → ∀ r, t r = false) from ⟨t, s, HI.out.1.set h6 o6 HI.out.1.2.2.1, HI.out.2.1.only o6 HNE.out.2.1, fun _ hp4 => by
            rcases Nat.eq_zero_or_pos j with h0 | h0
            · exact absurd h0 HPQ.out
            · exact HI.out.2.2 h0 hp4, fun h => absurd h (by omega)⟩)
          have hs6 := (HI.out.1.2.1.only o6 (Ne.symm HNE.out.1)).at q (by have := HN.out; omega)
          rw [HSE.out] at hs6
          obtain ⟨sc, sf⟩ := hs6
          clear h6 o6 HTK HI
          go_wp2_with fail
          go_roundw
          case rel => exact ⟨j + 1, k, HJ.out.1, by have := HJ.out.2; omega, by go_num, rfl, HX6⟩
          case measure => simp [intOf]; omega
        | false =>
          have HTK := hide (take_new B q r t (k : Int) (by omega) hq2 hr1 htr hk4 (by omega) wr hl.1)
          rw [htr] at hse
          have HSE := hide hse
          have HRR := hide (show 1024 + r = q ∧ (q = p → put t r true (p - 1024) = true) from ⟨hr2, fun e => by rw [← e, hr1]; simp [put]⟩)
          clear hl hr hpk hj0 hc hxm hq hql hkb hbl hq2 hr1 hr2 hr3 hse htr
          subst he
          go_wp2_with fail
          (with_reducible refine HTK.out.mono ?_)
          rintro e w6 ⟨rfl, h6, o6⟩
          have hl6 : LowSt w (w6.setCell ⟨g, q, none⟩ (.bool true)) B g N (put t r true) (put s q true) (k + 1) := ⟨(show PAt _ B (put t r true) ((k + 1 : Nat) : Int) from h6.only ((OnlyB.refl g w6).setCell q _) HNE.out.1), (HI.out.1.2.1.only o6 (Ne.symm HNE.out.1)).put q true, by rw [← HRR.out.1]; exact put_shift s t 64512 r HI.out.1.2.2.1 true, (HI.out.1.2.2.2.1.trans (o6.below HI.out.1.2.2.2.2.1 HI.out.1.2.2.2.1.size)).setCell (p := ⟨g, q, none⟩) HI.out.1.2.2.2.2.2.1 _, HI.out.1.2.2.2.2⟩
          have HX6 := hide (show ∃ t s : Nat → Bool, LowSt w (w6.setCell ⟨g, q, none⟩ (.bool true)) B g N t s (k + 1) ∧ Row .u16 (w6.setCell ⟨g, q, none⟩ (.bool true)) (some ⟨b, off, none⟩) ys ∧ (1 ≤ j + 1 → 1024 ≤ p → t (p - 1024) = true ∧ 1 ≤ k + 1) ∧ (j + 1 = 0 → ∀ r, t r = false) from ⟨_, _, hl6, (HI.out.2.1.only o6 HNE.out.2.1).only ((OnlyB.refl g w6).setCell q _) HNE.out.2.2, fun _ hp4 => ⟨by
            by_cases hqp : q = p
            · exact HRR.out.2 hqp
            · rcases Nat.eq_zero_or_pos j with h0 | h0
              · exact absurd (HQ0.out h0) hqp
              · have h1 := (HI.out.2.2 h0 hp4).1
                unfold put
                split
                · rfl
                · exact h1, by omega⟩, fun h => absurd h (by omega)⟩)
          have hs6 := (HI.out.1.2.1.only o6 (Ne.symm HNE.out.1)).at q (by have := HN.out; omega)
          rw [HSE.out] at hs6
          obtain ⟨sc, sf⟩ := hs6
          clear h6 o6 HTK HI hl6
          go_wp2_with fail
          go_roundw
          case rel => exact ⟨j + 1, k + 1, HJ.out.1, HJ.out.2, by go_num, by go_num, HX6⟩
          case measure => simp [intOf]; omega
    · have d1 : decide ((j : Int) < 1 + (n : Int)) = false := by simp; omega
      have hj1 : 1 ≤ j := by omega
      obtain ⟨t, s, hl, hr, hpk, hj0⟩ := HX.out
      have HW := hide hl.2.2.2.1
      have HWB := hide hl.2.2.2.2.1
      have HLN := hide (len_any B t (k : Int) wr hl.1)
      have HP := hide hl.1
      have HPK := hide (hpk hj1)
      have d0 : ((k : Int) == (k : Int)) = true := by simp
      have k3 : (k : Int) ≤ 1000000 := by omega
      clear hl hr hpk hj0 hj1 hlt hj hkj HX
      go_wp2_with fail
      refine HLN.out.mono ?_
      rintro e w5 ⟨rfl, rfl⟩
      by_cases hlow : p < 1024
      · have HHS := hide (has_low B p hlow w5)
        have d2 : decide ((1024 : Int) ≤ (p : Int)) = false := by simp; omega
        have HLOW := hide hlow
        clear hlow
        go_wp2_with fail
        refine HHS.out.mono ?_
        rintro e w6 ⟨rfl, o6⟩
        have HGV := hide (give_low B p t (k : Int) HLOW.out w6 (HP.out.below o6.below (Nat.le_refl _)))
        have HB6 := hide (HW.out.trans (o6.below.mono HW.out.size))
        clear o6
        go_wp2_with fail
        refine HGV.out.mono ?_
        rintro e w7 ⟨rfl, h7, o7⟩
        have HGV := hide (give_low B p t (k : Int) HLOW.out w7 h7)
        have HB7 := hide (HB6.out.trans (o7.below HWB.out HB6.out.size))
        clear h7 o7
        go_wp2_with fail
        refine HGV.out.mono ?_
        rintro e w8 ⟨rfl, h8, o8⟩
        have HB8 := hide (HB7.out.trans (o8.below HWB.out HB7.out.size))
        clear h8 o8
        go_wp2_with fail
        go_ret
        exact ⟨rfl, HB8.out⟩
      · obtain ⟨r, hr1⟩ : ∃ r, p - 1024 = r := ⟨_, rfl⟩
        have hk1 := HPK.out (by omega)
        rw [hr1] at hk1
        have HHS := has_high B p r t (k : Int) (by omega) hp hr1 w5 HP.out
        rw [hk1.1] at HHS
        replace HHS := hide HHS
        have d2 : decide ((1024 : Int) ≤ (p : Int)) = true := by simp; omega
        have HK1 := hide hk1
        have HR1 := hide (And.intro hr1 (show 1024 ≤ p by omega))
        clear hlow hr1 hk1 HPK
        go_wp2_with fail
        refine HHS.out.mono ?_
        rintro e w6 ⟨rfl, o6⟩
        have HGV := hide (give_new B p r t (k : Int) HR1.out.2 hp HR1.out.1 HK1.out.1 (by have := HK1.out.2; omega) k3 w6 (HP.out.below o6.below (Nat.le_refl _)))
        have HB6 := hide (HW.out.trans (o6.below.mono HW.out.size))
        clear o6
        go_wp2_with fail
        refine HGV.out.mono ?_
        rintro e w7 ⟨rfl, h7, o7⟩
        have HGV := hide (give_hasnt B p r (put t r false) ((k : Int) - 1) HR1.out.2 hp HR1.out.1 (by simp [put]) w7 h7)
        have HB7 := hide (HB6.out.trans (o7.below HWB.out HB6.out.size))
        clear h7 o7
        go_wp2_with fail
        refine HGV.out.mono ?_
        rintro e w8 ⟨rfl, h8, o8⟩
        have HB8 := hide (HB7.out.trans (o8.below HWB.out HB7.out.size))
        clear h8 o8
        go_wp2_with fail
        go_ret
        exact ⟨rfl, HB8.out⟩
end Go.Proofs.YtafoiblacmjpdaaDoor
