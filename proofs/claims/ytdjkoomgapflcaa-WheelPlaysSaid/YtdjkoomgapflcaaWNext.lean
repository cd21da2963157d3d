/- The law of what ends first. -/
import Derived.Test.YtdjkoomgapflcaaWL
import Derived.Deep.LoopGhost
namespace Go.Proofs.Ytdjkoomgapflcaa
open Go.RowKit Go.Deep
set_option linter.unusedVariables false
set_option linter.unusedSimpArgs false
set_option maxRecDepth 100000
theorem dueN_zero {x : EK × Unit} {E : EL} {now most : Int} (h : now < x.1.s) : dueN (x :: E) now most = 0 := by
  unfold dueN dueD
  rw [List.takeWhile_cons, if_neg (by simpa using h)]
  simp
theorem dueN_one {x : EK × Unit} {E : EL} : dueN (x :: E) x.1.s 1 = 1 := by
  unfold dueN dueD
  rw [List.takeWhile_cons, if_pos (by simp), List.length_cons]
  simp
/-- One call of the script is carried out. -/
theorem op_box (w wr : World) (a : Option Addr) (ops : List Op4) (k : Nat) (hO : OAt w a ops) (hB : Below w.heap.size w wr) (hk : k < ops.length) : ∃ b off o, ops[k]? = some o ∧ a = some ⟨b, off, none⟩ ∧ wr.cell? ⟨b, off + k * 4, none⟩ = some (.int .i64 o.kd) ∧ wr.cell? ⟨b, off + k * 4 + 1, none⟩ = some (.int .i64 o.e.k) ∧ wr.cell? ⟨b, off + k * 4 + 2, none⟩ = some (.int .i64 o.n) ∧ wr.cell? ⟨b, off + k * 4 + 3, none⟩ = some (.int .u64 o.e.s) ∧
    ∃ W, wr.alloc (.cells #[.int .i64 o.kd, .int .i64 o.e.k, .int .i64 o.n, .int .u64 o.e.s] 33) = W ∧ Below wr.heap.size wr W ∧ W.heap[wr.heap.size]? = some (.cells #[.int .i64 o.kd, .int .i64 o.e.k, .int .i64 o.n, .int .u64 o.e.s] 33 (0, 0)) := by
  obtain ⟨b, off, ha, _, hc⟩ := (hO.below hB (Nat.le_refl _)) (by intro e; subst e; simp at hk)
  obtain ⟨c0, c1, c2, c3⟩ := hc k _ (List.getElem?_eq_getElem hk)
  exact ⟨b, off, _, List.getElem?_eq_getElem hk, ha, c0, c1, c2, c3, _, rfl, (Below.refl _ _).alloc (Nat.le_refl _) _, heap_alloc_new _ _⟩
theorem four_cells {w : World} {R : Nat} {t : TypeId} {v0 v1 v2 v3 : Value} (h : w.heap[R]? = some (.cells #[v0, v1, v2, v3] t (0, 0))) : w.cell? ⟨R, 0, none⟩ = some v0 ∧ w.cell? ⟨R, 1, none⟩ = some v1 ∧ w.cell? ⟨R, 2, none⟩ = some v2 ∧ w.cell? ⟨R, 3, none⟩ = some v3 ∧ ∀ i, w.frozen? ⟨R, i, none⟩ = false := by
  refine ⟨?_, ?_, ?_, ?_, fun i => ?_⟩ <;> simp [World.cell?, World.frozen?, h]
set_option maxHeartbeats 3000000 in
theorem wheelNext_any (w : World) (a : Option Addr) (len cap : Nat) (ops : List Op4) (hl : ops.length = len) (hO : OAt w a ops) (hm : len ≤ 9223372036854775807) :
    Calls Try.prog 6 #[.slice a len cap] w fun e w' => e = .returned (.bool true) ∧ Below w.heap.size w w' := by
  have HSP := hide (speaks8_any w)
  have HO := hide hO
  have HLN := hide hl
  clear hO hl
  by_cases h200 : 200 < len
  · have hd : decide ((200 : Int) < (len : Int)) = true := by simp; omega
    go_enter Try.func6, Try.ntmps6
    go_wp2_with fail
    refine HSP.out.mono ?_
    rintro e w1 ⟨rfl, b1⟩
    have HB1 := hide b1
    clear b1 HSP
    go_wp2
    go_ret
    exact ⟨rfl, HB1.out⟩
  · have hd : decide ((200 : Int) < (len : Int)) = false := by simp; omega
    have hm2 : len ≤ 200 := by omega
    clear h200 hm
    go_enter Try.func6, Try.ntmps6
    go_wp2_with fail
    refine HSP.out.mono ?_
    rintro e w1 ⟨rfl, b1⟩
    have HB1 := hide b1
    have HN := hide (new_any w1)
    clear b1 HSP
    go_wp2_with fail
    refine HN.out.mono ?_
    rintro e w2 ⟨p, ta, tb, rfl, h2, b2, _, l2, l3⟩
    have HL := hide (show w.heap.size ≤ ta ∧ w.heap.size ≤ tb from ⟨Nat.le_trans HB1.out.size l2, Nat.le_trans HB1.out.size l3⟩)
    have HB2 := hide (HB1.out.trans (b2.mono HB1.out.size))
    have HW2 := hide h2
    clear h2 b2 l2 l3 HN HB1 hd
    go_wp2_with fail
    go_loopw [21] (fun i wr => ∃ k : Nat, k ≤ len ∧ i = .int .i64 k ∧ Hid (WAt wr p ta tb (setsE [] (ops.take k))) ∧ Hid (Below w.heap.size w wr)) (fun i _ => len - (intOf i).toNat)
    case atStart => exact ⟨0, Nat.zero_le _, rfl, HW2, HB2⟩
    case round =>
      clear HW2 HB2
      obtain ⟨k, hk, rfl, HW, HB⟩ := hrel
      by_cases hlt : k < len
      · obtain ⟨b, off, o, ho, rfl, c0, c1, c2, c3, W, hW, bW, hx⟩ := op_box w wr a ops k HO.out HB.out (by have := HLN.out; omega)
        obtain ⟨R, hR⟩ : ∃ R, wr.heap.size = R := ⟨_, rfl⟩
        rw [hR] at hx
        obtain ⟨x0, x1, x2, x3, xf⟩ := four_cells hx
        have HS := hide (set_any W p ta tb (setsE [] (ops.take k)) o.e (HW.out.below bW) (by have := setsE_take0 ops k; have := HLN.out; omega))
        have HE := hide (And.intro hW hR)
        have HBW := hide (HB.out.trans (bW.mono HB.out.size))
        have HT := hide (setsE_take [] ops k o ho)
        clear ho hW bW hx hR xf x0 x2
        go_upto_region 11 with (fail)
        rw [HE.out.1, HE.out.2]
        clear c0 c1 c2 c3 HE
        go_wp2_with fail
        refine HS.out.mono ?_
        rintro e w3 ⟨⟨v, rfl⟩, h3, o3⟩
        rw [← HT.out] at h3
        have HW3 := hide h3
        have HB3 := hide (HBW.out.trans (only_below o3 HL.out.1 HL.out.2 HBW.out.size))
        clear h3 o3 HS x1 x3
        go_wp2_with fail
        go_roundw
        case rel => exact ⟨k + 1, by omega, by go_num, HW3, HB3⟩
        case measure => simp [intOf]; omega
      · obtain rfl : k = len := by omega
        have hEl : (setsE [] (ops.take k)).length ≤ 500 := by have := setsE_take0 ops k; have := HLN.out; omega
        obtain ⟨E0, hE0⟩ : ∃ E, setsE [] (ops.take k) = E := ⟨_, rfl⟩
        rw [hE0] at HW hEl
        clear hE0
        go_wp2_with fail
        go_loopg [6] E0.length (fun gk z wz => ∃ E : EL, E.length = gk ∧ E.length ≤ 500 ∧ Hid (WAt wz p ta tb E) ∧ Hid (Below w.heap.size w wz))
        case atStart => exact ⟨E0, rfl, hEl, HW, HB⟩
        case round =>
          clear HW HB hEl
          obtain ⟨E, rfl, hEl, HW, HB⟩ := hrel
          have HLE := hide (len_any wr p ta tb E HW.out)
          have HNX := hide (next_any wr p ta tb E HW.out (by omega))
          cases E with
          | nil =>
            rw [show nextV [] = .tuple #[.int .u64 0, .bool false] from rfl] at HNX
            rw [show ((([] : EL).length : Nat) : Int) = 0 from rfl] at HLE
            go_wp2_with fail
            refine HLE.out.mono ?_
            rintro e w5 ⟨rfl, rfl⟩
            clear HLE
            go_wp2_with fail
            refine HNX.out.mono ?_
            rintro e w6 ⟨rfl, b6⟩
            have HB6 := hide (HB.out.trans (b6.mono HB.out.size))
            clear HNX b6
            go_wp2
            go_ret
            exact ⟨rfl, HB6.out⟩
          | cons x E =>
            rw [show nextV (x :: E) = .tuple #[.int .u64 x.1.s, .bool true] from rfl] at HNX
            rw [List.length_cons] at HLE
            have hd0 : decide ((0 : Int) < ((E.length + 1 : Nat) : Int)) = true := by simp
            have hsr := x.1.hs
            obtain ⟨sx, hsx⟩ : ∃ z, x.1.s = z := ⟨_, rfl⟩
            rw [hsx] at HNX hsr
            have HX := hide hsx
            have HSR := hide hsr
            obtain ⟨n, hn⟩ : ∃ n, E.length = n := ⟨_, rfl⟩
            have HNN := hide hn
            rw [List.length_cons, hn] at hEl
            rw [hn] at HLE hd0
            clear hsx hsr hn
            go_wp2_with fail
            refine HLE.out.mono ?_
            rintro e w5 ⟨rfl, rfl⟩
            clear HLE
            go_wp2_with fail
            refine HNX.out.mono ?_
            rintro e w6 ⟨rfl, b6⟩
            have HB6 := hide (HB.out.trans (b6.mono HB.out.size))
            have HW6 := hide (HW.out.below b6)
            clear HNX b6 HW HB hd0
            by_cases hz : 0 < sx
            · have hd1 : decide (0 < sx) = true := by simpa using hz
              have hw1 : IntKind.u64.wrap (sx - 1) = sx - 1 := wraps_u64 _ (by omega) (by have := HSR.out; omega)
              have HD1 := hide (due_any p ta tb (x :: E) (sx - 1) 9 w6 HW6.out (by rw [List.length_cons, HNN.out]; omega))
              clear hz
              go_wp2_with fail
              refine HD1.out.mono ?_
              rintro e w7 ⟨u7, rfl, _, r7, h7, o7⟩
              rw [dueN_zero (show sx - 1 < x.1.s by rw [HX.out]; omega)] at r7 h7
              rw [List.take_zero, List.map_nil] at r7
              rw [List.drop_zero] at h7
              obtain ⟨a7, c7, rfl⟩ := r7.form
              rw [show ([] : List Int).length = 0 from rfl]
              have HB7 := hide (HB6.out.trans (only_below o7 HL.out.1 HL.out.2 HB6.out.size))
              have HW7 := hide h7
              clear HD1 r7 h7 o7 hw1 hd1 HB6 HW6
              have HLE := hide (len_any w7 p ta tb (x :: E) HW7.out)
              rw [List.length_cons, HNN.out] at HLE
              have HD := hide (due_any p ta tb (x :: E) sx 1 w7 HW7.out (by rw [List.length_cons, HNN.out]; omega))
              go_wp2_with fail
              refine HLE.out.mono ?_
              rintro e w8 ⟨rfl, rfl⟩
              clear HLE
              go_wp2_with fail
              refine HD.out.mono ?_
              rintro e w9 ⟨u9, rfl, _, r9, h9, o9⟩
              have h1 : dueN (x :: E) sx 1 = 1 := by rw [← HX.out]; exact dueN_one
              rw [h1] at r9 h9
              rw [List.take_succ_cons, List.take_zero, List.map_cons, List.map_nil] at r9
              rw [List.drop_succ_cons, List.drop_zero] at h9
              obtain ⟨a9, c9, rfl⟩ := r9.form
              rw [show ([x.1.k] : List Int).length = 1 from rfl]
              have HB9 := hide (HB7.out.trans (only_below o9 HL.out.1 HL.out.2 HB7.out.size))
              have HW9 := hide h9
              have HLE := hide (len_any w9 p ta tb E h9)
              rw [HNN.out] at HLE
              clear HD h1 r9 h9 o9
              go_wp2_with fail
              refine HLE.out.mono ?_
              rintro e w10 ⟨rfl, rfl⟩
              clear HLE
              go_wp2_with fail
              go_roundg n
              case rel => exact ⟨E, HNN.out, by have := HNN.out; omega, HW9, HB9⟩
              case measure => rw [List.length_cons, HNN.out]; omega
            · have hd1 : decide (0 < sx) = false := by simpa using hz
              clear hz
              have HLE := hide (len_any w6 p ta tb (x :: E) HW6.out)
              rw [List.length_cons, HNN.out] at HLE
              have HD := hide (due_any p ta tb (x :: E) sx 1 w6 HW6.out (by rw [List.length_cons, HNN.out]; omega))
              go_wp2_with fail
              refine HLE.out.mono ?_
              rintro e w8 ⟨rfl, rfl⟩
              clear HLE
              go_wp2_with fail
              refine HD.out.mono ?_
              rintro e w9 ⟨u9, rfl, _, r9, h9, o9⟩
              have h1 : dueN (x :: E) sx 1 = 1 := by rw [← HX.out]; exact dueN_one
              rw [h1] at r9 h9
              rw [List.take_succ_cons, List.take_zero, List.map_cons, List.map_nil] at r9
              rw [List.drop_succ_cons, List.drop_zero] at h9
              obtain ⟨a9, c9, rfl⟩ := r9.form
              rw [show ([x.1.k] : List Int).length = 1 from rfl]
              have HB9 := hide (HB6.out.trans (only_below o9 HL.out.1 HL.out.2 HB6.out.size))
              have HW9 := hide h9
              have HLE := hide (len_any w9 p ta tb E h9)
              rw [HNN.out] at HLE
              clear HD h1 r9 h9 o9
              go_wp2_with fail
              refine HLE.out.mono ?_
              rintro e w10 ⟨rfl, rfl⟩
              clear HLE
              go_wp2_with fail
              go_roundg n
              case rel => exact ⟨E, HNN.out, by have := HNN.out; omega, HW9, HB9⟩
              case measure => rw [List.length_cons, HNN.out]; omega
end Go.Proofs.Ytdjkoomgapflcaa
