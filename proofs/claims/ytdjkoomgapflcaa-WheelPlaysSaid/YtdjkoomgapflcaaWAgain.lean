/- The law of a key that is set anew. -/
import Derived.Test.YtdjkoomgapflcaaWNext
namespace Go.Proofs.Ytdjkoomgapflcaa
open Go.RowKit Go.Deep
set_option linter.unusedVariables false
set_option linter.unusedSimpArgs false
set_option maxRecDepth 100000
def cntI (k : Int) : List Int → Nat
  | [] => 0
  | x :: xs => (if x = k then 1 else 0) + cntI k xs
theorem cntI_app (k : Int) : ∀ l m : List Int, cntI k (l ++ m) = cntI k l + cntI k m
  | [], m => by simp [cntI]
  | x :: l, m => by rw [List.cons_append, cntI, cntI, cntI_app k l m]; omega
theorem cntI_take (k : Int) (l : List Int) (j : Nat) (hj : j < l.length) : cntI k (l.take (j + 1)) = cntI k (l.take j) + if l[j] = k then 1 else 0 := by
  rw [List.take_add_one, List.getElem?_eq_getElem hj, cntI_app]
  simp [cntI]
theorem cntI_zero {k : Int} : ∀ {l : List Int}, k ∉ l → cntI k l = 0
  | [], _ => rfl
  | x :: l, h => by
    rw [cntI, if_neg (fun e => h (by rw [e]; simp)), cntI_zero (fun hx => h (List.mem_cons_of_mem _ hx))]
theorem cnt_one {k : Int} : ∀ {E : EL}, DK E → hK k E = true → cntI k (E.map (·.1.k)) = 1
  | [], _, h => by simp [hK] at h
  | x :: E, hd, h => by
    have h' := List.pairwise_cons.1 hd
    rw [List.map_cons, cntI]
    by_cases e : x.1.k = k
    · rw [if_pos e, cntI_zero]
      intro hm
      obtain ⟨y, hy, he⟩ := List.mem_map.1 hm
      exact h'.1 y hy (by rw [e, he])
    · rw [if_neg e, cnt_one h'.2]
      unfold hK at h ⊢
      rw [List.any_cons, Bool.or_eq_true] at h
      rcases h with h | h
      · exact absurd (of_decide_eq_true h).symm e
      · exact h
theorem hK_ins (x : EK) (E : EL) : hK x.k (sK x E) = true := by
  obtain ⟨y, hy, e⟩ := hasL_iff.1 (has_ins (τ := tE) (k := x) (v := ()) (cK x.k E))
  exact hK_iff.2 ⟨y, hy, congrArg EK.k (tE_inj e)⟩
theorem due_all (E : EL) (hl : E.length ≤ 1000) : dueN E 18446744073709551615 1000 = E.length := by
  unfold dueN dueD
  rw [takeW_all (fun x hx => by simpa using x.1.hs.2)]
  have : (1000 : Int).toNat = 1000 := rfl
  omega
set_option maxHeartbeats 3000000 in
theorem wheelAgain_any (w : World) (a : Option Addr) (len cap : Nat) (ops : List Op4) (k t0 t1 : Int) (hl : ops.length = len) (hO : OAt w a ops) (hm : len ≤ 9223372036854775807) (hk : -9223372036854775808 ≤ k ∧ k ≤ 9223372036854775807) (h0 : 0 ≤ t0 ∧ t0 ≤ 18446744073709551615) (h1 : 0 ≤ t1 ∧ t1 ≤ 18446744073709551615) :
    Calls Try.prog 5 #[.slice a len cap, .int .i64 k, .agg #[.int .u64 t0, .int .u64 t1]] w fun e w' => e = .returned (.bool true) ∧ Below w.heap.size w w' := by
  obtain ⟨V, hV, hVB, hVX⟩ : ∃ V, w.alloc (.cells #[.int .u64 t0, .int .u64 t1] 44) = V ∧ Below w.heap.size w V ∧ V.heap[w.heap.size]? = some (.cells #[.int .u64 t0, .int .u64 t1] 44 (0, 0)) := ⟨_, rfl, (Below.refl _ _).alloc (Nat.le_refl _) _, heap_alloc_new _ _⟩
  obtain ⟨X, hX⟩ : ∃ X, w.heap.size = X := ⟨_, rfl⟩
  rw [hX] at hVX
  obtain ⟨e0, he0⟩ : ∃ e : EK, e.s = t0 ∧ e.k = k := ⟨⟨t0, k, h0, hk⟩, rfl, rfl⟩
  obtain ⟨e1, he1⟩ : ∃ e : EK, e.s = t1 ∧ e.k = k := ⟨⟨t1, k, h1, hk⟩, rfl, rfl⟩
  have HE0 := hide he0
  have HE1 := hide he1
  have HSP := hide (speaks8_any V)
  have HO := hide hO
  have HLN := hide hl
  have HVB := hide hVB
  have HVX := hide hVX
  have HVV := hide (And.intro hV hX)
  clear hO hl he0 he1 h0 h1 hk hV hVB hVX hX
  by_cases h200 : 200 < len
  · have hd : decide ((200 : Int) < (len : Int)) = true := by simp; omega
    go_enter Try.func5, Try.ntmps5
    go_upto_region 1 with (fail)
    rw [HVV.out.1, HVV.out.2]
    go_wp2_with fail
    refine HSP.out.mono ?_
    rintro e w1 ⟨rfl, b1⟩
    have HB1 := hide (HVB.out.trans (b1.mono HVB.out.size))
    clear b1 HSP
    go_wp2
    go_ret
    exact ⟨rfl, HB1.out⟩
  · have hd : decide ((200 : Int) < (len : Int)) = false := by simp; omega
    have hm2 : len ≤ 200 := by omega
    clear h200 hm
    go_enter Try.func5, Try.ntmps5
    go_upto_region 1 with (fail)
    rw [HVV.out.1, HVV.out.2]
    go_wp2_with fail
    refine HSP.out.mono ?_
    rintro e w1 ⟨rfl, b1⟩
    have HB1 := hide (HVB.out.trans (b1.mono HVB.out.size))
    have HX1 := hide (below_block b1 HVX.out (Nat.le_refl _))
    have HN := hide (new_any w1)
    clear b1 HSP HVB HVX
    go_wp2_with fail
    refine HN.out.mono ?_
    rintro e w2 ⟨p, ta, tb, rfl, h2, b2, _, l2, l3⟩
    have HL := hide (show w.heap.size ≤ ta ∧ w.heap.size ≤ tb ∧ X < ta ∧ X < tb from ⟨Nat.le_trans HB1.out.size l2, Nat.le_trans HB1.out.size l3, by have := lt_of_block HX1.out; omega, by have := lt_of_block HX1.out; omega⟩)
    have HB2 := hide (HB1.out.trans (b2.mono HB1.out.size))
    have HX2 := hide (below_block b2 HX1.out (Nat.le_refl _))
    have HS0 := hide (show Calls Try.prog 13 #[.pointer (some ⟨p, 0, none⟩), .int .i64 k, .int .u64 t0] w2 (SetAns p ta tb (sK e0 []) w2) by rw [← HE0.out.1, ← HE0.out.2]; exact set_any w2 p ta tb [] e0 h2 (by simp))
    obtain ⟨q0, q1, qf⟩ := two_cells HX2.out
    clear h2 b2 l2 l3 HN HB1 HX1 hd
    go_wp2_with fail
    refine HS0.out.mono ?_
    rintro e w3 ⟨⟨v3, rfl⟩, h3, o3⟩
    have HB3 := hide (HB2.out.trans (only_below o3 HL.out.1 HL.out.2.1 HB2.out.size))
    have HX3 := hide (o3.heap HX2.out (by rintro (e | e) <;> (have := HL.out; omega)))
    have HW3 := hide h3
    clear HS0 h3 o3 HB2 HX2 q0 q1 qf
    go_wp2_with fail
    go_loopw [30] (fun i wr => ∃ j : Nat, j ≤ len ∧ i = .int .i64 j ∧ Hid (WAt wr p ta tb (setsE (sK e0 []) (ops.take j))) ∧ Hid (Below w.heap.size w wr) ∧ Hid (wr.heap[X]? = some (.cells #[.int .u64 t0, .int .u64 t1] 44 (0, 0)))) (fun i _ => len - (intOf i).toNat)
    case atStart => exact ⟨0, Nat.zero_le _, rfl, HW3, HB3, HX3⟩
    case round =>
      clear HW3 HB3 HX3
      obtain ⟨j, hj, rfl, HW, HB, HX⟩ := hrel
      have hlen0 : (setsE (sK e0 []) (ops.take j)).length ≤ 201 := by
        have h1 := setsE_take_len (sK e0 []) ops j
        have h2 : (sK e0 []).length ≤ 1 := sK_len e0 []
        have := HLN.out
        omega
      by_cases hlt : j < len
      · obtain ⟨b, off, o, ho, rfl, c0, c1, c2, c3, W, hW, bW, hx⟩ := op_box w wr a ops j HO.out HB.out (by have := HLN.out; omega)
        obtain ⟨R, hR⟩ : ∃ R, wr.heap.size = R := ⟨_, rfl⟩
        rw [hR] at hx
        obtain ⟨x0, x1, x2, x3, xf⟩ := four_cells hx
        have HS := hide (set_any W p ta tb (setsE (sK e0 []) (ops.take j)) o.e (HW.out.below bW) (by omega))
        have HE := hide (And.intro hW hR)
        have HBW := hide (HB.out.trans (bW.mono HB.out.size))
        have HXW := hide (below_block bW HX.out (Nat.le_refl _))
        have HT := hide (setsE_take (sK e0 []) ops j o ho)
        clear ho hW bW hx hR xf x0 x2
        go_upto_region 12 with (fail)
        rw [HE.out.1, HE.out.2]
        clear c0 c1 c2 c3 HE
        go_wp2_with fail
        refine HS.out.mono ?_
        rintro e w3 ⟨⟨v, rfl⟩, h3, o3⟩
        rw [← HT.out] at h3
        have HW3 := hide h3
        have HB3 := hide (HBW.out.trans (only_below o3 HL.out.1 HL.out.2.1 HBW.out.size))
        have HX3 := hide (o3.heap HXW.out (by rintro (e | e) <;> (have := HL.out; omega)))
        clear h3 o3 HS x1 x3
        go_wp2_with fail
        go_roundw
        case rel => exact ⟨j + 1, by omega, by go_num, HW3, HB3, HX3⟩
        case measure => simp [intOf]; omega
      · obtain rfl : j = len := by omega
        obtain ⟨E0, hE0⟩ : ∃ E, setsE (sK e0 []) (ops.take j) = E := ⟨_, rfl⟩
        rw [hE0] at HW hlen0
        have HS := hide (show Calls Try.prog 13 #[.pointer (some ⟨p, 0, none⟩), .int .i64 k, .int .u64 t1] wr (SetAns p ta tb (sK e1 E0) wr) by rw [← HE1.out.1, ← HE1.out.2]; exact set_any wr p ta tb E0 e1 HW.out (by omega))
        obtain ⟨q0, q1, qf⟩ := two_cells HX.out
        clear hE0 HX
        go_wp2_with fail
        refine HS.out.mono ?_
        rintro e w4 ⟨⟨v4, rfl⟩, h4, o4⟩
        have HB4 := hide (HB.out.trans (only_below o4 HL.out.1 HL.out.2.1 HB.out.size))
        have hkl : (sK e1 E0).length ≤ 202 := by have := sK_len e1 E0; omega
        have HD := hide (due_any p ta tb (sK e1 E0) 18446744073709551615 1000 w4 h4 (by omega))
        have HC := hide (show cntI k ((sK e1 E0).map (·.1.k)) = 1 by rw [← HE1.out.2]; exact cnt_one h4.dk (hK_ins e1 E0))
        clear HS h4 o4 HB HW q0 q1 qf
        go_wp2_with fail
        refine HD.out.mono ?_
        rintro e w5 ⟨u, rfl, _, hr, h5, o5⟩
        rw [due_all _ (by omega)] at hr h5
        rw [List.take_length] at hr
        rw [List.drop_length] at h5
        have HB5 := hide (HB4.out.trans (only_below o5 HL.out.1 HL.out.2.1 HB4.out.size))
        have HW5 := hide h5
        obtain ⟨ks, hks⟩ : ∃ l, (sK e1 E0).map (·.1.k) = l := ⟨_, rfl⟩
        have hkl2 : ks.length ≤ 202 := by rw [← hks, List.length_map]; exact hkl
        rw [hks] at hr HC
        have hk0 : 0 < ks.length := by
          cases ks with
          | nil => have := HC.out; simp [cntI] at this
          | cons x l => simp
        obtain ⟨a5, c5, rfl⟩ := hr.form
        obtain ⟨g, rfl, _, hc⟩ := hr.cells hk0
        have HCC := hide hc
        obtain ⟨n, hn⟩ : ∃ n, ks.length = n := ⟨_, rfl⟩
        have HNN := hide hn
        rw [hn] at hkl2
        rw [hn]
        clear HD hr h5 o5 hks hkl hk0 hc hn
        go_wp2_with fail
        go_loop [10, 49] (fun c i => ∃ z : Nat, z ≤ n ∧ i = .int .i64 z ∧ c = .int .i64 (cntI k (ks.take z) : Int) ∧ cntI k (ks.take z) ≤ z) (fun _ i => n - (intOf i).toNat)
        case atStart => exact ⟨0, Nat.zero_le _, rfl, rfl, Nat.le_refl _⟩
        case round =>
          obtain ⟨z, hz, rfl, rfl, hzl⟩ := hrel
          obtain ⟨m, hm⟩ : ∃ m, cntI k (ks.take z) = m := ⟨_, rfl⟩
          by_cases hlt : z < n
          · have hzk : z < ks.length := by have := HNN.out; omega
            have r0 := HCC.out z hzk
            have HT := hide (cntI_take k ks z hzk)
            rw [hm] at HT hzl
            rw [hm]
            obtain ⟨y, hy⟩ : ∃ y, ks[z] = y := ⟨_, rfl⟩
            rw [hy] at r0 HT
            clear hzk hy hm
            by_cases hyk : y = k
            · have hq : (y == k) = true := by simpa using hyk
              have HY := hide hyk
              clear hyk
              go_wp2_with fail
              go_round
              case rel => exact ⟨z + 1, by omega, by go_num, by rw [HT.out, if_pos HY.out]; go_num, by rw [HT.out, if_pos HY.out]; omega⟩
              case measure => simp [intOf]; omega
            · have hq : (y == k) = false := by simpa using hyk
              have HY := hide hyk
              clear hyk
              go_wp2_with fail
              go_round
              case rel => exact ⟨z + 1, by omega, by go_num, by rw [HT.out, if_neg HY.out]; go_num, by rw [HT.out, if_neg HY.out]; omega⟩
              case measure => simp [intOf]; omega
          · obtain rfl : z = n := by omega
            have h1 : m = 1 := by rw [← hm, ← HNN.out, List.take_length]; exact HC.out
            rw [hm, h1]
            have HAT := hide (at_any w5 p ta tb [] k HW5.out)
            clear hm h1 hzl
            go_wp2_with fail
            refine HAT.out.mono ?_
            rintro e w6 ⟨rfl, h6, o6⟩
            rw [show hK k [] = false from rfl, show gK k [] = none from rfl, Option.getD_none]
            have HB6 := hide (HB5.out.trans (only_below o6 HL.out.1 HL.out.2.1 HB5.out.size))
            have HLE := hide (len_any w6 p ta tb [] h6)
            rw [show ((([] : EL).length : Nat) : Int) = 0 from rfl] at HLE
            clear HAT h6 o6
            go_wp2_with fail
            refine HLE.out.mono ?_
            rintro e w7 ⟨rfl, rfl⟩
            clear HLE
            go_wp2
            go_ret
            exact ⟨rfl, HB6.out⟩
end Go.Proofs.Ytdjkoomgapflcaa
