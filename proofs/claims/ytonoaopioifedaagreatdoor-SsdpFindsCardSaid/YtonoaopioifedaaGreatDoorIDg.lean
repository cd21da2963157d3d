/- inet: the document's Digits and Text. -/
import Derived.Test.YtonoaopioifedaaGreatDoorIText
import Derived.Test.YtonoaopioifedaaGreatDoorITx
namespace Go.Proofs.YtonoaopioifedaaGreatDoor
open Go.RowKit Go.Lib
set_option linter.unusedVariables false
set_option linter.unusedSimpArgs false
set_option maxRecDepth 100000
theorem below_block {w w' : World} {R B : Nat} {o : Obj} (h : Below B w w') (ho : w.heap[R]? = some o) (hB : w.heap.size ≤ B) : w'.heap[R]? = some o := (h.block R (Nat.lt_of_lt_of_le (lt_of_block ho) hB)).trans ho
theorem bs_app (a b : List UInt8) : bs (a ++ b) = bs a ++ bs b := by simp [bs, ByteArray.ext_iff]
theorem one_conv (W : World) (g m : Nat) (hm : m < 10) (h : W.heap[g]? = some (.cells #[.int .u8 (48 + (m : Int))] 5 (0, 0))) : (convert 29 9 (.slice (some ⟨g, 0, none⟩) 1 1)).run Tryz.prog W = .ok (.string (bs [dc m])) W := by
  refine run_convert_bytes_back W 29 9 5 ⟨g, 0, none⟩ 1 [dc m] Tryz.underlying29 Tryz.underlying5 Tryz.underlying9 (fun j hj => ?_)
  obtain rfl : j = 0 := by simpa using hj
  have e : ((dc m).toNat : Int) = 48 + (m : Int) := by rw [dc_nat m hm]; push_cast; rfl
  simp [World.cell?, h, Addr.add, e]
set_option maxHeartbeats 1000000 in
theorem dig1 (n : Nat) (w : World) (h : n < 10) :
    Calls Tryz.prog 36 #[.int .i64 (n : Int)] w fun e w' => e = .returned (.string (bs (dg n))) ∧ Below w.heap.size w w' := by
  have d1 : decide ((n : Int) < 10) = true := by simp; omega
  have hn4 : (0 : Int) ≤ (n : Int) := by omega
  have hn5 : (n : Int) ≤ 9 := by omega
  have HD := hide (show dg n = [dc n] by unfold dg; rw [if_pos h])
  have hcv := one_conv (w.alloc (.cells #[.int .u8 (48 + (n : Int))] 5)) w.heap.size n h (by exact Array.getElem?_push_size)
  have HB := hide ((Below.refl w.heap.size w).alloc (Nat.le_refl _) (.cells #[.int .u8 (48 + (n : Int))] 5))
  clear h
  go_enter Tryz.func36, Tryz.ntmps36
  go_wp2_with fail
  go_ret
  exact ⟨by rw [HD.out]; rfl, HB.out⟩
set_option maxHeartbeats 1000000 in
theorem dig2 (n : Nat) (w : World) (h : 10 ≤ n) (h2 : n < 1000) (hd : ∀ W, Calls Tryz.prog 36 #[.int .i64 ((n / 10 : Nat) : Int)] W fun e w' => e = .returned (.string (bs (dg (n / 10)))) ∧ Below W.heap.size W w') :
    Calls Tryz.prog 36 #[.int .i64 (n : Int)] w fun e w' => e = .returned (.string (bs (dg n))) ∧ Below w.heap.size w w' := by
  have d1 : decide ((n : Int) < 10) = false := by simp; omega
  have hn4 : (0 : Int) ≤ (n : Int) := by omega
  have hn5 : (n : Int) ≤ 999 := by omega
  have HD := hide hd
  have HE := hide (show dg n = dg (n / 10) ++ [dc (n % 10)] by
    have := dg_snoc (n / 10) (n % 10) (by omega) (by omega) (by omega)
    rwa [show 10 * (n / 10) + n % 10 = n by omega] at this)
  obtain ⟨q, hq⟩ : ∃ q, n / 10 = q := ⟨_, rfl⟩
  obtain ⟨m, hm⟩ : ∃ m, n % 10 = m := ⟨_, rfl⟩
  rw [hq] at HD
  rw [hq, hm] at HE
  have e1 : (n : Int).tdiv 10 = (q : Int) := by rw [Int.tdiv_eq_ediv_of_nonneg (by omega)]; omega
  have e2 : (n : Int).tmod 10 = (m : Int) := by rw [Int.tmod_eq_emod_of_nonneg (by omega)]; omega
  have e3 : (n : Int) / 10 = (q : Int) := by omega
  have e4 : (n : Int) % 10 = (m : Int) := by omega
  have hm4 : (0 : Int) ≤ (m : Int) := by omega
  have hm5 : (m : Int) ≤ 9 := by omega
  have hq4 : (0 : Int) ≤ (q : Int) := by omega
  have hq5 : (q : Int) ≤ 99 := by omega
  have w1 : IntKind.i64.wrap (q : Int) = q := by rw [IntKind.wrap_i64]; omega
  have w2 : IntKind.i64.wrap (48 + (m : Int)) = 48 + m := by rw [IntKind.wrap_i64]; omega
  have w3 : IntKind.u8.wrap (48 + (m : Int)) = 48 + m := by rw [IntKind.wrap_u8]; omega
  have HM := hide (show m < 10 by omega)
  have kc := fun (W : World) => one_conv (W.alloc (.cells #[.int .u8 (48 + (m : Int))] 5)) W.heap.size m (by omega) (by exact Array.getElem?_push_size)
  have kd := show (convert 29 9 (.slice (some ⟨w.heap.size, 0, none⟩) 1 1)).run Tryz.prog (w.alloc (.cells #[.int .u8 (48 + (m : Int))] 5)).drew = .ok (.string (bs [dc m])) (w.alloc (.cells #[.int .u8 (48 + (m : Int))] 5)).drew from one_conv _ w.heap.size m (by omega) (by exact Array.getElem?_push_size)
  have HA := hide (((Below.refl w.heap.size w).alloc (Nat.le_refl _) (.cells #[.int .u8 (48 + (m : Int))] 5)).drew)
  have HA2 := hide (show (w.alloc (.cells #[.int .u8 (48 + (m : Int))] 5)).drew.heap[w.heap.size]? = some (.cells #[.int .u8 (48 + (m : Int))] 5 (0, 0)) from Array.getElem?_push_size)
  have hL : (9223372036854775807 < (dg q).length + 1) = False := by have := dg_le3 q; simp; omega
  clear h h2 hd hq hm
  go_enter Tryz.func36, Tryz.ntmps36
  go_wp2_with fail
  go_region_with (go_at_call 36; (with_reducible refine (HD.out _).mono ?_); rintro e w5 ⟨rfl, b5⟩; try (have hcv5 := one_conv w5 w.heap.size m HM.out (below_block b5 HA2.out (Nat.le_refl _))))
  all_goals go_wp2_with fail
  all_goals go_ret
  all_goals (refine ⟨?_, ?_⟩)
  all_goals first
    | (rw [HE.out, bs_app]; rfl)
    | exact HA.out.trans (b5.mono HA.out.size)
    | exact ((Below.refl w.heap.size w).drew.trans b5).alloc b5.size _
    | exact (((Below.refl w.heap.size w).drew.trans b5).alloc b5.size _).drew
    | exact ((Below.refl w.heap.size w).drew.trans b5).drew.alloc b5.size _
    | exact (HA.out.trans (b5.mono HA.out.size)).drew
theorem dig_any (n : Nat) (w : World) (h : n < 1000) : Calls Tryz.prog 36 #[.int .i64 (n : Int)] w fun e w' => e = .returned (.string (bs (dg n))) ∧ Below w.heap.size w w' := by
  by_cases h1 : n < 10
  · exact dig1 n w h1
  · refine dig2 n w (by omega) h (fun W => ?_)
    by_cases h2 : n / 10 < 10
    · exact dig1 _ W h2
    · exact dig2 _ W (by omega) (by omega) (fun W2 => dig1 _ W2 (by omega))
end Go.Proofs.YtonoaopioifedaaGreatDoor
