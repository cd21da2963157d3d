/- Ssdp: the names, told one by one. -/
import Derived.Test.YtonoaopioifedaaGreatDoorSTx
import Derived.Test.YtonoaopioifedaaGreatDoorCPlainC
import Derived.RangeFuncBox
import Derived.OneCell
import Derived.Laws.Rows
import Derived.RangeFuncWrites
import Derived.RangeFuncLeaves
import Derived.RangeFuncNested
import Derived.Shelf.Abstract
import Derived.OwnWalkIn
import Derived.TacticsInMore
import Derived.LoopNIn
import Derived.LoopIn
import Derived.Sort.CutIn
import Derived.Laws.Concat
namespace Go.Proofs.YtonoaopioifedaaGreatDoor
open Go.RowKit Go.Shelf Go.Deep
set_option linter.unusedVariables false
set_option linter.unusedSimpArgs false
set_option maxRecDepth 100000
attribute [local go_sem] Oper.semAt_some
/-- Strings' blocks stay. -/
def KT (T : TypeId) (W W' : World) : Prop := ∀ (B : Nat) (cs : Array Value) (f : Nat × Nat), W.heap[B]? = some (.cells cs T f) → W'.heap[B]? = some (.cells cs T f)
theorem KT.trans {T : TypeId} {a b c : World} (h : KT T a b) (k : KT T b c) : KT T a c := fun B cs f hB => k B cs f (h B cs f hB)
theorem KT.below {T : TypeId} {a b : World} (h : Below a.heap.size a b) : KT T a b := fun B cs f hB => (h.block B (lt_of_block hB)).trans hB
theorem kt_b {T : TypeId} (W : World) (l : Nat) (o o' : Obj) (h : W.heap[l]? = some o) (ho : o.isCells = false) : KT T W (W.putObj l o') := fun B cs f hB => by
  have hne : B ≠ l := by
    intro e; subst e
    rw [h] at hB; cases hB; cases ho
  exact (World.putObj_heap_other hne).trans hB
/-- The block of the names. -/
def nmRow (o : List UInt8) : Array Value := ((nmsL o).map fun y => Value.string (bt y)).toArray
theorem nm_cell {W : World} {g k : Nat} {o y : List UInt8} (h : W.heap[g]? = some (.cells (nmRow o) 9 (0, 0))) (hy : (nmsL o)[k]? = some y) : W.cell? ⟨g, k, none⟩ = some (.string (bt y)) := by
  have : (nmRow o)[k]? = some (.string (bt y)) := by unfold nmRow; simp [hy]
  simp [World.cell?, h, this]
set_option maxHeartbeats 4000000 in
theorem nms_in (F : Fence) (n : Nat) (hf : F.fn 31) (hro : F.round = none) (hn : 1 ≤ n) (l P : Nat) (o : List UInt8) (ho : o.length ≤ 1000) (W : World) (Kp : World → World → Prop) (J Jx : List NX → World → Prop) (hJa : AbidesFrom W.heap.size J)
    (hY : ∀ pre x W1, J pre W1 → pre.length < 6 → YieldAt F (n - 1) Tryz.prog l #[.string (bt x.val.1), .string (bt x.val.2)] W1 fun e W' =>
      (e = .returned (.bool true) ∧ J (pre ++ [x]) W' ∧ Kp W1 W') ∨ (e = .returned (.bool false) ∧ Jx (pre ++ [x]) W'))
    (hKp : ∀ W W', Kp W W' → KT 9 W W') (hP : W.heap[P]? = some (.cells #[.string (bt o)] 9 (0, 0))) (h0 : J [] W) :
    CallsIn F n Tryz.prog 31 #[.func (.yield l) #[] #[], .pointer (some ⟨P, 0, none⟩)] W fun e W' => (∃ v, e = .returned v) ∧
      ((∃ ys, ys = namesX o ∧ J ys W') ∨ (∃ pre, (∃ k, 1 ≤ k ∧ k ≤ 6 ∧ pre = (namesX o).take k) ∧ Jx pre W')) := by
  obtain ⟨g, hg⟩ : ∃ g, W.heap.size = g := ⟨_, rfl⟩
  obtain ⟨W0, hW0⟩ : ∃ V, W.alloc (.cells (nmRow o) 9) = V := ⟨_, rfl⟩
  have hG : W0.heap[g]? = some (.cells (nmRow o) 9 (0, 0)) := by rw [← hW0, ← hg]; exact heap_alloc_new _ _
  have hP0 : W0.heap[P]? = some (.cells #[.string (bt o)] 9 (0, 0)) := by
    rw [← hW0]; exact below_blk ((Below.refl _ W).alloc (Nat.le_refl _) _) hP (Nat.le_refl _)
  have hJ0 : J [] W0 := by rw [← hW0]; exact hJa _ _ _ none h0 (World.grownBy_alloc W _ none) (fun r e => by cases e)
  have cP := cell_of_one hP
  have HE := hide hW0
  have HG := hide hg
  have HX := hide (show J ((namesX o).take 0) W0 ∧ W0.heap[g]? = some (.cells (nmRow o) 9 (0, 0)) ∧ W0.heap[P]? = some (.cells #[.string (bt o)] 9 (0, 0)) from ⟨hJ0, hG, hP0⟩)
  have HA := hide (show W.alloc (.cells #[.string (bt sRoot), .string (bt o), .string (bt sGw1), .string (bt sGw2), .string (bt sSv1), .string (bt sSv2)] 9) = W0 from hW0)
  clear hW0 hG hP0 hJ0 hJa h0 hP HE hg
  refine callsIn_of_wp Tryz.func31 rfl hf ?_ hro
  simp only [Tryz.ntmps31, List.size_toArray, List.length_cons, List.length_nil, Nat.reduceAdd, Nat.reduceSub, Array.replicate_succ, Array.replicate_zero, List.push_toArray, List.append_toArray, List.nil_append, List.cons_append]
  gi_upto_region 1 with (fail)
  try unfold sRoot sGw1 sGw2 sSv1 sSv2 at HA
  rw [HA.out]
  rw [HG.out]
  clear cP HA HG
  gi_loopw [9] (fun i wr => ∃ k : Nat, k ≤ 6 ∧ i = .int .i64 (k : Int) ∧ Hid (J ((namesX o).take k) wr ∧ wr.heap[g]? = some (.cells (nmRow o) 9 (0, 0)) ∧ wr.heap[P]? = some (.cells #[.string (bt o)] 9 (0, 0))))
    (fun i _ => 6 - (intOf i).toNat)
  case atStart => exact ⟨0, Nat.zero_le _, rfl, HX⟩
  case round =>
    clear HX
    obtain ⟨k, hk, rfl, HX⟩ := hrel
    have hk4 : (0 : Int) ≤ (k : Int) := by omega
    have hk5 : (k : Int) ≤ 6 := by omega
    by_cases hlt : k < 6
    · have d1 : decide ((k : Int) < 6) = true := by simp; omega
      obtain ⟨y, hy⟩ : ∃ y, (nmsL o)[k]? = some y := ⟨_, List.getElem?_eq_getElem (by rw [nmsL_len]; exact hlt)⟩
      have hyl := nmsL_le o y (List.mem_of_getElem? hy) ho
      have hvx := mkX_val (y, unL o y) ⟨hyl, unL_le o y hyl ho⟩
      have hxk : (namesX o)[k]? = some (mkX (y, unL o y)) := by unfold namesX namesL; rw [List.getElem?_map, List.getElem?_map, hy]; rfl
      have htk : (namesX o).take (k + 1) = (namesX o).take k ++ [mkX (y, unL o y)] := by rw [List.take_add_one, hxk]; rfl
      have HK := hide hKp
      obtain ⟨fn, tmps, assign, body, hyy, hR⟩ := hY _ (mkX (y, unL o y)) wr HX.out.1 (by rw [List.length_take, namesX_len]; omega)
      have cy := nm_cell HX.out.2.1 hy
      have cP := cell_of_one HX.out.2.2
      have hun : unL o y = if y = o then o else o ++ (sDd ++ y) := rfl
      have hbq := bt_beq y o
      have HG2 := hide HX.out.2.1
      have HP2 := hide HX.out.2.2
      have HT := hide htk
      have hs1 : ∀ V : World, (Op.stringOp .add ⟨#[58, 58]⟩ (bt y)).run Tryz.prog V = .ok (.string (bt (sDd ++ y))) V := fun V => run_string_add_lists V sDd y (by decide) (by omega)
      have hs2 : ∀ V : World, (Op.stringOp .add (bt o) (bt (sDd ++ y))).run Tryz.prog V = .ok (.string (bt (o ++ (sDd ++ y)))) V := fun V => run_string_add_lists V o (sDd ++ y) (by omega) (by simp only [List.length_append, sDd, List.length_cons, List.length_nil]; omega)
      rw [hvx] at hyy
      dsimp only at hyy
      clear hvx
      clear HX hy htk hxk hY hKp
      by_cases hyo : y = o
      · rw [if_pos hyo] at hun
        rw [decide_eq_true hyo] at hbq
        rw [hun] at hyy
        have HR := hide hR
        clear hun hs1 hs2 hR
        generalize bt o = O at *
        generalize bt y = Y at *
        gi_wp2
        refine HR.out.mono ?_
        rintro e W3 (⟨rfl, hJ3, hk3⟩ | ⟨rfl, hJx3⟩)
        · have HF := hide (show J ((namesX o).take (k + 1)) W3 ∧ W3.heap[g]? = some (.cells (nmRow o) 9 (0, 0)) ∧ W3.heap[P]? = some (.cells #[.string O] 9 (0, 0)) from ⟨HT.out ▸ hJ3, HK.out _ _ hk3 _ _ _ HG2.out, HK.out _ _ hk3 _ _ _ HP2.out⟩)
          clear hJ3 hk3
          gi_wp2
          go_roundw
          case rel => exact ⟨k + 1, by omega, by go_num, HF⟩
          case measure => simp [intOf]; omega
        · have HF := hide (show Jx ((namesX o).take (k + 1)) W3 from HT.out ▸ hJx3)
          clear hJx3
          gi_wp2
          refine bodyPost_ret (results_none rfl _ _ _) rfl ?_
          exact ⟨⟨_, rfl⟩, .inr ⟨_, ⟨k + 1, by omega, by omega, rfl⟩, HF.out⟩⟩
      · rw [if_neg hyo] at hun
        rw [decide_eq_false hyo] at hbq
        rw [hun] at hyy
        have HR := hide hR
        clear hun hR
        generalize bt (o ++ (sDd ++ y)) = U at *
        generalize bt (sDd ++ y) = D at *
        generalize bt o = O at *
        generalize bt y = Y at *
        gi_wp2
        refine HR.out.mono ?_
        rintro e W3 (⟨rfl, hJ3, hk3⟩ | ⟨rfl, hJx3⟩)
        · have HF := hide (show J ((namesX o).take (k + 1)) W3 ∧ W3.heap[g]? = some (.cells (nmRow o) 9 (0, 0)) ∧ W3.heap[P]? = some (.cells #[.string O] 9 (0, 0)) from ⟨HT.out ▸ hJ3, HK.out _ _ hk3 _ _ _ HG2.out, HK.out _ _ hk3 _ _ _ HP2.out⟩)
          clear hJ3 hk3
          gi_wp2
          go_roundw
          case rel => exact ⟨k + 1, by omega, by go_num, HF⟩
          case measure => simp [intOf]; omega
        · have HF := hide (show Jx ((namesX o).take (k + 1)) W3 from HT.out ▸ hJx3)
          clear hJx3
          gi_wp2
          refine bodyPost_ret (results_none rfl _ _ _) rfl ?_
          exact ⟨⟨_, rfl⟩, .inr ⟨_, ⟨k + 1, by omega, by omega, rfl⟩, HF.out⟩⟩
    · have d1 : decide ((k : Int) < 6) = false := by simp; omega
      obtain rfl : k = 6 := by omega
      have HF := hide (show J (namesX o) wr from HX.out.1)
      clear HX
      gi_wp2
      go_end0
      exact ⟨⟨_, rfl⟩, .inl ⟨_, rfl, HF.out⟩⟩
theorem nms_stops (F : Fence) (n : Nat) (hf : F.fn 31) (hro : F.round = none) (hn : 1 ≤ n) (P : Nat) (o : List UInt8) (ho : o.length ≤ 1000) (w : World) (Kp : World → World → Prop) (hKp : ∀ W W', Kp W W' → KT 9 W W') (hP : w.heap[P]? = some (.cells #[.string (bt o)] 9 (0, 0))) :
    SeqStopsK F n Tryz.prog 31 #[.pointer (some ⟨P, 0, none⟩)] (fun x : NX => #[.string (bt x.val.1), .string (bt x.val.2)]) Kp (fun ys => ys = namesX o) (fun pre => ∃ k, 1 ≤ k ∧ k ≤ 6 ∧ pre = (namesX o).take k) 6 w :=
  fun l J Jx W hW hJ _ hY h0 => nms_in F n hf hro hn l P o ho W Kp J Jx hJ hY hKp ((hW.block P (lt_of_block hP)).trans hP) h0
end Go.Proofs.YtonoaopioifedaaGreatDoor
