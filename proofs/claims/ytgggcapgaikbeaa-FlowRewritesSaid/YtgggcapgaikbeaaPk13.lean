/- Small laws for walks that are written step by step. -/
import Derived.Test.YtgggcapgaikbeaaPk12
import Derived.BigRegion
import Derived.Deep.RegionWith
import Derived.Deep.RegionHeld3
import Derived.Test.YtgggcapgaikbeaaPk07
import Derived.Deep.DeepCutAuto
namespace Go.Proofs.Ytgggcapgaikbeaa
open Go.RowKit
set_option linter.unusedVariables false
set_option linter.unusedSimpArgs false
set_option maxRecDepth 100000
theorem own_ne_lt {w : World} {base L n : Nat} {v : Value} {xs : List Value} (h : w.ownsRow base 5 1 v n xs) (hL : L < base) : v.ownBlock ≠ some L := fun e => by have := (h.lt L e).1; omega
theorem owns_kept {w w' : World} {base g : Nat} {v : Value} {n : Nat} {xs : List Value} (h : w.ownsRow base 5 1 v n xs) (hg : w.grownBy w' (some g)) (hne : v.ownBlock ≠ some g) : w'.ownsRow base 5 1 v n xs := h.kept hg (.inr hne)
theorem blk_ne {w : World} {g B : Nat} {o : Obj} (h : w.heap[g]? = some o) (hB : w.heap.size = B) : g ≠ B := by have := lt_of_block h; omega
theorem set1 {W w0 : World} {B i N : Nat} {T : TypeId} {c c' : Array Value} (v : Value) (h : W.heap[B]? = some (.cells c T (0, 0))) (hB : Below N w0 W) (hN : N ≤ B) (hu : upd c i [v] = c') : ∃ V, W.setCell ⟨B, i, none⟩ v = V ∧ V.heap[B]? = some (.cells c' T (0, 0)) ∧ Below N w0 V ∧ (∀ k, k ≠ B → V.heap[k]? = W.heap[k]?) ∧ V.heap.size = W.heap.size := by
  have h1 := heap_setCells B T [v] i W c h
  rw [hu] at h1
  exact ⟨_, rfl, h1, below_setCells B hN [v] i W hB, fun k hk => setCells_other B [v] i W k hk, setCells_size B [v] i W⟩
end Go.Proofs.Ytgggcapgaikbeaa

/- Flows: where an address is then; a query's id; what is carried goes between other ends. -/
namespace Go.Proofs.Ytgggcapgaikbeaa
open Go.RowKit
set_option linter.unusedVariables false
set_option linter.unusedSimpArgs false
set_option maxRecDepth 100000
theorem moved_any (a was is : Nat) (w : World) : Calls Try.prog 30 #[.int .u32 (a : Int), .int .u32 (was : Int), .int .u32 (is : Int)] w fun e w' => e = .returned (.int .u32 ((if a = was then is else a : Nat) : Int)) ∧ w' = w := by
  by_cases h : a = was
  · have d : ((a : Int) == (was : Int)) = true := by simp [h]
    rw [if_pos h]
    clear h
    go_enter Try.func30, Try.ntmps30
    go_wp2_with fail
    go_ret
    exact ⟨rfl, rfl⟩
  · have d : ((a : Int) == (was : Int)) = false := by simp; omega
    rw [if_neg h]
    clear h
    go_enter Try.func30, Try.ntmps30
    go_wp2_with fail
    go_ret
    exact ⟨rfl, rfl⟩
theorem queryID_any (k : Nat) (x0 x1 x2 x3 x4 : Nat) (w : World) : Calls Try.prog 55 #[.int .u8 (k : Int), .agg #[.int .u8 (x0 : Int), .int .u32 (x1 : Int), .int .u32 (x2 : Int), .int .u16 (x3 : Int), .int .u16 (x4 : Int)]] w fun e w' => e = .returned (.int .u16 ((if k = 8 then x3 else x4 : Nat) : Int)) ∧ Below w.heap.size w w' := by
  have hb : Below w.heap.size w (w.alloc (.cells #[.int .u8 (x0 : Int), .int .u32 (x1 : Int), .int .u32 (x2 : Int), .int .u16 (x3 : Int), .int .u16 (x4 : Int)] 29)) := (Below.refl _ _).alloc (Nat.le_refl _) _
  by_cases h : k = 8
  · have d : ((k : Int) == 8) = true := by simp [h]
    rw [if_pos h]
    have HB := hide hb
    clear h hb
    go_enter Try.func55, Try.ntmps55
    go_wp2_with fail
    go_ret
    exact ⟨rfl, HB.out⟩
  · have d : ((k : Int) == 8) = false := by simp; omega
    rw [if_neg h]
    have HB := hide hb
    clear h hb
    go_enter Try.func55, Try.ntmps55
    go_wp2_with fail
    go_ret
    exact ⟨rfl, HB.out⟩
theorem gb_drew {w V : World} {r : Option Nat} (h : w.grownBy V r) : w.grownBy V.drew r := ⟨h.os, h.tape, h.output, h.size, h.block⟩
theorem gb_other {w V : World} {g k : Nat} {o : Obj} (h : w.grownBy V (some g)) (hk : w.heap[k]? = some o) (hne : k ≠ g) : V.heap[k]? = some o := (h.block k (lt_of_block hk) (fun e => hne (Option.some.inj e))).trans hk
theorem set2 {w V : World} {g : Nat} {t : TypeId} {c : Array Value} (h : V.heap[g]? = some (.cells c t (0, 0))) (hgr : w.grownBy V (some g)) (i j : Nat) (a b : Value) :
    ∃ V2, ((V.setCell ⟨g, i, none⟩ a).setCell ⟨g, j, none⟩ b).drew = V2 ∧ V2.heap[g]? = some (.cells ((c.setIfInBounds i a).setIfInBounds j b) t (0, 0)) ∧ (∀ k, k ≠ g → V2.heap[k]? = V.heap[k]?) ∧ w.grownBy V2 (some g) :=
  ⟨_, rfl, heap_setCell_same _ g j _ _ b (heap_setCell_same V g i _ _ a h), fun k hk => (heap_setCell_other _ _ _ _ hk).trans (heap_setCell_other _ _ _ _ hk), gb_drew (gb_put (gb_put hgr g i a rfl) g j b rfl)⟩
theorem set1g {w V : World} {g : Nat} {t : TypeId} {c : Array Value} (h : V.heap[g]? = some (.cells c t (0, 0))) (hgr : w.grownBy V (some g)) (i : Nat) (a : Value) :
    (V.setCell ⟨g, i, none⟩ a).heap[g]? = some (.cells (c.setIfInBounds i a) t (0, 0)) ∧ w.grownBy (V.setCell ⟨g, i, none⟩ a) (some g) := ⟨heap_setCell_same V g i _ _ a h, gb_put hgr g i a rfl⟩
set_option maxHeartbeats 1600000 in
theorem move_data (w : World) (LB : Nat) (LC : Array Value) (v6 v7 v15 v16 : Value) (x0 x1 x2 x3 x4 : Nat) (hL : w.heap[LB]? = some (.cells LC 65 (0, 0))) (h5 : LC[5]? = some (.int .i64 1)) (h6 : LC[6]? = some v6) (h7 : LC[7]? = some v7) (h15 : LC[15]? = some v15) (h16 : LC[16]? = some v16) :
    Calls Try.prog 31 #[.pointer (some ⟨LB, 0, none⟩), .agg #[.int .u8 (x0 : Int), .int .u32 (x1 : Int), .int .u32 (x2 : Int), .int .u16 (x3 : Int), .int .u16 (x4 : Int)]] w fun e w' => e = .returned (.tuple #[]) ∧
      w'.heap[LB]? = some (.cells ((((LC.setIfInBounds 6 (.int .u16 (x3 : Int))).setIfInBounds 7 (.int .u16 (x4 : Int))).setIfInBounds 15 (.int .u16 (x3 : Int))).setIfInBounds 16 (.int .u16 (x4 : Int))) 65 (0, 0)) ∧ w.grownBy w' (some LB) := by
  obtain ⟨V, hV, hVL, hVF, hne, hlt, hgr⟩ : ∃ V, w.alloc (.cells #[.int .u8 (x0 : Int), .int .u32 (x1 : Int), .int .u32 (x2 : Int), .int .u16 (x3 : Int), .int .u16 (x4 : Int)] 29) = V ∧ V.heap[LB]? = some (.cells LC 65 (0, 0)) ∧ V.heap[w.heap.size]? = some (.cells #[.int .u8 (x0 : Int), .int .u32 (x1 : Int), .int .u32 (x2 : Int), .int .u16 (x3 : Int), .int .u16 (x4 : Int)] 29 (0, 0)) ∧ LB ≠ w.heap.size ∧ LB < V.heap.size ∧ w.grownBy V (some LB) :=
    ⟨_, rfl, below_block ((Below.refl w.heap.size w).alloc (Nat.le_refl _) _) hL (Nat.le_refl _), heap_alloc_new _ _, by have := lt_of_block hL; omega, by have := lt_of_block hL; simp; omega, gb_of_below ((Below.refl w.heap.size w).alloc (Nat.le_refl _) _)⟩
  obtain ⟨FB, hFB⟩ : ∃ B, w.heap.size = B := ⟨_, rfl⟩
  rw [hFB] at hVF hne
  have HE := hide (And.intro hV hFB)
  have HG := hide hgr
  have HL := hide hVL
  have q5 := cell_at hVL 5 h5
  have q6 := cell_at hVL 6 h6
  have q7 := cell_at hVL 7 h7
  have q15 := cell_at hVL 15 h15
  have q16 := cell_at hVL 16 h16
  have qf := free_at hVL
  have f3 : V.cell? ⟨FB, 3, none⟩ = some (.int .u16 (x3 : Int)) := cell_at hVF 3 rfl
  have f4 : V.cell? ⟨FB, 4, none⟩ = some (.int .u16 (x4 : Int)) := cell_at hVF 4 rfl
  have hne2 : FB ≠ LB := fun e => hne e.symm
  have HF := hide hVF
  have h15' := hide h15
  have h16' := hide h16
  clear hV hFB hVL hVF hgr hL h5 h6 h7 h15 h16
  go_enter Try.func31, Try.ntmps31
  go_upto_region 1 with (fail)
  rw [HE.out.1]
  try rw [HE.out.2]
  clear HE
  go_wp2_with fail
  obtain ⟨V2, hV2, hL2, ho2, hg2⟩ := set2 HL.out HG.out 6 7 (.int .u16 (x3 : Int)) (.int .u16 (x4 : Int))
  have HV2 := hide hV2
  have p15 : V2.cell? ⟨LB, 15, none⟩ = some v15 := cell_at hL2 15 (by simpa using h15'.out)
  have p16 : V2.cell? ⟨LB, 16, none⟩ = some v16 := cell_at hL2 16 (by simpa using h16'.out)
  have pf := free_at hL2
  have g3 : V2.cell? ⟨FB, 3, none⟩ = some (.int .u16 (x3 : Int)) := cell_at ((ho2 FB hne2).trans HF.out) 3 rfl
  have g4 : V2.cell? ⟨FB, 4, none⟩ = some (.int .u16 (x4 : Int)) := cell_at ((ho2 FB hne2).trans HF.out) 4 rfl
  have HL2 := hide hL2
  have HG2 := hide hg2
  clear hV2 hL2 ho2 hg2
  go_region
  rw [HV2.out]
  clear HV2 q5 q6 q7 q15 q16 qf f3 f4 HL HG HF
  go_wp2_with fail
  obtain ⟨V3, hV3, hL3, ho3, hg3⟩ := set2 HL2.out HG2.out 15 16 (.int .u16 (x3 : Int)) (.int .u16 (x4 : Int))
  have HV3 := hide hV3
  have HL3 := hide hL3
  have HG3 := hide hg3
  clear hV3 hL3 ho3 hg3
  go_region
  rw [HV3.out]
  clear HV3
  go_wp2_with fail
  go_end0
  exact ⟨rfl, HL3.out, HG3.out⟩
theorem u32_or_nat (a b : Nat) (ha : a < 4294967296) (hb : b < 4294967296) : bits .or .u32 (a : Int) (b : Int) = ((a ||| b : Nat) : Int) := by
  have hx : a ||| b < 2 ^ 32 := Nat.or_lt_two_pow (by omega) (by omega)
  have h1 : (BitVec.ofInt 32 (a : Int)).toNat = a := by
    rw [BitVec.ofInt_natCast, BitVec.toNat_ofNat]; exact Nat.mod_eq_of_lt (by omega)
  have h2 : (BitVec.ofInt 32 (b : Int)).toNat = b := by
    rw [BitVec.ofInt_natCast, BitVec.toNat_ofNat]; exact Nat.mod_eq_of_lt (by omega)
  show IntKind.u32.wrap ((BitVec.ofInt 32 (a : Int) ||| BitVec.ofInt 32 (b : Int)).toNat : Int) = _
  rw [BitVec.toNat_or, h1, h2, IntKind.wrap_u32]
  omega
theorem u32_and_nat (a b : Nat) (ha : a < 4294967296) (hb : b < 4294967296) : bits .and .u32 (a : Int) (b : Int) = ((a &&& b : Nat) : Int) := by
  have hx : a &&& b < 2 ^ 32 := Nat.and_lt_two_pow _ (by omega)
  have h1 : (BitVec.ofInt 32 (a : Int)).toNat = a := by
    rw [BitVec.ofInt_natCast, BitVec.toNat_ofNat]; exact Nat.mod_eq_of_lt (by omega)
  have h2 : (BitVec.ofInt 32 (b : Int)).toNat = b := by
    rw [BitVec.ofInt_natCast, BitVec.toNat_ofNat]; exact Nat.mod_eq_of_lt (by omega)
  show IntKind.u32.wrap ((BitVec.ofInt 32 (a : Int) &&& BitVec.ofInt 32 (b : Int)).toNat : Int) = _
  rw [BitVec.toNat_and, h1, h2, IntKind.wrap_u32]
  omega
theorem rest_val (i r : Nat) (hi : i ≤ 65535) (hr : r ≤ 4294967295) : bits BinOp.or IntKind.u32 (IntKind.u32.wrap ((i : Int) * 65536)) (bits BinOp.and IntKind.u32 (r : Int) 65535) = ((i * 65536 + r % 65536 : Nat) : Int) := by
  have h1 : IntKind.u32.wrap ((i : Int) * 65536) = ((i * 65536 : Nat) : Int) := by rw [IntKind.wrap_u32]; omega
  have h2 : r &&& 65535 = r % 65536 := Nat.and_two_pow_sub_one_eq_mod r 16
  have h3 := u32_and_nat r 65535 (by omega) (by omega)
  rw [h2] at h3
  rw [h1, show (65535 : Int) = ((65535 : Nat) : Int) from rfl, h3, u32_or_nat _ _ (by omega) (by omega)]
  have := Nat.two_pow_add_eq_or_of_lt (i := 16) (b := r % 65536) (by omega) i
  rw [show (2 : Nat) ^ 16 = 65536 from rfl, Nat.mul_comm] at this
  omega
set_option maxHeartbeats 1600000 in
theorem move_query (w : World) (LB : Nat) (LC : Array Value) (mt r : Nat) (x0 x1 x2 x3 x4 R : Nat) (hL : w.heap[LB]? = some (.cells LC 65 (0, 0))) (h5 : LC[5]? = some (.int .i64 2)) (h19 : LC[19]? = some (.int .u8 (mt : Int))) (h21 : LC[21]? = some (.int .u32 (r : Int))) (hR : R = (if mt = 8 then x3 else x4) * 65536 + r % 65536) (hx3 : x3 ≤ 65535) (hx4 : x4 ≤ 65535) (hr : r ≤ 4294967295) :
    Calls Try.prog 31 #[.pointer (some ⟨LB, 0, none⟩), .agg #[.int .u8 (x0 : Int), .int .u32 (x1 : Int), .int .u32 (x2 : Int), .int .u16 (x3 : Int), .int .u16 (x4 : Int)]] w fun e w' => e = .returned (.tuple #[]) ∧
      w'.heap[LB]? = some (.cells (LC.setIfInBounds 21 (.int .u32 (R : Int))) 65 (0, 0)) ∧ w.grownBy w' (some LB) := by
  obtain ⟨V, hV, hVL, hVF, hne, hlt, hgr⟩ : ∃ V, w.alloc (.cells #[.int .u8 (x0 : Int), .int .u32 (x1 : Int), .int .u32 (x2 : Int), .int .u16 (x3 : Int), .int .u16 (x4 : Int)] 29) = V ∧ V.heap[LB]? = some (.cells LC 65 (0, 0)) ∧ V.heap[w.heap.size]? = some (.cells #[.int .u8 (x0 : Int), .int .u32 (x1 : Int), .int .u32 (x2 : Int), .int .u16 (x3 : Int), .int .u16 (x4 : Int)] 29 (0, 0)) ∧ LB ≠ w.heap.size ∧ LB < V.heap.size ∧ w.grownBy V (some LB) :=
    ⟨_, rfl, below_block ((Below.refl w.heap.size w).alloc (Nat.le_refl _) _) hL (Nat.le_refl _), heap_alloc_new _ _, by have := lt_of_block hL; omega, by have := lt_of_block hL; simp; omega, gb_of_below ((Below.refl w.heap.size w).alloc (Nat.le_refl _) _)⟩
  obtain ⟨FB, hFB⟩ : ∃ B, w.heap.size = B := ⟨_, rfl⟩
  rw [hFB] at hVF hne
  have HE := hide (And.intro hV hFB)
  have HG := hide hgr
  have HL := hide hVL
  have q5 := cell_at hVL 5 h5
  have q19 := cell_at hVL 19 h19
  have q21 := cell_at hVL 21 h21
  have qf := free_at hVL
  have c0 : V.cell? ⟨FB, 0, none⟩ = some (.int .u8 (x0 : Int)) := cell_at hVF 0 rfl
  have c1 : V.cell? ⟨FB, 1, none⟩ = some (.int .u32 (x1 : Int)) := cell_at hVF 1 rfl
  have c2 : V.cell? ⟨FB, 2, none⟩ = some (.int .u32 (x2 : Int)) := cell_at hVF 2 rfl
  have c3 : V.cell? ⟨FB, 3, none⟩ = some (.int .u16 (x3 : Int)) := cell_at hVF 3 rfl
  have c4 : V.cell? ⟨FB, 4, none⟩ = some (.int .u16 (x4 : Int)) := cell_at hVF 4 rfl
  have HQ := hide (fun W => queryID_any mt x0 x1 x2 x3 x4 W)
  obtain ⟨i, hi⟩ : ∃ i, (if mt = 8 then x3 else x4 : Nat) = i := ⟨_, rfl⟩
  have hi2 : i ≤ 65535 := by rw [← hi]; split <;> omega
  rw [hi] at HQ hR
  have hw1 : IntKind.u32.wrap (i : Int) = (i : Int) := by rw [IntKind.wrap_u32]; omega
  have HRV := hide (rest_val i r hi2 hr)
  have hneL : LB ≠ FB := hne
  have hne2 : FB ≠ LB := fun e => hne e.symm
  have HLT := hide hlt
  clear hV hFB hVL hVF hgr hL h5 h19 h21 hi hne
  go_enter Try.func31, Try.ntmps31
  go_upto_region 1 with (fail)
  rw [HE.out.1]
  try rw [HE.out.2]
  clear HE
  go_upto_region 7 with (fail)
  go_region_with (go_at_call 55; (with_reducible refine (HQ.out _).mono ?_); rintro e w1 ⟨rfl, b⟩; (try replace b := below_of_drew b); have hL1 := below_block b HL.out (Nat.le_refl _); have k21 := (bcell b LB 21 HLT.out).trans q21; have kf := free_at hL1; have HL1 := hide hL1; have HG1 := hide (gb_trans HG.out (gb_of_below b)); clear hL1 b)
  all_goals
    rw [HRV.out, ← hR]
    have hs := set1g HL1.out HG1.out 21 (.int .u32 (R : Int))
    obtain ⟨W9, hW9, HL9, HG9⟩ : ∃ W, w1.setCell ⟨LB, 21, none⟩ (.int .u32 (R : Int)) = W ∧ Hid (W.heap[LB]? = some (.cells (LC.setIfInBounds 21 (.int .u32 (R : Int))) 65 (0, 0))) ∧ Hid (w.grownBy W (some LB)) := ⟨_, rfl, hide hs.1, hide hs.2⟩
    rw [hW9]
    clear hs hW9
    go_wp2_with fail
    go_end0
    exact ⟨rfl, HL9.out, HG9.out⟩
end Go.Proofs.Ytgggcapgaikbeaa

/- Flows: what is carried is put into a packet's body. -/
namespace Go.Proofs.Ytgggcapgaikbeaa
open Go.RowKit
set_option linter.unusedVariables false
set_option linter.unusedSimpArgs false
set_option maxRecDepth 100000
set_option maxHeartbeats 2000000 in
theorem write_tcp (w : World) (LB : Nat) (LC : Array Value) (tt id s d : Nat) (da : Option Addr) (n dc : Nat) (p q u v f g h : Nat) (oa : Option Addr) (m oc : Nat) (ba : Option Addr) (k bc : Nat) (N : Nat) (ys : List Int) (hL : w.heap[LB]? = some (.cells LC 65 (0, 0))) (h6 : LC[6]? = some (.int .u16 (p : Int))) (h7 : LC[7]? = some (.int .u16 (q : Int))) (h8 : LC[8]? = some (.int .u32 (u : Int))) (h9 : LC[9]? = some (.int .u32 (v : Int))) (h10 : LC[10]? = some (.int .u8 (f : Int))) (h11 : LC[11]? = some (.int .u16 (g : Int))) (h12 : LC[12]? = some (.int .u16 (h : Int))) (h13 : LC[13]? = some (.slice oa m oc)) (h14 : LC[14]? = some (.slice ba k bc))
    (HW : Hid (∀ W, Below w.heap.size w W → Calls Try.prog 57 #[.int .u32 (s : Int), .int .u32 (d : Int), .agg #[.int .u16 (p : Int), .int .u16 (q : Int), .int .u32 (u : Int), .int .u32 (v : Int), .int .u8 (f : Int), .int .u16 (g : Int), .int .u16 (h : Int), .slice oa m oc, .slice ba k bc]] W fun e w' => ∃ a c, e = .returned (.tuple #[.slice a N c, .int .i64 0]) ∧ w'.ownsRow W.heap.size 5 1 (.slice a N c) N (ys.map (Value.int .u8)) ∧ Below W.heap.size W w')) :
    Calls Try.prog 32 #[.pointer (some ⟨LB, 0, none⟩), .agg #[.int .u8 (tt : Int), .int .u8 6, .int .u16 (id : Int), .int .u32 (s : Int), .int .u32 (d : Int), .slice da n dc]] w fun e w' => ∃ a c, e = .returned (.slice a N c) ∧ w'.ownsRow w.heap.size 5 1 (.slice a N c) N (ys.map (Value.int .u8)) ∧ Below w.heap.size w w' := by
  have HL0 := hide hL
  have g6 := hide h6
  have g7 := hide h7
  have g8 := hide h8
  have g9 := hide h9
  have g10 := hide h10
  have g11 := hide h11
  have g12 := hide h12
  have g13 := hide h13
  have g14 := hide h14
  clear hL h6 h7 h8 h9 h10 h11 h12 h13 h14
  obtain ⟨V1, hV1⟩ : ∃ V, w.alloc (.cells #[.int .u8 (tt : Int), .int .u8 6, .int .u16 (id : Int), .int .u32 (s : Int), .int .u32 (d : Int), .slice da n dc] 27) = V := ⟨_, rfl⟩
  have hz1 : V1.heap.size = w.heap.size + 1 := by rw [← hV1]; simp
  have hb1 : Below w.heap.size w V1 := by rw [← hV1]; exact (Below.refl _ _).alloc (Nat.le_refl _) _
  have hp1_1 : V1.heap[w.heap.size]? = some (.cells #[.int .u8 (tt : Int), .int .u8 6, .int .u16 (id : Int), .int .u32 (s : Int), .int .u32 (d : Int), .slice da n dc] 27 (0, 0)) := by rw [← hV1]; exact heap_alloc_new _ _
  obtain ⟨BX, hBX⟩ : ∃ B, w.heap.size = B := ⟨_, rfl⟩
  have hw0 : w.heap.size ≤ BX := by omega
  have HX := hide (show V1.heap[BX]? = some (.cells #[.int .u8 (tt : Int), .int .u8 6, .int .u16 (id : Int), .int .u32 (s : Int), .int .u32 (d : Int), .slice da n dc] 27 (0, 0)) by rw [← hBX]; exact hp1_1)
  have NX : Hid (w.heap.size ≤ BX) := hide hw0
  have HB := hide hb1
  have HE := hide (And.intro (And.intro trivial trivial) (And.intro hV1 (And.intro hBX (trivial))))
  clear hw0 hV1 hz1 hb1  hp1_1 hBX 
  go_enter Try.func32, Try.ntmps32
  go_upto_region 1 with (fail)
  rw [HE.out.2.1]
  try rw [HE.out.2.2.1]
  clear HE
  have HL1 := hide (below_block HB.out HL0.out (Nat.le_refl _))
  have k0L6 : V1.cell? ⟨LB, 6, none⟩ = some (.int .u16 (p : Int)) := cell_at HL1.out 6 g6.out
  have k0L7 : V1.cell? ⟨LB, 7, none⟩ = some (.int .u16 (q : Int)) := cell_at HL1.out 7 g7.out
  have k0L8 : V1.cell? ⟨LB, 8, none⟩ = some (.int .u32 (u : Int)) := cell_at HL1.out 8 g8.out
  have k0L9 : V1.cell? ⟨LB, 9, none⟩ = some (.int .u32 (v : Int)) := cell_at HL1.out 9 g9.out
  have k0L10 : V1.cell? ⟨LB, 10, none⟩ = some (.int .u8 (f : Int)) := cell_at HL1.out 10 g10.out
  have k0L11 : V1.cell? ⟨LB, 11, none⟩ = some (.int .u16 (g : Int)) := cell_at HL1.out 11 g11.out
  have k0L12 : V1.cell? ⟨LB, 12, none⟩ = some (.int .u16 (h : Int)) := cell_at HL1.out 12 g12.out
  have k0L13 : V1.cell? ⟨LB, 13, none⟩ = some (.slice oa m oc) := cell_at HL1.out 13 g13.out
  have k0L14 : V1.cell? ⟨LB, 14, none⟩ = some (.slice ba k bc) := cell_at HL1.out 14 g14.out
  have hlL := lt_of_block HL1.out
  have k0X3 : V1.cell? ⟨BX, 3, none⟩ = some (.int .u32 (s : Int)) := cell_at HX.out 3 rfl
  have k0X4 : V1.cell? ⟨BX, 4, none⟩ = some (.int .u32 (d : Int)) := cell_at HX.out 4 rfl
  have hlX := lt_of_block HX.out
  have k0X1 : V1.cell? ⟨BX, 1, none⟩ = some (.int .u8 6) := cell_at HX.out 1 rfl
  have HBB := hide (Below.refl V1.heap.size V1)
  go_upto_region 4 with (fail)
  go_region_held3 (fun w' => w'.cell? ⟨BX, 3, none⟩ = some (.int .u32 (s : Int)) ∧ w'.cell? ⟨BX, 4, none⟩ = some (.int .u32 (d : Int)) ∧ w'.cell? ⟨LB, 6, none⟩ = some (.int .u16 (p : Int)) ∧ w'.cell? ⟨LB, 7, none⟩ = some (.int .u16 (q : Int)) ∧ w'.cell? ⟨LB, 8, none⟩ = some (.int .u32 (u : Int)) ∧ w'.cell? ⟨LB, 9, none⟩ = some (.int .u32 (v : Int)) ∧ w'.cell? ⟨LB, 10, none⟩ = some (.int .u8 (f : Int)) ∧ w'.cell? ⟨LB, 11, none⟩ = some (.int .u16 (g : Int)) ∧ w'.cell? ⟨LB, 12, none⟩ = some (.int .u16 (h : Int)) ∧ w'.cell? ⟨LB, 13, none⟩ = some (.slice oa m oc) ∧ w'.cell? ⟨LB, 14, none⟩ = some (.slice ba k bc)) (go_keep) (first
      | (go_at_call 57; (with_reducible refine (HW.out _ (by first | exact HB.out | exact HB.out.drew)).mono ?_); rintro e z1 ⟨a9, c9, rfl, o, b⟩; (try replace b := below_of_drew b); have HBB := hide (HBB.out.trans (b.mono HBB.out.size)); have HO := hide o; have k1X3 := (bcell HBB.out BX 3 hlX).trans k0X3; have k1X4 := (bcell HBB.out BX 4 hlX).trans k0X4; have k1L6 := (bcell HBB.out LB 6 hlL).trans k0L6; have k1L7 := (bcell HBB.out LB 7 hlL).trans k0L7; have k1L8 := (bcell HBB.out LB 8 hlL).trans k0L8; have k1L9 := (bcell HBB.out LB 9 hlL).trans k0L9; have k1L10 := (bcell HBB.out LB 10 hlL).trans k0L10; have k1L11 := (bcell HBB.out LB 11 hlL).trans k0L11; have k1L12 := (bcell HBB.out LB 12 hlL).trans k0L12; have k1L13 := (bcell HBB.out LB 13 hlL).trans k0L13; have k1L14 := (bcell HBB.out LB 14 hlL).trans k0L14; clear b o)
      | fail)
  all_goals (try go_wp2_with fail)
  all_goals go_ret
  all_goals exact ⟨a9, c9, rfl, owns_mono HO.out HB.out.size, HB.out.trans (HBB.out.mono HB.out.size)⟩
set_option maxHeartbeats 2000000 in
theorem write_udp (w : World) (LB : Nat) (LC : Array Value) (tt id s d : Nat) (da : Option Addr) (n dc : Nat) (p q : Nat) (pl : Bool) (ba : Option Addr) (k bc : Nat) (N : Nat) (ys : List Int) (hL : w.heap[LB]? = some (.cells LC 65 (0, 0))) (h15 : LC[15]? = some (.int .u16 (p : Int))) (h16 : LC[16]? = some (.int .u16 (q : Int))) (h17 : LC[17]? = some (.bool pl)) (h18 : LC[18]? = some (.slice ba k bc))
    (HW : Hid (∀ W, Below w.heap.size w W → Calls Try.prog 58 #[.int .u32 (s : Int), .int .u32 (d : Int), .agg #[.int .u16 (p : Int), .int .u16 (q : Int), .bool pl, .slice ba k bc]] W fun e w' => ∃ a c, e = .returned (.tuple #[.slice a N c, .int .i64 0]) ∧ w'.ownsRow W.heap.size 5 1 (.slice a N c) N (ys.map (Value.int .u8)) ∧ Below W.heap.size W w')) :
    Calls Try.prog 32 #[.pointer (some ⟨LB, 0, none⟩), .agg #[.int .u8 (tt : Int), .int .u8 17, .int .u16 (id : Int), .int .u32 (s : Int), .int .u32 (d : Int), .slice da n dc]] w fun e w' => ∃ a c, e = .returned (.slice a N c) ∧ w'.ownsRow w.heap.size 5 1 (.slice a N c) N (ys.map (Value.int .u8)) ∧ Below w.heap.size w w' := by
  have HL0 := hide hL
  have g15 := hide h15
  have g16 := hide h16
  have g17 := hide h17
  have g18 := hide h18
  clear hL h15 h16 h17 h18
  obtain ⟨V1, hV1⟩ : ∃ V, w.alloc (.cells #[.int .u8 (tt : Int), .int .u8 17, .int .u16 (id : Int), .int .u32 (s : Int), .int .u32 (d : Int), .slice da n dc] 27) = V := ⟨_, rfl⟩
  have hz1 : V1.heap.size = w.heap.size + 1 := by rw [← hV1]; simp
  have hb1 : Below w.heap.size w V1 := by rw [← hV1]; exact (Below.refl _ _).alloc (Nat.le_refl _) _
  have hp1_1 : V1.heap[w.heap.size]? = some (.cells #[.int .u8 (tt : Int), .int .u8 17, .int .u16 (id : Int), .int .u32 (s : Int), .int .u32 (d : Int), .slice da n dc] 27 (0, 0)) := by rw [← hV1]; exact heap_alloc_new _ _
  obtain ⟨BX, hBX⟩ : ∃ B, w.heap.size = B := ⟨_, rfl⟩
  have hw0 : w.heap.size ≤ BX := by omega
  have HX := hide (show V1.heap[BX]? = some (.cells #[.int .u8 (tt : Int), .int .u8 17, .int .u16 (id : Int), .int .u32 (s : Int), .int .u32 (d : Int), .slice da n dc] 27 (0, 0)) by rw [← hBX]; exact hp1_1)
  have NX : Hid (w.heap.size ≤ BX) := hide hw0
  have HB := hide hb1
  have HE := hide (And.intro (And.intro trivial trivial) (And.intro hV1 (And.intro hBX (trivial))))
  clear hw0 hV1 hz1 hb1  hp1_1 hBX 
  go_enter Try.func32, Try.ntmps32
  go_upto_region 1 with (fail)
  rw [HE.out.2.1]
  try rw [HE.out.2.2.1]
  clear HE
  have HL1 := hide (below_block HB.out HL0.out (Nat.le_refl _))
  have k0L15 : V1.cell? ⟨LB, 15, none⟩ = some (.int .u16 (p : Int)) := cell_at HL1.out 15 g15.out
  have k0L16 : V1.cell? ⟨LB, 16, none⟩ = some (.int .u16 (q : Int)) := cell_at HL1.out 16 g16.out
  have k0L17 : V1.cell? ⟨LB, 17, none⟩ = some (.bool pl) := cell_at HL1.out 17 g17.out
  have k0L18 : V1.cell? ⟨LB, 18, none⟩ = some (.slice ba k bc) := cell_at HL1.out 18 g18.out
  have hlL := lt_of_block HL1.out
  have k0X3 : V1.cell? ⟨BX, 3, none⟩ = some (.int .u32 (s : Int)) := cell_at HX.out 3 rfl
  have k0X4 : V1.cell? ⟨BX, 4, none⟩ = some (.int .u32 (d : Int)) := cell_at HX.out 4 rfl
  have hlX := lt_of_block HX.out
  have k0X1 : V1.cell? ⟨BX, 1, none⟩ = some (.int .u8 17) := cell_at HX.out 1 rfl
  have HBB := hide (Below.refl V1.heap.size V1)
  go_upto_region 6 with (fail)
  go_region_held3 (fun w' => w'.cell? ⟨BX, 3, none⟩ = some (.int .u32 (s : Int)) ∧ w'.cell? ⟨BX, 4, none⟩ = some (.int .u32 (d : Int)) ∧ w'.cell? ⟨LB, 15, none⟩ = some (.int .u16 (p : Int)) ∧ w'.cell? ⟨LB, 16, none⟩ = some (.int .u16 (q : Int)) ∧ w'.cell? ⟨LB, 17, none⟩ = some (.bool pl) ∧ w'.cell? ⟨LB, 18, none⟩ = some (.slice ba k bc)) (go_keep) (first
      | (go_at_call 58; (with_reducible refine (HW.out _ (by first | exact HB.out | exact HB.out.drew)).mono ?_); rintro e z1 ⟨a9, c9, rfl, o, b⟩; (try replace b := below_of_drew b); have HBB := hide (HBB.out.trans (b.mono HBB.out.size)); have HO := hide o; have k1X3 := (bcell HBB.out BX 3 hlX).trans k0X3; have k1X4 := (bcell HBB.out BX 4 hlX).trans k0X4; have k1L15 := (bcell HBB.out LB 15 hlL).trans k0L15; have k1L16 := (bcell HBB.out LB 16 hlL).trans k0L16; have k1L17 := (bcell HBB.out LB 17 hlL).trans k0L17; have k1L18 := (bcell HBB.out LB 18 hlL).trans k0L18; clear b o)
      | fail)
  all_goals (try go_wp2_with fail)
  all_goals go_ret
  all_goals exact ⟨a9, c9, rfl, owns_mono HO.out HB.out.size, HB.out.trans (HBB.out.mono HB.out.size)⟩
set_option maxHeartbeats 2000000 in
theorem write_icmp (w : World) (LB : Nat) (LC : Array Value) (tt id s d : Nat) (da : Option Addr) (n dc : Nat) (p q r : Nat) (ba : Option Addr) (k bc : Nat) (N : Nat) (ys : List Int) (hL : w.heap[LB]? = some (.cells LC 65 (0, 0))) (h19 : LC[19]? = some (.int .u8 (p : Int))) (h20 : LC[20]? = some (.int .u8 (q : Int))) (h21 : LC[21]? = some (.int .u32 (r : Int))) (h22 : LC[22]? = some (.slice ba k bc))
    (HW : Hid (∀ W, Below w.heap.size w W → Calls Try.prog 59 #[.agg #[.int .u8 (p : Int), .int .u8 (q : Int), .int .u32 (r : Int), .slice ba k bc]] W fun e w' => ∃ a c, e = .returned (.tuple #[.slice a N c, .int .i64 0]) ∧ w'.ownsRow W.heap.size 5 1 (.slice a N c) N (ys.map (Value.int .u8)) ∧ Below W.heap.size W w')) :
    Calls Try.prog 32 #[.pointer (some ⟨LB, 0, none⟩), .agg #[.int .u8 (tt : Int), .int .u8 1, .int .u16 (id : Int), .int .u32 (s : Int), .int .u32 (d : Int), .slice da n dc]] w fun e w' => ∃ a c, e = .returned (.slice a N c) ∧ w'.ownsRow w.heap.size 5 1 (.slice a N c) N (ys.map (Value.int .u8)) ∧ Below w.heap.size w w' := by
  have HL0 := hide hL
  have g19 := hide h19
  have g20 := hide h20
  have g21 := hide h21
  have g22 := hide h22
  clear hL h19 h20 h21 h22
  obtain ⟨V1, hV1⟩ : ∃ V, w.alloc (.cells #[.int .u8 (tt : Int), .int .u8 1, .int .u16 (id : Int), .int .u32 (s : Int), .int .u32 (d : Int), .slice da n dc] 27) = V := ⟨_, rfl⟩
  have hz1 : V1.heap.size = w.heap.size + 1 := by rw [← hV1]; simp
  have hb1 : Below w.heap.size w V1 := by rw [← hV1]; exact (Below.refl _ _).alloc (Nat.le_refl _) _
  have hp1_1 : V1.heap[w.heap.size]? = some (.cells #[.int .u8 (tt : Int), .int .u8 1, .int .u16 (id : Int), .int .u32 (s : Int), .int .u32 (d : Int), .slice da n dc] 27 (0, 0)) := by rw [← hV1]; exact heap_alloc_new _ _
  obtain ⟨BX, hBX⟩ : ∃ B, w.heap.size = B := ⟨_, rfl⟩
  have hw0 : w.heap.size ≤ BX := by omega
  have HX := hide (show V1.heap[BX]? = some (.cells #[.int .u8 (tt : Int), .int .u8 1, .int .u16 (id : Int), .int .u32 (s : Int), .int .u32 (d : Int), .slice da n dc] 27 (0, 0)) by rw [← hBX]; exact hp1_1)
  have NX : Hid (w.heap.size ≤ BX) := hide hw0
  have HB := hide hb1
  have HE := hide (And.intro (And.intro trivial trivial) (And.intro hV1 (And.intro hBX (trivial))))
  clear hw0 hV1 hz1 hb1  hp1_1 hBX 
  go_enter Try.func32, Try.ntmps32
  go_upto_region 1 with (fail)
  rw [HE.out.2.1]
  try rw [HE.out.2.2.1]
  clear HE
  have HL1 := hide (below_block HB.out HL0.out (Nat.le_refl _))
  have k0L19 : V1.cell? ⟨LB, 19, none⟩ = some (.int .u8 (p : Int)) := cell_at HL1.out 19 g19.out
  have k0L20 : V1.cell? ⟨LB, 20, none⟩ = some (.int .u8 (q : Int)) := cell_at HL1.out 20 g20.out
  have k0L21 : V1.cell? ⟨LB, 21, none⟩ = some (.int .u32 (r : Int)) := cell_at HL1.out 21 g21.out
  have k0L22 : V1.cell? ⟨LB, 22, none⟩ = some (.slice ba k bc) := cell_at HL1.out 22 g22.out
  have hlL := lt_of_block HL1.out
  have k0X3 : V1.cell? ⟨BX, 3, none⟩ = some (.int .u32 (s : Int)) := cell_at HX.out 3 rfl
  have k0X4 : V1.cell? ⟨BX, 4, none⟩ = some (.int .u32 (d : Int)) := cell_at HX.out 4 rfl
  have hlX := lt_of_block HX.out
  have k0X1 : V1.cell? ⟨BX, 1, none⟩ = some (.int .u8 1) := cell_at HX.out 1 rfl
  have HBB := hide (Below.refl V1.heap.size V1)
  go_upto_region 8 with (fail)
  go_wp2_with fail
  refine (HW.out _ HB.out).mono ?_
  rintro e z1 ⟨a9, c9, rfl, o, b⟩
  have HO := hide o
  have HBB := hide b
  clear o b
  go_wp2_with fail
  go_ret
  exact ⟨a9, c9, rfl, owns_mono HO.out HB.out.size, HB.out.trans (HBB.out.mono HB.out.size)⟩
end Go.Proofs.Ytgggcapgaikbeaa

/- What trans.WriteICMP answers. -/
namespace Go.Proofs.Ytgggcapgaikbeaa
open Go.RowKit
set_option linter.unusedVariables false
set_option linter.unusedSimpArgs false
set_option maxRecDepth 100000
theorem bel_lit {V w' : World} {o : Obj} (h : Below (V.alloc o).heap.size (V.alloc o) w') : Below V.heap.size V w' := by
  have hb : Below V.heap.size V (V.alloc o) := (Below.refl _ _).alloc (Nat.le_refl _) _
  exact hb.trans (h.mono hb.size)
theorem lit_row {V w' : World} {x y : Int} (h : Below (V.alloc (.cells #[.int .u8 x, .int .u8 y] 5)).heap.size (V.alloc (.cells #[.int .u8 x, .int .u8 y] 5)) w') : Row .u8 w' (some ⟨V.heap.size, 0, none⟩) [x, y] :=
  (Row.of_owns (k := .u8) (xs := [x, y]) (base := V.heap.size) (e := 5) (n := 2) (cap := 2) (World.ownsRow_lit V #[.int .u8 x, .int .u8 y] 2 (Nat.le_refl _) (by unfold maxLen; omega) rfl)).below h (Nat.le_refl _)
theorem lit_row_d {V w' : World} {x y : Int} (h : Below (V.alloc (.cells #[.int .u8 x, .int .u8 y] 5)).drew.heap.size (V.alloc (.cells #[.int .u8 x, .int .u8 y] 5)).drew w') : Row .u8 w' (some ⟨V.heap.size, 0, none⟩) [x, y] := lit_row (below_of_drew h)

/-- A message's bytes without its check sum; the bytes. -/
def icmpG (p q r : Nat) (xs : List Int) (k : Nat) : List Int := [(p : Int), (q : Int)] ++ (numB 2 k ++ (numB 4 r ++ xs))
theorem icmpG_len (p q r : Nat) (xs : List Int) (k : Nat) : (icmpG p q r xs k).length = 8 + xs.length := by simp [icmpG, numB_len]; omega
theorem icmpG_rng (p q r : Nat) (xs : List Int) (k : Nat) (hp : p ≤ 255) (hq : q ≤ 255) (hb : ∀ x ∈ xs, 0 ≤ x ∧ x ≤ 255) : ∀ x ∈ icmpG p q r xs k, 0 ≤ x ∧ x ≤ 255 := by
  intro x hx
  simp only [icmpG, List.mem_append, List.mem_cons, List.not_mem_nil, or_false] at hx
  rcases hx with (h | h) | h | h | h
  · omega
  · omega
  · exact numB_rng _ _ x h
  · exact numB_rng _ _ x h
  · exact hb x h
def icmpK (p q r : Nat) (xs : List Int) : Int := csum (icmpG p q r xs 0)
theorem icmp_spl (p q r : Nat) (xs : List Int) (k m : Nat) : spl (icmpG p q r xs k) 2 (numB 2 m) = icmpG p q r xs m := by
  unfold spl icmpG
  rw [numB_len, List.take_left' (by rfl), List.drop_append]
  simp [numB_len, List.drop_append]
set_option maxHeartbeats 1600000 in
theorem wicmp_ok (w : World) (p q r : Nat) (da : Option Addr) (xs : List Int) (n dc : Nat) (hr : Row .u8 w da xs) (hn : da = none → dc = 0) (hl : xs.length = n) (hb : ∀ x ∈ xs, 0 ≤ x ∧ x ≤ 255) (h1 : n ≤ 1472) (hp : p ≤ 255) (hq : q ≤ 255) (hrr : r ≤ 4294967295) :
    Calls Try.prog 59 #[.agg #[.int .u8 (p : Int), .int .u8 (q : Int), .int .u32 (r : Int), .slice da n dc]] w fun e w' => ∃ a c,
      e = .returned (.tuple #[.slice a (8 + n) c, .int .i64 0]) ∧ w'.ownsRow w.heap.size 5 1 (.slice a (8 + n) c) (8 + n) ((icmpG p q r xs (icmpK p q r xs).toNat).map (Value.int .u8)) ∧ Below w.heap.size w w' := by
  have HR := hide hr
  have HN := hide hn
  have HL := hide hl
  have HBR := hide (icmpG_rng p q r xs 0 hp hq hb)
  have hZL := icmpG_len p q r xs 0
  rw [HL.out] at hZL
  have HZL := hide hZL
  clear hr hn hl hb hZL
  go_enter Try.func59, Try.ntmps59
  go_wp2_with fail
  obtain ⟨B0, w0, hB, hqq, hl0, hbel, hheap⟩ : ∃ B0 wq, w.heap.size = B0 ∧ w.alloc (.cells #[.int .u8 (p : Int), .int .u8 (q : Int), .int .u32 (r : Int), .slice da n dc] 55) = wq ∧ B0 < wq.heap.size ∧ Below w.heap.size w wq ∧
      wq.heap[B0]? = some (.cells #[.int .u8 (p : Int), .int .u8 (q : Int), .int .u32 (r : Int), .slice da n dc] 55 (0, 0)) := ⟨_, _, rfl, rfl, by simp, (Below.refl _ _).alloc (Nat.le_refl _) _, heap_alloc_new _ _⟩
  rw [hqq, hB]
  have HB := hide hB
  have HH := hide hheap
  have k0_0 : w0.cell? ⟨B0, 0, none⟩ = some (.int .u8 (p : Int)) := by simp only [World.cell?, hheap]; rfl
  have k0_1 : w0.cell? ⟨B0, 1, none⟩ = some (.int .u8 (q : Int)) := by simp only [World.cell?, hheap]; rfl
  have k0_2 : w0.cell? ⟨B0, 2, none⟩ = some (.int .u32 (r : Int)) := by simp only [World.cell?, hheap]; rfl
  have k0_3 : w0.cell? ⟨B0, 3, none⟩ = some (.slice da n dc) := by simp only [World.cell?, hheap]; rfl
  have RS := hide (HR.out.below hbel (Nat.le_refl _))
  have BW := hide hbel
  have hw1 : IntKind.u64.wrap (r : Int) = (r : Int) := wraps_u64 _ (by omega) (by omega)
  clear hqq hB hheap hbel
  go_cut [4] (fun v wx => ∃ a c, v = .slice a (8 + n) c ∧ Hid (wx.ownsRow w.heap.size 5 1 (.slice a (8 + n) c) (8 + n) ((icmpG p q r xs 0).map (Value.int .u8))) ∧ Hid (Below w.heap.size w wx))
  case first =>
    go_region_held3 (fun w' => w'.cell? ⟨B0, 0, none⟩ = some (.int .u8 (p : Int)) ∧ w'.cell? ⟨B0, 1, none⟩ = some (.int .u8 (q : Int)) ∧ w'.cell? ⟨B0, 2, none⟩ = some (.int .u32 (r : Int)) ∧ w'.cell? ⟨B0, 3, none⟩ = some (.slice da n dc)) (go_keep) (first
    | (go_at_call 74; (with_reducible refine (num2_zero _).mono ?_); rintro e w1 ⟨rfl, o, b⟩; have B1 : Below w0.heap.size w0 w1 := (by first | exact b | exact below_of_drew b | exact bel_lit b | exact below_of_drew (bel_lit b) | exact bel_lit (below_of_drew b)); have k1_0 : w1.cell? ⟨B0, 0, none⟩ = some (.int .u8 (p : Int)) := (bcell B1 B0 0 hl0).trans k0_0; have k1_1 : w1.cell? ⟨B0, 1, none⟩ = some (.int .u8 (q : Int)) := (bcell B1 B0 1 hl0).trans k0_1; have k1_2 : w1.cell? ⟨B0, 2, none⟩ = some (.int .u32 (r : Int)) := (bcell B1 B0 2 hl0).trans k0_2; have k1_3 : w1.cell? ⟨B0, 3, none⟩ = some (.slice da n dc) := (bcell B1 B0 3 hl0).trans k0_3; have hl1 : B0 < w1.heap.size := Nat.lt_of_lt_of_le hl0 B1.size; have R1 := hide (Row.of_owns o); have RS := hide (RS.out.below B1 (Nat.le_refl _)); have BW := hide (BW.out.trans (B1.mono BW.out.size)); (first | (have RL := hide (RL.out.below B1 (Nat.le_refl _))) | (have RL := hide (lit_row b)) | (have RL := hide (lit_row_d b)) | skip); clear o b B1 k0_0 k0_1 k0_2 k0_3)
    | (go_at_call 74; (with_reducible refine (num4_any r _ ?_).mono ?_); omega; rintro e w2 ⟨rfl, o, b⟩; have B2 : Below w1.heap.size w1 w2 := (by first | exact b | exact below_of_drew b | exact bel_lit b | exact below_of_drew (bel_lit b) | exact bel_lit (below_of_drew b)); have k2_0 : w2.cell? ⟨B0, 0, none⟩ = some (.int .u8 (p : Int)) := (bcell B2 B0 0 hl1).trans k1_0; have k2_1 : w2.cell? ⟨B0, 1, none⟩ = some (.int .u8 (q : Int)) := (bcell B2 B0 1 hl1).trans k1_1; have k2_2 : w2.cell? ⟨B0, 2, none⟩ = some (.int .u32 (r : Int)) := (bcell B2 B0 2 hl1).trans k1_2; have k2_3 : w2.cell? ⟨B0, 3, none⟩ = some (.slice da n dc) := (bcell B2 B0 3 hl1).trans k1_3; have hl2 : B0 < w2.heap.size := Nat.lt_of_lt_of_le hl1 B2.size; have R1 := hide (R1.out.below B2 (Nat.le_refl _)); have R2 := hide (Row.of_owns o); have RS := hide (RS.out.below B2 (Nat.le_refl _)); have BW := hide (BW.out.trans (B2.mono BW.out.size)); (first | (have RL := hide (RL.out.below B2 (Nat.le_refl _))) | (have RL := hide (lit_row b)) | (have RL := hide (lit_row_d b)) | skip); clear o b B2 k1_0 k1_1 k1_2 k1_3)
    | (go_at_call 73; have hrows := hide (rows_some (c := 2) RL.out (rows_some (c := 2) R1.out (rows_some (c := 4) R2.out (rows_cons (c := dc) RS.out HN.out (rows_nil _))))); (with_reducible refine (joinL w2 _ _ 4 (8 + n) _ rfl rfl (by simp [Part.v, numB_len, HL.out]) hrows.out (by simp [flat, numB_len, HL.out]; omega) (by omega) (by omega)).mono ?_); rintro e wj ⟨aj, cj, rfl, oj, bj⟩; have OJ := hide (owns_mono oj BW.out.size); have BJ := hide bj; have kj_0 : wj.cell? ⟨B0, 0, none⟩ = some (.int .u8 (p : Int)) := (bcell BJ.out B0 0 hl2).trans k2_0; have kj_1 : wj.cell? ⟨B0, 1, none⟩ = some (.int .u8 (q : Int)) := (bcell BJ.out B0 1 hl2).trans k2_1; have kj_2 : wj.cell? ⟨B0, 2, none⟩ = some (.int .u32 (r : Int)) := (bcell BJ.out B0 2 hl2).trans k2_2; have kj_3 : wj.cell? ⟨B0, 3, none⟩ = some (.slice da n dc) := (bcell BJ.out B0 3 hl2).trans k2_3; clear oj bj)
    | (go_at_call 73; have BA : Below w2.heap.size w2 (w2.alloc (.cells #[.int .u8 (p : Int), .int .u8 (q : Int)] 5)) := (Below.refl _ _).alloc (Nat.le_refl _) _; have hrows := hide (rows_some (c := 2) (lit_row (Below.refl _ _)) (rows_some (c := 2) (Row.below (R1.out) BA (Nat.le_refl _)) (rows_some (c := 4) (Row.below (R2.out) BA (Nat.le_refl _)) (rows_cons (c := dc) (Row.below (RS.out) BA (Nat.le_refl _)) HN.out (rows_nil _))))); (with_reducible refine (joinL (w2.alloc (.cells #[.int .u8 (p : Int), .int .u8 (q : Int)] 5)) _ _ 4 (8 + n) _ ?_ rfl (by simp [Part.v, numB_len, HL.out]) hrows.out (by simp [flat, numB_len, HL.out]; omega) (by omega) (by omega)).mono ?_); (simp); rintro e wj ⟨aj, cj, rfl, oj, bj⟩; have OJ := hide (owns_mono oj (Nat.le_trans BW.out.size BA.size)); have BJ := hide (BA.trans (bj.mono BA.size)); have kj_0 : wj.cell? ⟨B0, 0, none⟩ = some (.int .u8 (p : Int)) := (bcell BJ.out B0 0 hl2).trans k2_0; have kj_1 : wj.cell? ⟨B0, 1, none⟩ = some (.int .u8 (q : Int)) := (bcell BJ.out B0 1 hl2).trans k2_1; have kj_2 : wj.cell? ⟨B0, 2, none⟩ = some (.int .u32 (r : Int)) := (bcell BJ.out B0 2 hl2).trans k2_2; have kj_3 : wj.cell? ⟨B0, 3, none⟩ = some (.slice da n dc) := (bcell BJ.out B0 3 hl2).trans k2_3; clear oj bj)
    | fail)
    all_goals
      have hfz : ∀ (A B C : Option Addr), flat [(A, [(p : Int), (q : Int)], 2), (B, numB 2 0, 2), (C, numB 4 r, 4), (da, xs, dc)] = icmpG p q r xs 0 := fun _ _ _ => by simp [flat, icmpG]
      have hz := OJ.out
      rw [hfz] at hz
      have OZ := hide hz
      have BZ := hide (BW.out.trans (BJ.out.mono BW.out.size))
      clear hz hfz
      try go_wp2_with fail
      go_meet
      exact ⟨aj, cj, rfl, OZ, BZ⟩
  case rest =>
    obtain ⟨a5, c5, rfl, OZ, BZ⟩ := hcut
    have hrow5 := hide (rows_cons (c := c5) (Row.of_owns OZ.out) (none_cap OZ.out) (rows_nil wc))
    go_wp2_with fail
    have hfl : flat [(a5, icmpG p q r xs 0, c5)] = icmpG p q r xs 0 := by simp [flat]
    have hsm := sumL wc [(a5, icmpG p q r xs 0, c5)] #[.slice a5 (8 + n) c5] 1 _ rfl rfl (by simp [Part.v, HZL.out]) hrow5.out (by rw [hfl, HZL.out]; omega) (by rw [hfl]; exact HBR.out) (by omega)
    rw [hfl] at hsm
    have HSM := hide hsm
    clear hsm hfl
    refine HSM.out.mono ?_
    rintro e w7 ⟨rfl, b7⟩
    have OZ7 := hide (owns_below OZ.out b7 (Nat.le_refl _))
    have hb07 := hide (BZ.out.trans (b7.mono BZ.out.size))
    clear b7
    have hcr := csum_rng (icmpG p q r xs 0)
    have hKe : csum (icmpG p q r xs 0) = (((icmpK p q r xs).toNat : Nat) : Int) := by unfold icmpK; omega
    have hKle : (icmpK p q r xs).toNat ≤ 65535 := by unfold icmpK; omega
    rw [hKe]
    obtain ⟨k, HKK⟩ : ∃ k, Hid ((icmpK p q r xs).toNat = k) := ⟨_, rfl⟩
    rw [HKK.out] at hKle ⊢
    clear hKe hcr
    have hlay := lay_any w.heap.size (8 + n) c5 2 a5 (icmpG p q r xs 0) k w7 OZ7.out hb07.out.size (by omega) (by omega) hKle
    rw [icmp_spl] at hlay
    have HLY := hide hlay
    clear hlay
    go_wp2_with fail
    refine HLY.out.mono ?_
    rintro e w9 ⟨rfl, o9, b9⟩
    have O9 := hide o9
    have B9 := hide (hb07.out.trans b9)
    clear o9 b9
    go_wp2
    go_ret2
    exact ⟨a5, c5, rfl, by rw [HKK.out]; exact O9.out, B9.out⟩
end Go.Proofs.Ytgggcapgaikbeaa
