/- Ports: the set's memory, and its small functions walked. -/
import Derived.Test.YtafoiblacmjpdaaDoorPPl
import Derived.Test.YtafoiblacmjpdaaDoorProg
import Derived.IntWalk
import Derived.Below
import Derived.OneCell
import Derived.Laws.Rows
import Derived.Deep.RegionHeld3
import Derived.Deep.QuietTactic
import Derived.BigQuiet
import Derived.Deep.Cut
import Derived.Deep.WholeRow
import Derived.Deep.MidRow
import Derived.ProofKit
import Derived.OpenShut
import Derived.Shelf.Spec.TrailingZeros
namespace Go.Proofs.YtafoiblacmjpdaaDoor
open Go.RowKit
set_option linter.unusedVariables false
set_option linter.unusedSimpArgs false
set_option maxRecDepth 100000
theorem hide {p : Prop} (h : p) : Hid p := h
theorem bdrewN {B : Nat} {a w : World} (h : Below B a w) (n : Nat) : Below B a (w.drewN n) := h.trans ⟨rfl, rfl, rfl, Nat.le_refl _, fun _ _ => rfl⟩
theorem below_block {w w' : World} {R B : Nat} {o : Obj} (h : Below B w w') (ho : w.heap[R]? = some o) (hB : w.heap.size ≤ B) : w'.heap[R]? = some o := (h.block R (Nat.lt_of_lt_of_le (lt_of_block ho) hB)).trans ho
/-- Only block B may have changed; what is new lies behind. -/
structure OnlyB (B : Nat) (w w' : World) : Prop where
  os : w'.os = w.os
  tape : w'.tape = w.tape
  output : w'.output = w.output
  size : w.heap.size ≤ w'.heap.size
  block : ∀ k, k < w.heap.size → k ≠ B → w'.heap[k]? = w.heap[k]?
theorem OnlyB.refl (B : Nat) (w : World) : OnlyB B w w := ⟨rfl, rfl, rfl, Nat.le_refl _, fun _ _ _ => rfl⟩
theorem OnlyB.trans {B : Nat} {a b c : World} (h : OnlyB B a b) (k : OnlyB B b c) : OnlyB B a c :=
  ⟨k.os.trans h.os, k.tape.trans h.tape, k.output.trans h.output, Nat.le_trans h.size k.size, fun i hi hn => (k.block i (Nat.lt_of_lt_of_le hi h.size) hn).trans (h.block i hi hn)⟩
theorem OnlyB.of {B : Nat} {w w' : World} (h : Below w.heap.size w w') : OnlyB B w w' := ⟨h.os, h.tape, h.output, h.size, fun k hk _ => h.block k hk⟩
theorem OnlyB.drew {B : Nat} {a w : World} (h : OnlyB B a w) : OnlyB B a w.drew := ⟨h.os, h.tape, h.output, h.size, h.block⟩
theorem OnlyB.drewN {B : Nat} {a w : World} (h : OnlyB B a w) (n : Nat) : OnlyB B a (w.drewN n) := h.trans ⟨rfl, rfl, rfl, Nat.le_refl _, fun _ _ _ => rfl⟩
theorem OnlyB.alloc {B : Nat} {a w : World} (h : OnlyB B a w) (o : Obj) : OnlyB B a (w.alloc o) :=
  h.trans (.of ((Below.refl _ w).alloc (Nat.le_refl _) o))
theorem OnlyB.setCell {B : Nat} {a w : World} (h : OnlyB B a w) (i : Nat) (u : Value) : OnlyB B a (w.setCell ⟨B, i, none⟩ u) :=
  h.trans ⟨rfl, rfl, rfl, by simp [World.setCell], fun k _ hn => Below.heap_setCell _ _ _ _ hn⟩
theorem OnlyB.setNew {B : Nat} {a w : World} (h : OnlyB B a w) {p : Addr} (hp : a.heap.size ≤ p.block) (u : Value) : OnlyB B a (w.setCell p u) :=
  ⟨h.os, h.tape, h.output, by simp [World.setCell]; exact h.size, fun k hk hn => (Below.heap_setCell _ _ _ _ (by omega)).trans (h.block k hk hn)⟩
theorem OnlyB.below {B K : Nat} {w w' : World} (h : OnlyB B w w') (hB : K ≤ B) (hK : K ≤ w.heap.size) : Below K w w' :=
  ⟨h.os, h.tape, h.output, h.size, fun k hk => h.block k (by omega) (by omega)⟩
theorem bcells {W w1 : World} (hb : Below W.heap.size W w1) : (∀ b o, b < W.heap.size → w1.cell? ⟨b, o, none⟩ = W.cell? ⟨b, o, none⟩) ∧ (∀ b o, b < W.heap.size → w1.frozen? ⟨b, o, none⟩ = W.frozen? ⟨b, o, none⟩) :=
  ⟨fun b o h => hb.cell (p := ⟨b, o, none⟩) h, fun b o h => hb.frozen (p := ⟨b, o, none⟩) h⟩

def Drew (w w' : World) : Prop := ∃ k, w' = w.drewN k

theorem Drew.below {w w' : World} (h : Drew w w') : Below w.heap.size w w' := by obtain ⟨k, rfl⟩ := h; exact bdrewN (Below.refl _ _) k
theorem heap_set {w : World} {S : Nat} {T : TypeId} {cs cs' : Array Value} (h : w.heap[S]? = some (.cells cs T (0, 0))) (i : Nat) (v : Value) (hu : cs.setIfInBounds i v = cs') : (w.setCell ⟨S, i, none⟩ v).heap[S]? = some (.cells cs' T (0, 0)) := by
  rw [← hu]; exact heap_setCell_same w S i cs T v h
/-- The set in its block: its words, and how many are taken. -/
def PAt (w : World) (B : Nat) (t : Nat → Bool) (n : Int) : Prop := ∃ cs : Array Value, w.heap[B]? = some (.cells cs 52 (0, 0)) ∧ cs.size = 1009 ∧ (∀ i, i < 1008 → cs[i]? = some (.int .u64 ((wd t i : Nat) : Int))) ∧ cs[1008]? = some (.int .i64 n)
theorem PAt.below {w w' : World} {B K : Nat} {t : Nat → Bool} {n : Int} (h : PAt w B t n) (hb : Below K w w') (hK : w.heap.size ≤ K) : PAt w' B t n := by
  obtain ⟨cs, h1, h2⟩ := h
  exact ⟨cs, below_block hb h1 hK, h2⟩
theorem PAt.lt {w : World} {B : Nat} {t : Nat → Bool} {n : Int} (h : PAt w B t n) : B < w.heap.size := lt_of_block h.choose_spec.1
theorem PAt.word {w : World} {B : Nat} {t : Nat → Bool} {n : Int} (h : PAt w B t n) (i : Nat) (hi : i < 1008) : w.cell? ⟨B, i, none⟩ = some (.int .u64 ((wd t i : Nat) : Int)) := by
  obtain ⟨cs, h1, h2, h3, h4⟩ := h
  simp [World.cell?, h1, h3 i hi]
theorem PAt.len {w : World} {B : Nat} {t : Nat → Bool} {n : Int} (h : PAt w B t n) : w.cell? ⟨B, 1008, none⟩ = some (.int .i64 n) := by
  obtain ⟨cs, h1, h2, h3, h4⟩ := h
  simp [World.cell?, h1, h4]
theorem PAt.free {w : World} {B : Nat} {t : Nat → Bool} {n : Int} (h : PAt w B t n) (i : Nat) : w.frozen? ⟨B, i, none⟩ = false := by
  obtain ⟨cs, h1, _⟩ := h
  simp [World.frozen?, h1]
/-- A port is put, or taken out, and the count is told anew. -/
theorem PAt.store {w : World} {B : Nat} {t : Nat → Bool} {n m : Int} (h : PAt w B t n) (q : Nat) (hq : q < 64512) (v : Bool) (x : Nat) (hx : wd (put t q v) (q / 64) = x) :
    PAt ((w.setCell ⟨B, q / 64, none⟩ (.int .u64 (x : Int))).setCell ⟨B, 1008, none⟩ (.int .i64 m)) B (put t q v) m := by
  obtain ⟨cs, h1, h2, h3, h4⟩ := h
  have e1 := heap_set h1 (q / 64) (.int .u64 (x : Int)) rfl
  have e2 := heap_set e1 1008 (.int .i64 m) rfl
  refine ⟨_, e2, by simp [h2], fun i hi => ?_, ?_⟩
  · rw [Array.getElem?_setIfInBounds, if_neg (by omega), Array.getElem?_setIfInBounds]
    by_cases e : q / 64 = i
    · rw [if_pos e, if_pos (by omega)]; subst e; rw [hx]
    · rw [if_neg e, h3 i hi, wd_put_other _ _ _ _ e]
  · rw [Array.getElem?_setIfInBounds, if_pos rfl, if_pos (by simp [h2])]
theorem wraps64 (z : Nat) (h : z < 18446744073709551616) : IntKind.u64.wrap (z : Int) = (z : Int) := by rw [IntKind.wrap_u64]; omega
theorem place_any (p : Nat) (hp : 1024 ≤ p) (hp2 : p ≤ 65535) (w : World) :
    Calls Tryd.prog 20 #[.int .u16 (p : Int)] w fun e w' => e = .returned (.tuple #[.int .i64 (((p - 1024) / 64 : Nat) : Int), .int .u64 ((2 ^ ((p - 1024) % 64) : Nat) : Int)]) ∧ Drew w w' := by
  obtain ⟨q, hq⟩ : ∃ q, p - 1024 = q := ⟨_, rfl⟩
  rw [hq]
  obtain ⟨i, hi⟩ : ∃ i, q / 64 = i := ⟨_, rfl⟩
  obtain ⟨j, hj⟩ : ∃ j, q % 64 = j := ⟨_, rfl⟩
  rw [hi, hj]
  have r0 : (p : Int) - 1024 = (q : Int) := by omega
  have r1 : (q : Int) / 64 = (i : Int) := by omega
  have r2 : (q : Int) % 64 = (j : Int) := by omega
  have hj64 : j < 64 := by omega
  clear hq hi hj
  go_enter Tryd.func20, Tryd.ntmps20
  go_wp2_with fail
  go_quiet (fail)
  go_wp2_with fail
  have hw : IntKind.u64.wrap ((2 : Int) ^ j) = ((2 ^ j : Nat) : Int) := by
    have h := Nat.pow_lt_pow_right (show 1 < 2 by decide) hj64
    have e1 : (2 : Int) ^ j = ((2 ^ j : Nat) : Int) := by simp
    rw [e1]
    generalize 2 ^ j = z at *
    exact wraps64 z (by omega)
  go_ret2
  exact ⟨by rw [hw]; rfl, _, rfl⟩
theorem place_at (p q i Y : Nat) (hp : 1024 ≤ p) (hp2 : p ≤ 65535) (hq : p - 1024 = q) (hi : q / 64 = i) (hY : 2 ^ (q % 64) = Y) (w : World) :
    Calls Tryd.prog 20 #[.int .u16 (p : Int)] w fun e w' => e = .returned (.tuple #[.int .i64 (i : Int), .int .u64 (Y : Int)]) ∧ Drew w w' := by
  rw [← hi, ← hY, ← hq]; exact place_any p hp hp2 w
theorem has_low (B p : Nat) (hp : p < 1024) (w : World) :
    Calls Tryd.prog 18 #[.pointer (some ⟨B, 0, none⟩), .int .u16 (p : Int)] w fun e w' => e = .returned (.bool false) ∧ Drew w w' := by
  have h : (p : Int) < 1024 := by omega
  go_enter Tryd.func18, Tryd.ntmps18
  go_wp2_with fail
  go_ret
  exact ⟨rfl, 0, rfl⟩
theorem Drew.cell {w w' : World} (h : Drew w w') (a : Addr) : w'.cell? a = w.cell? a := by obtain ⟨k, rfl⟩ := h; induction k with | zero => rfl | succ k ih => exact ih
theorem has_high (B p q : Nat) (t : Nat → Bool) (n : Int) (hp : 1024 ≤ p) (hp2 : p ≤ 65535) (hq : p - 1024 = q) (w : World) (h : PAt w B t n) :
    Calls Tryd.prog 18 #[.pointer (some ⟨B, 0, none⟩), .int .u16 (p : Int)] w fun e w' => e = .returned (.bool (t q)) ∧ Drew w w' := by
  obtain ⟨i, hi⟩ : ∃ i, q / 64 = i := ⟨_, rfl⟩
  obtain ⟨Y, hY⟩ : ∃ Y, 2 ^ (q % 64) = Y := ⟨_, rfl⟩
  have HP := hide (place_at p q i Y hp hp2 hq hi hY w)
  have hc := h.word i (by omega)
  have hX := wd_lt t i
  have hh := wd_has t q
  rw [hi, hY] at hh
  have hYl : Y < 18446744073709551616 := by rw [← hY]; exact Nat.pow_lt_pow_right (by decide) (show q % 64 < 64 by omega)
  have hA := u64_and_nat (wd t i) Y hX hYl
  generalize wd t i = X at *
  generalize X &&& Y = Z at *
  generalize t q = r at *
  have i0 : (0 : Int) ≤ (i : Int) := by omega
  have i1 : (i : Int) < 1008 := by omega
  have hnl : ¬ ((p : Int) < 1024) := by omega
  clear hi hY h hX hYl hq
  go_enter Tryd.func18, Tryd.ntmps18
  go_wp2_with fail
  refine HP.out.mono ?_
  rintro e w1 ⟨rfl, d1⟩
  have hc1 := (d1.cell ⟨B, i, none⟩).trans hc
  have HD := hide d1
  clear hc d1 HP
  go_wp2_with fail
  go_ret
  exact ⟨rfl, HD.out⟩
theorem len_any (B : Nat) (t : Nat → Bool) (n : Int) (w : World) (h : PAt w B t n) :
    Calls Tryd.prog 17 #[.pointer (some ⟨B, 0, none⟩)] w fun e w' => e = .returned (.int .i64 n) ∧ w' = w := by
  have hc := h.len
  clear h
  go_enter Tryd.func17, Tryd.ntmps17
  go_wp2_with fail
  go_ret
  exact ⟨rfl, rfl⟩
def BoolTo (b : Bool) (B : Nat) (t : Nat → Bool) (n : Int) (w : World) (e : Ending) (w' : World) : Prop := e = .returned (.bool b) ∧ PAt w' B t n ∧ OnlyB B w w'
theorem take_low (B p : Nat) (t : Nat → Bool) (n : Int) (hp : p < 1024) (w : World) (h : PAt w B t n) :
    Calls Tryd.prog 10 #[.pointer (some ⟨B, 0, none⟩), .int .u16 (p : Int)] w (BoolTo false B t n w) := by
  have hl : decide ((p : Int) < 1024) = true := by simp; omega
  have H := hide h
  clear h
  go_enter Tryd.func10, Tryd.ntmps10
  go_wp2_with fail
  go_ret
  exact ⟨rfl, H.out, OnlyB.refl _ _⟩
theorem take_has (B p q : Nat) (t : Nat → Bool) (n : Int) (hp : 1024 ≤ p) (hp2 : p ≤ 65535) (hq : p - 1024 = q) (ht : t q = true) (w : World) (h : PAt w B t n) :
    Calls Tryd.prog 10 #[.pointer (some ⟨B, 0, none⟩), .int .u16 (p : Int)] w (BoolTo false B t n w) := by
  have hl : decide ((p : Int) < 1024) = false := by simp; omega
  have hh := has_high B p q t n hp hp2 hq w h
  rw [ht] at hh
  have HH := hide hh
  have H := hide h
  clear h hh ht hq
  go_enter Tryd.func10, Tryd.ntmps10
  go_wp2_with fail
  refine HH.out.mono ?_
  rintro e w1 ⟨rfl, d1⟩
  have HD := hide d1
  clear d1
  go_wp2_with fail
  go_ret
  exact ⟨rfl, H.out.below HD.out.below (Nat.le_refl _), OnlyB.of HD.out.below⟩
set_option maxHeartbeats 1000000 in
theorem take_new (B p q : Nat) (t : Nat → Bool) (n : Int) (hp : 1024 ≤ p) (hp2 : p ≤ 65535) (hq : p - 1024 = q) (ht : t q = false) (hn0 : 0 ≤ n) (hn1 : n ≤ 1000000) (w : World) (h : PAt w B t n) :
    Calls Tryd.prog 10 #[.pointer (some ⟨B, 0, none⟩), .int .u16 (p : Int)] w (BoolTo true B (put t q true) (n + 1) w) := by
  have hl : decide ((p : Int) < 1024) = false := by simp; omega
  have hh := has_high B p q t n hp hp2 hq w h
  rw [ht] at hh
  have HH := hide hh
  have H := hide h
  obtain ⟨i, hi⟩ : ∃ i, q / 64 = i := ⟨_, rfl⟩
  obtain ⟨Y, hY⟩ : ∃ Y, 2 ^ (q % 64) = Y := ⟨_, rfl⟩
  have HP := hide (fun V : World => place_at p q i Y hp hp2 hq hi hY V)
  have hX := wd_lt t i
  have hYl : Y < 18446744073709551616 := by rw [← hY]; exact Nat.pow_lt_pow_right (by decide) (show q % 64 < 64 by omega)
  have hA := u64_or_nat (wd t i) Y hX hYl
  have hpt := wd_put_true t q
  rw [hi, hY] at hpt
  obtain ⟨Z, hZ⟩ : ∃ Z, wd t i ||| Y = Z := ⟨_, rfl⟩
  rw [hZ] at hpt hA
  have i0 : (0 : Int) ≤ (i : Int) := by omega
  have i1 : (i : Int) < 1008 := by omega
  have i2 : i < 1008 := by omega
  have HST := hide (fun (V : World) (hV : PAt V B t n) => (show PAt ((V.setCell ⟨B, i, none⟩ (.int .u64 (Z : Int))).setCell ⟨B, 1008, none⟩ (.int .i64 (n + 1))) B (put t q true) (n + 1) by
    have := hV.store q (by omega) true Z (m := n + 1) (by rw [hi]; exact hpt)
    rw [hi] at this
    exact this))
  obtain ⟨X, hXe⟩ : ∃ X, wd t i = X := ⟨_, rfl⟩
  rw [hXe] at hA
  have HXE := hide hXe
  have i3 : ¬ i = 1008 := by omega
  have i4 : ¬ 1008 = i := by omega
  clear h hh ht hi hY hX hYl hpt hZ hXe hq
  go_enter Tryd.func10, Tryd.ntmps10
  go_wp2_with fail
  refine HH.out.mono ?_
  rintro e w1 ⟨rfl, d1⟩
  have H1 := hide (H.out.below d1.below (Nat.le_refl _))
  have HO1 := hide (OnlyB.of (B := B) d1.below)
  clear d1 HH H
  go_wp2_with fail
  refine (HP.out w1).mono ?_
  rintro e w2 ⟨rfl, d2⟩
  have H2 := hide (H1.out.below d2.below (Nat.le_refl _))
  have HO2 := hide (HO1.out.trans (OnlyB.of d2.below))
  clear d2 HP H1 HO1
  have c1 := H2.out.word i i2
  rw [HXE.out] at c1
  have c2 := H2.out.len
  have f1 := H2.out.free i
  have f2 := H2.out.free 1008
  go_wp2_with fail
  go_region
  go_wp2_with fail
  go_ret
  exact ⟨rfl, HST.out w2 H2.out, ((HO2.out.setCell i _).setCell 1008 _).drew⟩
set_option maxHeartbeats 1000000 in
theorem give_new (B p q : Nat) (t : Nat → Bool) (n : Int) (hp : 1024 ≤ p) (hp2 : p ≤ 65535) (hq : p - 1024 = q) (ht : t q = true) (hn0 : 1 ≤ n) (hn1 : n ≤ 1000000) (w : World) (h : PAt w B t n) :
    Calls Tryd.prog 12 #[.pointer (some ⟨B, 0, none⟩), .int .u16 (p : Int)] w (BoolTo true B (put t q false) (n - 1) w) := by
  have hh := has_high B p q t n hp hp2 hq w h
  rw [ht] at hh
  have HH := hide hh
  have H := hide h
  obtain ⟨i, hi⟩ : ∃ i, q / 64 = i := ⟨_, rfl⟩
  obtain ⟨Y, hY⟩ : ∃ Y, 2 ^ (q % 64) = Y := ⟨_, rfl⟩
  have HP := hide (fun V : World => place_at p q i Y hp hp2 hq hi hY V)
  have hX := wd_lt t i
  have hYl : Y < 18446744073709551616 := by rw [← hY]; exact Nat.pow_lt_pow_right (by decide) (show q % 64 < 64 by omega)
  have hA := u64_andNot_nat (wd t i) Y hX hYl
  have hpt := wd_put_false t q
  rw [hi, hY] at hpt
  obtain ⟨Z, hZ⟩ : ∃ Z, wd t i &&& (18446744073709551615 - Y) = Z := ⟨_, rfl⟩
  rw [hZ] at hpt hA
  have i0 : (0 : Int) ≤ (i : Int) := by omega
  have i1 : (i : Int) < 1008 := by omega
  have i2 : i < 1008 := by omega
  have HST := hide (fun (V : World) (hV : PAt V B t n) => (show PAt ((V.setCell ⟨B, i, none⟩ (.int .u64 (Z : Int))).setCell ⟨B, 1008, none⟩ (.int .i64 (n - 1))) B (put t q false) (n - 1) by
    have := hV.store q (by omega) false Z (m := n - 1) (by rw [hi]; exact hpt)
    rw [hi] at this
    exact this))
  obtain ⟨X, hXe⟩ : ∃ X, wd t i = X := ⟨_, rfl⟩
  rw [hXe] at hA
  have HXE := hide hXe
  have i3 : ¬ i = 1008 := by omega
  have i4 : ¬ 1008 = i := by omega
  clear h hh ht hi hY hX hYl hpt hZ hXe hq
  go_enter Tryd.func12, Tryd.ntmps12
  go_wp2_with fail
  refine HH.out.mono ?_
  rintro e w1 ⟨rfl, d1⟩
  have H1 := hide (H.out.below d1.below (Nat.le_refl _))
  have HO1 := hide (OnlyB.of (B := B) d1.below)
  clear d1 HH H
  go_wp2_with fail
  refine (HP.out w1).mono ?_
  rintro e w2 ⟨rfl, d2⟩
  have H2 := hide (H1.out.below d2.below (Nat.le_refl _))
  have HO2 := hide (HO1.out.trans (OnlyB.of d2.below))
  clear d2 HP H1 HO1
  have c1 := H2.out.word i i2
  rw [HXE.out] at c1
  have c2 := H2.out.len
  have f1 := H2.out.free i
  have f2 := H2.out.free 1008
  go_wp2_with fail
  go_region
  go_wp2_with fail
  go_ret
  exact ⟨rfl, HST.out w2 H2.out, ((HO2.out.setCell i _).setCell 1008 _).drew⟩
theorem give_low (B p : Nat) (t : Nat → Bool) (n : Int) (hp : p < 1024) (w : World) (h : PAt w B t n) :
    Calls Tryd.prog 12 #[.pointer (some ⟨B, 0, none⟩), .int .u16 (p : Int)] w (BoolTo false B t n w) := by
  have HH := hide (has_low B p hp w)
  have H := hide h
  clear h
  go_enter Tryd.func12, Tryd.ntmps12
  go_wp2_with fail
  refine HH.out.mono ?_
  rintro e w1 ⟨rfl, d1⟩
  have HD := hide d1
  clear d1
  go_wp2_with fail
  go_ret
  exact ⟨rfl, H.out.below HD.out.below (Nat.le_refl _), OnlyB.of HD.out.below⟩
theorem give_hasnt (B p q : Nat) (t : Nat → Bool) (n : Int) (hp : 1024 ≤ p) (hp2 : p ≤ 65535) (hq : p - 1024 = q) (ht : t q = false) (w : World) (h : PAt w B t n) :
    Calls Tryd.prog 12 #[.pointer (some ⟨B, 0, none⟩), .int .u16 (p : Int)] w (BoolTo false B t n w) := by
  have hh := has_high B p q t n hp hp2 hq w h
  rw [ht] at hh
  have HH := hide hh
  have H := hide h
  clear h hh ht hq
  go_enter Tryd.func12, Tryd.ntmps12
  go_wp2_with fail
  refine HH.out.mono ?_
  rintro e w1 ⟨rfl, d1⟩
  have HD := hide d1
  clear d1
  go_wp2_with fail
  go_ret
  exact ⟨rfl, H.out.below HD.out.below (Nat.le_refl _), OnlyB.of HD.out.below⟩
/-- The table of the library. -/
def PtT (w : World) : Prop := ∀ j, j < 64 → w.cell? ⟨0, j, none⟩ = some (.int .u8 ((Lib.deBruijn64tab.getD j 0 : Nat) : Int))
theorem PtT.below {w w' : World} {K : Nat} (h : PtT w) (hb : Below K w w') (hK : w.heap.size ≤ K) : PtT w' := fun j hj =>
  (hb.cell (p := ⟨0, j, none⟩) (Nat.lt_of_lt_of_le (World.block_lt_of_cell? w ⟨0, j, none⟩ (h j hj)) hK)).trans (h j hj)
theorem PtT.only {w w' : World} {B : Nat} (h : PtT w) (hb : OnlyB B w w') (hB : B ≠ 0) : PtT w' := fun j hj =>
  (World.cell?_of_block (w := w) (hb.block 0 (World.block_lt_of_cell? w ⟨0, j, none⟩ (h j hj)) (Ne.symm hB))).trans (h j hj)
theorem tz_core (x k idx : Nat) (w : World) (hx0 : ((x : Int) == 0) = false)
    (key : IntKind.u64.wrap (bits BinOp.and IntKind.u64 (x : Int) (IntKind.u64.wrap (-(x : Int))) * 285870213051353865) / 288230376151711744 = (idx : Int))
    (hi : idx < 64) (hk : k < 64) (hcell : w.cell? ⟨0, idx, none⟩ = some (.int .u8 (k : Int))) :
    Calls Tryd.prog 24 #[.int .u64 (x : Int)] w fun e w' => e = .returned (.int .i64 (k : Int)) ∧ w' = w := by
  go_enter Tryd.func24, Tryd.ntmps24
  go_wp2_with (simp only [key])
  go_ret
  exact ⟨rfl, rfl⟩
theorem tz_any (x : Nat) (hx : x < 18446744073709551616) (h0 : x ≠ 0) (w : World) (hT : PtT w) :
    Calls Tryd.prog 24 #[.int .u64 (x : Int)] w fun e w' => e = .returned (.int .i64 ((Lib.ctz 64 x : Nat) : Int)) ∧ w' = w := by
  obtain ⟨hlow, hk⟩ := Lib.lowest_bit 64 x h0 hx
  obtain ⟨hi, htab⟩ := Lib.deBruijn64_at _ hk
  have hcell := hT _ hi
  rw [htab] at hcell
  exact tz_core x _ _ w (by simp; omega) (tz64_key x _ hx h0 hlow) hi hk hcell
theorem xor_ones (b : Nat) (hb : b < 2 ^ 64) : (2 ^ 64 - 1) ^^^ b = 2 ^ 64 - 1 - b := by
  have h : (BitVec.allOnes 64 ^^^ BitVec.ofNat 64 b).toNat = (~~~ BitVec.ofNat 64 b).toNat := by rw [BitVec.allOnes_xor]
  rw [BitVec.toNat_xor, BitVec.toNat_not, BitVec.toNat_allOnes, BitVec.toNat_ofNat, Nat.mod_eq_of_lt hb] at h
  exact h
theorem not64 (X j : Nat) (hX : X < 18446744073709551616) : bits BinOp.xor IntKind.u64 (if IntKind.u64.signed = true then -1 else IntKind.u64.max) (X : Int) / 2 ^ j = (((18446744073709551615 - X) / 2 ^ j : Nat) : Int) := by
  have e : (if IntKind.u64.signed = true then -1 else IntKind.u64.max) = ((2 ^ 64 - 1 : Nat) : Int) := rfl
  rw [e, u64_xor_nat (2 ^ 64 - 1) X (by decide) hX, xor_ones X hX]
  simp
/-- What free answers. -/
def FreeTo (t : Nat → Bool) (a : Nat) (w : World) (e : Ending) (w' : World) : Prop := w' = w ∧ ((∃ p, FreeIs t a p ∧ e = .returned (.tuple #[.int .u16 ((1024 + p : Nat) : Int), .bool true])) ∨ (NoneFrom t a ∧ e = .returned (.tuple #[.int .u16 0, .bool false])))
set_option maxHeartbeats 2000000 in
theorem free_any (B a : Nat) (t : Nat → Bool) (n : Int) (ha : a ≤ 64512) (w : World) (h : PAt w B t n) (hT : PtT w) :
    Calls Tryd.prog 21 #[.pointer (some ⟨B, 0, none⟩), .int .i64 (1024 + (a : Int))] w (FreeTo t a w) := by
  have H := hide h
  have HT := hide hT
  have r0 : 1024 + (a : Int) - 1024 = (a : Int) := by omega
  obtain ⟨C, hC⟩ : ∃ C : Nat, C = 64512 := ⟨_, rfl⟩
  have haC : a ≤ C := by omega
  have haI : (a : Int) ≤ 64512 := by omega
  have HC := hide hC
  clear h hT hC ha
  go_enter Tryd.func21, Tryd.ntmps21
  go_wp2_with fail
  clear r0
  go_loop [6] (fun i => ∃ k : Nat, a ≤ k ∧ k ≤ C ∧ i = .int .i64 k ∧ Hid (∀ q, a ≤ q → q < k → t q = true)) (fun i => C - (intOf i).toNat)
  case atStart => exact ⟨a, Nat.le_refl _, haC, rfl, hide (fun q h1 h2 => by omega)⟩
  case round =>
    obtain ⟨k, hk1, hk2, rfl, HK⟩ := hrel
    have hC := HC.out
    by_cases hlt : (k : Int) < 64512
    · obtain ⟨i, hi⟩ : ∃ i, k / 64 = i := ⟨_, rfl⟩
      obtain ⟨j, hj⟩ : ∃ j, k % 64 = j := ⟨_, rfl⟩
      have r1 : (k : Int) / 64 = (i : Int) := by omega
      have r2 : (k : Int) % 64 = (j : Int) := by omega
      have i1 : (i : Int) < 1008 := by omega
      have hc := H.out.word i (by omega)
      have hX := wd_lt t i
      obtain ⟨O, hO⟩ : ∃ O, openW t k = O := ⟨_, rfl⟩
      have hOw : (18446744073709551615 - wd t i) / 2 ^ j = O := by rw [← hO, ← hi, ← hj]; rfl
      have HOP := hide hO
      generalize wd t i = X at *
      have HOW := hide hOw
      have HXL := hide hX
      clear hOw hX
      have HI := hide hi
      have HJ := hide hj
      have i3 : (0 : Int) ≤ (i : Int) := by omega
      clear hi hj hO hC
      go_upto_region 5 with (fail)
      rw [not64 X j HXL.out, HOW.out]
      by_cases hO0 : O = 0
      · have d0 : ((O : Int) != 0) = false := by simp [hO0]
        have hz := open_zero t k (by rw [HOP.out]; exact hO0)
        have HZ := hide (show ∀ q, a ≤ q → q < k + (64 - j) → t q = true from fun q h1 h2 => by
          by_cases h3 : q < k
          · exact HK.out q h1 h3
          · exact hz q (by omega) (by rw [HJ.out]; exact h2))
        have hj64 : j < 64 := by rw [← HJ.out]; exact Nat.mod_lt _ (by decide)
        have hkj : k + (64 - j) ≤ C := by have := HI.out; have := HJ.out; have := HC.out; omega
        obtain ⟨m, hm⟩ : ∃ m, 64 - j = m := ⟨_, rfl⟩
        have s1 : (64 : Int) - (j : Int) = (m : Int) := by omega
        have hm1 : 1 ≤ m := by omega
        rw [hm] at HZ hkj
        have HKJ := hide hkj
        have HM1 := hide hm1
        have hm2 : (m : Int) ≤ 64 := by omega
        have HAK := hide hk1
        clear hO0 hz hm hj64 hkj hm1 hk1 hk2
        go_wp2_with fail
        go_round
        case rel => exact ⟨k + m, by have := HAK.out; omega, HKJ.out, by go_num, HZ⟩
        case measure => have := HKJ.out; have := HM1.out; simp [intOf]; omega
      · have d0 : ((O : Int) != 0) = true := by simp; omega
        have ho := open_some t k (by rw [HOP.out]; exact hO0)
        rw [HOP.out] at ho
        have htz := tz_any O (by rw [← HOP.out]; exact openW_lt _ _) hO0 w HT.out
        generalize Lib.ctz 64 O = c at *
        have hkc : k + c < 64512 := by have := HI.out; have := HJ.out; have := ho.1; omega
        have HFR := hide (show FreeIs t a (k + c) from ⟨by omega, hkc, ho.2.1, fun q h1 h2 => by
          by_cases h3 : q < k
          · exact HK.out q h1 h3
          · exact ho.2.2 q (by omega) h2⟩)
        have HTZ := hide htz
        have w1 : IntKind.u16.wrap (1024 + (k : Int) + (c : Int)) = ((1024 + (k + c) : Nat) : Int) := by rw [IntKind.wrap_u16]; omega
        have hcI : (c : Int) ≤ 64 := by omega
        have hkI : (0 : Int) ≤ (k : Int) := by omega
        clear hO0 ho htz hkc hlt hk1 hk2
        go_wp2_with fail
        refine HTZ.out.mono ?_
        rintro e w2 ⟨rfl, rfl⟩
        go_wp2_with fail
        go_ret2
        exact ⟨rfl, .inl ⟨k + c, HFR.out, by simp⟩⟩
    · have hk : k = C := by omega
      have HNO := hide (show NoneFrom t a from fun q h1 h2 => HK.out q h1 (by omega))
      have hd : decide ((k : Int) < 64512) = false := by simp; omega
      clear hC hk hlt hk1 hk2
      go_wp2_with fail
      go_ret2
      exact ⟨rfl, .inr ⟨HNO.out, rfl⟩⟩
end Go.Proofs.YtafoiblacmjpdaaDoor
