/- Ports: New, Pick, and the document's example. -/
import Derived.Test.YtafoiblacmjpdaaDoorPFns
namespace Go.Proofs.YtafoiblacmjpdaaDoor
open Go.RowKit
set_option linter.unusedVariables false
set_option linter.unusedSimpArgs false
set_option maxRecDepth 100000
/-- What Pick picks. -/
def PickIs (t : Nat → Bool) (r p : Nat) : Prop := FreeIs t r p ∨ (NoneFrom t r ∧ FreeIs t 0 p)
theorem PickIs.lt {t : Nat → Bool} {r p : Nat} (h : PickIs t r p) : p < 64512 ∧ t p = false := by
  rcases h with h | ⟨_, h⟩ <;> exact ⟨h.2.1, h.2.2.1⟩
def PickTo (t : Nat → Bool) (r B : Nat) (n : Int) (w : World) (e : Ending) (w' : World) : Prop :=
  (∃ p, PickIs t r p ∧ e = .returned (.tuple #[.int .u16 ((1024 + p : Nat) : Int), .bool true]) ∧ PAt w' B (put t p true) (n + 1) ∧ OnlyB B w w') ∨ (NoneFrom t 0 ∧ e = .returned (.tuple #[.int .u16 0, .bool false]) ∧ w' = w)
set_option maxHeartbeats 2000000 in
theorem pick_any (B d : Nat) (t : Nat → Bool) (n : Int) (hn0 : 0 ≤ n) (hn1 : n ≤ 1000000) (w : World) (h : PAt w B t n) (hT : PtT w) :
    Calls Tryd.prog 14 #[.pointer (some ⟨B, 0, none⟩), .int .u64 (d : Int)] w (PickTo t (d % 64512) B n w) := by
  obtain ⟨r, hr⟩ : ∃ r, d % 64512 = r := ⟨_, rfl⟩
  rw [hr]
  have hr2 : r ≤ 64512 := by omega
  have r1 : (d : Int) % 64512 = (r : Int) := by omega
  have r2 : (r : Int) ≤ 64512 := by omega
  have H1 := hide (free_any B r t n hr2 w h hT)
  have H2 := hide (free_any B 0 t n (by omega) w h hT)
  have HTK := hide (fun (p : Nat) (hp : p < 64512) (ht : t p = false) => take_new B (1024 + p) p t n (by omega) (by omega) (by omega) ht hn0 hn1 w h)
  clear hr hr2 h hT
  go_enter Tryd.func14, Tryd.ntmps14
  go_wp2_with fail
  refine H1.out.mono ?_
  rintro e w1 ⟨rfl, ⟨p, hp, rfl⟩ | ⟨hno, rfl⟩⟩
  · have HP := hide (show PickIs t r p from .inl hp)
    have HK := hide (HTK.out p hp.2.1 hp.2.2.1)
    obtain ⟨P, hPe⟩ : ∃ P, 1024 + p = P := ⟨_, rfl⟩
    rw [hPe] at HK ⊢
    have HE := hide hPe
    clear hp hPe
    go_wp2_with fail
    refine HK.out.mono ?_
    rintro e w2 ⟨rfl, h2, o2⟩
    have H3 := hide (And.intro h2 o2)
    clear h2 o2
    go_wp2_with fail
    go_ret2
    exact .inl ⟨p, HP.out, by rw [HE.out]; rfl, H3.out.1, H3.out.2⟩
  · have HNO := hide hno
    clear hno
    go_wp2_with fail
    refine H2.out.mono ?_
    rintro e w1 ⟨rfl, ⟨p, hp, rfl⟩ | ⟨hno, rfl⟩⟩
    · have HP := hide (show PickIs t r p from .inr ⟨HNO.out, hp⟩)
      have HK := hide (HTK.out p hp.2.1 hp.2.2.1)
      obtain ⟨P, hPe⟩ : ∃ P, 1024 + p = P := ⟨_, rfl⟩
      rw [hPe] at HK ⊢
      have HE := hide hPe
      clear hp hPe
      go_wp2_with fail
      refine HK.out.mono ?_
      rintro e w2 ⟨rfl, h2, o2⟩
      have H3 := hide (And.intro h2 o2)
      clear h2 o2
      go_wp2_with fail
      go_ret2
      exact .inl ⟨p, HP.out, by rw [HE.out]; rfl, H3.out.1, H3.out.2⟩
    · have HN2 := hide hno
      clear hno
      go_wp2_with fail
      go_ret2
      exact .inr ⟨HN2.out, rfl, rfl⟩
def none_ (_ : Nat) : Bool := false
theorem wd_none (i : Nat) : wd none_ i = 0 := by
  apply Nat.eq_of_testBit_eq
  intro j
  rw [Nat.zero_testBit]
  by_cases hj : j < 64
  · rw [wd_bit _ _ _ hj]; rfl
  · exact wd_high _ _ _ (by omega)
def NewTo (w : World) (e : Ending) (w' : World) : Prop := ∃ B, e = .returned (.pointer (some ⟨B, 0, none⟩)) ∧ w.heap.size = B ∧ PAt w' B none_ 0 ∧ Below w.heap.size w w'
def zset : Array Value := (Array.replicate 1008 (.int .u64 0)).push (.int .i64 0)
theorem Tryd.infoSet : (Tryd.prog.info? 52).map (fun i => (i.zero, i.size, i.bytes)) = some (some (.agg zset), 1009, 8072) := by kernel_rfl
theorem new_any (w : World) : Calls Tryd.prog 9 #[] w (NewTo w) := by
  obtain ⟨i0, hi, hz0, hz1, hz2⟩ := info_parts Tryd.infoSet
  have hz : ∀ W, (zeroValue 52).run Tryd.prog W = .ok (.agg zset) W := fun W => by
    simp [zeroValue, typeInfo, hi, hz0]
  have hp : PAt (w.alloc (.cells zset 52)) w.heap.size none_ 0 := by
    refine ⟨zset, heap_alloc_new _ _, by simp [zset], fun i h => ?_, ?_⟩
    · rw [wd_none]
      simp [zset, Array.getElem?_push, h]
      omega
    · unfold zset; rw [Array.getElem?_push, if_pos (by simp)]
  have HP := hide hp
  clear hi hz0 hz1 hz2 hp
  generalize zset = Z at *
  go_enter Tryd.func9, Tryd.ntmps9
  go_wp2_with fail
  go_ret
  exact ⟨w.heap.size, rfl, rfl, HP.out, (Below.refl _ _).alloc (Nat.le_refl _) _⟩
theorem FreeIs.eq {t : Nat → Bool} {a p q : Nat} (h : FreeIs t a p) (k : FreeIs t a q) : p = q := by
  obtain ⟨h1, h2, h3, h4⟩ := h
  obtain ⟨k1, k2, k3, k4⟩ := k
  rcases Nat.lt_trichotomy p q with e | e | e
  · rw [k4 p h1 e] at h3; cases h3
  · exact e
  · rw [h4 q k1 e] at k3; cases k3
theorem PickIs.eq {t : Nat → Bool} {r p q : Nat} (h : PickIs t r p) (k : PickIs t r q) : p = q := by
  rcases h with h | ⟨hn, h⟩ <;> rcases k with k | ⟨kn, k⟩
  · exact h.eq k
  · have := kn p h.1 h.2.1; rw [h.2.2.1] at this; cases this
  · have := hn q k.1 k.2.1; rw [k.2.2.1] at this; cases this
  · exact h.eq k
/-- The pick is told by one that fits. -/
theorem PickTo.is {t : Nat → Bool} {r B p : Nat} {n : Int} {w w' : World} {e : Ending} (h : PickTo t r B n w e w') (hp : PickIs t r p) : e = .returned (.tuple #[.int .u16 ((1024 + p : Nat) : Int), .bool true]) ∧ PAt w' B (put t p true) (n + 1) ∧ OnlyB B w w' := by
  rcases h with ⟨q, hq, h1, h2, h3⟩ | ⟨hn, _⟩
  · obtain rfl := hq.eq hp
    exact ⟨h1, h2, h3⟩
  · have := hp.lt
    rw [hn p (by omega) this.1] at this; cases this.2
theorem free0 {t : Nat → Bool} {p : Nat} (hp : p < 64512) (h : t p = false) : FreeIs t p p := ⟨Nat.le_refl _, hp, h, fun q h1 h2 => by omega⟩
theorem pick_is (B d p : Nat) (t : Nat → Bool) (n : Int) (hn0 : 0 ≤ n) (hn1 : n ≤ 1000000) (w : World) (h : PAt w B t n) (hT : PtT w) (hp : PickIs t (d % 64512) p) :
    Calls Tryd.prog 14 #[.pointer (some ⟨B, 0, none⟩), .int .u64 (d : Int)] w (fun e w' => e = .returned (.tuple #[.int .u16 ((1024 + p : Nat) : Int), .bool true]) ∧ PAt w' B (put t p true) (n + 1) ∧ OnlyB B w w') :=
  (pick_any B d t n hn0 hn1 w h hT).mono fun e w' k => k.is hp
theorem sp1 : PickIs (put none_ 0 true) (0 % 64512) 1 := .inl ⟨by omega, by omega, rfl, fun q h1 h2 => by
  have : q = 0 := by omega
  subst this; rfl⟩
theorem sp2 : PickIs (put (put none_ 0 true) 1 true) (64511 % 64512) 64511 := .inl (free0 (by omega) rfl)
theorem sp3 : PickIs (put (put (put none_ 0 true) 1 true) 64511 true) (64511 % 64512) 2 := .inr ⟨fun q h1 h2 => by
  have : q = 64511 := by omega
  subst this; rfl, ⟨by omega, by omega, rfl, fun q h1 h2 => by
    have : q = 0 ∨ q = 1 := by omega
    rcases this with rfl | rfl <;> rfl⟩⟩
set_option maxHeartbeats 2000000 in
theorem speaks7_any (w : World) (hT : PtT w) : Calls Tryd.prog 8 #[] w fun e w' => e = .returned (.bool true) ∧ Below w.heap.size w w' := by
  have HT := hide hT
  have H0 := hide (show 0 < w.heap.size from World.block_lt_of_cell? w ⟨0, 0, none⟩ (hT 0 (by omega)))
  clear hT
  go_enter Tryd.func8, Tryd.ntmps8
  go_wp2_with fail
  refine (new_any w).mono ?_
  rintro e w1 ⟨B, rfl, hB, h1, b1⟩
  have HBw := hide (show w.heap.size ≤ B by omega)
  have HB0 := hide (show B ≠ 0 by have := H0.out; omega)
  have HB1 := hide b1
  have HT1 := hide (HT.out.below b1 (Nat.le_refl _))
  have HK := hide (show Calls Tryd.prog 10 #[.pointer (some ⟨B, 0, none⟩), .int .u16 1024] w1 (BoolTo true B (put none_ 0 true) 1 w1) from take_new B 1024 0 none_ 0 (by omega) (by omega) rfl rfl (by omega) (by omega) w1 h1)
  clear hB h1 b1
  go_wp2_with fail
  refine HK.out.mono ?_
  rintro e w2 ⟨rfl, h2, o2⟩
  have HB2 := hide (HB1.out.trans (o2.below HBw.out HB1.out.size))
  have HT2 := hide (HT1.out.only o2 HB0.out)
  have HK := hide (show Calls Tryd.prog 14 #[.pointer (some ⟨B, 0, none⟩), .int .u64 0] w2 (fun e w' => e = .returned (.tuple #[.int .u16 1025, .bool true]) ∧ PAt w' B (put (put none_ 0 true) 1 true) 2 ∧ OnlyB B w2 w') from pick_is B 0 1 (put none_ 0 true) 1 (by omega) (by omega) w2 h2 HT2.out (sp1))
  clear h2 o2 HT1 HB1
  go_wp2_with fail
  refine HK.out.mono ?_
  rintro e w3 ⟨rfl, h3, o3⟩
  have HB3 := hide (HB2.out.trans (o3.below HBw.out HB2.out.size))
  have HT3 := hide (HT2.out.only o3 HB0.out)
  have HK := hide (show Calls Tryd.prog 14 #[.pointer (some ⟨B, 0, none⟩), .int .u64 64511] w3 (fun e w' => e = .returned (.tuple #[.int .u16 65535, .bool true]) ∧ PAt w' B (put (put (put none_ 0 true) 1 true) 64511 true) 3 ∧ OnlyB B w3 w') from pick_is B 64511 64511 (put (put none_ 0 true) 1 true) 2 (by omega) (by omega) w3 h3 HT3.out (sp2))
  clear h3 o3 HT2 HB2
  go_wp2_with fail
  refine HK.out.mono ?_
  rintro e w4 ⟨rfl, h4, o4⟩
  have HB4 := hide (HB3.out.trans (o4.below HBw.out HB3.out.size))
  have HT4 := hide (HT3.out.only o4 HB0.out)
  have HK := hide (show Calls Tryd.prog 14 #[.pointer (some ⟨B, 0, none⟩), .int .u64 64511] w4 (fun e w' => e = .returned (.tuple #[.int .u16 1026, .bool true]) ∧ PAt w' B (put (put (put (put none_ 0 true) 1 true) 64511 true) 2 true) 4 ∧ OnlyB B w4 w') from pick_is B 64511 2 (put (put (put none_ 0 true) 1 true) 64511 true) 3 (by omega) (by omega) w4 h4 HT4.out (sp3))
  clear h4 o4 HT3 HB3
  go_wp2_with fail
  refine HK.out.mono ?_
  rintro e w5 ⟨rfl, h5, o5⟩
  have HB5 := hide (HB4.out.trans (o5.below HBw.out HB4.out.size))
  clear h5 o5
  go_wp2_with fail
  go_ret
  exact ⟨rfl, HB5.out⟩
end Go.Proofs.YtafoiblacmjpdaaDoor
