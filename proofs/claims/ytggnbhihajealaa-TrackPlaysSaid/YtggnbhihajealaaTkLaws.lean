/- The small laws of what was seen of connections, walked. -/
import Derived.Test.YtggnbhihajealaaTkNextR
namespace Go.Proofs.Ytggnbhihajealaa
open Go.RowKit
set_option linter.unusedVariables false
set_option linter.unusedSimpArgs false
set_option maxRecDepth 100000
set_option maxHeartbeats 1000000 in
theorem speaks11_any (w : World) : Calls Try.prog 7 #[] w fun e w' => e = .returned (.bool true) ∧ Below w.heap.size w w' := by
  have H1 := hide (fun V : World => next_any 2 ⟨false, false, false, false, false⟩ true V (by omega))
  have H2 := hide (fun V : World => next_any 18 ⟨true, false, false, false, false⟩ false V (by omega))
  have H3 := hide (fun V : World => limP_any 6 true true false false false V (by omega))
  have H4 := hide (fun V : World => begins_any 2 V (by omega))
  rw [show nx ⟨false, false, false, false, false⟩ 2 true = ⟨true, false, false, false, false⟩ by rfl] at H1
  rw [show nx ⟨true, false, false, false, false⟩ 18 false = ⟨true, true, false, false, false⟩ by rfl] at H2
  rw [show lim 6 ⟨true, true, false, false, false⟩ = 7440 by decide] at H3
  rw [show begB 2 = true by decide] at H4
  unfold St5.v at *
  dsimp only at *
  go_enter Try.func7, Try.ntmps7
  go_wp2_with fail
  refine (H1.out _).mono ?_
  rintro _ w1 ⟨rfl, b1⟩
  have HS1 := b1.size
  have HB1 := hide (b1.alloc b1.size (.cells #[.bool true, .bool false, .bool false, .bool false, .bool false] 23))
  clear b1 H1
  go_wp2_with fail
  refine (H2.out _).mono ?_
  rintro _ w2 ⟨rfl, b2⟩
  obtain ⟨c0, f0⟩ := bcell5 b2
  have x0 : w2.cell? ⟨w1.heap.size, 0, none⟩ = some (.bool true) := by rw [c0 _ _ (by simp)]; simp [go_sem]
  have x1 : w2.cell? ⟨w1.heap.size, 1, none⟩ = some (.bool false) := by rw [c0 _ _ (by simp)]; simp [go_sem]
  have x2 : w2.cell? ⟨w1.heap.size, 2, none⟩ = some (.bool false) := by rw [c0 _ _ (by simp)]; simp [go_sem]
  have x3 : w2.cell? ⟨w1.heap.size, 3, none⟩ = some (.bool false) := by rw [c0 _ _ (by simp)]; simp [go_sem]
  have x4 : w2.cell? ⟨w1.heap.size, 4, none⟩ = some (.bool false) := by rw [c0 _ _ (by simp)]; simp [go_sem]
  have xf : ∀ o, w2.frozen? ⟨w1.heap.size, o, none⟩ = false := fun o => by rw [f0 _ _ (by simp)]; simp [go_sem]
  have hs : w.heap.size ≤ w1.heap.size := HS1
  have HB2 := hide (HB1.out.trans (b2.mono HB1.out.size))
  clear b2 c0 f0 H2
  go_wp2_with fail
  refine (H3.out _).mono ?_
  rintro _ w3 ⟨rfl, b3⟩
  have HB3 := hide ((((((HB2.out.setCell (p := ⟨w1.heap.size, 0, none⟩) hs (.bool true)).setCell (p := ⟨w1.heap.size, 1, none⟩) hs (.bool true)).setCell (p := ⟨w1.heap.size, 2, none⟩) hs (.bool false)).setCell (p := ⟨w1.heap.size, 3, none⟩) hs (.bool false)).setCell (p := ⟨w1.heap.size, 4, none⟩) hs (.bool false)).trans (b3.mono (by simp; exact HB2.out.size)))
  clear b3 H3
  go_wp2_with fail
  refine (H4.out _).mono ?_
  rintro _ w4 ⟨rfl, rfl⟩
  go_wp2_with fail
  go_ret
  exact ⟨rfl, HB3.out⟩
theorem nx_side (s : St5) (f : Nat) (h : s.b = false) : (nx s f true).b = false := by
  unfold nx
  split
  · rfl
  · simp [h]
theorem lim_side (s : St5) (h : s.b = false) : lim 6 s = 240 := by
  unfold lim openB; rw [h]; simp
set_option maxHeartbeats 4000000 in
theorem trackLasts_any (w : World) (p : Nat) (s : St5) (f : Nat) (hp : p < 256) (hf : f < 256) :
    Calls Try.prog 6 #[.int .u8 (p : Int), s.v, .int .u8 (f : Int)] w fun e w' => e = .returned (.bool true) ∧ Below w.heap.size w w' := by
  obtain ⟨a, b, c, d, e⟩ := s
  have hz : ∀ V : World, Calls Try.prog 10 #[.agg #[.bool false, .bool false, .bool false, .bool false, .bool false], .int .u8 (f : Int), .bool true] V fun x w' => ∃ a1 c1 d1 e1 : Bool, x = .returned (.agg #[.bool a1, .bool false, .bool c1, .bool d1, .bool e1]) ∧ Below V.heap.size V w' := fun V =>
    (next_any f ⟨false, false, false, false, false⟩ true V hf).mono fun x w' ⟨h1, h2⟩ => by
      have hb := nx_side ⟨false, false, false, false, false⟩ f rfl
      obtain ⟨q, hq⟩ : ∃ q, nx ⟨false, false, false, false, false⟩ f true = q := ⟨_, rfl⟩
      rw [hq] at h1 hb
      obtain ⟨a1, b1, c1, d1, e1⟩ := q
      have hb' : b1 = false := hb
      subst hb'
      exact ⟨a1, c1, d1, e1, h1, h2⟩
  have hz2 : ∀ (a1 c1 d1 e1 : Bool) (V : World), Calls Try.prog 10 #[.agg #[.bool a1, .bool false, .bool c1, .bool d1, .bool e1], .int .u8 (f : Int), .bool true] V fun x w' => ∃ a1 c1 d1 e1 : Bool, x = .returned (.agg #[.bool a1, .bool false, .bool c1, .bool d1, .bool e1]) ∧ Below V.heap.size V w' := fun a0 c0 d0 e0 V =>
    (next_any f ⟨a0, false, c0, d0, e0⟩ true V hf).mono fun x w' ⟨h1, h2⟩ => by
      have hb := nx_side ⟨a0, false, c0, d0, e0⟩ f rfl
      obtain ⟨q, hq⟩ : ∃ q, nx ⟨a0, false, c0, d0, e0⟩ f true = q := ⟨_, rfl⟩
      rw [hq] at h1 hb
      obtain ⟨a1, b1, c1, d1, e1⟩ := q
      have hb' : b1 = false := hb
      subst hb'
      exact ⟨a1, c1, d1, e1, h1, h2⟩
  have H3 := hide (fun (a1 c1 d1 e1 : Bool) (V : World) => (limP_any 6 a1 false c1 d1 e1 V (by omega)))
  have hlim : ∀ a1 c1 d1 e1 : Bool, lim 6 ⟨a1, false, c1, d1, e1⟩ = 240 := fun a1 c1 d1 e1 => lim_side _ rfl
  simp only [hlim] at H3
  clear hlim
  have hl := fun V : World => limP_any p a b c d e V hp
  obtain ⟨x1, hx1⟩ : ∃ x : Bool, ((p : Int) != 1) = x := ⟨_, rfl⟩
  obtain ⟨x2, hx2⟩ : ∃ x : Bool, ((p : Int) != 17) = x := ⟨_, rfl⟩
  obtain ⟨x3, hx3⟩ : ∃ x : Bool, ((p : Int) != 6) = x := ⟨_, rfl⟩
  have hcase : (x1 = false ∧ lim p ⟨a, b, c, d, e⟩ = 60) ∨ (x1 = true ∧ x2 = false ∧ lim p ⟨a, b, c, d, e⟩ = 300) ∨ (x1 = true ∧ x2 = true ∧ x3 = false ∧ (lim p ⟨a, b, c, d, e⟩ = 240 ∨ lim p ⟨a, b, c, d, e⟩ = 7440)) ∨ (x1 = true ∧ x2 = true ∧ x3 = true ∧ lim p ⟨a, b, c, d, e⟩ = 0) := by
    by_cases h1 : p = 1
    · left; refine ⟨by rw [← hx1]; simp [h1], by unfold lim; rw [if_pos h1]⟩
    by_cases h2 : p = 17
    · right; left; refine ⟨by rw [← hx1]; simp; omega, by rw [← hx2]; simp [h2], by unfold lim; rw [if_neg h1, if_pos h2]⟩
    by_cases h3 : p = 6
    · right; right; left; refine ⟨by rw [← hx1]; simp; omega, by rw [← hx2]; simp; omega, by rw [← hx3]; simp [h3], ?_⟩
      unfold lim; rw [if_neg h1, if_neg h2, if_pos h3]; split <;> simp
    · right; right; right; refine ⟨by rw [← hx1]; simp; omega, by rw [← hx2]; simp; omega, by rw [← hx3]; simp; omega, ?_⟩
      unfold lim; rw [if_neg h1, if_neg h2, if_neg h3]
  have HL := hide hl
  have HZ := hide hz
  have HZ2 := hide hz2
  generalize lim p ⟨a, b, c, d, e⟩ = l at *
  unfold St5.v at *
  dsimp only at *
  clear hl hz hz2
  have HB := hide ((Below.refl w.heap.size w).alloc (Nat.le_refl _) (.cells #[.bool a, .bool b, .bool c, .bool d, .bool e] 23))
  have hs0 : w.heap.size < (w.alloc (.cells #[.bool a, .bool b, .bool c, .bool d, .bool e] 23)).heap.size := by simp
  rcases hcase with ⟨rfl, rfl⟩ | ⟨rfl, rfl, rfl⟩ | ⟨rfl, rfl, rfl, rfl | rfl⟩ | ⟨rfl, rfl, rfl, rfl⟩
  all_goals
    go_enter Try.func6, Try.ntmps6
    go_wp2_with fail
    refine (speaks11_any _).mono ?_
    rintro _ w1 ⟨rfl, b1⟩
    have t0 := (bcell5 b1).1 w.heap.size 0 hs0
    have t1 := (bcell5 b1).1 w.heap.size 1 hs0
    have t2 := (bcell5 b1).1 w.heap.size 2 hs0
    have t3 := (bcell5 b1).1 w.heap.size 3 hs0
    have t4 := (bcell5 b1).1 w.heap.size 4 hs0
    simp [go_sem] at t0 t1 t2 t3 t4
    have HB1 := hide (HB.out.trans (b1.mono HB.out.size))
    clear b1
    go_wp2_with fail
    refine (HL.out _).mono ?_
    rintro _ w2 ⟨rfl, b2⟩
    have HB2 := hide (HB1.out.trans (b2.mono HB1.out.size))
    clear b2 t0 t1 t2 t3 t4
    go_wp2_with fail
    refine (HZ.out _).mono ?_
    rintro _ w3 ⟨a1, c1, d1, e1, rfl, b3⟩
    have hs3 : w.heap.size ≤ w3.heap.size := Nat.le_trans HB2.out.size b3.size
    have HB3 := hide ((HB2.out.trans (b3.mono HB2.out.size)).alloc hs3 (.cells #[.bool a1, .bool false, .bool c1, .bool d1, .bool e1] 23))
    clear b3
    go_wp2_with fail
    refine (HZ2.out a1 c1 d1 e1 _).mono ?_
    rintro _ w4 ⟨a2, c2, d2, e2, rfl, b4⟩
    have hs4 : w.heap.size ≤ w4.heap.size := Nat.le_trans HB3.out.size b4.size
    have HB4 := hide ((HB3.out.trans (b4.mono HB3.out.size)).alloc hs4 (.cells #[.bool a2, .bool false, .bool c2, .bool d2, .bool e2] 23))
    clear b4
    go_wp2_with fail
    refine (H3.out a2 c2 d2 e2 _).mono ?_
    rintro _ w5 ⟨rfl, b5⟩
    have HB5 := hide (HB4.out.trans (b5.mono HB4.out.size))
    clear b5
    go_wp2_with fail
    go_ret
    exact ⟨rfl, HB5.out⟩
theorem rest_and : ∀ m : Nat, m < 256 → ∃ r : Nat, r < 256 ∧ bits .andNot .u8 (m : Int) 22 = (r : Int) ∧ kB r 1 = false ∧ kB r 2 = false ∧ kB r 4 = false := by decide +kernel
theorem low_and : ∀ f : Nat, f < 256 → ∃ g : Nat, g < 23 ∧ bits .and .u8 (f : Int) 22 = (g : Int) ∧ begB g = begB f := by decide +kernel
theorem or_beg0 : ∀ g : Nat, g < 23 → ∀ r : Nat, r < 256 → (kB r 1 || kB r 2 || kB r 4) = true ∨ (bits .or .u8 (g : Int) (r : Int) = ((bits .or .u8 (g : Int) (r : Int)).toNat : Int) ∧ (bits .or .u8 (g : Int) (r : Int)).toNat < 256 ∧ begB (bits .or .u8 (g : Int) (r : Int)).toNat = begB g) := by decide +kernel
theorem or_beg (g : Nat) (hg : g < 23) (r : Nat) (hr : r < 256) (h1 : kB r 1 = false) (h2 : kB r 2 = false) (h4 : kB r 4 = false) : ∃ x : Nat, x < 256 ∧ bits .or .u8 (g : Int) (r : Int) = (x : Int) ∧ begB x = begB g := by
  rcases or_beg0 g hg r hr with h | ⟨a, b, c⟩
  · rw [h1, h2, h4] at h; cases h
  · exact ⟨_, b, a, c⟩
set_option maxHeartbeats 2000000 in
theorem trackBegins_any (w : World) (f m : Nat) (hf : f < 256) (hm : m < 256) :
    Calls Try.prog 5 #[.int .u8 (f : Int), .int .u8 (m : Int)] w fun e w' => e = .returned (.bool true) ∧ Below w.heap.size w w' := by
  obtain ⟨r, hr, hr1, k1, k2, k4⟩ := rest_and m hm
  obtain ⟨g, hg, hg1, hg2⟩ := low_and f hf
  obtain ⟨x, hx, hx1, hx2⟩ := or_beg g hg r hr k1 k2 k4
  obtain ⟨y, hy, hy1, hy2⟩ := or_beg 2 (by omega) r hr k1 k2 k4
  obtain ⟨z, hz, hz1, hz2⟩ := or_beg 18 (by omega) r hr k1 k2 k4
  obtain ⟨v, hv, hv1, hv2⟩ := or_beg 6 (by omega) r hr k1 k2 k4
  have hb0 : begB r = false := by unfold begB; rw [k1]; rfl
  have C1 := hide (fun V : World => begins_any f V hf)
  have C2 := hide (fun V : World => begins_any x V hx)
  have C3 := hide (fun V : World => begins_any y V hy)
  have C4 := hide (fun V : World => begins_any z V hz)
  have C5 := hide (fun V : World => begins_any v V hv)
  have C6 := hide (fun V : World => begins_any r V hr)
  rw [hx2, hg2] at C2
  rw [hy2, show begB 2 = true by decide] at C3
  rw [hz2, show begB 18 = false by decide] at C4
  rw [hv2, show begB 6 = false by decide] at C5
  rw [hb0] at C6
  generalize begB f = b at *
  have hy1' : bits .or .u8 2 (r : Int) = (y : Int) := hy1
  have hz1' : bits .or .u8 18 (r : Int) = (z : Int) := hz1
  have hv1' : bits .or .u8 6 (r : Int) = (v : Int) := hv1
  clear hy1 hz1 hv1 hx2 hg2 hy2 hz2 hv2 hb0 k1 k2 k4
  cases b <;>
  · go_enter Try.func5, Try.ntmps5
    go_wp2_with fail
    refine (speaks11_any _).mono ?_
    rintro _ w1 ⟨rfl, b1⟩
    have HB1 := hide b1
    clear b1
    go_wp2_with fail
    refine (C1.out _).mono ?_
    rintro _ w2 ⟨rfl, rfl⟩
    go_wp2_with fail
    refine (C2.out _).mono ?_
    rintro _ w3 ⟨rfl, rfl⟩
    go_wp2_with fail
    refine (C3.out _).mono ?_
    rintro _ w3 ⟨rfl, rfl⟩
    go_wp2_with fail
    refine (C4.out _).mono ?_
    rintro _ w3 ⟨rfl, rfl⟩
    go_wp2_with fail
    refine (C5.out _).mono ?_
    rintro _ w3 ⟨rfl, rfl⟩
    go_wp2_with fail
    refine (C6.out _).mono ?_
    rintro _ w3 ⟨rfl, rfl⟩
    go_wp2_with fail
    go_ret
    exact ⟨rfl, HB1.out⟩
end Go.Proofs.Ytggnbhihajealaa
