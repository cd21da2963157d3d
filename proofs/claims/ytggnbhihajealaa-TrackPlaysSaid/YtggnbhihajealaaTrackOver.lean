/- A connection that is over stays so: the law walked. -/
import Derived.Test.YtggnbhihajealaaTkOver
import Derived.Deep.Cut
namespace Go.Proofs.Ytggnbhihajealaa
open Go.RowKit Go.Deep
set_option linter.unusedVariables false
set_option linter.unusedSimpArgs false
set_option maxRecDepth 100000
theorem two_cells {w : World} {R : Nat} {t : TypeId} {v0 v1 : Value} (h : w.heap[R]? = some (.cells #[v0, v1] t (0, 0))) : w.cell? ⟨R, 0, none⟩ = some v0 ∧ w.cell? ⟨R, 1, none⟩ = some v1 := by
  refine ⟨?_, ?_⟩ <;> simp [World.cell?, h]
set_option maxHeartbeats 800000 in
theorem tover_long (w : World) (a : Option Addr) (l : List Seen2) (n cap : Nat) (hn : n ≤ 9223372036854775807) (h : 500 < n) :
    Calls Try.prog 4 #[.slice a n cap] w fun e w' => e = .returned (.bool true) ∧ Below w.heap.size w w' := by
  go_enter Try.func4, Try.ntmps4
  go_wp2_with fail
  refine (speaks11_any _).mono ?_
  rintro e w1 ⟨rfl, b1⟩
  go_wp2
  go_ret
  exact ⟨rfl, b1⟩
set_option maxHeartbeats 4000000 in
theorem tover_main (w : World) (a : Option Addr) (l : List Seen2) (n cap : Nat) (hO : SeenAt w a l) (hl : l.length = n) (hn : n ≤ 9223372036854775807) (h : n ≤ 500) :
    Calls Try.prog 4 #[.slice a n cap] w fun e w' => e = .returned (.bool true) ∧ Below w.heap.size w w' := by
  have HO := hide hO
  have HL := hide hl
  clear hO hl hn
  go_enter Try.func4, Try.ntmps4
  go_wp2_with fail
  refine (speaks11_any _).mono ?_
  rintro _ w1 ⟨rfl, b1⟩
  go_wp2_with fail
  obtain ⟨B, w2, hB, hw2, HX, HB⟩ : ∃ B wt, w1.heap.size = B ∧ w1.alloc (.cells #[.bool false, .bool false, .bool false, .bool false, .bool false] 23) = wt ∧ Hid (Box5 wt B ⟨false, false, false, false, false⟩ ∧ w.heap.size ≤ B) ∧ Hid (Below w.heap.size w wt) :=
    ⟨_, _, rfl, rfl, hide ⟨heap_alloc_new _ _, b1.size⟩, hide (b1.alloc b1.size _)⟩
  try rw [hw2]
  try rw [hB]
  clear hB hw2 b1
  go_loopw [4, 16] (fun o i wz => ∃ (j : Nat) (s : St5), j ≤ n ∧ i = .int .i64 j ∧ o = .bool (overB s) ∧ Hid (Box5 wz B s ∧ w.heap.size ≤ B) ∧ Hid (Below w.heap.size w wz)) (fun _ i _ => n - (intOf i).toNat)
  case atStart => exact ⟨0, ⟨false, false, false, false, false⟩, Nat.zero_le _, rfl, rfl, HX, HB⟩
  case round =>
    clear HX HB
    obtain ⟨j, s, hj, rfl, rfl, HX, HB⟩ := hrel
    by_cases hlt : j < n
    · obtain ⟨o, ho⟩ : ∃ o, l[j]? = some o := ⟨l[j]'(by rw [HL.out]; exact hlt), List.getElem?_eq_getElem _⟩
      obtain ⟨b, off, rfl, hbl, hcell⟩ := HO.out (by intro e; subst e; simp at ho)
      obtain ⟨p0, p1, hf⟩ := hcell j o ho
      obtain ⟨f, out⟩ := o
      simp only at p0 p1 hf
      have c0 := (HB.out.cell (p := ⟨b, off + j * 2, none⟩) hbl).trans p0
      have c1 := (HB.out.cell (p := ⟨b, off + j * 2 + 1, none⟩) hbl).trans p1
      have hBl := lt_of_block HX.out.1
      have hwB := HX.out.2
      have hal := (Below.refl wr.heap.size wr).alloc (Nat.le_refl _) (.cells #[.int .u8 (f : Int), .bool out] 27)
      have HX1 := hide (HX.out.1.below hal (Nat.le_refl _))
      have HB1 := hide (HB.out.alloc HB.out.size (.cells #[.int .u8 (f : Int), .bool out] 27))
      obtain ⟨x0, x1, x2, x3, x4, xf⟩ := five_cells HX.out.1
      obtain ⟨a', b', c', d', e', lm, hnx, hlim, hlv⟩ := over_leaves s f out
      have HN := hide (fun V : World => next_any f s out V hf)
      rw [hnx] at HN
      have HM := hide (fun V : World => limP_any 6 a' b' c' d' e' V (by omega))
      rw [hlim] at HM
      have HG := hide (fun V : World => begins_any f V hf)
      have HST := hide (show nx s f out = ⟨a', b', c', d', e'⟩ from hnx)
      obtain ⟨s0, s1, s2, s3, s4⟩ := s
      unfold St5.v at HN HM
      dsimp only at HN HM x0 x1 x2 x3 x4
      generalize begB f = bg at *
      obtain ⟨ov, hov⟩ : ∃ ov, overB ⟨s0, s1, s2, s3, s4⟩ = ov := ⟨_, rfl⟩
      rw [hov] at hlv
      try rw [hov]
      clear hcell p0 p1 ho hal hnx hlim hov hf
      have hxb := heap_alloc_new wr (.cells #[.int .u8 (f : Int), .bool out] 27)
      obtain ⟨X, hX⟩ : ∃ X, wr.heap.size = X := ⟨_, rfl⟩
      rw [hX] at hxb hBl
      have hBX : B ≠ X := by omega
      have HSW := hide (fun (w3 : World) (b3 : Below (wr.alloc (.cells #[.int .u8 (f : Int), .bool out] 27)).heap.size (wr.alloc (.cells #[.int .u8 (f : Int), .bool out] 27)) w3) => (show ∃ wt, ((((w3.setCell ⟨B, 0, none⟩ (.bool a')).setCell ⟨B, 1, none⟩ (.bool b')).setCell ⟨B, 2, none⟩ (.bool c')).setCell ⟨B, 3, none⟩ (.bool d')).setCell ⟨B, 4, none⟩ (.bool e') = wt ∧ Hid (Box5 wt B ⟨a', b', c', d', e'⟩ ∧ w.heap.size ≤ B) ∧ Hid (Below w.heap.size w wt) ∧ wt.heap[X]? = some (.cells #[.int .u8 (f : Int), .bool out] 27 (0, 0)) from
        ⟨_, rfl, hide ⟨(HX1.out.below b3 (Nat.le_refl _)).store a' b' c' d' e', hwB⟩, hide (below5 (HB1.out.trans (b3.mono HB1.out.size)) hwB _ _ _ _ _), by
          rw [heap_setCell_other _ _ _ _ hBX.symm, heap_setCell_other _ _ _ _ hBX.symm, heap_setCell_other _ _ _ _ hBX.symm, heap_setCell_other _ _ _ _ hBX.symm, heap_setCell_other _ _ _ _ hBX.symm]
          exact below_block b3 hxb (Nat.le_refl _)⟩))
      clear hxb
      rcases hlv with ⟨rfl, rfl, rfl⟩ | ⟨rfl, rfl, rfl⟩ | ⟨rfl, rfl, rfl, rfl, rfl⟩ | ⟨rfl, rfl, rfl, rfl, rfl⟩ | ⟨rfl, rfl, rfl, rfl, rfl, rfl⟩ | ⟨rfl, rfl, rfl, rfl⟩ | ⟨rfl, rfl, rfl, rfl, rfl, rfl, rfl⟩ | ⟨rfl, rfl, rfl, rfl, rfl⟩ | ⟨rfl, rfl, rfl, rfl, rfl, rfl, rfl, rfl, rfl⟩
      all_goals
        go_wp2_with fail
        refine (HN.out _).mono ?_
        rintro _ w3 ⟨rfl, b3⟩
        obtain ⟨w4, hw4, HX4, HB4, hx4⟩ := HSW.out w3 b3
        obtain ⟨z0, z1, z2, z3, z4, zf⟩ := five_cells (HX1.out.below b3 (Nat.le_refl _))
        clear b3 x0 x1 x2 x3 x4 xf c0 c1 HSW HX1 HB1
        go_upto_region 10 with (fail)
        try rw [hw4]
        try rw [hX]
        clear z0 z1 z2 z3 z4 zf hw4
        obtain ⟨t0, t1, t2, t3, t4, tf⟩ := five_cells HX4.out.1
        obtain ⟨y0, y1⟩ := two_cells hx4
        dsimp only at t0 t1 t2 t3 t4
        clear hx4
        go_wp2_with ((with_reducible refine (HG.out _).mono ?_); rintro _ w4 ⟨rfl, rfl⟩)
        refine (HM.out _).mono ?_
        rintro _ w5 ⟨rfl, b5⟩
        have HX5 := hide (And.intro (HX4.out.1.below b5 (Nat.le_refl _)) HX4.out.2)
        have HB5 := hide (HB4.out.trans (b5.mono HB4.out.size))
        clear t0 t1 t2 t3 t4 tf y0 y1
        obtain ⟨t0, t1, t2, t3, t4, tf⟩ := five_cells HX5.out.1
        dsimp only at t0 t1 t2 t3 t4
        clear b5 HX4 HB4
        go_wp2_with fail
        go_roundw
        case rel => exact ⟨j + 1, ⟨_, _, _, _, _⟩, by omega, by go_num, rfl, HX5, HB5⟩
        case measure => simp [intOf]; omega
    · have HE := hide HB.out
      go_wp2_with fail
      go_ret
      exact ⟨rfl, HE.out⟩
theorem trackOver_any (w : World) (a : Option Addr) (l : List Seen2) (n cap : Nat) (hO : SeenAt w a l) (hl : l.length = n) (hn : n ≤ 9223372036854775807) :
    Calls Try.prog 4 #[.slice a n cap] w fun e w' => e = .returned (.bool true) ∧ Below w.heap.size w w' := by
  by_cases h : 500 < n
  · exact tover_long w a l n cap hn h
  · exact tover_main w a l n cap hO hl hn (by omega)
end Go.Proofs.Ytggnbhihajealaa
