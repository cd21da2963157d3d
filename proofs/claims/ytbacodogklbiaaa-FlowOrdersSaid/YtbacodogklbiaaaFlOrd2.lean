/- Flows: their order, the program's and the document's. -/
import Derived.Test.YtbacodogklbiaaaFlOrd
namespace Go.Proofs.Ytbacodogklbiaaa
open Go.RowKit
set_option linter.unusedVariables false
set_option linter.unusedSimpArgs false
set_option maxRecDepth 100000
theorem below_block {w w' : World} {R B : Nat} {o : Obj} (h : Below B w w') (ho : w.heap[R]? = some o) (hB : w.heap.size ≤ B) : w'.heap[R]? = some o := (h.block R (Nat.lt_of_lt_of_le (lt_of_block ho) hB)).trans ho
theorem five_cells {w : World} {R : Nat} {t : TypeId} {v0 v1 v2 v3 v4 : Value} (h : w.heap[R]? = some (.cells #[v0, v1, v2, v3, v4] t (0, 0))) : w.cell? ⟨R, 0, none⟩ = some v0 ∧ w.cell? ⟨R, 1, none⟩ = some v1 ∧ w.cell? ⟨R, 2, none⟩ = some v2 ∧ w.cell? ⟨R, 3, none⟩ = some v3 ∧ w.cell? ⟨R, 4, none⟩ = some v4 ∧ ∀ i, w.frozen? ⟨R, i, none⟩ = false := by
  refine ⟨?_, ?_, ?_, ?_, ?_, fun i => ?_⟩ <;> simp [World.cell?, World.frozen?, h]
theorem two_flows {w W : World} {v0 v1 v2 v3 v4 u0 u1 u2 u3 u4 : Value} (hW : (w.alloc (.cells #[v0, v1, v2, v3, v4] 30)).alloc (.cells #[u0, u1, u2, u3, u4] 30) = W) :
    W.heap[w.heap.size]? = some (.cells #[v0, v1, v2, v3, v4] 30 (0, 0)) ∧ W.heap[w.heap.size + 1]? = some (.cells #[u0, u1, u2, u3, u4] 30 (0, 0)) ∧ Below w.heap.size w W ∧ W.heap.size = w.heap.size + 1 + 1 := by
  subst hW
  have h0 := heap_alloc_new w (.cells #[v0, v1, v2, v3, v4] 30)
  have h1 := heap_alloc_new (w.alloc (.cells #[v0, v1, v2, v3, v4] 30)) (.cells #[u0, u1, u2, u3, u4] 30)
  refine ⟨below_block ((Below.refl _ _).alloc (Nat.le_refl _) _) h0 (Nat.le_refl _), ?_, ((Below.refl _ _).alloc (Nat.le_refl _) _).alloc (by simp) _, by simp⟩
  have hz : (w.alloc (.cells #[v0, v1, v2, v3, v4] 30)).heap.size = w.heap.size + 1 := by simp
  rw [hz] at h1
  exact h1
theorem or_five (V : World) (a b c d e : Int) :
    Calls Try.prog 35 #[.slice (some ⟨V.heap.size, 0, none⟩) 5 5] (V.alloc (.cells #[.int .i64 a, .int .i64 b, .int .i64 c, .int .i64 d, .int .i64 e] 3)).drew fun x w' => x = .returned (.int .i64 (nzF [a, b, c, d, e])) ∧ w' = (V.alloc (.cells #[.int .i64 a, .int .i64 b, .int .i64 c, .int .i64 d, .int .i64 e] 3)).drew := by
  refine or_any [a, b, c, d, e] _ V.heap.size 5 (fun i hi => ?_) (by simp)
  obtain ⟨c0, c1, c2, c3, c4, _⟩ := five_cells (heap_alloc_new V (.cells #[.int .i64 a, .int .i64 b, .int .i64 c, .int .i64 d, .int .i64 e] 3))
  match i, hi with
  | 0, _ => exact c0
  | 1, _ => exact c1
  | 2, _ => exact c2
  | 3, _ => exact c3
  | 4, _ => exact c4
set_option maxHeartbeats 2000000 in
theorem order_any (a b : Fl) (w : World) :
    Calls Try.prog 19 #[a.v, b.v] w fun e w' => e = .returned (.int .i64 (orderF a b)) ∧ Below w.heap.size w w' := by
  obtain ⟨ap, as_, ad, af, at_⟩ := a
  obtain ⟨bp, bs, bd, bf, bt⟩ := b
  obtain ⟨r, hr⟩ : ∃ r, orderF ⟨ap, as_, ad, af, at_⟩ ⟨bp, bs, bd, bf, bt⟩ = r := ⟨_, rfl⟩
  rw [hr]
  have HR := hide (show nzF [ordI ap bp, ordI as_ bs, ordI af bf, ordI ad bd, ordI at_ bt] = r from hr)
  clear hr
  unfold Fl.v
  dsimp only
  obtain ⟨W, hW⟩ : ∃ W, (w.alloc (.cells #[.int .u8 (ap : Int), .int .u32 (as_ : Int), .int .u32 (ad : Int), .int .u16 (af : Int), .int .u16 (at_ : Int)] 30)).alloc (.cells #[.int .u8 (bp : Int), .int .u32 (bs : Int), .int .u32 (bd : Int), .int .u16 (bf : Int), .int .u16 (bt : Int)] 30) = W := ⟨_, rfl⟩
  obtain ⟨hx, hy, hb, hz⟩ := two_flows hW
  obtain ⟨B1, hB1⟩ : ∃ B, w.heap.size = B := ⟨_, rfl⟩
  obtain ⟨B2, hB2⟩ : ∃ B, w.heap.size + 1 = B := ⟨_, rfl⟩
  rw [hB1] at hx
  rw [hB2] at hy
  obtain ⟨x0, x1, x2, x3, x4, _⟩ := five_cells hx
  obtain ⟨y0, y1, y2, y3, y4, _⟩ := five_cells hy
  have hl1 := lt_of_block hx
  have hl2 := lt_of_block hy
  have HB := hide hb
  have HOR := hide (or_five W (ordI ap bp) (ordI as_ bs) (ordI af bf) (ordI ad bd) (ordI at_ bt))
  have HE := hide (And.intro hW (And.intro hB1 hB2))
  clear hx hy hb hz hW hB1 hB2
  go_enter Try.func19, Try.ntmps19
  go_wp2_with fail
  rw [HE.out.1]
  rw [HE.out.2.2]
  rw [HE.out.2.1]
  clear HE
  go_region_held3 (fun w' => w'.cell? ⟨B1, 0, none⟩ = some (.int .u8 (ap : Int)) ∧ w'.cell? ⟨B1, 1, none⟩ = some (.int .u32 (as_ : Int)) ∧ w'.cell? ⟨B1, 2, none⟩ = some (.int .u32 (ad : Int)) ∧ w'.cell? ⟨B1, 3, none⟩ = some (.int .u16 (af : Int)) ∧ w'.cell? ⟨B1, 4, none⟩ = some (.int .u16 (at_ : Int)) ∧ w'.cell? ⟨B2, 0, none⟩ = some (.int .u8 (bp : Int)) ∧ w'.cell? ⟨B2, 1, none⟩ = some (.int .u32 (bs : Int)) ∧ w'.cell? ⟨B2, 2, none⟩ = some (.int .u32 (bd : Int)) ∧ w'.cell? ⟨B2, 3, none⟩ = some (.int .u16 (bf : Int)) ∧ w'.cell? ⟨B2, 4, none⟩ = some (.int .u16 (bt : Int))) ((go_keep; done)) (first
    | (go_at_call 36; (with_reducible refine (cmpB_any _ _ _).mono ?_); rintro _ w1 ⟨rfl, rfl⟩)
    | (go_at_call 37; (with_reducible refine (cmpA_any _ _ _).mono ?_); rintro _ w1 ⟨rfl, rfl⟩)
    | (go_at_call 38; (with_reducible refine (cmpH_any _ _ _).mono ?_); rintro _ w1 ⟨rfl, rfl⟩)
    | (go_at_call 35; (with_reducible refine HOR.out.mono ?_); rintro _ w1 ⟨rfl, rfl⟩)
    | fail)
  all_goals
    go_wp2_with fail
    go_ret
    exact ⟨by rw [HR.out]; rfl, (HB.out.alloc HB.out.size _).drew⟩
theorem getl (a b c d e : Int) (B : Nat) (w : World) (h : w.heap[B]? = some (.cells #[.int .u64 a, .int .u64 b, .int .u64 c, .int .u64 d, .int .u64 e] 82 (0, 0))) (i : Nat) (hi : i < 5) : w.cell? ⟨B, i, none⟩ = some (.int .u64 ([a, b, c, d, e][i]?.getD 0)) := by
  obtain ⟨c0, c1, c2, c3, c4, _⟩ := five_cells h
  match i, hi with
  | 0, _ => exact c0
  | 1, _ => exact c1
  | 2, _ => exact c2
  | 3, _ => exact c3
  | 4, _ => exact c4
set_option maxHeartbeats 2000000 in
theorem less_any (a b : Fl) (w : World) (ha : a.Ok) (hbb : b.Ok) :
    Calls Try.prog 20 #[a.v, b.v] w fun e w' => e = .returned (.bool (lessL a.l b.l)) ∧ Below w.heap.size w w' := by
  obtain ⟨ap, as_, ad, af, at_⟩ := a
  obtain ⟨bp, bs, bd, bf, bt⟩ := b
  obtain ⟨a1, a2, a3, a4, a5⟩ := ha
  obtain ⟨b1, b2, b3, b4, b5⟩ := hbb
  dsimp only at a1 a2 a3 a4 a5 b1 b2 b3 b4 b5
  obtain ⟨r, hr⟩ : ∃ r, lessL (Fl.l ⟨ap, as_, ad, af, at_⟩) (Fl.l ⟨bp, bs, bd, bf, bt⟩) = r := ⟨_, rfl⟩
  rw [hr]
  have HR := hide (show lessL [(ap : Int), as_, af, ad, at_] [(bp : Int), bs, bf, bd, bt] = r from hr)
  clear hr
  unfold Fl.v
  dsimp only
  obtain ⟨W, hW⟩ : ∃ W, (w.alloc (.cells #[.int .u8 (ap : Int), .int .u32 (as_ : Int), .int .u32 (ad : Int), .int .u16 (af : Int), .int .u16 (at_ : Int)] 30)).alloc (.cells #[.int .u8 (bp : Int), .int .u32 (bs : Int), .int .u32 (bd : Int), .int .u16 (bf : Int), .int .u16 (bt : Int)] 30) = W := ⟨_, rfl⟩
  obtain ⟨hx, hy, hb, hz⟩ := two_flows hW
  obtain ⟨W1, hW1⟩ : ∃ V, W.alloc (.cells #[.int .u64 (ap : Int), .int .u64 (as_ : Int), .int .u64 (af : Int), .int .u64 (ad : Int), .int .u64 (at_ : Int)] 82) = V := ⟨_, rfl⟩
  obtain ⟨W2, hW2⟩ : ∃ V, W1.alloc (.cells #[.int .u64 (bp : Int), .int .u64 (bs : Int), .int .u64 (bf : Int), .int .u64 (bd : Int), .int .u64 (bt : Int)] 82) = V := ⟨_, rfl⟩
  have hb1 : Below W.heap.size W W1 := by rw [← hW1]; exact (Below.refl _ _).alloc (Nat.le_refl _) _
  have hb2 : Below W1.heap.size W1 W2 := by rw [← hW2]; exact (Below.refl _ _).alloc (Nat.le_refl _) _
  have hp1 := heap_alloc_new W (.cells #[.int .u64 (ap : Int), .int .u64 (as_ : Int), .int .u64 (af : Int), .int .u64 (ad : Int), .int .u64 (at_ : Int)] 82)
  rw [hW1] at hp1
  have hp2 := heap_alloc_new W1 (.cells #[.int .u64 (bp : Int), .int .u64 (bs : Int), .int .u64 (bf : Int), .int .u64 (bd : Int), .int .u64 (bt : Int)] 82)
  rw [hW2] at hp2
  have hq1 := below_block hb2 hp1 (Nat.le_refl _)
  obtain ⟨B1, hB1⟩ : ∃ B, w.heap.size = B := ⟨_, rfl⟩
  obtain ⟨B2, hB2⟩ : ∃ B, w.heap.size + 1 = B := ⟨_, rfl⟩
  rw [hB1] at hx
  rw [hB2] at hy
  obtain ⟨x0, x1, x2, x3, x4, _⟩ := five_cells hx
  obtain ⟨y0, y1, y2, y3, y4, _⟩ := five_cells (below_block hb1 hy (Nat.le_refl _))
  obtain ⟨y0', y1', y2', y3', y4', _⟩ := five_cells hy
  have HB := hide ((hb.trans (hb1.mono hb.size)).trans (hb2.mono (Nat.le_trans hb.size hb1.size)))
  obtain ⟨X, hX⟩ : ∃ B, W.heap.size = B := ⟨_, rfl⟩
  obtain ⟨Y, hY⟩ : ∃ B, W1.heap.size = B := ⟨_, rfl⟩
  rw [hX] at hq1
  rw [hY] at hp2
  have HX := hide (getl _ _ _ _ _ X W2 hq1)
  have HY := hide (getl _ _ _ _ _ Y W2 hp2)
  have hX1 : w.heap.size + 1 + 1 = X := by rw [← hX, hz]
  have hY1 : w.heap.size + 1 + 1 + 1 = Y := by rw [← hY, ← hW1]; simp [hz]
  have HE := hide (And.intro hW (And.intro hB1 (And.intro hB2 (And.intro hW1 (And.intro hX (And.intro hW2 hY))))))
  clear hx hy hb hb1 hb2 hp1 hp2 hq1 hW hB1 hB2 hW1 hX hW2 hY hX1 hY1 hz
  go_enter Try.func20, Try.ntmps20
  go_upto_region 1 with (fail)
  rw [HE.out.1, HE.out.2.2.1, HE.out.2.1]
  go_upto_region 2 with (fail)
  rw [HE.out.2.2.2.1, HE.out.2.2.2.2.1]
  go_wp2_with fail
  rw [HE.out.2.2.2.2.2.1, HE.out.2.2.2.2.2.2]
  clear HE x0 x1 x2 x3 x4 y0 y1 y2 y3 y4 y0' y1' y2' y3' y4'
  go_loopw [7] (fun i wz => ∃ j q : Nat, j ≤ 5 ∧ i = .int .i64 j ∧ wz = W2.drewN q ∧ Hid (∀ k, k < j → [(ap : Int), as_, af, ad, at_][k]?.getD 0 = [(bp : Int), bs, bf, bd, bt][k]?.getD 0)) (fun i _ => 5 - (intOf i).toNat)
  case atStart => exact ⟨0, 0, by omega, rfl, rfl, hide (fun k hk => absurd hk (by omega))⟩
  case round =>
    obtain ⟨j, q, hj, rfl, rfl, HZ⟩ := hrel
    by_cases hlt : j < 5
    · have c0 := HX.out j hlt
      have c1 := HY.out j hlt
      obtain ⟨u, hu⟩ : ∃ u, [(ap : Int), as_, af, ad, at_][j]?.getD 0 = u := ⟨_, rfl⟩
      obtain ⟨v, hv⟩ : ∃ u, [(bp : Int), bs, bf, bd, bt][j]?.getD 0 = u := ⟨_, rfl⟩
      rw [hu] at c0
      rw [hv] at c1
      have i0 : (0 : Int) ≤ (j : Int) := by omega
      have i1 : (j : Int) < 5 := by omega
      by_cases hz : u = v
      · subst hz
        have HZ2 := hide (show ∀ k, k < j + 1 → [(ap : Int), as_, af, ad, at_][k]?.getD 0 = [(bp : Int), bs, bf, bd, bt][k]?.getD 0 by
          intro k hk
          rcases Nat.lt_or_ge k j with h | h
          · exact HZ.out k h
          · have : k = j := by omega
            rw [this, hu, hv])
        clear hu hv
        go_wp2_with fail
        go_quiet (fail)
        go_wp2_with fail
        go_roundw
        case rel => exact ⟨j + 1, q + nq, by omega, by go_num, by first | rfl | rw [World.drewN_drewN], HZ2⟩
        case measure => simp [intOf]; omega
      · have hd : (u != v) = true := by simpa using hz
        have HX2 := hide (show r = decide (u < v) by rw [← HR.out, less_at [(ap : Int), as_, af, ad, at_] [(bp : Int), bs, bf, bd, bt] j (by simpa using hlt) (by rfl) HZ.out (by rw [hu, hv]; exact hz), hu, hv])
        clear hz hu hv
        go_wp2_with fail
        go_quiet (fail)
        go_wp2_with fail
        go_quiet (fail)
        go_wp2_with fail
        go_ret
        refine ⟨by rw [HX2.out]; rfl, ?_⟩
        repeat (first | exact HB.out | refine bdrewN ?_ _)
    · have HX2 := hide (show r = false by
        rw [← HR.out]
        exact less_all [(ap : Int), as_, af, ad, at_] [(bp : Int), bs, bf, bd, bt] (by rfl) fun k hk => HZ.out k (by simp at hk; omega))
      go_wp2_with fail
      go_ret
      exact ⟨by rw [HX2.out]; rfl, bdrewN HB.out q⟩
end Go.Proofs.Ytbacodogklbiaaa
