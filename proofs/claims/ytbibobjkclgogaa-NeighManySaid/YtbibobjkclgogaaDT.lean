/- Trees of nodes in memory: [hearth/api.Addr, hearth/neigh.host]. -/
import Derived.Test.YtbibobjkclgogaaGPlain
import Derived.Test.YtbibobjkclgogaaEKey
import Derived.Test.YtbibobjkclgogaaProg
import Derived.Deep.RegionHeld3
namespace Go.Proofs.Ytbibobjkclgogaa.D
open Go.RowKit Go.Deep
open Go.Proofs.Ytbibobjkclgogaa
set_option linter.unusedVariables false
set_option linter.unusedSimpArgs false
set_option maxRecDepth 100000
abbrev KV := Int × NH
/-- How many keys a tree has. -/
def nsz (T : BT KV) : Nat := (toL T).length
/-- Where its uppermost node lies. -/
def ad : BT KV → Option Addr
  | .nil => none
  | .node b o _ _ _ => some ⟨b, o, none⟩
/-- A tree's nodes lie in memory. -/
def TIn (w : World) : BT KV → Prop
  | .nil => True
  | .node b o a l r => o = 0 ∧ w.heap[b]? = some (.cells #[.int .u32 a.1, .int .u8 a.2.m0, .int .u8 a.2.m1, .int .u8 a.2.m2, .int .u8 a.2.m3, .int .u8 a.2.m4, .int .u8 a.2.m5, .int .u64 a.2.e, .int .i64 ((nsz l + 1 + nsz r : Nat) : Int), .pointer (ad l), .pointer (ad r)] 111 (0, 0)) ∧ TIn w l ∧ TIn w r
theorem nsz_node (b o : Nat) (a : KV) (l r : BT KV) : nsz (.node b o a l r) = nsz l + 1 + nsz r := by
  show (toL l ++ a :: toL r).length = _
  rw [List.length_append, List.length_cons]; unfold nsz; omega
/-- Nodes that were there stay as they were. -/
def NK (w w' : World) : Prop := ∀ (b : Nat) (cs : Array Value), w.heap[b]? = some (.cells cs 111 (0, 0)) → w'.heap[b]? = some (.cells cs 111 (0, 0))
theorem NK.refl (w : World) : NK w w := fun _ _ h => h
theorem NK.trans {a b c : World} (h : NK a b) (k : NK b c) : NK a c := fun i cs hi => k i cs (h i cs hi)
theorem NK.of_below {w w' : World} {B : Nat} (h : Below B w w') (hB : w.heap.size ≤ B) : NK w w' := fun i cs hi => (h.block i (Nat.lt_of_lt_of_le (lt_of_block hi) hB)).trans hi
theorem NK.set {w : World} {t : Nat} {cs : Array Value} {T : TypeId} {r : Nat × Nat} (ht : w.heap[t]? = some (.cells cs T r)) (hT : T ≠ 111) (i : Nat) (v : Value) : NK w (w.setCell ⟨t, i, none⟩ v) := fun b ds hb =>
  (Below.heap_setCell _ _ _ _ (by intro e; have e' : b = t := e; subst e'; rw [ht] at hb; cases hb; exact hT rfl)).trans hb
theorem NK.drewN (w : World) (n : Nat) : NK w (w.drewN n) := fun _ _ h => h
theorem TIn.keep {w w' : World} (k : NK w w') : ∀ {T : BT KV}, TIn w T → TIn w' T
  | .nil, _ => trivial
  | .node _ _ _ _ _, ⟨h0, h1, h2, h3⟩ => ⟨h0, k _ _ h1, TIn.keep k h2, TIn.keep k h3⟩
theorem five_cells {w : World} {R : Nat} {t : TypeId} {v0 v1 v2 v3 v4 v5 v6 v7 v8 v9 v10 : Value} (h : w.heap[R]? = some (.cells #[v0, v1, v2, v3, v4, v5, v6, v7, v8, v9, v10] t (0, 0))) : w.cell? ⟨R, 0, none⟩ = some v0 ∧ w.cell? ⟨R, 1, none⟩ = some v1 ∧ w.cell? ⟨R, 2, none⟩ = some v2 ∧ w.cell? ⟨R, 3, none⟩ = some v3 ∧ w.cell? ⟨R, 4, none⟩ = some v4 ∧ w.cell? ⟨R, 5, none⟩ = some v5 ∧ w.cell? ⟨R, 6, none⟩ = some v6 ∧ w.cell? ⟨R, 7, none⟩ = some v7 ∧ w.cell? ⟨R, 8, none⟩ = some v8 ∧ w.cell? ⟨R, 9, none⟩ = some v9 ∧ w.cell? ⟨R, 10, none⟩ = some v10 ∧ ∀ i, w.frozen? ⟨R, i, none⟩ = false := by
  refine ⟨?_, ?_, ?_, ?_, ?_, ?_, ?_, ?_, ?_, ?_, ?_, fun i => ?_⟩ <;> simp [World.cell?, World.frozen?, h]
set_option maxHeartbeats 400000 in
theorem len_any (T : BT KV) (w : World) (h : TIn w T) :
    Calls Try.prog 51 #[.pointer (ad T)] w fun e w' => e = .returned (.int .i64 (nsz T : Int)) ∧ w = w' := by
  cases T with
  | nil =>
    show Calls Try.prog 51 #[.pointer none] w _
    go_enter Try.func51, Try.ntmps51
    go_wp2
    go_ret
    exact ⟨rfl, rfl⟩
  | node b o a l r =>
    obtain ⟨rfl, h1, _, _⟩ := h
    rw [nsz_node]
    obtain ⟨c0, c1, c1a, c1b, c1c, c1d, c1e, c1f, c2, c3, c4, cf⟩ := five_cells h1
    show Calls Try.prog 51 #[.pointer (some ⟨b, 0, none⟩)] w _
    clear h1
    generalize nsz l + 1 + nsz r = s at *
    go_enter Try.func51, Try.ntmps51
    go_wp2
    go_ret
    exact ⟨rfl, rfl⟩
set_option maxHeartbeats 400000 in
theorem weight_any (T : BT KV) (w : World) (h : TIn w T) (hn : nsz T ≤ 1000000) :
    Calls Try.prog 68 #[.pointer (ad T)] w fun e w' => e = .returned (.int .i64 ((nsz T : Int) + 1)) ∧ w = w' := by
  have hl := hide (len_any T w h)
  clear h
  generalize ad T = p at *
  generalize nsz T = s at *
  go_enter Try.func68, Try.ntmps68
  go_wp2_with fail
  refine hl.out.mono ?_
  rintro e w' ⟨rfl, rfl⟩
  clear hl
  go_wp2
  go_ret
  exact ⟨rfl, rfl⟩

set_option maxHeartbeats 800000 in
theorem with0_any (b : Nat) (a : KV) (l r O : BT KV) (w : World) (h : TIn w (.node b 0 a l r)) (hO : TIn w O) (hn : nsz l + nsz r ≤ 1000000) (hm : nsz O ≤ 1000000) :
    Calls Try.prog 62 #[.pointer (some ⟨b, 0, none⟩), .int .i64 0, .pointer (ad O)] w fun e w' => ∃ b', e = .returned (.pointer (some ⟨b', 0, none⟩)) ∧ TIn w' (.node b' 0 a O r) ∧ Below w.heap.size w w' := by
  obtain ⟨_, h1, hl, hr⟩ := h
  have HHL := hide (fun (V : World) (hV : Below w.heap.size w V) => len_any O V (TIn.keep (NK.of_below hV (Nat.le_refl _)) hO))
  have HHR := hide (fun (V : World) (hV : Below w.heap.size w V) => len_any r V (TIn.keep (NK.of_below hV (Nat.le_refl _)) hr))
  have HT := hide (And.intro hO (And.intro hl hr))
  obtain ⟨S0, hS0⟩ : ∃ S, nsz l + 1 + nsz r = S := ⟨_, rfl⟩
  rw [hS0] at h1
  obtain ⟨c0, c1, c1a, c1b, c1c, c1d, c1e, c1f, c2, c3, c4, cf⟩ := five_cells h1
  have hs1 : IntKind.i64.wrap ((nsz O : Int) + 1) = (nsz O : Int) + 1 := IntWalk.i64_in _ (by omega)
  have hs2 : IntKind.i64.wrap ((nsz O : Int) + 1 + (nsz r : Int)) = (nsz O : Int) + 1 + (nsz r : Int) := IntWalk.i64_in _ (by omega)
  clear h1 hl hr hS0
  generalize hpl : ad l = pl at *
  generalize hpr : ad r = pr at *
  generalize hpo : ad O = po at *
  generalize hsl : nsz l = sl at *
  generalize hsr : nsz r = sr at *
  generalize hso : nsz O = so at *
  have HG := hide (And.intro hpl (And.intro hpr (And.intro hpo (And.intro hsl (And.intro hsr hso)))))
  clear hpl hpr hpo hsl hsr hso
  go_enter Try.func62, Try.ntmps62
  go_wp2_with fail
  obtain ⟨B, w1, hB, hw1, H1, HB1⟩ : ∃ B wt, w.heap.size = B ∧ w.alloc (.cells #[.int .u32 a.1, .int .u8 a.2.m0, .int .u8 a.2.m1, .int .u8 a.2.m2, .int .u8 a.2.m3, .int .u8 a.2.m4, .int .u8 a.2.m5, .int .u64 a.2.e, .int .i64 (S0 : Int), .pointer po, .pointer pr] 111) = wt ∧ Hid (wt.heap[B]? = some (.cells #[.int .u32 a.1, .int .u8 a.2.m0, .int .u8 a.2.m1, .int .u8 a.2.m2, .int .u8 a.2.m3, .int .u8 a.2.m4, .int .u8 a.2.m5, .int .u64 a.2.e, .int .i64 (S0 : Int), .pointer po, .pointer pr] 111 (0, 0))) ∧ Hid (Below w.heap.size w wt) :=
    ⟨_, _, rfl, rfl, hide (heap_alloc_new _ _), hide ((Below.refl _ _).alloc (Nat.le_refl _) _)⟩
  rw [hw1, hB]
  have HBe := hide hB
  obtain ⟨k0, k1, k1a, k1b, k1c, k1d, k1e, k1f, k2, k3, k4, kf⟩ := five_cells H1.out
  clear hB hw1 c0 c1 c1a c1b c1c c1d c1e c1f c2 c3 c4 cf
  have hk : ∀ z : Int, (w1.setCell ⟨B, 8, none⟩ (.int .i64 z)).drew.cell? ⟨B, 9, none⟩ = some (.pointer po) ∧ (w1.setCell ⟨B, 8, none⟩ (.int .i64 z)).drew.cell? ⟨B, 10, none⟩ = some (.pointer pr) := fun z => by
    have h5 : (w1.setCell ⟨B, 8, none⟩ (.int .i64 z)).heap[B]? = some (.cells #[.int .u32 a.1, .int .u8 a.2.m0, .int .u8 a.2.m1, .int .u8 a.2.m2, .int .u8 a.2.m3, .int .u8 a.2.m4, .int .u8 a.2.m5, .int .u64 a.2.e, .int .i64 (z), .pointer po, .pointer pr] 111 (0, 0)) := heap_setCell_same w1 B 8 _ _ _ H1.out
    obtain ⟨_, _, _, _, _, _, _, _, _, q3, q4, _⟩ := five_cells h5
    exact ⟨q3, q4⟩
  have HK := hide hk
  clear hk
  go_region_held3 (fun w' => w'.cell? ⟨B, 9, none⟩ = some (.pointer po) ∧ w'.cell? ⟨B, 10, none⟩ = some (.pointer pr)) (first | exact HK.out _ | go_keep) (first
    | (go_at_call 51; (with_reducible refine (HHL.out _ ?_).mono ?_); (exact HB1.out.drew); rintro e w2 ⟨rfl, rfl⟩)
    | (go_at_call 51; (with_reducible refine (HHR.out _ ?_).mono ?_); (exact HB1.out.drew); rintro e w2 ⟨rfl, rfl⟩)
    | fail)
  all_goals
    go_wp2
    go_ret
    obtain ⟨e1, e2, e3, e4, e5, e6⟩ := HG.out
    have hbl := HB1.out.drew.setCell (p := ⟨B, 8, none⟩) (by show w.heap.size ≤ B; have := HBe.out; omega) (.int .i64 ((so : Int) + 1 + (sr : Int)))
    have hnk := NK.of_below hbl (Nat.le_refl _)
    refine ⟨B, rfl, ⟨rfl, ?_, ?_, ?_⟩, hbl⟩
    · have hx := heap_setCell_same w1.drew B 8 _ _ (.int .i64 ((so : Int) + 1 + (sr : Int))) H1.out
      rw [e3, e6, e2, e5]
      exact hx
    · exact TIn.keep hnk HT.out.1
    · exact TIn.keep hnk HT.out.2.2

set_option maxHeartbeats 800000 in
theorem with1_any (b : Nat) (a : KV) (l r O : BT KV) (w : World) (h : TIn w (.node b 0 a l r)) (hO : TIn w O) (hn : nsz l + nsz r ≤ 1000000) (hm : nsz O ≤ 1000000) :
    Calls Try.prog 62 #[.pointer (some ⟨b, 0, none⟩), .int .i64 1, .pointer (ad O)] w fun e w' => ∃ b', e = .returned (.pointer (some ⟨b', 0, none⟩)) ∧ TIn w' (.node b' 0 a l O) ∧ Below w.heap.size w w' := by
  obtain ⟨_, h1, hl, hr⟩ := h
  have HHL := hide (fun (V : World) (hV : Below w.heap.size w V) => len_any l V (TIn.keep (NK.of_below hV (Nat.le_refl _)) hl))
  have HHR := hide (fun (V : World) (hV : Below w.heap.size w V) => len_any O V (TIn.keep (NK.of_below hV (Nat.le_refl _)) hO))
  have HT := hide (And.intro hO (And.intro hl hr))
  obtain ⟨S0, hS0⟩ : ∃ S, nsz l + 1 + nsz r = S := ⟨_, rfl⟩
  rw [hS0] at h1
  obtain ⟨c0, c1, c1a, c1b, c1c, c1d, c1e, c1f, c2, c3, c4, cf⟩ := five_cells h1
  have hs1 : IntKind.i64.wrap ((nsz l : Int) + 1) = (nsz l : Int) + 1 := IntWalk.i64_in _ (by omega)
  have hs2 : IntKind.i64.wrap ((nsz l : Int) + 1 + (nsz O : Int)) = (nsz l : Int) + 1 + (nsz O : Int) := IntWalk.i64_in _ (by omega)
  clear h1 hl hr hS0
  generalize hpl : ad l = pl at *
  generalize hpr : ad r = pr at *
  generalize hpo : ad O = po at *
  generalize hsl : nsz l = sl at *
  generalize hsr : nsz r = sr at *
  generalize hso : nsz O = so at *
  have HG := hide (And.intro hpl (And.intro hpr (And.intro hpo (And.intro hsl (And.intro hsr hso)))))
  clear hpl hpr hpo hsl hsr hso
  go_enter Try.func62, Try.ntmps62
  go_wp2_with fail
  obtain ⟨B, w1, hB, hw1, H1, HB1⟩ : ∃ B wt, w.heap.size = B ∧ w.alloc (.cells #[.int .u32 a.1, .int .u8 a.2.m0, .int .u8 a.2.m1, .int .u8 a.2.m2, .int .u8 a.2.m3, .int .u8 a.2.m4, .int .u8 a.2.m5, .int .u64 a.2.e, .int .i64 (S0 : Int), .pointer pl, .pointer po] 111) = wt ∧ Hid (wt.heap[B]? = some (.cells #[.int .u32 a.1, .int .u8 a.2.m0, .int .u8 a.2.m1, .int .u8 a.2.m2, .int .u8 a.2.m3, .int .u8 a.2.m4, .int .u8 a.2.m5, .int .u64 a.2.e, .int .i64 (S0 : Int), .pointer pl, .pointer po] 111 (0, 0))) ∧ Hid (Below w.heap.size w wt) :=
    ⟨_, _, rfl, rfl, hide (heap_alloc_new _ _), hide ((Below.refl _ _).alloc (Nat.le_refl _) _)⟩
  rw [hw1, hB]
  have HBe := hide hB
  obtain ⟨k0, k1, k1a, k1b, k1c, k1d, k1e, k1f, k2, k3, k4, kf⟩ := five_cells H1.out
  clear hB hw1 c0 c1 c1a c1b c1c c1d c1e c1f c2 c3 c4 cf
  have hk : ∀ z : Int, (w1.setCell ⟨B, 8, none⟩ (.int .i64 z)).drew.cell? ⟨B, 9, none⟩ = some (.pointer pl) ∧ (w1.setCell ⟨B, 8, none⟩ (.int .i64 z)).drew.cell? ⟨B, 10, none⟩ = some (.pointer po) := fun z => by
    have h5 : (w1.setCell ⟨B, 8, none⟩ (.int .i64 z)).heap[B]? = some (.cells #[.int .u32 a.1, .int .u8 a.2.m0, .int .u8 a.2.m1, .int .u8 a.2.m2, .int .u8 a.2.m3, .int .u8 a.2.m4, .int .u8 a.2.m5, .int .u64 a.2.e, .int .i64 (z), .pointer pl, .pointer po] 111 (0, 0)) := heap_setCell_same w1 B 8 _ _ _ H1.out
    obtain ⟨_, _, _, _, _, _, _, _, _, q3, q4, _⟩ := five_cells h5
    exact ⟨q3, q4⟩
  have HK := hide hk
  clear hk
  go_region_held3 (fun w' => w'.cell? ⟨B, 9, none⟩ = some (.pointer pl) ∧ w'.cell? ⟨B, 10, none⟩ = some (.pointer po)) (first | exact HK.out _ | go_keep) (first
    | (go_at_call 51; (with_reducible refine (HHL.out _ ?_).mono ?_); (exact HB1.out.drew); rintro e w2 ⟨rfl, rfl⟩)
    | (go_at_call 51; (with_reducible refine (HHR.out _ ?_).mono ?_); (exact HB1.out.drew); rintro e w2 ⟨rfl, rfl⟩)
    | fail)
  all_goals
    go_wp2
    go_ret
    obtain ⟨e1, e2, e3, e4, e5, e6⟩ := HG.out
    have hbl := HB1.out.drew.setCell (p := ⟨B, 8, none⟩) (by show w.heap.size ≤ B; have := HBe.out; omega) (.int .i64 ((sl : Int) + 1 + (so : Int)))
    have hnk := NK.of_below hbl (Nat.le_refl _)
    refine ⟨B, rfl, ⟨rfl, ?_, ?_, ?_⟩, hbl⟩
    · have hx := heap_setCell_same w1.drew B 8 _ _ (.int .i64 ((sl : Int) + 1 + (so : Int))) H1.out
      rw [e1, e4, e3, e6]
      exact hx
    · exact TIn.keep hnk HT.out.2.1
    · exact TIn.keep hnk HT.out.1

set_option maxHeartbeats 800000 in
theorem lift0_any (b c : Nat) (a p : KV) (ll lr r : BT KV) (w : World) (h : TIn w (.node b 0 a (.node c 0 p ll lr) r)) (hn : nsz ll + nsz lr + nsz r ≤ 900000) :
    Calls Try.prog 69 #[.pointer (some ⟨b, 0, none⟩), .int .i64 0] w fun e w' => ∃ b' b'', e = .returned (.pointer (some ⟨b', 0, none⟩)) ∧ TIn w' (.node b' 0 p ll (.node b'' 0 a lr r)) ∧ Below w.heap.size w w' := by
  have hI := h.2.2.1
  obtain ⟨c0, c1, c1a, c1b, c1c, c1d, c1e, c1f, c2, c3, c4, cf⟩ := five_cells h.2.1
  obtain ⟨d0, d1, d1a, d1b, d1c, d1d, d1e, d1f, d2, d3, d4, df⟩ := five_cells hI.2.1
  have e3 : w.cell? ⟨b, 9, none⟩ = some (.pointer (some ⟨c, 0, none⟩)) := c3
  have HW1 := hide (with0_any b a (.node c 0 p ll lr) r lr w h hI.2.2.2 (by rw [nsz_node]; omega) (by omega))
  have HI := hide hI
  clear h hI c0 c1 c1a c1b c1c c1d c1e c1f c2 c3 c4 cf d0 d1 d1a d1b d1c d1d d1e d1f d2 df
  go_enter Try.func69, Try.ntmps69
  go_wp2_with fail
  refine HW1.out.mono ?_
  rintro e w1 ⟨b1, rfl, g1, g2⟩
  have hk := NK.of_below g2 (Nat.le_refl _)
  have hI := HI.out
  have HW2 := hide (with1_any c p ll lr (.node b1 0 a lr r) w1 (TIn.keep hk hI) g1 (by omega) (by rw [nsz_node]; omega))
  have HG := hide g2
  clear g1 g2 hk hI HW1 HI d3 d4 e3
  go_wp2_with fail
  refine HW2.out.mono ?_
  rintro e w2 ⟨b2, rfl, g3, g4⟩
  have H3 := hide g3
  have H4 := hide (HG.out.trans (g4.mono HG.out.size))
  clear g3 g4 HW2
  go_wp2
  go_ret
  exact ⟨b2, b1, rfl, H3.out, H4.out⟩

set_option maxHeartbeats 800000 in
theorem lift1_any (b c : Nat) (a p : KV) (l rl rr : BT KV) (w : World) (h : TIn w (.node b 0 a l (.node c 0 p rl rr))) (hn : nsz l + nsz rl + nsz rr ≤ 900000) :
    Calls Try.prog 69 #[.pointer (some ⟨b, 0, none⟩), .int .i64 1] w fun e w' => ∃ b' b'', e = .returned (.pointer (some ⟨b', 0, none⟩)) ∧ TIn w' (.node b' 0 p (.node b'' 0 a l rl) rr) ∧ Below w.heap.size w w' := by
  have hI := h.2.2.2
  obtain ⟨c0, c1, c1a, c1b, c1c, c1d, c1e, c1f, c2, c3, c4, cf⟩ := five_cells h.2.1
  obtain ⟨d0, d1, d1a, d1b, d1c, d1d, d1e, d1f, d2, d3, d4, df⟩ := five_cells hI.2.1
  have e3 : w.cell? ⟨b, 10, none⟩ = some (.pointer (some ⟨c, 0, none⟩)) := c4
  have HW1 := hide (with1_any b a l (.node c 0 p rl rr) rl w h hI.2.2.1 (by rw [nsz_node]; omega) (by omega))
  have HI := hide hI
  clear h hI c0 c1 c1a c1b c1c c1d c1e c1f c2 c3 c4 cf d0 d1 d1a d1b d1c d1d d1e d1f d2 df
  go_enter Try.func69, Try.ntmps69
  go_wp2_with fail
  refine HW1.out.mono ?_
  rintro e w1 ⟨b1, rfl, g1, g2⟩
  have hk := NK.of_below g2 (Nat.le_refl _)
  have hI := HI.out
  have HW2 := hide (with0_any c p rl rr (.node b1 0 a l rl) w1 (TIn.keep hk hI) g1 (by omega) (by rw [nsz_node]; omega))
  have HG := hide g2
  clear g1 g2 hk hI HW1 HI d3 d4 e3
  go_wp2_with fail
  refine HW2.out.mono ?_
  rintro e w2 ⟨b2, rfl, g3, g4⟩
  have H3 := hide g3
  have H4 := hide (HG.out.trans (g4.mono HG.out.size))
  clear g3 g4 HW2
  go_wp2
  go_ret
  exact ⟨b2, b1, rfl, H3.out, H4.out⟩
end Go.Proofs.Ytbibobjkclgogaa.D
