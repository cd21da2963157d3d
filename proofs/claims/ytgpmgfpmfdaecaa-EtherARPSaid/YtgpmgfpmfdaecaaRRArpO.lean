/- What the document's ReadARP answers of a right packet. -/
import Derived.Test.YtgpmgfpmfdaecaaRRArp
import Derived.Test.YtgpmgfpmfdaecaaRMac
import Derived.Test.YtgpmgfpmfdaecaaRRead
import Derived.Test.YtgpmgfpmfdaecaaEOwn
import Derived.Test.YtgpmgfpmfdaecaaEARead
import Derived.Test.YtgpmgfpmfdaecaaConv
import Derived.Deep.RegionHeld3
namespace Go.Proofs.Ytgpmgfpmfdaecaa
open Go.RowKit
set_option linter.unusedVariables false
set_option linter.unusedSimpArgs false
set_option maxRecDepth 100000

set_option maxHeartbeats 2000000 in
theorem rrarp_ok (w : World) (a : Option Addr) (xs : List Int) (n cap o x y : Nat) (d s : Nat → UInt8) (hr : Row .u8 w a xs) (hl : xs.length = n) (h1 : 28 ≤ n) (hn5 : n ≤ 5000) (hnc : n ≤ cap) (hcm : cap ≤ 9223372036854775807) (hb : ∀ z ∈ xs, 0 ≤ z ∧ z ≤ 255) (h7e : xs.take 7 = [0, 1, 8, 0, 6, 4, 0]) (hx7 : xs[7]?.getD 0 = (o : Int)) (hop : o = 1 ∨ o = 2)
    (hd : (xs.drop 8).take 6 = [((d 0).toNat : Int), ((d 1).toNat : Int), ((d 2).toNat : Int), ((d 3).toNat : Int), ((d 4).toNat : Int), ((d 5).toNat : Int)]) (hx : valB ((xs.drop 14).take 4) = (x : Int)) (hs : (xs.drop 18).take 6 = [((s 0).toNat : Int), ((s 1).toNat : Int), ((s 2).toNat : Int), ((s 3).toNat : Int), ((s 4).toNat : Int), ((s 5).toNat : Int)]) (hy : valB ((xs.drop 24).take 4) = (y : Int)) (hx2 : x ≤ 4294967295) (hy2 : y ≤ 4294967295) :
    Calls Try.prog 14 #[.slice a n cap] w fun e w' => e = .returned (.tuple #[.agg #[.int .u16 (o : Int), .int .u8 ((d 0).toNat : Int), .int .u8 ((d 1).toNat : Int), .int .u8 ((d 2).toNat : Int), .int .u8 ((d 3).toNat : Int), .int .u8 ((d 4).toNat : Int), .int .u8 ((d 5).toNat : Int), .int .u8 ((s 0).toNat : Int), .int .u8 ((s 1).toNat : Int), .int .u8 ((s 2).toNat : Int), .int .u8 ((s 3).toNat : Int), .int .u8 ((s 4).toNat : Int), .int .u8 ((s 5).toNat : Int), .int .u32 (x : Int), .int .u32 (y : Int)], .int .i64 0]) ∧ Below w.heap.size w w' := by
  have hc := fun (V : World) (hV : Below w.heap.size w V) => conv_any a (xs.take 7) cap V ((row_take28 hr 7).below hV (Nat.le_refl _))
  have h7 : (xs.take 7).length = 7 := by rw [List.length_take]; omega
  rw [h7] at hc
  have hcv := hc (w.alloc (.cells #[.int .u16 0, .int .u8 0, .int .u8 0, .int .u8 0, .int .u8 0, .int .u8 0, .int .u8 0, .int .u8 0, .int .u8 0, .int .u8 0, .int .u8 0, .int .u8 0, .int .u8 0, .int .u32 0, .int .u32 0] 41)) ((Below.refl _ _).alloc (Nat.le_refl _) _)
  have h7c : (7 : Int) ≤ (cap : Int) := by omega
  have h7n : 7 ≤ cap := by omega
  have h7i : (7 : Int) < (n : Int) := by omega
  have hn28 : ¬ ((n : Int) < 28) := by omega
  have hiff := arp_str (xs.take 7) (fun z hz => hb z (List.mem_of_mem_take hz))
  obtain ⟨S, hS⟩ : ∃ S, strOfNums (xs.take 7) = S := ⟨_, rfl⟩
  rw [hS] at hcv hiff
  have hs1 : S.toList = [0, 1, 8, 0, 6, 4, 0] := hiff.2 h7e
  obtain ⟨b0, o0, rfl, hlt0, hc0⟩ := hr.at (i := 0) (by omega)
  have c7 := hc0 7 (by omega)
  rw [hx7] at c7
  have hg : ((o : Int) != 1 && (o : Int) != 2) = false := by rcases hop with rfl | rfl <;> decide
  have ho2 : o ≤ 2 := by omega
  have hwo : IntKind.u16.wrap (o : Int) = (o : Int) := wraps_u16 _ (by omega) (by omega)
  have hwx : IntKind.u32.wrap (x : Int) = (x : Int) := by rw [IntKind.wrap_u32]; omega
  have hwy : IntKind.u32.wrap (y : Int) = (y : Int) := by rw [IntKind.wrap_u32]; omega
  obtain ⟨A8, s8, r8, n8⟩ := drop_run (some ⟨b0, o0, none⟩) xs n cap 8 8 w hr hl hnc (fun h => by cases h) (by omega) rfl
  obtain ⟨A18, s18, r18, n18⟩ := drop_run (some ⟨b0, o0, none⟩) xs n cap 18 18 w hr hl hnc (fun h => by cases h) (by omega) rfl
  have HM1 := hide (fun (V : World) (hV : Below w.heap.size w V) => mac_any V A8 (xs.drop 8) (n - 8) (cap - 8) d (r8.below hV (Nat.le_refl _)) (by rw [List.length_drop, hl]) (by omega) hd)
  have HM2 := hide (fun (V : World) (hV : Below w.heap.size w V) => mac_any V A18 (xs.drop 18) (n - 18) (cap - 18) s (r18.below hV (Nat.le_refl _)) (by rw [List.length_drop, hl]) (by omega) hs)
  have HN14 := hide (fun (V : World) (E : Nat) (hE : REye V E (some ⟨b0, o0, none⟩) n cap 14 false) (hV : Below w.heap.size w V) => by
    have h := rEye_num E 14 4 (some ⟨b0, o0, none⟩) xs n cap V hE (hr.below hV (Nat.le_refl _)) hb hl hnc hcm (fun h => by cases h) (by omega) (by omega) (by omega)
    rw [hx, show ((4 : Nat) : Int) = 4 from rfl] at h
    exact h)
  have HN24 := hide (fun (V : World) (E : Nat) (hE : REye V E (some ⟨b0, o0, none⟩) n cap 24 false) (hV : Below w.heap.size w V) => by
    have h := rEye_num E 24 4 (some ⟨b0, o0, none⟩) xs n cap V hE (hr.below hV (Nat.le_refl _)) hb hl hnc hcm (fun h => by cases h) (by omega) (by omega) (by omega)
    rw [hy, show ((4 : Nat) : Int) = 4 from rfl] at h
    exact h)
  have C7 := hide (fun (V : World) (hV : Below w.heap.size w V) => (hV.cell (p := ⟨b0, o0 + 7, none⟩) hlt0).trans c7)
  have hne0 : ¬ b0 = w.heap.size := by omega
  have hne1 : ¬ w.heap.size = b0 := by omega
  obtain ⟨b1, b2, hbb⟩ : ∃ b1 b2 : Bool, ((o : Int) != 1) = b1 ∧ ((o : Int) != 2) = b2 := ⟨_, _, rfl, rfl⟩
  rw [hbb.1, hbb.2] at hg
  obtain ⟨hb1, hb2⟩ := hbb
  clear hc hS hr hb h7e h7 hiff hl hx7 hop hc0 hd hx hs hy r8 r18 n8 n18
  cases b1
  · clear hg hb2
    go_enter Try.func14, Try.ntmps14
    go_wp2_with fail
    obtain ⟨R, E, w3, hR, hE, hw3, HE, HRR, HBW, hRE, hwR, h3s⟩ : ∃ R E wt, w.heap.size = R ∧ w.heap.size + 1 = E ∧ (w.alloc (.cells #[.int .u16 0, .int .u8 0, .int .u8 0, .int .u8 0, .int .u8 0, .int .u8 0, .int .u8 0, .int .u8 0, .int .u8 0, .int .u8 0, .int .u8 0, .int .u8 0, .int .u8 0, .int .u32 0, .int .u32 0] 41)).alloc (.cells #[.slice (some ⟨b0, o0, none⟩) n cap, .int .i64 (14 : Int), .bool false] 88) = wt ∧ Hid (REye wt E (some ⟨b0, o0, none⟩) n cap 14 false) ∧ Hid (wt.heap[R]? = some (.cells #[.int .u16 0, .int .u8 0, .int .u8 0, .int .u8 0, .int .u8 0, .int .u8 0, .int .u8 0, .int .u8 0, .int .u8 0, .int .u8 0, .int .u8 0, .int .u8 0, .int .u8 0, .int .u32 0, .int .u32 0] 41 (0, 0))) ∧ Hid (Below w.heap.size w wt) ∧ R < E ∧ w.heap.size ≤ R ∧ wt.heap.size = E + 1 := by
      refine ⟨_, _, _, rfl, rfl, rfl, hide ?_, hide ((Below.heap_alloc _ _ _ (by simp)).trans (heap_alloc_new w _)), hide (((Below.refl _ _).alloc (Nat.le_refl _) _).alloc (by simp) _), by omega, Nat.le_refl _, by simp⟩
      have h := heap_alloc_new (w.alloc (.cells #[.int .u16 0, .int .u8 0, .int .u8 0, .int .u8 0, .int .u8 0, .int .u8 0, .int .u8 0, .int .u8 0, .int .u8 0, .int .u8 0, .int .u8 0, .int .u8 0, .int .u8 0, .int .u32 0, .int .u32 0] 41)) (.cells #[.slice (some ⟨b0, o0, none⟩) n cap, .int .i64 (14 : Int), .bool false] 88)
      rw [show (w.alloc (.cells #[.int .u16 0, .int .u8 0, .int .u8 0, .int .u8 0, .int .u8 0, .int .u8 0, .int .u8 0, .int .u8 0, .int .u8 0, .int .u8 0, .int .u8 0, .int .u8 0, .int .u8 0, .int .u32 0, .int .u32 0] 41)).heap.size = w.heap.size + 1 by simp] at h
      exact h
    try rw [hw3]
    try rw [hE]
    try rw [hR]
    have hRR : R = w.heap.size := hR.symm
    have hEE : E = w.heap.size + 1 := hE.symm
    have HRE := hide (And.intro hRR hEE)
    clear hw3 hE hR h3s hRR hEE
    refine (HN14.out w3 E HE.out HBW.out).mono ?_
    rintro e w4 ⟨rfl, he, hg⟩
    have hE4 : w4.heap[E]? = some (.cells #[.slice (some ⟨b0, o0, none⟩) n cap, .int .i64 (18 : Int), .bool false] 88 (0, 0)) := he
    have y1 := tri_cell1 hE4
    have yf := tri_free hE4 1
    have HRR := hide (gb_block hg HRR.out (by omega))
    have HB4 := hide (HBW.out.grown hg HBW.out.size (fun k e => by cases e; omega))
    obtain ⟨w5, hq5, HE5, HR5, HB5⟩ : ∃ wt, w4.setCell ⟨E, 1, none⟩ (.int .i64 24) = wt ∧ Hid (REye wt E (some ⟨b0, o0, none⟩) n cap 24 false) ∧ Hid (wt.heap[R]? = some (.cells #[.int .u16 0, .int .u8 0, .int .u8 0, .int .u8 0, .int .u8 0, .int .u8 0, .int .u8 0, .int .u8 0, .int .u8 0, .int .u8 0, .int .u8 0, .int .u8 0, .int .u8 0, .int .u32 0, .int .u32 0] 41 (0, 0))) ∧ Hid (Below w.heap.size w wt) :=
      ⟨_, rfl, hide (tri_set1 hE4), hide ((heap_setCell_other _ _ _ _ (by show R ≠ E; omega)).trans HRR.out), hide (HB4.out.setCell (by show w.heap.size ≤ E; omega) _)⟩
    clear he hg hE4 HE HRR HBW HB4
    go_wp2_with fail
    try rw [hq5]
    clear hq5 y1 yf
    have k7 := C7.out w5 HB5.out
    clear c7 hne0 hne1 hcv
    go_region_held3 (fun w' => w'.cell? ⟨b0, o0 + 7, none⟩ = some (.int .u8 (o : Int))) (go_keep) (first
      | (go_at_call 31; (with_reducible refine (HM1.out _ ?_).mono ?_); (exact HB5.out.drew); rintro e w6 ⟨rfl, b6⟩;
          have B6 := hide (HB5.out.trans ((below_of_drew b6).mono HB5.out.size)); have HE6 := hide (show REye w6 E (some ⟨b0, o0, none⟩) n cap 24 false from below_block (below_of_drew b6) HE5.out (Nat.le_refl _)); have HR6 := hide (below_block (below_of_drew b6) HR5.out (Nat.le_refl _)); have j7 := C7.out w6 B6.out; clear b6)
      | (go_at_call 31; (with_reducible refine (HM2.out _ ?_).mono ?_); (exact B6.out); rintro e w7 ⟨rfl, b7⟩;
          have B7 := hide (B6.out.trans (b7.mono B6.out.size)); have HE7 := hide (show REye w7 E (some ⟨b0, o0, none⟩) n cap 24 false from below_block b7 HE6.out (Nat.le_refl _)); have HR7 := hide (below_block b7 HR6.out (Nat.le_refl _)); have i7 := C7.out w7 B7.out; clear b7)
      | (go_at_call 37; (with_reducible refine (HN24.out _ _ HE7.out B7.out).mono ?_); rintro e w8 ⟨rfl, he, hg⟩;
          have HR8 := hide (gb_block hg HR7.out (by omega)); have B8 := hide (B7.out.grown hg B7.out.size (fun k e => by cases e; omega)); have l7 := C7.out w8 B8.out; obtain ⟨rc, rf⟩ := arp15 HR8.out; obtain ⟨r0, r1, r2, r3, r4, r5, r6, r7, r8, r9, r10, r11, r12, r13, r14⟩ := rc; have hbR : ¬ b0 = R := (by have := HRE.out.1; omega); have hbR2 : ¬ R = b0 := (by omega); clear he hg)
      | fail)
    all_goals
      go_wp2
      refine bodyPost_ret (v := .tuple #[.agg #[.int .u16 (o : Int), .int .u8 ((d 0).toNat : Int), .int .u8 ((d 1).toNat : Int), .int .u8 ((d 2).toNat : Int), .int .u8 ((d 3).toNat : Int), .int .u8 ((d 4).toNat : Int), .int .u8 ((d 5).toNat : Int), .int .u8 ((s 0).toNat : Int), .int .u8 ((s 1).toNat : Int), .int .u8 ((s 2).toNat : Int), .int .u8 ((s 3).toNat : Int), .int .u8 ((s 4).toNat : Int), .int .u8 ((s 5).toNat : Int), .int .u32 (x : Int), .int .u32 (y : Int)], .int .i64 0]) (by simp [results, Try.results14, go_sem, r0, r1, r2, r3, r4, r5, r6, r7, r8, r9, r10, r11, r12, r13, r14]) rfl ⟨rfl, ?_⟩
      repeat (with_reducible refine Below.setCell ?_ (by assumption) _)
      exact B8.out
  · obtain rfl : b2 = false := by simpa using hg
    clear hg
    go_enter Try.func14, Try.ntmps14
    go_wp2_with fail
    obtain ⟨R, E, w3, hR, hE, hw3, HE, HRR, HBW, hRE, hwR, h3s⟩ : ∃ R E wt, w.heap.size = R ∧ w.heap.size + 1 = E ∧ (w.alloc (.cells #[.int .u16 0, .int .u8 0, .int .u8 0, .int .u8 0, .int .u8 0, .int .u8 0, .int .u8 0, .int .u8 0, .int .u8 0, .int .u8 0, .int .u8 0, .int .u8 0, .int .u8 0, .int .u32 0, .int .u32 0] 41)).alloc (.cells #[.slice (some ⟨b0, o0, none⟩) n cap, .int .i64 (14 : Int), .bool false] 88) = wt ∧ Hid (REye wt E (some ⟨b0, o0, none⟩) n cap 14 false) ∧ Hid (wt.heap[R]? = some (.cells #[.int .u16 0, .int .u8 0, .int .u8 0, .int .u8 0, .int .u8 0, .int .u8 0, .int .u8 0, .int .u8 0, .int .u8 0, .int .u8 0, .int .u8 0, .int .u8 0, .int .u8 0, .int .u32 0, .int .u32 0] 41 (0, 0))) ∧ Hid (Below w.heap.size w wt) ∧ R < E ∧ w.heap.size ≤ R ∧ wt.heap.size = E + 1 := by
      refine ⟨_, _, _, rfl, rfl, rfl, hide ?_, hide ((Below.heap_alloc _ _ _ (by simp)).trans (heap_alloc_new w _)), hide (((Below.refl _ _).alloc (Nat.le_refl _) _).alloc (by simp) _), by omega, Nat.le_refl _, by simp⟩
      have h := heap_alloc_new (w.alloc (.cells #[.int .u16 0, .int .u8 0, .int .u8 0, .int .u8 0, .int .u8 0, .int .u8 0, .int .u8 0, .int .u8 0, .int .u8 0, .int .u8 0, .int .u8 0, .int .u8 0, .int .u8 0, .int .u32 0, .int .u32 0] 41)) (.cells #[.slice (some ⟨b0, o0, none⟩) n cap, .int .i64 (14 : Int), .bool false] 88)
      rw [show (w.alloc (.cells #[.int .u16 0, .int .u8 0, .int .u8 0, .int .u8 0, .int .u8 0, .int .u8 0, .int .u8 0, .int .u8 0, .int .u8 0, .int .u8 0, .int .u8 0, .int .u8 0, .int .u8 0, .int .u32 0, .int .u32 0] 41)).heap.size = w.heap.size + 1 by simp] at h
      exact h
    try rw [hw3]
    try rw [hE]
    try rw [hR]
    have hRR : R = w.heap.size := hR.symm
    have hEE : E = w.heap.size + 1 := hE.symm
    have HRE := hide (And.intro hRR hEE)
    clear hw3 hE hR h3s hRR hEE
    refine (HN14.out w3 E HE.out HBW.out).mono ?_
    rintro e w4 ⟨rfl, he, hg⟩
    have hE4 : w4.heap[E]? = some (.cells #[.slice (some ⟨b0, o0, none⟩) n cap, .int .i64 (18 : Int), .bool false] 88 (0, 0)) := he
    have y1 := tri_cell1 hE4
    have yf := tri_free hE4 1
    have HRR := hide (gb_block hg HRR.out (by omega))
    have HB4 := hide (HBW.out.grown hg HBW.out.size (fun k e => by cases e; omega))
    obtain ⟨w5, hq5, HE5, HR5, HB5⟩ : ∃ wt, w4.setCell ⟨E, 1, none⟩ (.int .i64 24) = wt ∧ Hid (REye wt E (some ⟨b0, o0, none⟩) n cap 24 false) ∧ Hid (wt.heap[R]? = some (.cells #[.int .u16 0, .int .u8 0, .int .u8 0, .int .u8 0, .int .u8 0, .int .u8 0, .int .u8 0, .int .u8 0, .int .u8 0, .int .u8 0, .int .u8 0, .int .u8 0, .int .u8 0, .int .u32 0, .int .u32 0] 41 (0, 0))) ∧ Hid (Below w.heap.size w wt) :=
      ⟨_, rfl, hide (tri_set1 hE4), hide ((heap_setCell_other _ _ _ _ (by show R ≠ E; omega)).trans HRR.out), hide (HB4.out.setCell (by show w.heap.size ≤ E; omega) _)⟩
    clear he hg hE4 HE HRR HBW HB4
    go_wp2_with fail
    try rw [hq5]
    clear hq5 y1 yf
    have k7 := C7.out w5 HB5.out
    clear c7 hne0 hne1 hcv
    go_region_held3 (fun w' => w'.cell? ⟨b0, o0 + 7, none⟩ = some (.int .u8 (o : Int))) (go_keep) (first
      | (go_at_call 31; (with_reducible refine (HM1.out _ ?_).mono ?_); (exact HB5.out.drew); rintro e w6 ⟨rfl, b6⟩;
          have B6 := hide (HB5.out.trans ((below_of_drew b6).mono HB5.out.size)); have HE6 := hide (show REye w6 E (some ⟨b0, o0, none⟩) n cap 24 false from below_block (below_of_drew b6) HE5.out (Nat.le_refl _)); have HR6 := hide (below_block (below_of_drew b6) HR5.out (Nat.le_refl _)); have j7 := C7.out w6 B6.out; clear b6)
      | (go_at_call 31; (with_reducible refine (HM2.out _ ?_).mono ?_); (exact B6.out); rintro e w7 ⟨rfl, b7⟩;
          have B7 := hide (B6.out.trans (b7.mono B6.out.size)); have HE7 := hide (show REye w7 E (some ⟨b0, o0, none⟩) n cap 24 false from below_block b7 HE6.out (Nat.le_refl _)); have HR7 := hide (below_block b7 HR6.out (Nat.le_refl _)); have i7 := C7.out w7 B7.out; clear b7)
      | (go_at_call 37; (with_reducible refine (HN24.out _ _ HE7.out B7.out).mono ?_); rintro e w8 ⟨rfl, he, hg⟩;
          have HR8 := hide (gb_block hg HR7.out (by omega)); have B8 := hide (B7.out.grown hg B7.out.size (fun k e => by cases e; omega)); have l7 := C7.out w8 B8.out; obtain ⟨rc, rf⟩ := arp15 HR8.out; obtain ⟨r0, r1, r2, r3, r4, r5, r6, r7, r8, r9, r10, r11, r12, r13, r14⟩ := rc; have hbR : ¬ b0 = R := (by have := HRE.out.1; omega); have hbR2 : ¬ R = b0 := (by omega); clear he hg)
      | fail)
    all_goals
      go_wp2
      refine bodyPost_ret (v := .tuple #[.agg #[.int .u16 (o : Int), .int .u8 ((d 0).toNat : Int), .int .u8 ((d 1).toNat : Int), .int .u8 ((d 2).toNat : Int), .int .u8 ((d 3).toNat : Int), .int .u8 ((d 4).toNat : Int), .int .u8 ((d 5).toNat : Int), .int .u8 ((s 0).toNat : Int), .int .u8 ((s 1).toNat : Int), .int .u8 ((s 2).toNat : Int), .int .u8 ((s 3).toNat : Int), .int .u8 ((s 4).toNat : Int), .int .u8 ((s 5).toNat : Int), .int .u32 (x : Int), .int .u32 (y : Int)], .int .i64 0]) (by simp [results, Try.results14, go_sem, r0, r1, r2, r3, r4, r5, r6, r7, r8, r9, r10, r11, r12, r13, r14]) rfl ⟨rfl, ?_⟩
      repeat (with_reducible refine Below.setCell ?_ (by assumption) _)
      exact B8.out
end Go.Proofs.Ytgpmgfpmfdaecaa
