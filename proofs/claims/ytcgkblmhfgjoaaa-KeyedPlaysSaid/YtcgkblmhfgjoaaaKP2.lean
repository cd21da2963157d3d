/- What the law's keys answers. -/
import Derived.Test.YtcgkblmhfgjoaaaKP1
namespace Go.Proofs.Ytcgkblmhfgjoaaa
open Go.RowKit Go.Deep
set_option linter.unusedVariables false
set_option linter.unusedSimpArgs false
set_option maxRecDepth 100000
theorem good_stK (L : List KV) : ∀ (l : List KV) (j : Nat), L.drop j = l → GoodW stK (gdS L) j l
  | [], _, _ => trivial
  | x :: l, j, h => by
    have hx : L[j]? = some x := by have := congrArg (fun l => l[0]?) h; simpa using this
    exact ⟨hx, fun _ => good_stK L l (j + 1) (by rw [← List.drop_drop, h]; rfl)⟩
theorem fold_stK : ∀ (l : List KV) (j : Nat), foldW stK j l = (true, j + l.length)
  | [], j => rfl
  | x :: l, j => by
    rw [foldW]
    have hs1 : (stK j x).1 = true := rfl
    have hs2 : (stK j x).2 = j + 1 := rfl
    rw [hs1, hs2, if_pos rfl, fold_stK l (j + 1), List.length_cons]
    congr 1; omega
set_option maxHeartbeats 1600000 in
theorem iter_keys (w : World) (t p bm bo bu bq bx : Nat) (m most most' : Int) (L : List KV) (ks vs : List Int) (ka : Option Addr) (kc : Nat) (va : Option Addr) (vc : Nat) (HRT : Hid (RTr w p most' ks vs ka kc va vc)) (HLK : Hid (Lk L ks vs)) (hmost : most = (L.length : Int) + 1) (hlen : L.length ≤ 100000)
    (hb1 : w.heap.size ≤ bm) (hb2 : bm < bq) (hb3 : bq < bu) (hb4 : bu < bo) (hp : p < w.heap.size)
    (V : World) (h : KI w t p bm bo bu bq most L 0 V) (hT : Tab V t m (.func (.func 10) #[] #[]) id L) (hbx : V.heap[bx]? = some (.cells #[.pointer (some ⟨t, 0, none⟩)] 24 (0, 0))) :
    Calls Try.prog 32 #[(.func (.func 40) #[] #[.pointer (some ⟨bm, 0, none⟩), .pointer (some ⟨bo, 0, none⟩), .pointer (some ⟨bu, 0, none⟩), .pointer (some ⟨bq, 0, none⟩)]), .pointer (some ⟨bx, 0, none⟩)] V fun e V' => (∃ v, e = .returned v) ∧ KI w t p bm bo bu bq most L L.length V' := by
  obtain ⟨T, hT1, hIn, hTL, hA⟩ := hT
  obtain ⟨p0, pf⟩ := one_cell hbx
  obtain ⟨t0, t1, t2, tf⟩ := three_cells hT1
  have hw := walk_keys stK (fun j V => KI w t p bm bo bu bq most L j V) (fun σ V h => h.drew) bm bo bu bq (gdS L) (hide (fun σ x V hx hi => keys1_any w t p bm bo bu bq most L ks vs ka kc va vc most' HRT HLK hmost hlen hb1 hb2 hb3 hb4 hp σ x V hx hi)) T V 0 hIn (by rw [hTL]; exact good_stK L L 0 rfl) h
  rw [hTL, fold_stK] at hw
  simp only [Nat.zero_add] at hw
  have HW := hide hw
  clear hT1 hIn hTL hA h hbx pf t0 t1 tf hw hmost
  go_enter Try.func32, Try.ntmps32
  go_wp2_with fail
  refine HW.out.mono ?_
  rintro e V' ⟨rfl, i1, _⟩
  have HI := hide i1
  clear i1 HW
  go_wp2
  first
    | (go_end0; exact ⟨⟨_, rfl⟩, HI.out⟩)
    | (go_ret; exact ⟨⟨_, rfl⟩, HI.out⟩)
set_option maxHeartbeats 3000000 in
theorem keys_any (w : World) (t p : Nat) (m most' : Int) (L : List KV) (ks vs : List Int) (ka : Option Addr) (kc : Nat) (va : Option Addr) (vc : Nat) (hR : RTr w p most' ks vs ka kc va vc) (hLK : Lk L ks vs) (hlen : L.length ≤ 100000) (hT : Tab w t m (.func (.func 10) #[] #[]) id L) :
    Calls Try.prog 29 #[.pointer (some ⟨t, 0, none⟩), .pointer (some ⟨p, 0, none⟩), .int .i64 ((L.length : Int) + 1)] w fun e w' => ∃ a c, e = .returned (.tuple #[.slice a L.length c, .bool true]) ∧ w'.ownsRow w.heap.size 3 1 (.slice a L.length c) L.length ((L.map (·.1)).map (Value.int .i64)) ∧ Below w.heap.size w w' := by
  have HR := hide hR
  have HLK := hide hLK
  have HT := hide hT
  have hp : p < w.heap.size := lt_of_block hR.tab
  obtain ⟨most, hmost⟩ : ∃ z, (L.length : Int) + 1 = z := ⟨_, rfl⟩
  rw [hmost]
  have HM := hide hmost.symm
  clear hR hLK hT hmost
  go_enter Try.func29, Try.ntmps29
  go_upto_region 2 with (fail)
  have s1 : (w.alloc (.cells #[.pointer (some ⟨p, 0, none⟩)] 27)).heap.size = w.heap.size + 1 := by first | (simp; done) | (simp; omega)
  have s2 : ((w.alloc (.cells #[.pointer (some ⟨p, 0, none⟩)] 27)).alloc (.cells #[.int .i64 most] 3)).heap.size = w.heap.size + 1 + 1 := by first | (simp; done) | (simp; omega)
  have s3 : (((w.alloc (.cells #[.pointer (some ⟨p, 0, none⟩)] 27)).alloc (.cells #[.int .i64 most] 3)).alloc (.cells #[] 3)).heap.size = w.heap.size + 1 + 1 + 1 := by first | (simp; done) | (simp; omega)
  have s4 : ((((w.alloc (.cells #[.pointer (some ⟨p, 0, none⟩)] 27)).alloc (.cells #[.int .i64 most] 3)).alloc (.cells #[] 3)).alloc (.cells #[.slice (some ⟨w.heap.size + 1 + 1, 0, none⟩) 0 0] 37)).heap.size = w.heap.size + 1 + 1 + 1 + 1 := by first | (simp; done) | (simp; omega)
  have n0 := heap_alloc_new w (.cells #[.pointer (some ⟨p, 0, none⟩)] 27)
  have n1 := heap_alloc_new (w.alloc (.cells #[.pointer (some ⟨p, 0, none⟩)] 27)) (.cells #[.int .i64 most] 3)
  rw [s1] at n1
  have n2 := heap_alloc_new ((w.alloc (.cells #[.pointer (some ⟨p, 0, none⟩)] 27)).alloc (.cells #[.int .i64 most] 3)) (.cells #[] 3)
  rw [s2] at n2
  have n3 := heap_alloc_new (((w.alloc (.cells #[.pointer (some ⟨p, 0, none⟩)] 27)).alloc (.cells #[.int .i64 most] 3)).alloc (.cells #[] 3)) (.cells #[.slice (some ⟨w.heap.size + 1 + 1, 0, none⟩) 0 0] 37)
  rw [s3] at n3
  have n4 := heap_alloc_new ((((w.alloc (.cells #[.pointer (some ⟨p, 0, none⟩)] 27)).alloc (.cells #[.int .i64 most] 3)).alloc (.cells #[] 3)).alloc (.cells #[.slice (some ⟨w.heap.size + 1 + 1, 0, none⟩) 0 0] 37)) (.cells #[.bool true] 4)
  rw [s4] at n4
  have b0 : Below w.heap.size w (((((w.alloc (.cells #[.pointer (some ⟨p, 0, none⟩)] 27)).alloc (.cells #[.int .i64 most] 3)).alloc (.cells #[] 3)).alloc (.cells #[.slice (some ⟨w.heap.size + 1 + 1, 0, none⟩) 0 0] 37)).alloc (.cells #[.bool true] 4)) := (((((Below.refl w.heap.size w).alloc (Nat.le_refl _) (.cells #[.pointer (some ⟨p, 0, none⟩)] 27)).alloc (by first | (simp; done) | (simp; omega)) (.cells #[.int .i64 most] 3)).alloc (by first | (simp; done) | (simp; omega)) (.cells #[] 3)).alloc (by first | (simp; done) | (simp; omega)) (.cells #[.slice (some ⟨w.heap.size + 1 + 1, 0, none⟩) 0 0] 37)).alloc (by first | (simp; done) | (simp; omega)) (.cells #[.bool true] 4)
  have b1 : Below (w.alloc (.cells #[.pointer (some ⟨p, 0, none⟩)] 27)).heap.size (w.alloc (.cells #[.pointer (some ⟨p, 0, none⟩)] 27)) (((((w.alloc (.cells #[.pointer (some ⟨p, 0, none⟩)] 27)).alloc (.cells #[.int .i64 most] 3)).alloc (.cells #[] 3)).alloc (.cells #[.slice (some ⟨w.heap.size + 1 + 1, 0, none⟩) 0 0] 37)).alloc (.cells #[.bool true] 4)) := ((((Below.refl (w.alloc (.cells #[.pointer (some ⟨p, 0, none⟩)] 27)).heap.size (w.alloc (.cells #[.pointer (some ⟨p, 0, none⟩)] 27))).alloc (Nat.le_refl _) (.cells #[.int .i64 most] 3)).alloc (by first | (simp; done) | (simp; omega)) (.cells #[] 3)).alloc (by first | (simp; done) | (simp; omega)) (.cells #[.slice (some ⟨w.heap.size + 1 + 1, 0, none⟩) 0 0] 37)).alloc (by first | (simp; done) | (simp; omega)) (.cells #[.bool true] 4)
  have b2 : Below ((w.alloc (.cells #[.pointer (some ⟨p, 0, none⟩)] 27)).alloc (.cells #[.int .i64 most] 3)).heap.size ((w.alloc (.cells #[.pointer (some ⟨p, 0, none⟩)] 27)).alloc (.cells #[.int .i64 most] 3)) (((((w.alloc (.cells #[.pointer (some ⟨p, 0, none⟩)] 27)).alloc (.cells #[.int .i64 most] 3)).alloc (.cells #[] 3)).alloc (.cells #[.slice (some ⟨w.heap.size + 1 + 1, 0, none⟩) 0 0] 37)).alloc (.cells #[.bool true] 4)) := (((Below.refl ((w.alloc (.cells #[.pointer (some ⟨p, 0, none⟩)] 27)).alloc (.cells #[.int .i64 most] 3)).heap.size ((w.alloc (.cells #[.pointer (some ⟨p, 0, none⟩)] 27)).alloc (.cells #[.int .i64 most] 3))).alloc (Nat.le_refl _) (.cells #[] 3)).alloc (by first | (simp; done) | (simp; omega)) (.cells #[.slice (some ⟨w.heap.size + 1 + 1, 0, none⟩) 0 0] 37)).alloc (by first | (simp; done) | (simp; omega)) (.cells #[.bool true] 4)
  have b3 : Below (((w.alloc (.cells #[.pointer (some ⟨p, 0, none⟩)] 27)).alloc (.cells #[.int .i64 most] 3)).alloc (.cells #[] 3)).heap.size (((w.alloc (.cells #[.pointer (some ⟨p, 0, none⟩)] 27)).alloc (.cells #[.int .i64 most] 3)).alloc (.cells #[] 3)) (((((w.alloc (.cells #[.pointer (some ⟨p, 0, none⟩)] 27)).alloc (.cells #[.int .i64 most] 3)).alloc (.cells #[] 3)).alloc (.cells #[.slice (some ⟨w.heap.size + 1 + 1, 0, none⟩) 0 0] 37)).alloc (.cells #[.bool true] 4)) := ((Below.refl (((w.alloc (.cells #[.pointer (some ⟨p, 0, none⟩)] 27)).alloc (.cells #[.int .i64 most] 3)).alloc (.cells #[] 3)).heap.size (((w.alloc (.cells #[.pointer (some ⟨p, 0, none⟩)] 27)).alloc (.cells #[.int .i64 most] 3)).alloc (.cells #[] 3))).alloc (Nat.le_refl _) (.cells #[.slice (some ⟨w.heap.size + 1 + 1, 0, none⟩) 0 0] 37)).alloc (by first | (simp; done) | (simp; omega)) (.cells #[.bool true] 4)
  have b4 : Below ((((w.alloc (.cells #[.pointer (some ⟨p, 0, none⟩)] 27)).alloc (.cells #[.int .i64 most] 3)).alloc (.cells #[] 3)).alloc (.cells #[.slice (some ⟨w.heap.size + 1 + 1, 0, none⟩) 0 0] 37)).heap.size ((((w.alloc (.cells #[.pointer (some ⟨p, 0, none⟩)] 27)).alloc (.cells #[.int .i64 most] 3)).alloc (.cells #[] 3)).alloc (.cells #[.slice (some ⟨w.heap.size + 1 + 1, 0, none⟩) 0 0] 37)) (((((w.alloc (.cells #[.pointer (some ⟨p, 0, none⟩)] 27)).alloc (.cells #[.int .i64 most] 3)).alloc (.cells #[] 3)).alloc (.cells #[.slice (some ⟨w.heap.size + 1 + 1, 0, none⟩) 0 0] 37)).alloc (.cells #[.bool true] 4)) := (Below.refl ((((w.alloc (.cells #[.pointer (some ⟨p, 0, none⟩)] 27)).alloc (.cells #[.int .i64 most] 3)).alloc (.cells #[] 3)).alloc (.cells #[.slice (some ⟨w.heap.size + 1 + 1, 0, none⟩) 0 0] 37)).heap.size ((((w.alloc (.cells #[.pointer (some ⟨p, 0, none⟩)] 27)).alloc (.cells #[.int .i64 most] 3)).alloc (.cells #[] 3)).alloc (.cells #[.slice (some ⟨w.heap.size + 1 + 1, 0, none⟩) 0 0] 37))).alloc (Nat.le_refl _) (.cells #[.bool true] 4)
  have m0 := below_block b1 n0 (Nat.le_refl _)
  have m1 := below_block b2 n1 (Nat.le_refl _)
  have m2 := below_block b3 n2 (Nat.le_refl _)
  have m3 := below_block b4 n3 (Nat.le_refl _)
  have hown : (((((w.alloc (.cells #[.pointer (some ⟨p, 0, none⟩)] 27)).alloc (.cells #[.int .i64 most] 3)).alloc (.cells #[] 3)).alloc (.cells #[.slice (some ⟨w.heap.size + 1 + 1, 0, none⟩) 0 0] 37)).alloc (.cells #[.bool true] 4)).ownsRow w.heap.size 3 1 (.slice (some ⟨w.heap.size + 1 + 1, 0, none⟩) 0 0) 0 (([] : List Int).map (Value.int .i64)) := owns_nil_int m2 (by omega)
  have hki : KI w t p w.heap.size (w.heap.size + 1 + 1 + 1 + 1) (w.heap.size + 1 + 1 + 1) (w.heap.size + 1) most L 0 (((((w.alloc (.cells #[.pointer (some ⟨p, 0, none⟩)] 27)).alloc (.cells #[.int .i64 most] 3)).alloc (.cells #[] 3)).alloc (.cells #[.slice (some ⟨w.heap.size + 1 + 1, 0, none⟩) 0 0] 37)).alloc (.cells #[.bool true] 4)) :=
    ⟨b0, m0, m1, n4, ⟨some ⟨w.heap.size + 1 + 1, 0, none⟩, 0, m3, by simpa using hown, fun b hb => by cases hb; exact ⟨by show w.heap.size + 1 + 1 ≠ w.heap.size; omega, by show w.heap.size + 1 + 1 ≠ w.heap.size + 1 + 1 + 1 + 1; omega, by show w.heap.size + 1 + 1 ≠ w.heap.size + 1 + 1 + 1; omega, by show w.heap.size + 1 + 1 ≠ w.heap.size + 1; omega⟩⟩⟩
  obtain ⟨bm, bq, bu, bo, wo, hbm, hbq, hbu, hbo, hwo, HKI, HTB, HBB, l1, l2, l3⟩ : ∃ bm bq bu bo wt, w.heap.size = bm ∧ w.heap.size + 1 = bq ∧ w.heap.size + 1 + 1 + 1 = bu ∧ w.heap.size + 1 + 1 + 1 + 1 = bo ∧ (((((w.alloc (.cells #[.pointer (some ⟨p, 0, none⟩)] 27)).alloc (.cells #[.int .i64 most] 3)).alloc (.cells #[] 3)).alloc (.cells #[.slice (some ⟨w.heap.size + 1 + 1, 0, none⟩) 0 0] 37)).alloc (.cells #[.bool true] 4)) = wt ∧ Hid (KI w t p bm bo bu bq most L 0 wt) ∧ Hid (Tab wt t m (.func (.func 10) #[] #[]) id L) ∧ Hid (Below w.heap.size w wt) ∧ bm < bq ∧ bq < bu ∧ bu < bo :=
    ⟨_, _, _, _, _, rfl, rfl, rfl, rfl, rfl, hide hki, hide (HT.out.below b0 (Nat.le_refl _)), hide b0, by omega, by omega, by omega⟩
  have HL0 := hide (show w.heap.size ≤ bm by omega)
  have HEQ := hide (And.intro hbm (And.intro hbq (And.intro hbu (And.intro hbo hwo))))
  have HAL := hide (all_any t wo)
  clear s1 s2 s3 s4 n0 n1 n2 n3 n4 b0 b1 b2 b3 b4 m0 m1 m2 m3 hown hki hbm hbq hbu hbo hwo
  rw [HEQ.out.2.2.2.2]
  try rw [HEQ.out.2.2.2.1]
  try rw [HEQ.out.2.2.1]
  try rw [HEQ.out.2.1]
  try rw [HEQ.out.1]
  go_wp2_with fail
  refine HAL.out.mono ?_
  rintro e w7 ⟨rfl, hw7⟩
  obtain ⟨bx, hbx⟩ : ∃ bx, wo.heap.size = bx := ⟨_, rfl⟩
  try rw [hbx]
  have hb67 : Below wo.heap.size wo w7 := by rw [hw7]; exact (Below.refl _ _).alloc (Nat.le_refl _) _
  have hx7 : w7.heap[bx]? = some (.cells #[.pointer (some ⟨t, 0, none⟩)] 24 (0, 0)) := by rw [hw7, ← hbx]; exact heap_alloc_new wo _
  have hk0 := HKI.out
  have hk7 : KI w t p bm bo bu bq most L 0 w7 := by
    obtain ⟨ua, uc, g1, g2, g3⟩ := hk0.out
    exact ⟨hk0.below.trans (hb67.mono hk0.below.size), below_block hb67 hk0.cm (Nat.le_refl _), below_block hb67 hk0.cq (Nat.le_refl _), below_block hb67 hk0.co (Nat.le_refl _), ⟨ua, uc, below_block hb67 g1 (Nat.le_refl _), owns_below g2 hb67 (Nat.le_refl _), g3⟩⟩
  have HIT := hide (iter_keys w t p bm bo bu bq bx m most most' L ks vs ka kc va vc HR HLK HM.out hlen HL0.out l1 l2 l3 hp w7 hk7 (HTB.out.below hb67 (Nat.le_refl _)) hx7)
  clear hbx hb67 hx7 hk0 hk7 hw7 HAL
  go_wp2_with fail
  refine HIT.out.mono ?_
  rintro e w8 ⟨⟨v8, rfl⟩, hi⟩
  have HI := hide hi
  obtain ⟨ua, uc, g1, g2, g3⟩ := hi.out
  obtain ⟨u0, uf⟩ := one_cell g1
  obtain ⟨o0, of⟩ := one_cell hi.co
  have HG2 := hide g2
  clear hi g1 g2 g3 HIT uf of
  go_wp2_with fail
  go_quiet (fail)
  go_wp2_with fail
  go_ret2
  refine ⟨ua, uc, rfl, ?_, bdrewN HI.out.below _⟩
  have := HG2.out
  rw [List.take_of_length_le (Nat.le_refl _)] at this
  exact owns_below this (bdrewN (Below.refl _ _) _) (Nat.le_refl _)
end Go.Proofs.Ytcgkblmhfgjoaaa
