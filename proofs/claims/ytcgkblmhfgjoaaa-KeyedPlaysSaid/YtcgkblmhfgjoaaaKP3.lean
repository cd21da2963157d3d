/- Whether a table is the document's. -/
import Derived.Test.YtcgkblmhfgjoaaaKP2
namespace Go.Proofs.Ytcgkblmhfgjoaaa
open Go.RowKit Go.Deep
set_option linter.unusedVariables false
set_option linter.unusedSimpArgs false
set_option maxRecDepth 100000
theorem AtD {w : World} {t : Nat} {most : Int} {fv : Value} {τ : Int → Int} {L : List KV} (h : Tab w t most fv τ L) (i : Nat) (x : KV) (hx : L[i]? = some x) (hn : L.length ≤ 600000) :
    Calls Try.prog 24 #[.pointer (some ⟨t, 0, none⟩), .int .i64 i] w fun e w' => e = .returned (.tuple #[.int .i64 x.1, .int .i64 x.2, .bool true]) ∧ ∃ n, w' = w.drewN n := by
  obtain ⟨T, h1, h2, rfl, h4⟩ := h
  have hil : i < (toL T).length := (List.getElem?_eq_some_iff.1 hx).1
  refine (At_any t most fv T (i : Int) w h1 h2 (by rw [← nsz_toL]; omega) (by omega) (by omega)).mono ?_
  rintro e w' ⟨⟨y, hy⟩, n, rfl⟩
  rcases hy with ⟨e1, e2, rfl⟩ | ⟨e1, rfl⟩
  · rw [Int.toNat_natCast, hx] at e1
    cases e1
    exact ⟨rfl, n, rfl⟩
  · rw [nsz_toL] at hil
    omega
theorem AtN {w : World} {t : Nat} {most : Int} {fv : Value} {τ : Int → Int} {L : List KV} (h : Tab w t most fv τ L) (hn : L.length ≤ 600000) :
    Calls Try.prog 24 #[.pointer (some ⟨t, 0, none⟩), .int .i64 (L.length : Int)] w fun e w' => e = .returned (.tuple #[.int .i64 0, .int .i64 0, .bool false]) ∧ ∃ n, w' = w.drewN n := by
  obtain ⟨T, h1, h2, rfl, h4⟩ := h
  refine (At_any t most fv T ((toL T).length : Int) w h1 h2 (by rw [← nsz_toL]; omega) (by omega) (by omega)).mono ?_
  rintro e w' ⟨⟨y, hy⟩, n, rfl⟩
  rcases hy with ⟨e1, e2, rfl⟩ | ⟨e1, rfl⟩
  · rw [Int.toNat_natCast, List.getElem?_eq_none (Nat.le_refl _)] at e1; cases e1
  · exact ⟨rfl, n, rfl⟩
theorem most_any {w : World} {t : Nat} {most : Int} {fv : Value} {τ : Int → Int} {L : List KV} (h : Tab w t most fv τ L) :
    Calls Try.prog 30 #[.pointer (some ⟨t, 0, none⟩)] w fun e w' => e = .returned (.int .i64 most) ∧ w' = w := by
  obtain ⟨T, h1, h2, rfl, h4⟩ := h
  obtain ⟨t0, t1, t2, tf⟩ := three_cells h1
  clear h1 h2 h4 t1 t2 tf
  go_enter Try.func30, Try.ntmps30
  go_wp2_with fail
  go_ret
  exact ⟨rfl, rfl⟩
theorem RTr.drewN {w : World} {p : Nat} {most : Int} {ks vs : List Int} {ka : Option Addr} {kc : Nat} {va : Option Addr} {vc : Nat} (h : RTr w p most ks vs ka kc va vc) (n : Nat) : RTr (w.drewN n) p most ks vs ka kc va vc := h.below (bdrewN (Below.refl w.heap.size w) n) (Nat.le_refl _)
set_option maxHeartbeats 3000000 in
theorem same_any (w : World) (t p : Nat) (m : Int) (L : List KV) (ks vs : List Int) (ka : Option Addr) (kc : Nat) (va : Option Addr) (vc : Nat) (hR : RTr w p m ks vs ka kc va vc) (hLK : Lk L ks vs) (hlen : L.length ≤ 100000) (hT : Tab w t m (.func (.func 10) #[] #[]) id L) :
    Calls Try.prog 18 #[.pointer (some ⟨t, 0, none⟩), .pointer (some ⟨p, 0, none⟩)] w fun e w' => e = .returned (.bool true) ∧ Below w.heap.size w w' := by
  have HK1 := hide (keysR_any w p m ks vs ka kc va vc hR (by have := hLK.cnt; omega) (L.map (·.1)) hLK.rising hLK.key (by rw [List.length_map]; omega))
  have HR := hide hR
  have HLK := hide hLK
  have HT := hide hT
  clear hR hLK hT
  go_enter Try.func18, Try.ntmps18
  go_wp2_with fail
  refine HK1.out.mono ?_
  rintro e w1 ⟨a1, c1, rfl, o1, b1⟩
  rw [List.length_map] at o1
  try rw [List.length_map]
  have HO1 := hide o1
  have HB1 := hide b1
  have HK2 := hide (keys_any w1 t p m m L ks vs ka kc va vc (HR.out.below b1 (Nat.le_refl _)) HLK.out hlen (HT.out.below b1 (Nat.le_refl _)))
  clear o1 b1 HK1
  obtain ⟨n, hn⟩ : ∃ n, L.length = n := ⟨_, rfl⟩
  rw [hn] at HK2 HO1 hlen
  have HN := hide hn
  try rw [hn]
  clear hn
  go_wp2_with fail
  refine HK2.out.mono ?_
  rintro e w2 ⟨a2, c2, rfl, o2, b2⟩
  have HO2 := hide o2
  have HB2 := hide (HB1.out.trans (b2.mono HB1.out.size))
  have HO12 := hide (owns_below HO1.out b2 (Nat.le_refl _))
  have HR2 := hide (HR.out.below HB2.out (Nat.le_refl _))
  have HT2 := hide (HT.out.below HB2.out (Nat.le_refl _))
  have HLN := hide (fun (k : Nat) => ((LenL (HT2.out.drewN k)).mono fun e w' h => ⟨by rw [← HN.out]; exact h.1, h.2.symm⟩ : Calls Try.prog 23 #[.pointer (some ⟨t, 0, none⟩)] (w2.drewN k) fun e w' => e = .returned (.int .i64 (n : Int)) ∧ w' = w2.drewN k))
  have HMO := hide (fun (k : Nat) => most_any (HT2.out.drewN k))
  obtain ⟨t0, t1, t2, tf⟩ := three_cells HR2.out.tab
  clear o2 b2 HK2 HB1 HO1 t0 tf
  go_wp2_with fail
  go_quiet ((first | (go_at_call 23; exact Calls.quiet_of_same (HLN.out _)) | (go_at_call 30; exact Calls.quiet_of_same (HMO.out _))))
  go_wp2_with fail
  go_loopw [53] (fun i wz => ∃ (j q : Nat), j ≤ n ∧ i = .int .i64 j ∧ wz = w2.drewN q) (fun i _ => n - (intOf i).toNat)
  case atStart => exact ⟨0, nq, Nat.zero_le _, rfl, rfl⟩
  case round =>
    clear t1 t2
    obtain ⟨j, q, hj, rfl, rfl⟩ := hrel
    by_cases hlt : j < n
    · obtain ⟨x, hx⟩ : ∃ x, L[j]? = some x := ⟨L[j]'(by rw [HN.out]; exact hlt), List.getElem?_eq_getElem _⟩
      obtain ⟨i, hi, hix, hik, hiv⟩ := HLK.out.at (List.mem_of_getElem? hx)
      have HAT := hide (AtD (HT2.out.drewN q) j x hx (by rw [HN.out]; omega))
      have hcnt := HLK.out.cnt
      have hkn : ks.length = n := by rw [← hcnt, HN.out]
      have HAR := hide (fun (k : Nat) => atR_any (w2.drewN k) p m ks vs ka kc va vc x.1 (HR2.out.drewN k) (by omega))
      obtain ⟨g1, rfl⟩ := slice_some HO12.out (by omega)
      obtain ⟨g2, rfl⟩ := slice_some HO2.out (by omega)
      obtain ⟨vb, voff, rfl, _, hvc⟩ := HR2.out.vrow.at (i := i) (by rw [HR2.out.len]; exact hi)
      have v0 := hvc i (by rw [HR2.out.len]; exact hi)
      rw [hiv] at v0
      simp only [Option.getD_some] at v0
      have r1 : w2.cell? ⟨g1, j, none⟩ = some (.int .i64 x.1) := by rw [HO12.out.cellAt j (by omega)]; simp [hx]
      have r2 : w2.cell? ⟨g2, j, none⟩ = some (.int .i64 x.1) := by rw [HO2.out.cellAt j (by omega)]; simp [hx]
      obtain ⟨_, t1, _, _⟩ := three_cells HR2.out.tab
      rw [hkn] at t1 hi
      obtain ⟨k1, hk⟩ : ∃ k, x.1 = k := ⟨_, rfl⟩
      obtain ⟨v, hv⟩ : ∃ k, x.2 = k := ⟨_, rfl⟩
      rw [hk, hv] at HAT
      have HAR2 := hide (fun k => (by have := HAR.out k; rw [hix, hk] at this; exact this : Calls Try.prog 17 #[.pointer (some ⟨p, 0, none⟩), .int .i64 k1] (w2.drewN k) fun e w' => e = .returned (.int .i64 (i : Int)) ∧ w' = w2.drewN k))
      rw [hk] at r1 r2
      rw [hv] at v0
      clear hx hix hik hiv hcnt hkn hvc hk hv HAR
      go_wp2_with fail
      refine HAT.out.mono ?_
      rintro e w3 ⟨rfl, q2, rfl⟩
      obtain ⟨w4, hw4⟩ : ∃ wt, (w2.drewN q).drewN q2 = wt := ⟨_, rfl⟩
      have hw5 : w2.drewN (q + q2) = w4 := by rw [← hw4, World.drewN_drewN]
      have HAR4 := hide (fun k => (by have := HAR2.out (q + q2 + k); rw [← World.drewN_drewN, hw5] at this; exact this : Calls Try.prog 17 #[.pointer (some ⟨p, 0, none⟩), .int .i64 k1] (w4.drewN k) fun e w' => e = .returned (.int .i64 (i : Int)) ∧ w' = w4.drewN k))
      have s1 : w4.cell? ⟨g1, j, none⟩ = some (.int .i64 k1) := by rw [← hw5]; exact r1
      have s2 : w4.cell? ⟨g2, j, none⟩ = some (.int .i64 k1) := by rw [← hw5]; exact r2
      have s3 : w4.cell? ⟨vb, voff + i, none⟩ = some (.int .i64 v) := by rw [← hw5]; exact v0
      have s4 : w4.cell? ⟨p, 1, none⟩ = some (.slice (some ⟨vb, voff, none⟩) n vc) := by rw [← hw5]; exact t1
      have HW5 := hide hw5
      try rw [hw4]
      try rw [hw5]
      clear hw4 hw5 r1 r2 v0 t1 HAR2 HAT
      go_wp2_with fail
      go_quiet ((go_at_call 17; exact Calls.quiet_of_same (HAR4.out _)))
      go_wp2_with fail
      go_roundw
      case rel => exact ⟨j + 1, q + q2 + nq, by omega, by go_num, by rw [← HW5.out, World.drewN_drewN]⟩
      case measure => simp [intOf]; omega
    · have HAN := hide (AtN (HT2.out.drewN q) (by rw [HN.out]; omega))
      rw [HN.out] at HAN
      go_wp2_with fail
      refine HAN.out.mono ?_
      rintro e w3 ⟨rfl, q2, rfl⟩
      go_wp2_with fail
      go_ret
      exact ⟨rfl, bdrewN HB2.out _⟩
end Go.Proofs.Ytcgkblmhfgjoaaa
