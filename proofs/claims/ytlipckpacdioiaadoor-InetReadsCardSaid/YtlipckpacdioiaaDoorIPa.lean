/- inet: InetParts. -/
import Derived.Test.YtlipckpacdioiaaDoorITu
namespace Go.Proofs.YtlipckpacdioiaaDoor
open Go.RowKit
set_option linter.unusedVariables false
set_option linter.unusedSimpArgs false
set_option maxRecDepth 100000
theorem ipM_set (tt P id s d m n m2 : Nat) (k : Nat) (xs : List Int) : (((((ipM tt P id s d m k n ++ xs).set 6 (byteAt m2 1)).set 7 (byteAt m2 0)).set 10 0).set 11 0) = ipM tt P id s d m2 0 n ++ xs := rfl
theorem ipM_seal (tt P id s d m n : Nat) (k : Nat) (xs : List Int) : (((ipM tt P id s d m 0 n ++ xs).set 10 (byteAt k 1)).set 11 (byteAt k 0)) = ipM tt P id s d m k n ++ xs := rfl
theorem byte_shr (m : Nat) (h : m ≤ 65535) : IntKind.u8.wrap ((m : Int) / 256) = byteAt m 1 := by rw [IntKind.wrap_u8]; unfold byteAt; omega
theorem byte_low (m : Nat) : IntKind.u8.wrap (m : Int) = byteAt m 0 := by rw [IntKind.wrap_u8]; unfold byteAt; omega
theorem and_14 (m : Nat) (h : m ≤ 65535) : bits .and .u16 (m : Int) 16383 = ((m % 16384 : Nat) : Int) := by
  have h1 := u16_and_nat m (2 ^ 14 - 1) (by omega) (by omega)
  rw [Nat.and_two_pow_sub_one_eq_mod] at h1
  exact h1
set_option maxHeartbeats 4000000 in
theorem inetParts_any (w : World) (tt P id s d : Nat) (da : Option Addr) (xs : List Int) (n dc : Nat) (m : Nat) (hk : PkOk tt P id s d) (hL : Lies w da xs n dc) (hl : xs.length = n) (hb : ∀ x ∈ xs, 0 ≤ x ∧ x ≤ 255) (hm : m ≤ 65535) (hp : PT w) :
    Calls Tryd.prog 8 #[.agg (pkV tt P id s d da n dc), .int .u16 (m : Int)] w (Yes w) := by
  have w1' := byte_shr m hm
  have w2' := byte_low m
  have hand := and_14 m hm
  obtain ⟨wq, hqq, hbel, hnew⟩ : ∃ V, w.alloc (.cells (pkV tt P id s d da n dc) 27) = V ∧ Below w.heap.size w V ∧ V.heap[w.heap.size]? = some (.cells (pkV tt P id s d da n dc) 27 (0, 0)) := ⟨_, rfl, (Below.refl _ _).alloc (Nat.le_refl _) _, heap_alloc_new _ _⟩
  have HS := hide (speaks_any wq (hp.below hbel (Nat.le_refl _)))
  have HQ := hide hqq
  have HB := hide hbel
  have HN := hide hnew
  have HLq := hide (hL.below hbel (Nat.le_refl _))
  have HK := hide hk
  have HL := hide hl
  have HXB := hide hb
  obtain ⟨B, hB⟩ : ∃ B, w.heap.size = B := ⟨_, rfl⟩
  rw [hB] at HN
  have HBB := hide hB
  clear hqq hbel hnew hL hl hb hp hk hB
  unfold pkV at HQ
  go_enter Tryd.func8, Tryd.ntmps8
  unfold pkV
  go_upto_region 1 with (fail)
  rw [HQ.out]
  rw [HBB.out]
  clear HQ
  go_wp2_with fail
  refine HS.out.mono ?_
  rintro e w1 ⟨rfl, b1⟩
  have HB1 := hide (HB.out.trans (b1.mono HB.out.size))
  have HN1 := hide (below_block b1 HN.out (Nat.le_refl _))
  have HL1 := hide (HLq.out.below b1 (Nat.le_refl _))
  clear b1 HS HB HN HLq
  obtain ⟨z0, z1, z2, z3, z4, z5⟩ := pk_cells HN1.out
  by_cases hn : n ≤ 1480
  · have HW := hide (write_ok w1 tt P id s d da xs n dc HK.out HL1.out HL.out hn)
    unfold pkV at HW
    go_wp2_with fail
    refine HW.out.mono ?_
    rintro e w2 ⟨a2, c2, rfl, o2, b2⟩
    obtain ⟨g, rfl, hg1, hg2, hgf⟩ := own_open o2 (by omega)
    have HB2 := hide (HB1.out.trans (b2.mono HB1.out.size))
    have HG := hide (ipG_ipM tt P id s d xs)
    have gc := fun (W : World) (ys : List Int) (o : W.ownsRow w1.heap.size 5 1 (.slice (some ⟨g, 0, none⟩) (20 + n) c2) (20 + n) (ys.map (Value.int .u8))) (i : Nat) (h : i < 20 + n) => o.cellAt i (by omega)
    have o3 := owns_store (v := byteAt m 1) o2 (show 6 < 20 + n by omega)
    have o4 := owns_store (v := byteAt m 0) o3 (show 7 < 20 + n by omega)
    have o5 := owns_store (v := 0) o4 (show 10 < 20 + n by omega)
    have o6 := owns_store (v := 0) o5 (show 11 < 20 + n by omega)
    have hle : 20 ≤ (ipG tt P id s d xs).length := by rw [ipG_len]; omega
    have ex : ∀ i, i < 20 + n → ∃ y, w2.cell? ⟨g, i, none⟩ = some y := fun i h => by
      rw [gc _ _ o2 i h]
      exact ⟨_, List.getElem?_eq_getElem (by rw [List.length_map, ipG_len, HL.out]; exact h)⟩
    obtain ⟨y6, c6⟩ := ex 6 (by omega)
    obtain ⟨y7, c7⟩ := ex 7 (by omega)
    obtain ⟨y10, c10⟩ := ex 10 (by omega)
    obtain ⟨y11, c11⟩ := ex 11 (by omega)
    rw [HG.out, ipM_set] at o6
    have HO6 := hide o6
    have f6 := hgf 6
    have f7 := hgf 7
    have f10 := hgf 10
    have f11 := hgf 11
    have HGB := hide (show w.heap.size ≤ g from Nat.le_trans HB1.out.size hg1)
    have HGL := hide hg1
    clear b2 o2 o3 o4 o5 o6 gc ex HW z0 z1 z2 z3 z4 z5 hgf hle hg2 hg1
    go_upto_region 7 with (fail)
    obtain ⟨w3, hw3⟩ : ∃ V, ((((w2.setCell ⟨g, 6, none⟩ (.int .u8 (byteAt m 1))).setCell ⟨g, 7, none⟩ (.int .u8 (byteAt m 0))).setCell ⟨g, 10, none⟩ (.int .u8 0)).setCell ⟨g, 11, none⟩ (.int .u8 0)) = V := ⟨_, rfl⟩
    have HB3 := hide ((((HB2.out.setCell (p := ⟨g, 6, none⟩) HGB.out (.int .u8 (byteAt m 1))).setCell (p := ⟨g, 7, none⟩) HGB.out (.int .u8 (byteAt m 0))).setCell (p := ⟨g, 10, none⟩) HGB.out (.int .u8 0)).setCell (p := ⟨g, 11, none⟩) HGB.out (.int .u8 0))
    rw [hw3] at HO6 HB3 ⊢
    have hS := refSum_any (some ⟨g, 0, none⟩) (ipM tt P id s d m 0 xs.length) c2 w3 (by
        have := row_take (Row.of_owns HO6.out) 20
        rw [ipM_take] at this
        exact this) (ipM_rng tt P id s d m 0 xs.length HK.out.ht HK.out.hP) (by rw [ipM_len]; omega)
    obtain ⟨K, hKe⟩ : ∃ K, ipMK tt P id s d m xs.length = K := ⟨_, rfl⟩
    have hKl : K ≤ 65535 := by rw [← hKe]; exact ipMK_le _ _ _ _ _ _ _
    have hcK : csum (ipM tt P id s d m 0 xs.length) = (K : Int) := by
      have := csum_rng (ipM tt P id s d m 0 xs.length)
      rw [← hKe]; unfold ipMK; omega
    rw [hcK, ipM_len] at hS
    have HSU := hide hS
    have HKE := hide hKe
    clear hS hKe hcK hw3 c6 c7 c10 c11 f6 f7 f10 f11 HB2
    have hcc : 20 + n ≤ c2 := (Lies.of_owns HO6.out).le
    have hc20 : (20 : Int) ≤ (c2 : Int) := by omega
    go_wp2_with fail
    refine HSU.out.mono ?_
    rintro e w4 ⟨rfl, b4⟩
    have o4 := owns_below HO6.out b4 (Nat.le_refl _)
    have HB4 := hide (HB3.out.trans (b4.mono HB3.out.size))
    have o5 := owns_store (v := byteAt K 1) o4 (show 10 < 20 + n by omega)
    have o6 := owns_store (v := byteAt K 0) o5 (show 11 < 20 + n by omega)
    have ex : ∀ i, i < 20 + n → ∃ y, w4.cell? ⟨g, i, none⟩ = some y := fun i h => by
      rw [o4.cellAt i (by omega)]
      exact ⟨_, List.getElem?_eq_getElem (by rw [List.length_map, List.length_append, ipM_len, HL.out]; exact h)⟩
    obtain ⟨y10, c10⟩ := ex 10 (by omega)
    obtain ⟨y11, c11⟩ := ex 11 (by omega)
    rw [ipM_seal, ← HKE.out] at o6
    obtain ⟨_, hge, _, _, hgf⟩ := own_open o4 (by omega)
    cases hge
    have f10 := hgf 10
    have f11 := hgf 11
    have v1' := byte_shr K hKl
    have v2' := byte_low K
    have HO5 := hide o6
    clear o4 o5 o6 ex b4 HSU hgf HO6 HB3
    go_upto_region 9 with (fail)
    obtain ⟨w5, hw5⟩ : ∃ V, ((w4.setCell ⟨g, 10, none⟩ (.int .u8 (byteAt K 1))).setCell ⟨g, 11, none⟩ (.int .u8 (byteAt K 0))) = V := ⟨_, rfl⟩
    have HB5 := hide ((HB4.out.setCell (p := ⟨g, 10, none⟩) HGB.out (.int .u8 (byteAt K 1))).setCell (p := ⟨g, 11, none⟩) HGB.out (.int .u8 (byteAt K 0)))
    rw [HKE.out, hw5] at HO5
    rw [hw5] at HB5 ⊢
    have HLi := hide (Lies.of_owns HO5.out)
    rw [← HKE.out, HL.out] at HLi
    clear hw5 c10 c11 f10 f11 v1' v2' HB4 hcc hc20
    by_cases hm0 : m % 16384 = 0
    · have HRD := hide (rdM_ok tt P id s d m xs n HK.out hm HL.out hn HXB.out hm0 w5 _ c2 HLi.out)
      go_wp2_with fail
      refine HRD.out.mono ?_
      rintro e w6 ⟨a6, c6, rfl, o6, b6⟩
      have HB6 := hide (HB5.out.trans (b6.mono HB5.out.size))
      have t1 : ((m : Int) % 16384 == 0) = true := by simp; omega
      have t2 : ((m : Int) % 16384 != 0) = false := by simp; omega
      clear o6 b6
      go_wp2_with fail
      go_ret
      exact ⟨rfl, HB6.out.alloc HB6.out.size _⟩
    · have HRD := hide (rdM_frag tt P id s d m xs n HK.out hm HL.out hn HXB.out hm0 w5 _ c2 HLi.out)
      go_wp2_with fail
      refine HRD.out.mono ?_
      rintro e w6 ⟨rfl, b6⟩
      have HB6 := hide (HB5.out.trans (b6.mono HB5.out.size))
      have t1 : ((m : Int) % 16384 == 0) = false := by simp; omega
      have t2 : ((m : Int) % 16384 != 0) = true := by simp; omega
      clear b6
      unfold noP
      go_wp2_with fail
      go_ret
      exact ⟨rfl, HB6.out.alloc HB6.out.size _⟩
  · have HW := hide (write_long w1 tt P id s d da n dc (by omega))
    unfold pkV at HW
    go_wp2_with fail
    refine HW.out.mono ?_
    rintro e w2 ⟨rfl, b2⟩
    have HB2 := hide (HB1.out.trans (b2.mono HB1.out.size))
    have y5 := (pk_cells (below_block b2 HN1.out (Nat.le_refl _))).2.2.2.2.2
    clear b2 z0 z1 z2 z3 z4 z5
    have hd : decide ((1480 : Int) < (n : Int)) = true := by simp; omega
    go_wp2_with fail
    go_ret
    exact ⟨rfl, HB2.out⟩
end Go.Proofs.YtlipckpacdioiaaDoor
