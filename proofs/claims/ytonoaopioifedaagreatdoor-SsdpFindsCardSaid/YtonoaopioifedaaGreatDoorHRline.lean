/- Head: the document's Line. -/
import Derived.Test.YtonoaopioifedaaGreatDoorHRst
namespace Go.Proofs.YtonoaopioifedaaGreatDoor.H
open Go.RowKit Go.Deep
set_option linter.unusedVariables false
set_option linter.unusedSimpArgs false
set_option maxRecDepth 100000
theorem bl_is (c : UInt8) : bl.contains c = (decide (c.toNat = 32) || decide (c.toNat = 9)) := all256 (p := fun c => bl.contains c = (decide (c.toNat = 32) || decide (c.toNat = 9))) (by decide) c
/-- Where the document looks for the ends of the value, in the line itself. -/
theorem trim_mid (l : List UInt8) (a f t : Nat) (haf : a + 1 ≤ f) (hft : f ≤ t) (ht : t ≤ l.length) (h1 : ∀ q b, a + 1 ≤ q → q < f → l[q]? = some b → bl.contains b = true) (h2 : ∀ q b, t ≤ q → l[q]? = some b → bl.contains b = true)
    (h3 : f = l.length ∨ ∀ b, l[f]? = some b → bl.contains b = false) (h4 : t = f ∨ ∀ b, l[t - 1]? = some b → bl.contains b = false) : Lib.trimS (l.drop (a + 1)) bl = (l.drop f).take (t - f) := by
  have h := trim_at (l.drop (a + 1)) (f - (a + 1)) (t - (a + 1)) (by omega) (by rw [List.length_drop]; omega) (fun j b hj hb => by
    rw [List.getElem?_drop] at hb
    exact h1 (a + 1 + j) b (by omega) (by omega) hb) (fun j b hj hb => by
    rw [List.getElem?_drop] at hb
    exact h2 (a + 1 + j) b (by omega) hb) (by
    rcases h4 with e | h4
    · exact .inl (by omega)
    · rcases h3 with e | h3
      · exact .inl (by omega)
      · rcases Nat.lt_or_ge f t with hlt | hge
        · refine .inr ⟨fun b hb => ?_, fun b hb => ?_⟩
          · rw [List.getElem?_drop, show a + 1 + (f - (a + 1)) = f by omega] at hb; exact h3 b hb
          · rw [List.getElem?_drop, show a + 1 + (t - (a + 1) - 1) = t - 1 by omega] at hb; exact h4 b hb
        · exact .inl (by omega))
  rw [h, ← List.drop_take, List.drop_drop]
  rw [List.take_drop, show a + 1 + (f - (a + 1)) = f by omega, show f + (t - f) = t by omega]
theorem line_at (l : List UInt8) (a : Nat) (ha : l[a]? = some 58) (hI : ∀ q x, q < a → l[q]? = some x → x ≠ 58) : lineL l = if tokenL (l.take a) && (Lib.trimS (l.drop (a + 1)) bl).all valB then some (lowL (l.take a), Lib.trimS (l.drop (a + 1)) bl) else none := by
  have h := line_some (l.take a) (l.drop (a + 1)) (take_ne l a 58 hI)
  rw [← split_at l a 58 ha] at h
  exact h
set_option maxHeartbeats 8000000 in
theorem rline_any (s : ByteArray) (w : World) (hs : s.size ≤ 90000) : Calls Tryz.prog 27 #[.string s] w fun e w' => e = .returned (lineV (lineL s.data.toList)) ∧ Below w.heap.size w w' := by
  obtain ⟨l, hl⟩ : ∃ l, s.data.toList = l := ⟨_, rfl⟩
  obtain ⟨n, hn⟩ : ∃ n, s.size = n := ⟨_, rfl⟩
  have hln : l.length = n := by rw [← hl, ← hn]; simp
  obtain ⟨r, hr⟩ : ∃ r, lineL l = r := ⟨_, rfl⟩
  rw [hl, hr]
  have HN := hide (And.intro hln (And.intro (show n ≤ 90000 by omega) hl))
  have HR := hide hr
  have hal := (Below.refl w.heap.size w).alloc (Nat.le_refl _) (.cells #[.string ⟨#[]⟩, .string ⟨#[]⟩] 60)
  have hnew := heap_alloc_new w (.cells #[.string ⟨#[]⟩, .string ⟨#[]⟩] 60)
  obtain ⟨W, hW⟩ : ∃ W, w.alloc (.cells #[.string ⟨#[]⟩, .string ⟨#[]⟩] 60) = W := ⟨_, rfl⟩
  obtain ⟨S, hS⟩ : ∃ S, w.heap.size = S := ⟨_, rfl⟩
  rw [hW] at hal hnew
  rw [hS] at hnew
  have HW := hide (And.intro hW hS)
  have HA := hide (show Below w.heap.size w W ∧ W.heap[S]? = some (.cells #[.string ⟨#[]⟩, .string ⟨#[]⟩] 60 (0, 0)) ∧ w.heap.size ≤ S from ⟨hal, hnew, Nat.le_of_eq hS⟩)
  clear hl hln hs hr hal hnew hW hS
  go_enter Tryz.func27, Tryz.ntmps27
  go_wp2_with fail
  rw [HW.out.1]
  rw [HW.out.2]
  clear HW
  go_loopw [4] (fun i wz => ∃ a : Nat, a ≤ n ∧ i = .int .i64 a ∧ Hid (∀ q b, q < a → l[q]? = some b → b ≠ 58) ∧ wz = W) (fun i _ => n - (Lib.intOf i).toNat)
  case atStart => exact ⟨0, Nat.zero_le _, rfl, hide (fun q b h => by omega), rfl⟩
  case round =>
    obtain ⟨a, ha, rfl, HI, rfl⟩ := hrel
    have ha4 : (0 : Int) ≤ (a : Int) := by omega
    have ha5 : (a : Int) ≤ 90000 := by have := HN.out; omega
    by_cases hlt : a < n
    · have d1 : decide (a < n) = true := by simp; omega
      have gs : a < s.size := by omega
      obtain ⟨cg, hcg⟩ : ∃ c, s[a]'gs = c := ⟨_, rfl⟩
      have hlg : l[a]? = some cg := by rw [← HN.out.2.2, Lib.data_getElem? s (a) gs, hcg]
      obtain ⟨x, hx⟩ : ∃ y, cg.toNat = y := ⟨_, rfl⟩
      have hqg : (((s[a]'gs).toNat : Nat) : Int) = (x : Int) := by rw [hcg, hx]
      have HLg := hide (And.intro hlg hx)
      clear hlg hcg hx
      by_cases h58 : x = 58
      · have d2 : ((x : Int) != 58) = false := by simp; omega
        have d3 : ((a : Int) == (n : Int)) = false := by simp; omega
        have hA : l[a]? = some 58 := by have := byte_is cg 58 (by decide) (by rw [HLg.out.2]; exact h58); rw [HLg.out.1, this]; rfl
        have HLA := hide (line_at l a hA HI.out)
        have hT := rtoken_any (s.extract 0 a) wr (by have := HN.out; simp; omega)
        rw [show (s.extract 0 a).data.toList = l.take a by rw [Lib.extract_data, HN.out.2.2]; simp] at hT
        obtain ⟨tk, htk⟩ : ∃ x, tokenL (l.take a) = x := ⟨_, rfl⟩
        rw [htk] at hT
        have HT := hide hT
        have HTK := hide htk
        clear h58 HLg hA HI hT htk
        go_wp2_with fail
        (with_reducible refine HT.out.mono ?_)
        rintro e w1 ⟨rfl, rfl⟩
        clear HT hqg d2 d3
        cases tk with
        | false =>
          have HE := hide (show r = none by rw [← HR.out, HLA.out, HTK.out]; rfl)
          have hs2 := HA.out.2.1
          obtain ⟨⟨k0, k1⟩, k2, k3⟩ := two_cells hs2
          have HFIN := hide (two_set hs2 (.string ⟨#[]⟩) (.string ⟨#[]⟩) HA.out.1 HA.out.2.2)
          clear hs2 HLA HTK
          go_wp2_with fail
          exact bodyPost_ret (v := lineV none) (results_cell_tmp Tryz.results27 _ _ S 60 _ (0, 0) _ rfl HFIN.out.1 Tryz.underlying60 rfl (by kernel_rfl) _ rfl) rfl ⟨by rw [HE.out], HFIN.out.2⟩
        | true =>
          go_wp2_with fail
          clear d1
          go_loopw [5] (fun iv wz => ∃ f : Nat, a + 1 ≤ f ∧ f ≤ n ∧ iv = .int .i64 f ∧ Hid (∀ q b, a + 1 ≤ q → q < f → l[q]? = some b → bl.contains b = true) ∧ wz = w1) (fun i _ => n - (Lib.intOf i).toNat)
          case atStart => exact ⟨a + 1, Nat.le_refl _, by omega, by go_num, hide (fun q b h1 h2 => by omega), rfl⟩
          case round =>
            obtain ⟨f, haf, hfn, rfl, HI2, hwr⟩ := hrel
            subst hwr
            have hf4 : (0 : Int) ≤ (f : Int) := by omega
            have hf5 : (f : Int) ≤ 90000 := by have := HN.out; omega
            by_cases hlt2 : f < n
            · have d1 : decide (f < n) = true := by simp; omega
              have fs : f < s.size := by omega
              obtain ⟨cf, hcf⟩ : ∃ c, s[f]'fs = c := ⟨_, rfl⟩
              have hlf : l[f]? = some cf := by rw [← HN.out.2.2, Lib.data_getElem? s (f) fs, hcf]
              obtain ⟨y, hy⟩ : ∃ y, cf.toNat = y := ⟨_, rfl⟩
              have hqf : (((s[f]'fs).toNat : Nat) : Int) = (y : Int) := by rw [hcf, hy]
              have HLf := hide (And.intro hlf hy)
              clear hlf hcf hy
              by_cases hy32 : y = 32
              · have da : ((y : Int) == 32) = true := by simp; omega
                have HI3 := hide (show ∀ q b, a + 1 ≤ q → q < f + 1 → l[q]? = some b → bl.contains b = true from fun q b h1 h2 h3 => by
                  rcases Nat.lt_or_ge q f with h | h
                  · exact HI2.out q b h1 h h3
                  · rw [show q = f by omega, HLf.out.1] at h3; cases h3; rw [bl_is, HLf.out.2]; simp; omega)
                clear HI2 HLf
                go_wp2_with fail
                exact ⟨⟨f + 1, by omega, by omega, by go_num, HI3, by first | rfl | trivial⟩, by simp [Lib.intOf]; omega⟩
              · have da : ((y : Int) == 32) = false := by simp; omega
                by_cases hy9 : y = 9
                · have db : ((y : Int) == 9) = true := by simp; omega
                  have HI3 := hide (show ∀ q b, a + 1 ≤ q → q < f + 1 → l[q]? = some b → bl.contains b = true from fun q b h1 h2 h3 => by
                    rcases Nat.lt_or_ge q f with h | h
                    · exact HI2.out q b h1 h h3
                    · rw [show q = f by omega, HLf.out.1] at h3; cases h3; rw [bl_is, HLf.out.2]; simp; omega)
                  clear HI2 HLf
                  go_wp2_with fail
                  exact ⟨⟨f + 1, by omega, by omega, by go_num, HI3, by first | rfl | trivial⟩, by simp [Lib.intOf]; omega⟩
                · have db : ((y : Int) == 9) = false := by simp; omega
                  have HF3 := hide (show f = l.length ∨ ∀ b, l[f]? = some b → bl.contains b = false from .inr fun b hb => by rw [HLf.out.1] at hb; cases hb; rw [bl_is, HLf.out.2]; simp [hy32, hy9])
                  clear hy32 hy9 HLf
                  go_wp2_with fail
                  clear da db d1 hqf
                  go_loopw [6] (fun iv wz => ∃ t : Nat, f ≤ t ∧ t ≤ n ∧ iv = .int .i64 t ∧ Hid (∀ q b, t ≤ q → l[q]? = some b → bl.contains b = true) ∧ wz = wr) (fun i _ => (Lib.intOf i).toNat)
                  case atStart => exact ⟨n, by omega, Nat.le_refl _, rfl, hide (fun q b h1 h2 => by have := (List.getElem?_eq_some_iff.1 h2).1; have := HN.out; omega), rfl⟩
                  case round =>
                    obtain ⟨t, hft, htn, rfl, HJ, rfl⟩ := hrel
                    have ht4 : (0 : Int) ≤ (t : Int) := by omega
                    have ht5 : (t : Int) ≤ 90000 := by have := HN.out; omega
                    by_cases hlt3 : f < t
                    · have d5 : decide (f < t) = true := by simp; omega
                      obtain ⟨u, hu⟩ : ∃ u, t = u + 1 := ⟨t - 1, by omega⟩
                      have hus : (t : Int) - 1 = (u : Int) := by omega
                      have hu4 : (0 : Int) ≤ (u : Int) := by omega
                      have hun : (u : Int) < (n : Int) := by omega
                      have hun2 : u < n := by omega
                      have HU := hide hu
                      clear hu
                      have vs : u < s.size := by have := HU.out; omega
                      obtain ⟨cv, hcv⟩ : ∃ c, s[u]'vs = c := ⟨_, rfl⟩
                      have hlv : l[u]? = some cv := by rw [← HN.out.2.2, Lib.data_getElem? s (u) vs, hcv]
                      obtain ⟨y, hy⟩ : ∃ y, cv.toNat = y := ⟨_, rfl⟩
                      have hqv : (((s[u]'vs).toNat : Nat) : Int) = (y : Int) := by rw [hcv, hy]
                      have HLv := hide (And.intro hlv hy)
                      clear hlv hcv hy
                      by_cases hy32 : y = 32
                      · have da : ((y : Int) == 32) = true := by simp; omega
                        have HJ2 := hide (show ∀ q b, u ≤ q → l[q]? = some b → bl.contains b = true from fun q b h1 h2 => by
                          rcases Nat.lt_or_ge u q with h | h
                          · exact HJ.out q b (by have := HU.out; omega) h2
                          · rw [show q = u by omega, HLv.out.1] at h2; cases h2; rw [bl_is, HLv.out.2]; simp; omega)
                        clear HJ HLv
                        go_wp2_with fail
                        exact ⟨⟨u, by have := HU.out; omega, by omega, by go_num, HJ2, by first | rfl | trivial⟩, by simp [Lib.intOf]; omega⟩
                      · have da : ((y : Int) == 32) = false := by simp; omega
                        by_cases hy9 : y = 9
                        · have db : ((y : Int) == 9) = true := by simp; omega
                          have HJ2 := hide (show ∀ q b, u ≤ q → l[q]? = some b → bl.contains b = true from fun q b h1 h2 => by
                            rcases Nat.lt_or_ge u q with h | h
                            · exact HJ.out q b (by have := HU.out; omega) h2
                            · rw [show q = u by omega, HLv.out.1] at h2; cases h2; rw [bl_is, HLv.out.2]; simp; omega)
                          clear HJ HLv
                          go_wp2_with fail
                          exact ⟨⟨u, by have := HU.out; omega, by omega, by go_num, HJ2, by first | rfl | trivial⟩, by simp [Lib.intOf]; omega⟩
                        · have db : ((y : Int) == 9) = false := by simp; omega
                          have HTM := hide (trim_mid l a f t haf hft (by have := HN.out; omega) HI2.out HJ.out HF3.out (.inr fun b hb => by rw [show t - 1 = u by have := HU.out; omega, HLv.out.1] at hb; cases hb; rw [bl_is, HLv.out.2]; simp [hy32, hy9]))
                          clear hy32 hy9 HLv HU hlt3 HJ
                          go_wp2_with fail
                          have HRV := hide (show r = if ((l.drop f).take (t - f)).all valB then some (lowL (l.take a), (l.drop f).take (t - f)) else none by rw [← HR.out, HLA.out, HTM.out, HTK.out, Bool.true_and])
                          go_loopw [7] (fun iv wz => ∃ i : Nat, f ≤ i ∧ i ≤ t ∧ iv = .int .i64 i ∧ Hid (∀ q x, f ≤ q → q < i → l[q]? = some x → valB x = true) ∧ wz = wr) (fun i _ => t - (Lib.intOf i).toNat)
                          case atStart => exact ⟨f, Nat.le_refl _, by omega, rfl, hide (fun q x h1 h2 => by omega), rfl⟩
                          case round =>
                            obtain ⟨i, hfi, hit, rfl, HK, rfl⟩ := hrel
                            have hi4 : (0 : Int) ≤ (i : Int) := by omega
                            have hi5 : (i : Int) ≤ 90000 := by have := HN.out; omega
                            by_cases hilt : i < t
                            · have d7 : decide (i < t) = true := by simp; omega
                              have ws : i < s.size := by omega
                              obtain ⟨cw, hcw⟩ : ∃ c, s[i]'ws = c := ⟨_, rfl⟩
                              have hlw : l[i]? = some cw := by rw [← HN.out.2.2, Lib.data_getElem? s (i) ws, hcw]
                              obtain ⟨z, hz⟩ : ∃ y, cw.toNat = y := ⟨_, rfl⟩
                              have hqw : (((s[i]'ws).toNat : Nat) : Int) = (z : Int) := by rw [hcw, hz]
                              have HLw := hide (And.intro hlw hz)
                              clear hlw hcw hz
                              by_cases hz32 : z < 32
                              · have da : decide ((z : Int) < 32) = true := by simp; omega
                                by_cases hz9 : z = 9
                                · have db : ((z : Int) != 9) = false := by simp; omega
                                  have dc : ((z : Int) == 127) = false := by simp; omega
                                  have HK2 := hide (show ∀ q x, f ≤ q → q < i + 1 → l[q]? = some x → valB x = true from fun q x h1 h2 h3 => by
                                    rcases Nat.lt_or_ge q i with h | h
                                    · exact HK.out q x h1 h h3
                                    · rw [show q = i by omega, HLw.out.1] at h3; cases h3; unfold valB; rw [HLw.out.2]; simp; omega)
                                  clear HLw HK hz32 hz9
                                  go_wp2_with fail
                                  exact ⟨⟨i + 1, by omega, by omega, by go_num, HK2, by first | rfl | trivial⟩, by simp [Lib.intOf]; omega⟩
                                · have db : ((z : Int) != 9) = true := by simp; omega
                                  have HE := hide (show r = none by rw [HRV.out, mid_bad l valB f t i cw hfi hilt HLw.out.1 (by unfold valB; rw [HLw.out.2]; simp; omega)]; rfl)
                                  have hs2 := HA.out.2.1
                                  obtain ⟨⟨k0, k1⟩, k2, k3⟩ := two_cells hs2
                                  have HFIN := hide (two_set hs2 (.string ⟨#[]⟩) (.string ⟨#[]⟩) HA.out.1 HA.out.2.2)
                                  clear hs2 HK HLw HRV hz32 hz9
                                  go_wp2_with fail
                                  exact bodyPost_ret (v := lineV none) (results_cell_tmp Tryz.results27 _ _ S 60 _ (0, 0) _ rfl HFIN.out.1 Tryz.underlying60 rfl (by kernel_rfl) _ rfl) rfl ⟨by rw [HE.out], HFIN.out.2⟩
                              · have da : decide ((z : Int) < 32) = false := by simp; omega
                                by_cases hz127 : z = 127
                                · have dc : ((z : Int) == 127) = true := by simp; omega
                                  have HE := hide (show r = none by rw [HRV.out, mid_bad l valB f t i cw hfi hilt HLw.out.1 (by unfold valB; rw [HLw.out.2]; simp; omega)]; rfl)
                                  have hs2 := HA.out.2.1
                                  obtain ⟨⟨k0, k1⟩, k2, k3⟩ := two_cells hs2
                                  have HFIN := hide (two_set hs2 (.string ⟨#[]⟩) (.string ⟨#[]⟩) HA.out.1 HA.out.2.2)
                                  clear hs2 HK HLw HRV hz32 hz127
                                  go_wp2_with fail
                                  exact bodyPost_ret (v := lineV none) (results_cell_tmp Tryz.results27 _ _ S 60 _ (0, 0) _ rfl HFIN.out.1 Tryz.underlying60 rfl (by kernel_rfl) _ rfl) rfl ⟨by rw [HE.out], HFIN.out.2⟩
                                · have dc : ((z : Int) == 127) = false := by simp; omega
                                  have HK2 := hide (show ∀ q x, f ≤ q → q < i + 1 → l[q]? = some x → valB x = true from fun q x h1 h2 h3 => by
                                    rcases Nat.lt_or_ge q i with h | h
                                    · exact HK.out q x h1 h h3
                                    · rw [show q = i by omega, HLw.out.1] at h3; cases h3; unfold valB; rw [HLw.out.2]; simp; omega)
                                  clear HLw HK hz32 hz127
                                  go_wp2_with fail
                                  exact ⟨⟨i + 1, by omega, by omega, by go_num, HK2, by first | rfl | trivial⟩, by simp [Lib.intOf]; omega⟩
                            · have d7 : decide (i < t) = false := by simp; omega
                              have HE := hide (show r = some (lowL (l.take a), (l.drop f).take (t - f)) by rw [HRV.out, mid_all l valB f t fun q x h1 h2 h3 => HK.out q x h1 (by omega) h3]; rfl)
                              have hLW := rlower_any (s.extract 0 a) wr.drew (by have := HN.out; simp; omega)
                              rw [show (s.extract 0 a).data.toList = l.take a by rw [Lib.extract_data, HN.out.2.2]; simp] at hLW
                              have HLW := hide hLW
                              have HX1 := hide (show bs ((l.drop f).take (t - f)) = s.extract f t by rw [Lib.extract_eq, HN.out.2.2])
                              clear hLW hilt HK HRV
                              go_wp2_with fail
                              go_region_with (go_at_call 44; (with_reducible refine HLW.out.mono ?_); rintro e w5 ⟨rfl, b5⟩; have hs5 := below_block b5 (show wr.drew.heap[S]? = _ from HA.out.2.1) (Nat.le_refl _); obtain ⟨⟨k0, k1⟩, k2, k3⟩ := two_cells hs5; have HFIN := hide (two_set hs5 (.string (bs (lowL (l.take a)))) (.string (s.extract f t)) (HA.out.1.drew.trans (b5.mono HA.out.1.drew.size)) HA.out.2.2); clear hs5 b5)
                              go_wp2_with fail
                              refine bodyPost_ret (v := .tuple #[.agg #[.string (bs (lowL (l.take a))), .string (s.extract f t)], .bool true]) (results_cell_tmp Tryz.results27 _ _ S 60 _ (0, 0) _ rfl HFIN.out.1 Tryz.underlying60 rfl (by kernel_rfl) _ rfl) rfl ⟨?_, HFIN.out.2⟩
                              rw [HE.out]
                              show _ = Ending.returned (.tuple #[.agg #[.string (bs (lowL (l.take a))), .string (bs ((l.drop f).take (t - f)))], .bool true])
                              rw [HX1.out]
                    · have d5 : decide (f < t) = false := by simp; omega
                      have HTM := hide (trim_mid l a f t haf hft (by have := HN.out; omega) HI2.out HJ.out HF3.out (.inl (by omega)))
                      clear hlt3 HJ
                      go_wp2_with fail
                      have HRV := hide (show r = if ((l.drop f).take (t - f)).all valB then some (lowL (l.take a), (l.drop f).take (t - f)) else none by rw [← HR.out, HLA.out, HTM.out, HTK.out, Bool.true_and])
                      go_loopw [7] (fun iv wz => ∃ i : Nat, f ≤ i ∧ i ≤ t ∧ iv = .int .i64 i ∧ Hid (∀ q x, f ≤ q → q < i → l[q]? = some x → valB x = true) ∧ wz = wr) (fun i _ => t - (Lib.intOf i).toNat)
                      case atStart => exact ⟨f, Nat.le_refl _, by omega, rfl, hide (fun q x h1 h2 => by omega), rfl⟩
                      case round =>
                        obtain ⟨i, hfi, hit, rfl, HK, rfl⟩ := hrel
                        have hi4 : (0 : Int) ≤ (i : Int) := by omega
                        have hi5 : (i : Int) ≤ 90000 := by have := HN.out; omega
                        by_cases hilt : i < t
                        · have d7 : decide (i < t) = true := by simp; omega
                          have ws : i < s.size := by omega
                          obtain ⟨cw, hcw⟩ : ∃ c, s[i]'ws = c := ⟨_, rfl⟩
                          have hlw : l[i]? = some cw := by rw [← HN.out.2.2, Lib.data_getElem? s (i) ws, hcw]
                          obtain ⟨z, hz⟩ : ∃ y, cw.toNat = y := ⟨_, rfl⟩
                          have hqw : (((s[i]'ws).toNat : Nat) : Int) = (z : Int) := by rw [hcw, hz]
                          have HLw := hide (And.intro hlw hz)
                          clear hlw hcw hz
                          by_cases hz32 : z < 32
                          · have da : decide ((z : Int) < 32) = true := by simp; omega
                            by_cases hz9 : z = 9
                            · have db : ((z : Int) != 9) = false := by simp; omega
                              have dc : ((z : Int) == 127) = false := by simp; omega
                              have HK2 := hide (show ∀ q x, f ≤ q → q < i + 1 → l[q]? = some x → valB x = true from fun q x h1 h2 h3 => by
                                rcases Nat.lt_or_ge q i with h | h
                                · exact HK.out q x h1 h h3
                                · rw [show q = i by omega, HLw.out.1] at h3; cases h3; unfold valB; rw [HLw.out.2]; simp; omega)
                              clear HLw HK hz32 hz9
                              go_wp2_with fail
                              exact ⟨⟨i + 1, by omega, by omega, by go_num, HK2, by first | rfl | trivial⟩, by simp [Lib.intOf]; omega⟩
                            · have db : ((z : Int) != 9) = true := by simp; omega
                              have HE := hide (show r = none by rw [HRV.out, mid_bad l valB f t i cw hfi hilt HLw.out.1 (by unfold valB; rw [HLw.out.2]; simp; omega)]; rfl)
                              have hs2 := HA.out.2.1
                              obtain ⟨⟨k0, k1⟩, k2, k3⟩ := two_cells hs2
                              have HFIN := hide (two_set hs2 (.string ⟨#[]⟩) (.string ⟨#[]⟩) HA.out.1 HA.out.2.2)
                              clear hs2 HK HLw HRV hz32 hz9
                              go_wp2_with fail
                              exact bodyPost_ret (v := lineV none) (results_cell_tmp Tryz.results27 _ _ S 60 _ (0, 0) _ rfl HFIN.out.1 Tryz.underlying60 rfl (by kernel_rfl) _ rfl) rfl ⟨by rw [HE.out], HFIN.out.2⟩
                          · have da : decide ((z : Int) < 32) = false := by simp; omega
                            by_cases hz127 : z = 127
                            · have dc : ((z : Int) == 127) = true := by simp; omega
                              have HE := hide (show r = none by rw [HRV.out, mid_bad l valB f t i cw hfi hilt HLw.out.1 (by unfold valB; rw [HLw.out.2]; simp; omega)]; rfl)
                              have hs2 := HA.out.2.1
                              obtain ⟨⟨k0, k1⟩, k2, k3⟩ := two_cells hs2
                              have HFIN := hide (two_set hs2 (.string ⟨#[]⟩) (.string ⟨#[]⟩) HA.out.1 HA.out.2.2)
                              clear hs2 HK HLw HRV hz32 hz127
                              go_wp2_with fail
                              exact bodyPost_ret (v := lineV none) (results_cell_tmp Tryz.results27 _ _ S 60 _ (0, 0) _ rfl HFIN.out.1 Tryz.underlying60 rfl (by kernel_rfl) _ rfl) rfl ⟨by rw [HE.out], HFIN.out.2⟩
                            · have dc : ((z : Int) == 127) = false := by simp; omega
                              have HK2 := hide (show ∀ q x, f ≤ q → q < i + 1 → l[q]? = some x → valB x = true from fun q x h1 h2 h3 => by
                                rcases Nat.lt_or_ge q i with h | h
                                · exact HK.out q x h1 h h3
                                · rw [show q = i by omega, HLw.out.1] at h3; cases h3; unfold valB; rw [HLw.out.2]; simp; omega)
                              clear HLw HK hz32 hz127
                              go_wp2_with fail
                              exact ⟨⟨i + 1, by omega, by omega, by go_num, HK2, by first | rfl | trivial⟩, by simp [Lib.intOf]; omega⟩
                        · have d7 : decide (i < t) = false := by simp; omega
                          have HE := hide (show r = some (lowL (l.take a), (l.drop f).take (t - f)) by rw [HRV.out, mid_all l valB f t fun q x h1 h2 h3 => HK.out q x h1 (by omega) h3]; rfl)
                          have hLW := rlower_any (s.extract 0 a) wr.drew (by have := HN.out; simp; omega)
                          rw [show (s.extract 0 a).data.toList = l.take a by rw [Lib.extract_data, HN.out.2.2]; simp] at hLW
                          have HLW := hide hLW
                          have HX1 := hide (show bs ((l.drop f).take (t - f)) = s.extract f t by rw [Lib.extract_eq, HN.out.2.2])
                          clear hLW hilt HK HRV
                          go_wp2_with fail
                          go_region_with (go_at_call 44; (with_reducible refine HLW.out.mono ?_); rintro e w5 ⟨rfl, b5⟩; have hs5 := below_block b5 (show wr.drew.heap[S]? = _ from HA.out.2.1) (Nat.le_refl _); obtain ⟨⟨k0, k1⟩, k2, k3⟩ := two_cells hs5; have HFIN := hide (two_set hs5 (.string (bs (lowL (l.take a)))) (.string (s.extract f t)) (HA.out.1.drew.trans (b5.mono HA.out.1.drew.size)) HA.out.2.2); clear hs5 b5)
                          go_wp2_with fail
                          refine bodyPost_ret (v := .tuple #[.agg #[.string (bs (lowL (l.take a))), .string (s.extract f t)], .bool true]) (results_cell_tmp Tryz.results27 _ _ S 60 _ (0, 0) _ rfl HFIN.out.1 Tryz.underlying60 rfl (by kernel_rfl) _ rfl) rfl ⟨?_, HFIN.out.2⟩
                          rw [HE.out]
                          show _ = Ending.returned (.tuple #[.agg #[.string (bs (lowL (l.take a))), .string (bs ((l.drop f).take (t - f)))], .bool true])
                          rw [HX1.out]
            · have d1 : decide (f < n) = false := by simp; omega
              have HF3 := hide (show f = l.length ∨ ∀ b, l[f]? = some b → bl.contains b = false from .inl (by have := HN.out; omega))
              clear hlt2
              go_wp2_with fail
              clear d1
              go_loopw [6] (fun iv wz => ∃ t : Nat, f ≤ t ∧ t ≤ n ∧ iv = .int .i64 t ∧ Hid (∀ q b, t ≤ q → l[q]? = some b → bl.contains b = true) ∧ wz = wr) (fun i _ => (Lib.intOf i).toNat)
              case atStart => exact ⟨n, by omega, Nat.le_refl _, rfl, hide (fun q b h1 h2 => by have := (List.getElem?_eq_some_iff.1 h2).1; have := HN.out; omega), rfl⟩
              case round =>
                obtain ⟨t, hft, htn, rfl, HJ, rfl⟩ := hrel
                have ht4 : (0 : Int) ≤ (t : Int) := by omega
                have ht5 : (t : Int) ≤ 90000 := by have := HN.out; omega
                by_cases hlt3 : f < t
                · have d5 : decide (f < t) = true := by simp; omega
                  obtain ⟨u, hu⟩ : ∃ u, t = u + 1 := ⟨t - 1, by omega⟩
                  have hus : (t : Int) - 1 = (u : Int) := by omega
                  have hu4 : (0 : Int) ≤ (u : Int) := by omega
                  have hun : (u : Int) < (n : Int) := by omega
                  have hun2 : u < n := by omega
                  have HU := hide hu
                  clear hu
                  have vs : u < s.size := by have := HU.out; omega
                  obtain ⟨cv, hcv⟩ : ∃ c, s[u]'vs = c := ⟨_, rfl⟩
                  have hlv : l[u]? = some cv := by rw [← HN.out.2.2, Lib.data_getElem? s (u) vs, hcv]
                  obtain ⟨y, hy⟩ : ∃ y, cv.toNat = y := ⟨_, rfl⟩
                  have hqv : (((s[u]'vs).toNat : Nat) : Int) = (y : Int) := by rw [hcv, hy]
                  have HLv := hide (And.intro hlv hy)
                  clear hlv hcv hy
                  by_cases hy32 : y = 32
                  · have da : ((y : Int) == 32) = true := by simp; omega
                    have HJ2 := hide (show ∀ q b, u ≤ q → l[q]? = some b → bl.contains b = true from fun q b h1 h2 => by
                      rcases Nat.lt_or_ge u q with h | h
                      · exact HJ.out q b (by have := HU.out; omega) h2
                      · rw [show q = u by omega, HLv.out.1] at h2; cases h2; rw [bl_is, HLv.out.2]; simp; omega)
                    clear HJ HLv
                    go_wp2_with fail
                    exact ⟨⟨u, by have := HU.out; omega, by omega, by go_num, HJ2, by first | rfl | trivial⟩, by simp [Lib.intOf]; omega⟩
                  · have da : ((y : Int) == 32) = false := by simp; omega
                    by_cases hy9 : y = 9
                    · have db : ((y : Int) == 9) = true := by simp; omega
                      have HJ2 := hide (show ∀ q b, u ≤ q → l[q]? = some b → bl.contains b = true from fun q b h1 h2 => by
                        rcases Nat.lt_or_ge u q with h | h
                        · exact HJ.out q b (by have := HU.out; omega) h2
                        · rw [show q = u by omega, HLv.out.1] at h2; cases h2; rw [bl_is, HLv.out.2]; simp; omega)
                      clear HJ HLv
                      go_wp2_with fail
                      exact ⟨⟨u, by have := HU.out; omega, by omega, by go_num, HJ2, by first | rfl | trivial⟩, by simp [Lib.intOf]; omega⟩
                    · have db : ((y : Int) == 9) = false := by simp; omega
                      have HTM := hide (trim_mid l a f t haf hft (by have := HN.out; omega) HI2.out HJ.out HF3.out (.inr fun b hb => by rw [show t - 1 = u by have := HU.out; omega, HLv.out.1] at hb; cases hb; rw [bl_is, HLv.out.2]; simp [hy32, hy9]))
                      clear hy32 hy9 HLv HU hlt3 HJ
                      go_wp2_with fail
                      have HRV := hide (show r = if ((l.drop f).take (t - f)).all valB then some (lowL (l.take a), (l.drop f).take (t - f)) else none by rw [← HR.out, HLA.out, HTM.out, HTK.out, Bool.true_and])
                      go_loopw [7] (fun iv wz => ∃ i : Nat, f ≤ i ∧ i ≤ t ∧ iv = .int .i64 i ∧ Hid (∀ q x, f ≤ q → q < i → l[q]? = some x → valB x = true) ∧ wz = wr) (fun i _ => t - (Lib.intOf i).toNat)
                      case atStart => exact ⟨f, Nat.le_refl _, by omega, rfl, hide (fun q x h1 h2 => by omega), rfl⟩
                      case round =>
                        obtain ⟨i, hfi, hit, rfl, HK, rfl⟩ := hrel
                        have hi4 : (0 : Int) ≤ (i : Int) := by omega
                        have hi5 : (i : Int) ≤ 90000 := by have := HN.out; omega
                        by_cases hilt : i < t
                        · have d7 : decide (i < t) = true := by simp; omega
                          have ws : i < s.size := by omega
                          obtain ⟨cw, hcw⟩ : ∃ c, s[i]'ws = c := ⟨_, rfl⟩
                          have hlw : l[i]? = some cw := by rw [← HN.out.2.2, Lib.data_getElem? s (i) ws, hcw]
                          obtain ⟨z, hz⟩ : ∃ y, cw.toNat = y := ⟨_, rfl⟩
                          have hqw : (((s[i]'ws).toNat : Nat) : Int) = (z : Int) := by rw [hcw, hz]
                          have HLw := hide (And.intro hlw hz)
                          clear hlw hcw hz
                          by_cases hz32 : z < 32
                          · have da : decide ((z : Int) < 32) = true := by simp; omega
                            by_cases hz9 : z = 9
                            · have db : ((z : Int) != 9) = false := by simp; omega
                              have dc : ((z : Int) == 127) = false := by simp; omega
                              have HK2 := hide (show ∀ q x, f ≤ q → q < i + 1 → l[q]? = some x → valB x = true from fun q x h1 h2 h3 => by
                                rcases Nat.lt_or_ge q i with h | h
                                · exact HK.out q x h1 h h3
                                · rw [show q = i by omega, HLw.out.1] at h3; cases h3; unfold valB; rw [HLw.out.2]; simp; omega)
                              clear HLw HK hz32 hz9
                              go_wp2_with fail
                              exact ⟨⟨i + 1, by omega, by omega, by go_num, HK2, by first | rfl | trivial⟩, by simp [Lib.intOf]; omega⟩
                            · have db : ((z : Int) != 9) = true := by simp; omega
                              have HE := hide (show r = none by rw [HRV.out, mid_bad l valB f t i cw hfi hilt HLw.out.1 (by unfold valB; rw [HLw.out.2]; simp; omega)]; rfl)
                              have hs2 := HA.out.2.1
                              obtain ⟨⟨k0, k1⟩, k2, k3⟩ := two_cells hs2
                              have HFIN := hide (two_set hs2 (.string ⟨#[]⟩) (.string ⟨#[]⟩) HA.out.1 HA.out.2.2)
                              clear hs2 HK HLw HRV hz32 hz9
                              go_wp2_with fail
                              exact bodyPost_ret (v := lineV none) (results_cell_tmp Tryz.results27 _ _ S 60 _ (0, 0) _ rfl HFIN.out.1 Tryz.underlying60 rfl (by kernel_rfl) _ rfl) rfl ⟨by rw [HE.out], HFIN.out.2⟩
                          · have da : decide ((z : Int) < 32) = false := by simp; omega
                            by_cases hz127 : z = 127
                            · have dc : ((z : Int) == 127) = true := by simp; omega
                              have HE := hide (show r = none by rw [HRV.out, mid_bad l valB f t i cw hfi hilt HLw.out.1 (by unfold valB; rw [HLw.out.2]; simp; omega)]; rfl)
                              have hs2 := HA.out.2.1
                              obtain ⟨⟨k0, k1⟩, k2, k3⟩ := two_cells hs2
                              have HFIN := hide (two_set hs2 (.string ⟨#[]⟩) (.string ⟨#[]⟩) HA.out.1 HA.out.2.2)
                              clear hs2 HK HLw HRV hz32 hz127
                              go_wp2_with fail
                              exact bodyPost_ret (v := lineV none) (results_cell_tmp Tryz.results27 _ _ S 60 _ (0, 0) _ rfl HFIN.out.1 Tryz.underlying60 rfl (by kernel_rfl) _ rfl) rfl ⟨by rw [HE.out], HFIN.out.2⟩
                            · have dc : ((z : Int) == 127) = false := by simp; omega
                              have HK2 := hide (show ∀ q x, f ≤ q → q < i + 1 → l[q]? = some x → valB x = true from fun q x h1 h2 h3 => by
                                rcases Nat.lt_or_ge q i with h | h
                                · exact HK.out q x h1 h h3
                                · rw [show q = i by omega, HLw.out.1] at h3; cases h3; unfold valB; rw [HLw.out.2]; simp; omega)
                              clear HLw HK hz32 hz127
                              go_wp2_with fail
                              exact ⟨⟨i + 1, by omega, by omega, by go_num, HK2, by first | rfl | trivial⟩, by simp [Lib.intOf]; omega⟩
                        · have d7 : decide (i < t) = false := by simp; omega
                          have HE := hide (show r = some (lowL (l.take a), (l.drop f).take (t - f)) by rw [HRV.out, mid_all l valB f t fun q x h1 h2 h3 => HK.out q x h1 (by omega) h3]; rfl)
                          have hLW := rlower_any (s.extract 0 a) wr.drew (by have := HN.out; simp; omega)
                          rw [show (s.extract 0 a).data.toList = l.take a by rw [Lib.extract_data, HN.out.2.2]; simp] at hLW
                          have HLW := hide hLW
                          have HX1 := hide (show bs ((l.drop f).take (t - f)) = s.extract f t by rw [Lib.extract_eq, HN.out.2.2])
                          clear hLW hilt HK HRV
                          go_wp2_with fail
                          go_region_with (go_at_call 44; (with_reducible refine HLW.out.mono ?_); rintro e w5 ⟨rfl, b5⟩; have hs5 := below_block b5 (show wr.drew.heap[S]? = _ from HA.out.2.1) (Nat.le_refl _); obtain ⟨⟨k0, k1⟩, k2, k3⟩ := two_cells hs5; have HFIN := hide (two_set hs5 (.string (bs (lowL (l.take a)))) (.string (s.extract f t)) (HA.out.1.drew.trans (b5.mono HA.out.1.drew.size)) HA.out.2.2); clear hs5 b5)
                          go_wp2_with fail
                          refine bodyPost_ret (v := .tuple #[.agg #[.string (bs (lowL (l.take a))), .string (s.extract f t)], .bool true]) (results_cell_tmp Tryz.results27 _ _ S 60 _ (0, 0) _ rfl HFIN.out.1 Tryz.underlying60 rfl (by kernel_rfl) _ rfl) rfl ⟨?_, HFIN.out.2⟩
                          rw [HE.out]
                          show _ = Ending.returned (.tuple #[.agg #[.string (bs (lowL (l.take a))), .string (bs ((l.drop f).take (t - f)))], .bool true])
                          rw [HX1.out]
                · have d5 : decide (f < t) = false := by simp; omega
                  have HTM := hide (trim_mid l a f t haf hft (by have := HN.out; omega) HI2.out HJ.out HF3.out (.inl (by omega)))
                  clear hlt3 HJ
                  go_wp2_with fail
                  have HRV := hide (show r = if ((l.drop f).take (t - f)).all valB then some (lowL (l.take a), (l.drop f).take (t - f)) else none by rw [← HR.out, HLA.out, HTM.out, HTK.out, Bool.true_and])
                  go_loopw [7] (fun iv wz => ∃ i : Nat, f ≤ i ∧ i ≤ t ∧ iv = .int .i64 i ∧ Hid (∀ q x, f ≤ q → q < i → l[q]? = some x → valB x = true) ∧ wz = wr) (fun i _ => t - (Lib.intOf i).toNat)
                  case atStart => exact ⟨f, Nat.le_refl _, by omega, rfl, hide (fun q x h1 h2 => by omega), rfl⟩
                  case round =>
                    obtain ⟨i, hfi, hit, rfl, HK, rfl⟩ := hrel
                    have hi4 : (0 : Int) ≤ (i : Int) := by omega
                    have hi5 : (i : Int) ≤ 90000 := by have := HN.out; omega
                    by_cases hilt : i < t
                    · have d7 : decide (i < t) = true := by simp; omega
                      have ws : i < s.size := by omega
                      obtain ⟨cw, hcw⟩ : ∃ c, s[i]'ws = c := ⟨_, rfl⟩
                      have hlw : l[i]? = some cw := by rw [← HN.out.2.2, Lib.data_getElem? s (i) ws, hcw]
                      obtain ⟨z, hz⟩ : ∃ y, cw.toNat = y := ⟨_, rfl⟩
                      have hqw : (((s[i]'ws).toNat : Nat) : Int) = (z : Int) := by rw [hcw, hz]
                      have HLw := hide (And.intro hlw hz)
                      clear hlw hcw hz
                      by_cases hz32 : z < 32
                      · have da : decide ((z : Int) < 32) = true := by simp; omega
                        by_cases hz9 : z = 9
                        · have db : ((z : Int) != 9) = false := by simp; omega
                          have dc : ((z : Int) == 127) = false := by simp; omega
                          have HK2 := hide (show ∀ q x, f ≤ q → q < i + 1 → l[q]? = some x → valB x = true from fun q x h1 h2 h3 => by
                            rcases Nat.lt_or_ge q i with h | h
                            · exact HK.out q x h1 h h3
                            · rw [show q = i by omega, HLw.out.1] at h3; cases h3; unfold valB; rw [HLw.out.2]; simp; omega)
                          clear HLw HK hz32 hz9
                          go_wp2_with fail
                          exact ⟨⟨i + 1, by omega, by omega, by go_num, HK2, by first | rfl | trivial⟩, by simp [Lib.intOf]; omega⟩
                        · have db : ((z : Int) != 9) = true := by simp; omega
                          have HE := hide (show r = none by rw [HRV.out, mid_bad l valB f t i cw hfi hilt HLw.out.1 (by unfold valB; rw [HLw.out.2]; simp; omega)]; rfl)
                          have hs2 := HA.out.2.1
                          obtain ⟨⟨k0, k1⟩, k2, k3⟩ := two_cells hs2
                          have HFIN := hide (two_set hs2 (.string ⟨#[]⟩) (.string ⟨#[]⟩) HA.out.1 HA.out.2.2)
                          clear hs2 HK HLw HRV hz32 hz9
                          go_wp2_with fail
                          exact bodyPost_ret (v := lineV none) (results_cell_tmp Tryz.results27 _ _ S 60 _ (0, 0) _ rfl HFIN.out.1 Tryz.underlying60 rfl (by kernel_rfl) _ rfl) rfl ⟨by rw [HE.out], HFIN.out.2⟩
                      · have da : decide ((z : Int) < 32) = false := by simp; omega
                        by_cases hz127 : z = 127
                        · have dc : ((z : Int) == 127) = true := by simp; omega
                          have HE := hide (show r = none by rw [HRV.out, mid_bad l valB f t i cw hfi hilt HLw.out.1 (by unfold valB; rw [HLw.out.2]; simp; omega)]; rfl)
                          have hs2 := HA.out.2.1
                          obtain ⟨⟨k0, k1⟩, k2, k3⟩ := two_cells hs2
                          have HFIN := hide (two_set hs2 (.string ⟨#[]⟩) (.string ⟨#[]⟩) HA.out.1 HA.out.2.2)
                          clear hs2 HK HLw HRV hz32 hz127
                          go_wp2_with fail
                          exact bodyPost_ret (v := lineV none) (results_cell_tmp Tryz.results27 _ _ S 60 _ (0, 0) _ rfl HFIN.out.1 Tryz.underlying60 rfl (by kernel_rfl) _ rfl) rfl ⟨by rw [HE.out], HFIN.out.2⟩
                        · have dc : ((z : Int) == 127) = false := by simp; omega
                          have HK2 := hide (show ∀ q x, f ≤ q → q < i + 1 → l[q]? = some x → valB x = true from fun q x h1 h2 h3 => by
                            rcases Nat.lt_or_ge q i with h | h
                            · exact HK.out q x h1 h h3
                            · rw [show q = i by omega, HLw.out.1] at h3; cases h3; unfold valB; rw [HLw.out.2]; simp; omega)
                          clear HLw HK hz32 hz127
                          go_wp2_with fail
                          exact ⟨⟨i + 1, by omega, by omega, by go_num, HK2, by first | rfl | trivial⟩, by simp [Lib.intOf]; omega⟩
                    · have d7 : decide (i < t) = false := by simp; omega
                      have HE := hide (show r = some (lowL (l.take a), (l.drop f).take (t - f)) by rw [HRV.out, mid_all l valB f t fun q x h1 h2 h3 => HK.out q x h1 (by omega) h3]; rfl)
                      have hLW := rlower_any (s.extract 0 a) wr.drew (by have := HN.out; simp; omega)
                      rw [show (s.extract 0 a).data.toList = l.take a by rw [Lib.extract_data, HN.out.2.2]; simp] at hLW
                      have HLW := hide hLW
                      have HX1 := hide (show bs ((l.drop f).take (t - f)) = s.extract f t by rw [Lib.extract_eq, HN.out.2.2])
                      clear hLW hilt HK HRV
                      go_wp2_with fail
                      go_region_with (go_at_call 44; (with_reducible refine HLW.out.mono ?_); rintro e w5 ⟨rfl, b5⟩; have hs5 := below_block b5 (show wr.drew.heap[S]? = _ from HA.out.2.1) (Nat.le_refl _); obtain ⟨⟨k0, k1⟩, k2, k3⟩ := two_cells hs5; have HFIN := hide (two_set hs5 (.string (bs (lowL (l.take a)))) (.string (s.extract f t)) (HA.out.1.drew.trans (b5.mono HA.out.1.drew.size)) HA.out.2.2); clear hs5 b5)
                      go_wp2_with fail
                      refine bodyPost_ret (v := .tuple #[.agg #[.string (bs (lowL (l.take a))), .string (s.extract f t)], .bool true]) (results_cell_tmp Tryz.results27 _ _ S 60 _ (0, 0) _ rfl HFIN.out.1 Tryz.underlying60 rfl (by kernel_rfl) _ rfl) rfl ⟨?_, HFIN.out.2⟩
                      rw [HE.out]
                      show _ = Ending.returned (.tuple #[.agg #[.string (bs (lowL (l.take a))), .string (bs ((l.drop f).take (t - f)))], .bool true])
                      rw [HX1.out]
      · have d2 : ((x : Int) != 58) = true := by simp; omega
        have HI2 := hide (show ∀ q b, q < a + 1 → l[q]? = some b → b ≠ 58 from fun q b h1 h3 => by
          rcases Nat.lt_or_ge q a with h | h
          · exact HI.out q b h h3
          · rw [show q = a by omega, HLg.out.1] at h3; cases h3; exact byte_ne cg 58 (by decide) (by rw [HLg.out.2]; exact h58))
        clear h58 HLg HI
        go_wp2_with fail
        exact ⟨⟨a + 1, by omega, by go_num, HI2, by first | rfl | trivial⟩, by simp [Lib.intOf]; omega⟩
    · have d1 : decide (a < n) = false := by simp; omega
      have d3 : ((a : Int) == (n : Int)) = true := by simp; omega
      have HE := hide (show r = none by rw [← HR.out]; exact line_none l (all_ne l 58 fun q x hq hx => HI.out q x (by have := HN.out; omega) hx))
      have hs2 := HA.out.2.1
      obtain ⟨⟨k0, k1⟩, k2, k3⟩ := two_cells hs2
      have HFIN := hide (two_set hs2 (.string ⟨#[]⟩) (.string ⟨#[]⟩) HA.out.1 HA.out.2.2)
      clear hs2 HI hlt
      go_wp2_with fail
      exact bodyPost_ret (v := lineV none) (results_cell_tmp Tryz.results27 _ _ S 60 _ (0, 0) _ rfl HFIN.out.1 Tryz.underlying60 rfl (by kernel_rfl) _ rfl) rfl ⟨by rw [HE.out], HFIN.out.2⟩
end Go.Proofs.YtonoaopioifedaaGreatDoor.H
