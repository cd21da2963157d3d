/- The law that a check sum is changed as its bytes are, walked where the text has an even number of bytes, two at least. -/
import Derived.Test.YtjongigofaobdaaSameParts
namespace Go.Proofs.Ytjongigofaobdaa
open Go.RowKit
set_option linter.unusedVariables false
set_option linter.unusedSimpArgs false
theorem below_of_drew {w w3 : World} (h : Below w.drew.heap.size w.drew w3) : Below w.heap.size w w3 := (Below.refl _ _).drew.trans h
theorem chg_one (w : World) (x y : Int) : Chg (w.alloc (.cells #[.int .u16 x, .int .u16 y] 53)) (some ⟨w.heap.size, 0, none⟩) [(x, y)] := by
  intro _
  refine ⟨w.heap.size, 0, rfl, by simp, fun i p hi => ?_⟩
  match i, hi with
  | 0, hi =>
    simp at hi; subst hi
    exact ⟨by rw [World.cell?_alloc_at _ _ _ _ rfl]; rfl, by rw [World.cell?_alloc_at _ _ _ _ rfl]; rfl⟩

set_option maxHeartbeats 2000000 in
theorem sumSame_main (a : Option Addr) (xs : List Int) (h : Nat) (cap : Nat) (pos : Int) (next : Nat) (w : World) (hr : Row .u8 w a xs) (hn : a = none → cap = 0) (hb : ∀ x ∈ xs, 0 ≤ x ∧ x ≤ 255) (ht : next ≤ 65535) (hlen : xs.length = 2 * h) (h1 : 1 ≤ h) (h2 : 2 * h ≤ 3000) :
    Calls Try.prog 10 #[.slice a (2 * h) cap, .int .i64 pos, .int .u16 next] w fun e w' => e = .returned (.bool true) ∧ Below w.heap.size w w' := by
  obtain ⟨i0, hi, hz0, hz1, hz2⟩ := info_parts Try.info5
  have hand : bits .and .i64 (2 * (h : Int)) 1 = 0 := by
    have := and_one (2 * h) (by omega)
    rw [show 2 * h % 2 = 0 by omega] at this
    exact this
  obtain ⟨kk, hk5, hkk⟩ := and_ffff pos
  have hqm : ((kk : Int) % (h : Int)) = ((kk % h : Nat) : Int) := (Int.natCast_emod kk h).symm
  have hql : kk % h < h := Nat.mod_lt _ (by omega)
  generalize kk % h = q at *
  obtain ⟨b, off, rfl, hbl, hc⟩ := hr.at (i := 0) (by omega)
  clear hn
  have HR := hide hr
  have HB := hide hb
  have HL := hide hlen
  clear hr hb hlen hc
  go_enter Try.func10, Try.ntmps10
  go_wp2_with fail
  refine (speaks2_any _).mono ?_
  rintro e w1 ⟨rfl, hbel⟩
  have hown0 : (w1.alloc (.cells #[] 5)).ownsRow w.heap.size 5 1 (.slice (some ⟨w1.heap.size, 0, none⟩) 0 0) 0 [] := World.ownsRow_lit w1 #[] 0 hbel.size (by unfold maxLen; omega) rfl
  have hba := hbel.alloc hbel.size (.cells #[] 5)
  have HCL := hide (row_cells (HR.out.below hba (Nat.le_refl _)))
  have HO0 := hide hown0
  have hxm : (xs.map (Value.int .u8)).length = 2 * h * 1 := by rw [List.length_map, HL.out]; omega
  have HXM := hide hxm
  clear hown0 hxm
  go_wp2_with (at_builtin; refine wpList_append_own _ rfl _ _ 24 rfl w.heap.size 5 i0 (.int .u8 0) 1 1 Try.underlying24 hi hz0 hz1 hz2 rfl (by decide) _ _ _ rfl HO0.out ⟨b, off, none⟩ (2 * h) cap (xs.map (Value.int .u8)) rfl HXM.out HCL.out (ints_one _ _) (by unfold maxLen; omega) (by omega) hba.size ?_)
  intro v' w2 hown2 hgrow hnn
  replace hown2 : w2.ownsRow w.heap.size 5 1 v' (2 * h) (xs.map (Value.int .u8)) := by simpa using hown2
  have hv' : v' ≠ .slice none 0 0 := by
    intro e; subst e
    have := hown2.1
    rcases hown2.2 with ⟨_, h0⟩ | ⟨g, c, cur, hv, _⟩
    · omega
    · cases hv
  obtain ⟨g, c, rfl, hgb, hgc, hcm⟩ : ∃ g c, v' = .slice (some ⟨g, 0, none⟩) (2 * h) c ∧ w.heap.size ≤ g ∧ 2 * h ≤ c ∧ c ≤ 9223372036854775807 := by
    rcases hown2.2 with ⟨h0, _⟩ | ⟨g, c, cur, hv, hg, _, h3, h4, _⟩
    · exact absurd h0 hv'
    · exact ⟨g, c, hv, hg, h3, by unfold maxLen at h4; omega⟩
  have hb2 : Below w.heap.size w w2 := hba.grown hgrow hba.size (fun j e => (HO0.out.lt j e).1)
  have O2 := hide hown2
  clear hown2 hgrow hv' hnn
  have hq2 : 2 * q + 2 ≤ 2 * h := by omega
  have hcq : ¬ c = 2 * q := by omega
  have hsl := slice_tail_run g (2 * h) c (2 * q) (2 * (q : Int)) (by omega) (by omega) (by omega)
  have hmul : IntKind.i64.wrap (2 * (q : Int)) = 2 * (q : Int) := IntWalk.i64_in _ (by omega)
  have hnum := fun (W : World) => refNum_full 2 next W (by omega)
  rw [show sz 2 = 2 from rfl] at hnum
  have HN := hide hnum
  have hcopy : ∀ (w3 : World) (a3 : Option Addr) (c3 : Nat), Below w2.heap.size w2 w3 → Row .u8 w3 a3 (numB 2 next) → ∃ w', (Builtin.copy_ #[24, 24] 3 #[.slice (some ⟨g, 2 * q, none⟩) (2 * h - 2 * q) (c - 2 * q), .slice a3 2 c3]).run Try.prog w3 = .ok (.int .i64 2) w' ∧
      Hid (w'.ownsRow w.heap.size 5 1 (.slice (some ⟨g, 0, none⟩) (2 * h) c) (2 * h) ((spl xs (2 * q) (numB 2 next)).map (Value.int .u8)) ∧ Below w.heap.size w w') := fun w3 a3 c3 hb hr => by
    obtain ⟨b3, o3, rfl, _, _⟩ := hr.at (i := 0) (by rw [numB_len]; decide)
    obtain ⟨w4, h1, h2, h3⟩ := copy2_run w3 w.heap.size g (2 * h) c (2 * q) (2 * h - 2 * q) (c - 2 * q) xs (numB 2 next) ⟨b3, o3, none⟩ c3 3 (owns_below O2.out hb (Nat.le_refl _)) hr (numB_len _ _) hq2 (by omega)
    exact ⟨w4, h1, h2, (hb2.trans (hb.mono hb2.size)).grown h3 (hb2.trans (hb.mono hb2.size)).size (fun k e => by cases e; exact hgb)⟩
  have HCP := hide hcopy
  clear hnum hcopy
  go_wp2_with fail
  have hcw : IntKind.u64.wrap (next : Int) = (next : Int) := wraps_u64 _ (by omega) (by omega)
  go_region_law (first | (refine step_copy_run rfl (.tmp 39) (.tmp 42) 24 24 rfl _ _ rfl rfl _ _ hrn.out ?_) | (go_simp; go_at_call 15; with_reducible refine (HN.out _).mono ?_; rintro e w3 ⟨a3, c3, rfl, hr3, hbel3, hn3⟩; have hbx := below_of_drew hbel3; obtain ⟨w4, hrun, H4⟩ := HCP.out w3 a3 c3 hbx hr3; clear hbx; have hrn := hide hrun; clear hr3 hbel3 hn3 hrun))
  have B4 := H4.out.2
  have HO4 := hide H4.out.1
  clear hsl hcw hrn H4 hqm hkk hand
  have hys := spl_len xs (2 * q) (numB 2 next) (by rw [numB_len, HL.out]; omega)
  have hysr := spl_rng xs (numB 2 next) (2 * q) HB.out (numB_rng 2 next)
  have hch : psum (spl xs (2 * q) (numB 2 next)) = psum xs - (256 * xs[2 * q]?.getD 0 + xs[2 * q + 1]?.getD 0) + (next : Int) := by
    have e : numB 2 next = [(next : Int) / 256, (next : Int) % 256] := by
      have h1 : numB 2 next = [byteAt next 1, byteAt next 0] := rfl
      rw [h1]; unfold byteAt; simp; omega
    rw [e, psum_change xs q _ _ (by rw [HL.out]; omega)]
    omega
  rw [HL.out] at hys
  have hn2 : (numB 2 next).length = 2 := numB_len _ _
  generalize spl xs (2 * q) (numB 2 next) = ys at *
  have HYL := hide hys
  have HYR := hide hysr
  have HCH := hide hch
  clear hys hysr hch hn2 HCP HN
  have hz1 := zero_any (some ⟨b, off, none⟩) xs cap w4 (HR.out.below B4 (Nat.le_refl _)) (by rw [HL.out]; omega)
  rw [HL.out] at hz1
  have hz2 := zero_any (some ⟨g, 0, none⟩) ys c w4 (Row.of_owns HO4.out) (by rw [HYL.out]; omega)
  rw [HYL.out] at hz2
  have hp1 : (xs.all (· == 0)) = false → 0 < psum xs := psum_pos xs HB.out (by rw [HL.out]; omega)
  have hp2 : (ys.all (· == 0)) = false → 0 < psum ys := psum_pos ys HYR.out (by rw [HYL.out]; omega)
  have HP1 := hide hp1
  have HP2 := hide hp2
  have HZ1 := hide hz1
  have HZ2 := hide hz2
  clear hz1 hz2 hp1 hp2
  generalize xs.all (· == 0) = r1 at *
  generalize ys.all (· == 0) = r2 at *
  cases r1
  · cases r2
    · have hP := HP1.out rfl
      have hQ := HP2.out rfl
      have hbx := byte_at HB.out (2 * q)
      have hby := byte_at HB.out (2 * q + 1)
      obtain ⟨b', off', he, _, hcc⟩ := (HR.out.below B4 (Nat.le_refl _)).at (i := 0) (by rw [HL.out]; omega)
      cases he
      have e1 := hcc (2 * q) (by rw [HL.out]; omega)
      have e2 := hcc (2 * q + 1) (by rw [HL.out]; omega)
      have hcx : csum xs = 65535 - f16 (psum xs) := rfl
      have hcy : csum ys = 65535 - f16 (psum ys) := rfl
      generalize xs[2 * q]?.getD 0 = x at *
      generalize xs[2 * q + 1]?.getD 0 = y at *
      obtain ⟨x1, x2⟩ := hbx
      obtain ⟨y1, y2⟩ := hby
      have hsm : upd (csum xs) (256 * x + y, (next : Int)) = csum ys := by
        rw [hcx, hcy, same_math (psum xs) (256 * x + y) next hP (by omega) (by omega) (by omega) (by omega) (by rw [← HCH.out]; exact hQ), HCH.out]
      have hor := or16 x y x1 x2 y1 y2
      have hs1 := csum_rng xs
      have hs2 := csum_rng ys
      have HSM := hide hsm
      have hmul2 : IntKind.i64.wrap (2 * (q : Int) + 1) = 2 * (q : Int) + 1 := IntWalk.i64_in _ (by omega)
      have S1 := fun (W : World) (hW : Below w.heap.size w W) => hide (sum1_any W (some ⟨b, off, none⟩) xs (2 * h) cap HL.out (HR.out.below hW (Nat.le_refl _)) (by intro hh; cases hh) HB.out (by omega))
      have S2 := fun (W : World) (hW : Below w4.heap.size w4 W) => hide (sum1_any W (some ⟨g, 0, none⟩) ys (2 * h) c HYL.out ((Row.of_owns HO4.out).below hW (Nat.le_refl _)) (by intro hh; cases hh) HYR.out (by omega))
      have T1 := hide S1
      have T2 := hide S2
      clear S1 S2 hcx hcy hsm hP hQ hcc
      generalize csum xs = cx at *
      generalize csum ys = cy at *
      have hs11 := hs1.1
      have hs12 := hs1.2
      clear hs1
      go_wp2_with fail
      refine HZ1.out.mono ?_
      rintro e w5 ⟨rfl, rfl⟩
      go_wp2_with fail
      refine HZ2.out.mono ?_
      rintro e w5 ⟨rfl, rfl⟩
      go_wp2_with fail
      go_quiet (fail)
      go_wp2_with fail
      obtain ⟨w5, hw5, hsz⟩ : ∃ w5, w4.drewN nq = w5 ∧ w5.heap.size = w4.heap.size := ⟨_, rfl, rfl⟩
      have B5 : Below w.heap.size w w5 := by rw [← hw5]; exact bdrewN B4 _
      have B45 : Below w4.heap.size w4 w5 := by rw [← hw5]; exact bdrewN (Below.refl _ _) _
      rw [hw5, ← hsz]
      clear hw5
      have HSZ := hide hsz
      clear hsz e1 e2 hmul hmul2 hor
      refine (T1.out w5 B5).out.mono ?_
      rintro e w6 ⟨rfl, hb6⟩
      have B6 := B5.trans (hb6.mono B5.size)
      have B46 := B45.trans (hb6.mono B45.size)
      have hup := update_any cx (some ⟨w6.heap.size, 0, none⟩) [(256 * x + y, (next : Int))] 1 _ hs11 hs12 (chg_one w6 _ _) (fun p hp => by simp at hp; subst hp; exact ⟨⟨by omega, by omega⟩, by omega, by omega⟩) (by simp)
      have hue : updL cx [(256 * x + y, (next : Int))] = cy := HSM.out
      rw [hue] at hup
      have HUP := hide hup
      clear hup hue
      go_wp2_with fail
      refine HUP.out.mono ?_
      rintro e w7 ⟨rfl, hb7⟩
      have hb7' : Below w6.heap.size w6 w7 := ((Below.refl _ _).alloc (Nat.le_refl _) _).trans (hb7.mono (by simp))
      have B7 := B6.trans (hb7'.mono B6.size)
      have B47 := B46.trans (hb7'.mono B46.size)
      clear hb7 hb7'
      have hcc : (cy == cy) = true := by simp
      go_wp2_with fail
      refine (T2.out w7 B47).out.mono ?_
      rintro e w8 ⟨rfl, hb8⟩
      have B8 := B7.trans (hb8.mono B7.size)
      go_wp2
      go_ret
      exact ⟨rfl, B8⟩
    · go_wp2_with fail
      refine HZ1.out.mono ?_
      rintro e w5 ⟨rfl, rfl⟩
      go_wp2_with fail
      refine HZ2.out.mono ?_
      rintro e w5 ⟨rfl, rfl⟩
      go_wp2
      go_ret
      exact ⟨rfl, B4⟩
  · go_wp2_with fail
    refine HZ1.out.mono ?_
    rintro e w5 ⟨rfl, rfl⟩
    go_wp2
    go_ret
    exact ⟨rfl, B4⟩
end Go.Proofs.Ytjongigofaobdaa
