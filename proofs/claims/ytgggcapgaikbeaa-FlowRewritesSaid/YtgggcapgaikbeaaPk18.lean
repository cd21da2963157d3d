/- Flows: numbers are put into their places in what an error tells; a check sum is mended. -/
import Derived.Test.YtgggcapgaikbeaaPk13
import Derived.Test.YtgggcapgaikbeaaPk02
import Derived.Deep.RegionLaw
import Derived.Test.YtgggcapgaikbeaaPk10
import Derived.Test.YtgggcapgaikbeaaPk07
import Derived.Test.YtgggcapgaikbeaaPk16
import Derived.StillTailTactics
namespace Go.Proofs.Ytgggcapgaikbeaa
open Go.RowKit
set_option linter.unusedVariables false
set_option linter.unusedSimpArgs false
set_option maxRecDepth 100000
def Chg (w : World) (a : Option Addr) (cs : List (Int × Int)) : Prop :=
  cs ≠ [] → ∃ b off, a = some ⟨b, off, none⟩ ∧ b < w.heap.size ∧ ∀ i p, cs[i]? = some p → w.cell? ⟨b, off + i * 2, none⟩ = some (.int .u16 p.1) ∧ w.cell? ⟨b, off + i * 2 + 1, none⟩ = some (.int .u16 p.2)
theorem Chg.below {w w' : World} {a : Option Addr} {cs : List (Int × Int)} {B : Nat} (h : Chg w a cs) (hb : Below B w w') (hB : w.heap.size ≤ B) : Chg w' a cs := by
  intro hne
  obtain ⟨b, off, rfl, hlt, hc⟩ := h hne
  exact ⟨b, off, rfl, Nat.lt_of_lt_of_le hlt hb.size, fun i p hi => ⟨(hb.cell (p := ⟨b, off + i * 2, none⟩) (show b < B by omega)).trans (hc i p hi).1, (hb.cell (p := ⟨b, off + i * 2 + 1, none⟩) (show b < B by omega)).trans (hc i p hi).2⟩⟩
def updS (s : Int) (p : Int × Int) : Int := 65535 - f16 (65535 - s + (65535 - p.1) + p.2)
theorem updS_rng (s : Int) (p : Int × Int) : 0 ≤ updS s p ∧ updS s p ≤ 65535 := by have := f16_rng (65535 - s + (65535 - p.1) + p.2); unfold updS; omega
def updSL (s : Int) (cs : List (Int × Int)) : Int := cs.foldl updS s
theorem updSL_snoc (s : Int) (cs : List (Int × Int)) (k : Nat) (p : Int × Int) (h : cs[k]? = some p) : updSL s (cs.take (k + 1)) = updS (updSL s (cs.take k)) p := by
  rw [List.take_add_one, h, updSL, List.foldl_append]
  simp [updSL]
theorem updSL_rng (s : Int) (h1 : 0 ≤ s) (h2 : s ≤ 65535) (cs : List (Int × Int)) : 0 ≤ updSL s cs ∧ updSL s cs ≤ 65535 := by
  unfold updSL
  induction cs generalizing s with
  | nil => exact ⟨h1, h2⟩
  | cons p r ih => exact ih (updS s p) (updS_rng s p).1 (updS_rng s p).2

set_option maxHeartbeats 1600000 in
theorem update_any (s : Int) (a : Option Addr) (cs : List (Int × Int)) (cap : Nat) (w : World) (h1 : 0 ≤ s) (h2 : s ≤ 65535) (hc : Chg w a cs) (hb : ∀ p ∈ cs, (0 ≤ p.1 ∧ p.1 ≤ 65535) ∧ 0 ≤ p.2 ∧ p.2 ≤ 65535) (hl : cs.length ≤ 1099511627776) :
    Calls Try.prog 100 #[.int .u16 s, .slice a cs.length cap] w fun e w' => e = .returned (.int .u16 (updSL s cs)) ∧ Below w.heap.size w w' := by
  have HC := hide hc
  have HB := hide hb
  clear hc hb
  go_enter Try.func100, Try.ntmps100
  go_wp2
  go_loopw [0, 11] (fun v i wr => ∃ (k : Nat) (t : Int), k ≤ cs.length ∧ i = .int .i64 k ∧ v = .int .u16 t ∧ 0 ≤ t ∧ t ≤ 65535 ∧ t = updSL s (cs.take k) ∧ Below w.heap.size w wr) (fun _ i _ => cs.length - (intOf i).toNat)
  case atStart => exact ⟨0, s, Nat.zero_le _, rfl, rfl, h1, h2, rfl, Below.refl _ _⟩
  case round =>
    obtain ⟨k, t, hk, rfl, rfl, ht1, ht2, hte, hbel⟩ := hrel
    have HT := hide hte
    clear hte
    by_cases hlt : k < cs.length
    · obtain ⟨p, hpk⟩ : ∃ p, cs[k]? = some p := ⟨_, List.getElem?_eq_getElem hlt⟩
      obtain ⟨b, off, rfl, hbl, hcc⟩ := HC.out.below hbel (Nat.le_refl _) (by intro e; rw [e] at hlt; simp at hlt)
      obtain ⟨e1, e2⟩ := hcc k p hpk
      obtain ⟨⟨p1, p2⟩, p3, p4⟩ := HB.out p (List.mem_of_getElem? hpk)
      have hst := updSL_snoc s cs k p hpk
      have hf := f16_rng (65535 - t + (65535 - p.1) + p.2)
      have huu : updS t p = 65535 - f16 (65535 - t + (65535 - p.1) + p.2) := rfl
      rw [← HT.out, huu] at hst
      obtain ⟨x, y⟩ := p
      simp only at e1 e2 p1 p2 p3 p4 hst hf
      have x1 := xor16 t ht1 ht2
      have x2 := xor16 x p1 p2
      have HST := hide hst
      clear hst huu hcc hpk
      have hb0 := hbel.alloc hbel.size (.cells #[.int .u16 x, .int .u16 y] 132)
      have hf1 := hf.1
      have hf2 := hf.2
      clear hf
      go_wp2_with fail
      go_quiet (fail)
      have y1 : IntKind.u64.wrap (65535 - t) = 65535 - t := wraps_u64 _ (by omega) (by omega)
      have y2 : IntKind.u64.wrap (65535 - x) = 65535 - x := wraps_u64 _ (by omega) (by omega)
      have y3 : IntKind.u64.wrap (65535 - t + (65535 - x)) = 65535 - t + (65535 - x) := wraps_u64 _ (by omega) (by omega)
      have y4 : IntKind.u64.wrap (65535 - t + (65535 - x) + y) = 65535 - t + (65535 - x) + y := wraps_u64 _ (by omega) (by omega)
      go_wp2_with fail
      refine (fold_any (65535 - t + (65535 - x) + y) _ (by omega) (by omega)).mono ?_
      rintro e w2 ⟨rfl, rfl⟩
      have x3 := xor16 (f16 (65535 - t + (65535 - x) + y)) hf1 hf2
      go_wp2
      go_roundw
      case rel => exact ⟨k + 1, _, by omega, by go_num, rfl, by omega, by omega, HST.out.symm, bdrewN hb0 _⟩
      case measure => simp [intOf]; omega
    · have hkn : k = cs.length := by omega
      go_wp2
      go_ret
      exact ⟨by rw [HT.out, hkn, List.take_length]; rfl, hbel⟩

/-- Numbers of two bytes each laid from a place on: the first k of them. -/
def layK (xs : List Int) (at' : Nat) (ns : List Nat) : Nat → List Int
  | 0 => xs
  | k + 1 => spl (layK xs at' ns k) (at' + 2 * k) (numB 2 (ns.getD k 0))
set_option maxHeartbeats 1600000 in
theorem flay_any (base n c at' g : Nat) (xs : List Int) (nb off : Nat) (ns : List Nat) (m nc : Nat) (w : World) (hown : w.ownsRow base 5 1 (.slice (some ⟨g, 0, none⟩) n c) n (xs.map (Value.int .u8))) (hbs : base ≤ w.heap.size)
    (hns : Row .u16 w (some ⟨nb, off, none⟩) (ns.map Int.ofNat)) (hne : nb ≠ g) (hm : ns.length = m) (hat : at' + 2 * m ≤ n) (hn : n ≤ 1000000) (hv : ∀ v ∈ ns, v ≤ 65535) :
    Calls Try.prog 86 #[.slice (some ⟨g, 0, none⟩) n c, .int .i64 (at' : Int), .slice (some ⟨nb, off, none⟩) m nc] w fun e w' => e = .returned (.tuple #[]) ∧
      w'.ownsRow base 5 1 (.slice (some ⟨g, 0, none⟩) n c) n ((layK xs at' ns m).map (Value.int .u8)) ∧ w.grownBy w' (some g) := by
  obtain ⟨hgc, hcm⟩ : n ≤ c ∧ c ≤ 9223372036854775807 := by
    rcases hown.2 with ⟨h1, h0⟩ | ⟨g', c', cur, hv', hg, _, h3, h4, _⟩
    · cases h1
    · obtain ⟨rfl, rfl⟩ : g = g' ∧ c = c' := by simpa using hv'
      exact ⟨h3, by unfold maxLen at h4; omega⟩
  have HO := hide hown
  have HR := hide hns
  have HV := hide hv
  clear hown hns hv
  go_enter Try.func86, Try.ntmps86
  go_wp2_with fail
  go_loopw [6, 7, 10] (fun _ _ i wr => ∃ (k : Nat), k ≤ m ∧ i = .int .i64 k ∧ Hid (wr.ownsRow base 5 1 (.slice (some ⟨g, 0, none⟩) n c) n ((layK xs at' ns k).map (Value.int .u8))) ∧ Hid (w.grownBy wr (some g))) (fun _ _ i _ => m - (intOf i).toNat)
  case atStart => exact ⟨0, Nat.zero_le _, rfl, HO, hide (World.grownBy.refl w (some g))⟩
  case round =>
    obtain ⟨k, hk, rfl, HK, HG⟩ := hrel
    by_cases hlt : k < m
    · obtain ⟨v, hvk⟩ : ∃ v, ns[k]? = some v := ⟨_, List.getElem?_eq_getElem (by omega)⟩
      have hv2 := HV.out v (List.mem_of_getElem? hvk)
      have hRr := row_gb HR.out HG.out (fun b e => by cases e; exact hne)
      obtain ⟨b', off', e, hbl, hc⟩ := hRr.at (i := k) (by simp; omega)
      obtain ⟨rfl, rfl⟩ : nb = b' ∧ off = off' := by simpa using e
      have hck := hc k (by simp; omega)
      have hgk : (ns.map Int.ofNat)[k]?.getD 0 = (v : Int) := by simp [hvk]
      rw [hgk] at hck
      have hlk : layK xs at' ns (k + 1) = spl (layK xs at' ns k) (at' + 2 * k) (numB 2 v) := by
        show spl _ _ (numB 2 (ns.getD k 0)) = _
        rw [show ns.getD k 0 = v by simp [List.getD, hvk]]
      have HLK := hide hlk
      have hw1 : IntKind.i64.wrap (2 * (k : Int)) = 2 * (k : Int) := IntWalk.i64_in _ (by omega)
      have hw2 : IntKind.i64.wrap ((at' : Int) + 2 * (k : Int)) = (at' : Int) + 2 * (k : Int) := IntWalk.i64_in _ (by omega)
      have hw3 : IntKind.u64.wrap (v : Int) = (v : Int) := wraps_u64 _ (by omega) (by omega)
      have hsl := slice_tail_run g n c (at' + 2 * k) ((at' : Int) + 2 * (k : Int)) (by omega) (by omega) (by omega)
      obtain ⟨H, hHH⟩ : ∃ H, wr.heap.size = H := ⟨_, rfl⟩
      have hcopy : ∀ (w3 : World), Below wr.heap.size wr w3 → Row .u8 w3 (some ⟨wr.heap.size, 0, none⟩) (numB 2 v) → ∃ w', (Builtin.copy_ #[25, 25] 3 #[.slice (some ⟨g, at' + 2 * k, none⟩) (n - (at' + 2 * k)) (c - (at' + 2 * k)), .slice (some ⟨wr.heap.size, 0, none⟩) 2 2]).run Try.prog w3 = .ok (.int .i64 2) w' ∧
          Hid (w'.ownsRow base 5 1 (.slice (some ⟨g, 0, none⟩) n c) n ((layK xs at' ns (k + 1)).map (Value.int .u8))) ∧ Hid (w.grownBy w' (some g)) := fun w3 hb hr => by
        obtain ⟨w4, h1, h2, h3⟩ := copy2_run w3 base g n c (at' + 2 * k) (n - (at' + 2 * k)) (c - (at' + 2 * k)) (layK xs at' ns k) (numB 2 v) ⟨wr.heap.size, 0, none⟩ 2 3 (owns_below HK.out hb (Nat.le_refl _)) hr (numB_len _ _) (by omega) (by omega)
        rw [← HLK.out] at h2
        exact ⟨w4, h1, hide h2, hide (gb_trans HG.out (gb_trans (gb_of_below hb) h3))⟩
      have HCP := hide hcopy
      have HN := hide (num2_any v wr.drew (by omega))
      clear hcopy hlk hc hRr e hgk hvk hHH
      go_wp2_with fail
      go_region_law (first | (refine step_copy_run rfl (.tmp 20) (.tmp 23) 25 25 rfl _ _ rfl rfl _ _ hrn.out ?_) | (go_simp; go_at_call 74; (with_reducible refine HN.out.mono ?_); rintro e w3 ⟨rfl, o3, hbel3⟩; have hbx : Below wr.heap.size wr w3 := below_of_drew hbel3; have hrx : Row .u8 w3 (some ⟨wr.heap.size, 0, none⟩) (numB 2 v) := Row.of_owns o3; obtain ⟨w4, hrun, HO4, HG4⟩ := HCP.out w3 hbx hrx; clear hrx; clear hbx; have hrn := hide hrun; clear o3 hbel3 hrun))
      all_goals
        go_wp2_with fail
        go_roundw
        case rel => exact ⟨k + 1, by omega, by go_num, HO4, HG4⟩
        case measure => simp [intOf]; omega
    · have hkm : k = m := by omega
      subst hkm
      go_wp2_with fail
      go_end0
      exact ⟨rfl, HK.out, HG.out⟩
end Go.Proofs.Ytgggcapgaikbeaa

/- Flows: a check sum within what an error tells is mended; a flow's ends as numbers. -/
namespace Go.Proofs.Ytgggcapgaikbeaa
open Go.RowKit
set_option linter.unusedVariables false
set_option linter.unusedSimpArgs false
set_option maxRecDepth 100000
theorem fld_numM (n : Nat) (r : List Int) (h : n < 65536) : fld (numB 2 n ++ r) 0 2 = n := by
  unfold fld
  have h3 := valB_numB 2 n
  rw [List.drop_zero, List.take_left' (numB_len 2 n), h3, Nat.mod_eq_of_lt (by omega), Int.toNat_natCast]
theorem fld_skipM (l r : List Int) (j k : Nat) (h : l.length = j) : fld (l ++ r) j k = fld r 0 k := by
  unfold fld
  rw [List.drop_left' h, List.drop_zero]
theorem lit_u16 (V : World) (x : Int) : Row .u16 (V.alloc (.cells #[.int .u16 x] 22)) (some ⟨V.heap.size, 0, none⟩) [x] := by
  intro _
  refine ⟨V.heap.size, 0, rfl, by simp, fun i hi => ?_⟩
  have h := heap_alloc_new V (.cells #[.int .u16 x] 22)
  simp only [World.cell?, h]
  match i, hi with
  | 0, _ => rfl
theorem numB2_fld (v : Nat) (hv : v ≤ 65535) (xs : List Int) (K : Nat) (h : K + 2 ≤ xs.length) : fld (spl xs K (numB 2 v)) K 2 = v := by
  unfold spl
  rw [numB_len, List.append_assoc]
  have h1 : (xs.take K).length = K := by rw [List.length_take]; omega
  have := fld_skipM (xs.take K) (numB 2 v ++ xs.drop (K + 2)) K 2 h1
  rw [this]
  exact fld_numM v _ (by omega)
set_option maxHeartbeats 1600000 in
theorem mend_any (base n c K g : Nat) (xs : List Int) (ca : Option Addr) (cs : List (Int × Int)) (m cc : Nat) (w : World) (hown : w.ownsRow base 5 1 (.slice (some ⟨g, 0, none⟩) n c) n (xs.map (Value.int .u8))) (hb : ∀ x ∈ xs, 0 ≤ x ∧ x ≤ 255) (hbs : base ≤ w.heap.size) (hgl : g < w.heap.size)
    (hc : Chg w ca cs) (hcb : ∀ p ∈ cs, (0 ≤ p.1 ∧ p.1 ≤ 65535) ∧ 0 ≤ p.2 ∧ p.2 ≤ 65535) (hm : cs.length = m) (hK : K + 2 ≤ n) (hn : n ≤ 5000) (hm2 : m ≤ 100) :
    Calls Try.prog 87 #[.slice (some ⟨g, 0, none⟩) n c, .int .i64 (K : Int), .slice ca m cc] w fun e w' => e = .returned (.tuple #[]) ∧
      w'.ownsRow base 5 1 (.slice (some ⟨g, 0, none⟩) n c) n ((spl xs K (numB 2 (updSL (fld xs K 2 : Nat) cs).toNat)).map (Value.int .u8)) ∧ w.grownBy w' (some g) := by
  have hxl : xs.length = n := by have := hown.1; simpa using this
  have hv := fld_lt xs K 2 hb
  have hv2 : fld xs K 2 ≤ 65535 := by simp at hv; omega
  have hu := updSL_rng (fld xs K 2 : Nat) (by omega) (by omega) cs
  have HHF := hide (fhalf_any w (some ⟨g, 0, none⟩) xs n c K (Lies.of_owns hown) hxl hb hn hK)
  have HUP := hide (fun (W : World) (hW : Below w.heap.size w W) => update_any (fld xs K 2 : Nat) ca cs cc W (by omega) (by omega) (hc.below hW (Nat.le_refl _)) hcb (by omega))
  rw [hm] at HUP
  obtain ⟨s, hs⟩ : ∃ s : Nat, updSL (fld xs K 2 : Nat) cs = (s : Int) := ⟨(updSL (fld xs K 2 : Nat) cs).toNat, by omega⟩
  rw [hs] at HUP hu ⊢
  rw [Int.toNat_natCast]
  generalize fld xs K 2 = v at *
  have HO := hide hown
  have HLY := hide (fun (W : World) (hW : Below w.heap.size w W) => flay_any base n c K g xs W.heap.size 0 [s] 1 1 (W.alloc (.cells #[.int .u16 (s : Int)] 22)) (owns_below (hown) (hW.trans ((Below.refl W.heap.size W).alloc (Nat.le_refl _) _ |>.mono hW.size)) (Nat.le_refl _)) (Nat.le_trans hbs (Nat.le_trans hW.size (by simp))) (lit_u16 W s) (by have := hW.size; omega) rfl (by omega) (by omega) (by simp; omega))
  clear hc hcb hb hown hs
  go_enter Try.func87, Try.ntmps87
  go_wp2_with fail
  refine HHF.out.mono ?_
  rintro e w1 ⟨rfl, b1⟩
  have HB1 := hide b1
  clear b1 HHF
  go_wp2_with fail
  refine (HUP.out w1 HB1.out).mono ?_
  rintro e w2 ⟨rfl, b2⟩
  have HB2 := hide (HB1.out.trans (b2.mono HB1.out.size))
  clear b2 HB1 HUP
  go_wp2_with fail
  refine (HLY.out w2 HB2.out).mono ?_
  rintro e w3 ⟨rfl, o3, g3⟩
  have HO3 := hide o3
  have HG3 := hide (gb_trans (gb_of_below (r := some g) HB2.out) (gb_trans (gb_of_below (r := some g) ((Below.refl w2.heap.size w2).alloc (Nat.le_refl _) _)) g3))
  clear o3 g3 HLY
  go_wp2_with fail
  go_end0
  exact ⟨rfl, HO3.out, HG3.out⟩
/-- The sum of a datagram, mended. -/
def udpM (xs : List Int) (cs : List (Int × Int)) : List Int :=
  if fld xs 26 2 = 0 then xs else if updSL (fld xs 26 2 : Nat) cs = 0 then spl (spl xs 26 (numB 2 0)) 26 (numB 2 65535) else spl xs 26 (numB 2 (updSL (fld xs 26 2 : Nat) cs).toNat)
set_option maxHeartbeats 1600000 in
theorem endsOf_any (w : World) (x0 x1 x2 x3 x4 : Nat) (h1 : x1 ≤ 4294967295) (h2 : x2 ≤ 4294967295) :
    Calls Try.prog 84 #[.agg #[.int .u8 (x0 : Int), .int .u32 (x1 : Int), .int .u32 (x2 : Int), .int .u16 (x3 : Int), .int .u16 (x4 : Int)]] w fun e w' => e = .returned (.agg #[.int .u16 ((x1 / 65536 : Nat) : Int), .int .u16 ((x1 % 65536 : Nat) : Int), .int .u16 ((x2 / 65536 : Nat) : Int), .int .u16 ((x2 % 65536 : Nat) : Int), .int .u16 (x3 : Int), .int .u16 (x4 : Int)]) ∧ Below w.heap.size w w' := by
  obtain ⟨e0, he0⟩ : ∃ e, x1 / 65536 = e := ⟨_, rfl⟩
  obtain ⟨e1, he1⟩ : ∃ e, x1 % 65536 = e := ⟨_, rfl⟩
  obtain ⟨e2, he2⟩ : ∃ e, x2 / 65536 = e := ⟨_, rfl⟩
  obtain ⟨e3, he3⟩ : ∃ e, x2 % 65536 = e := ⟨_, rfl⟩
  rw [he0, he1, he2, he3]
  have d0 : (x1 : Int) / 65536 = (e0 : Int) := by omega
  have d2 : (x2 : Int) / 65536 = (e2 : Int) := by omega
  have w0 : IntKind.u16.wrap (e0 : Int) = (e0 : Int) := by rw [IntKind.wrap_u16]; omega
  have w2 : IntKind.u16.wrap (e2 : Int) = (e2 : Int) := by rw [IntKind.wrap_u16]; omega
  have w1 : IntKind.u16.wrap (x1 : Int) = (e1 : Int) := by rw [IntKind.wrap_u16]; omega
  have w3 : IntKind.u16.wrap (x2 : Int) = (e3 : Int) := by rw [IntKind.wrap_u16]; omega
  clear he0 he1 he2 he3
  obtain ⟨V1, hV1⟩ : ∃ V, w.alloc (.cells #[.int .u8 (x0 : Int), .int .u32 (x1 : Int), .int .u32 (x2 : Int), .int .u16 (x3 : Int), .int .u16 (x4 : Int)] 29) = V := ⟨_, rfl⟩
  obtain ⟨V2, hV2⟩ : ∃ V, V1.alloc (.cells #[.int .u16 0, .int .u16 0, .int .u16 0, .int .u16 0, .int .u16 0, .int .u16 0] 130) = V := ⟨_, rfl⟩
  have hz1 : V1.heap.size = w.heap.size + 1 := by rw [← hV1]; simp
  have hz2 : V2.heap.size = w.heap.size + 1 + 1 := by rw [← hV2]; simp [hz1]
  have hb1 : Below w.heap.size w V1 := by rw [← hV1]; exact (Below.refl _ _).alloc (Nat.le_refl _) _
  have hc2 : Below V1.heap.size V1 V2 := by rw [← hV2]; exact (Below.refl _ _).alloc (Nat.le_refl _) _
  have hb2 := hb1.trans (hc2.mono hb1.size)
  have hp1_1 : V1.heap[w.heap.size]? = some (.cells #[.int .u8 (x0 : Int), .int .u32 (x1 : Int), .int .u32 (x2 : Int), .int .u16 (x3 : Int), .int .u16 (x4 : Int)] 29 (0, 0)) := by rw [← hV1]; exact heap_alloc_new _ _
  have hp1_2 := below_block hc2 hp1_1 (Nat.le_refl _)
  have hp2_2 : V2.heap[w.heap.size + 1]? = some (.cells #[.int .u16 0, .int .u16 0, .int .u16 0, .int .u16 0, .int .u16 0, .int .u16 0] 130 (0, 0)) := by rw [← hV2, ← hz1]; exact heap_alloc_new _ _
  obtain ⟨BF, hBF⟩ : ∃ B, w.heap.size = B := ⟨_, rfl⟩
  obtain ⟨BR, hBR⟩ : ∃ B, w.heap.size + 1 = B := ⟨_, rfl⟩
  have hw0 : w.heap.size ≤ BF ∧ w.heap.size ≤ BR := by omega
  have HF := hide (show V2.heap[BF]? = some (.cells #[.int .u8 (x0 : Int), .int .u32 (x1 : Int), .int .u32 (x2 : Int), .int .u16 (x3 : Int), .int .u16 (x4 : Int)] 29 (0, 0)) by rw [← hBF]; exact hp1_2)
  have NF : Hid (w.heap.size ≤ BF) := hide hw0.1
  have HR := hide (show V2.heap[BR]? = some (.cells #[.int .u16 0, .int .u16 0, .int .u16 0, .int .u16 0, .int .u16 0, .int .u16 0] 130 (0, 0)) by rw [← hBR]; exact hp2_2)
  have NR : Hid (w.heap.size ≤ BR) := hide hw0.2
  have nqF_R : Hid (BF ≠ BR) := hide (by omega)
  have HB := hide hb2
  have HE := hide (And.intro (And.intro trivial trivial) (And.intro hV1 ( And.intro hV2 (And.intro hBF ( And.intro hBR (trivial))))))
  clear hw0 hV1 hz1 hb1 hV2 hz2 hb2 hc2 hp1_1 hp1_2 hp2_2 hBF hBR 
  go_enter Try.func84, Try.ntmps84
  go_upto_region 1 with (fail)
  rw [HE.out.2.1]
  try rw [HE.out.2.2.1]
  try rw [HE.out.2.2.2.2.1]
  try rw [HE.out.2.2.2.1]
  clear HE
  have qF_1 : V2.cell? ⟨BF, 1, none⟩ = some (.int .u32 (x1 : Int)) := cell_at HF.out 1 rfl
  have qF_2 : V2.cell? ⟨BF, 2, none⟩ = some (.int .u32 (x2 : Int)) := cell_at HF.out 2 rfl
  have qF_3 : V2.cell? ⟨BF, 3, none⟩ = some (.int .u16 (x3 : Int)) := cell_at HF.out 3 rfl
  have qF_4 : V2.cell? ⟨BF, 4, none⟩ = some (.int .u16 (x4 : Int)) := cell_at HF.out 4 rfl
  go_wp2_with ((refine st_part (o := ⟨none, _, _, _, _, _⟩) 130 (.tmp 2) (.tmp 21) rfl (by rfl) BR 0 rfl #[.int .u16 0, .int .u16 0, .int .u16 0, .int .u16 0, .int .u16 0, .int .u16 0] 130 #[.int .u16 (e0 : Int), .int .u16 (e1 : Int), .int .u16 (e2 : Int), .int .u16 (e3 : Int), .int .u16 (x3 : Int), .int .u16 (x4 : Int)] rfl HR.out rfl (by kernel_rfl) (by kernel_rfl) HB.out NR.out ?_; rintro w9 w9h w9b w9o w9s; try simp only [Act.put, List.setIfInBounds_toArray, List.set_cons_zero, List.set_cons_succ]))
  rw [upd_whole (by rfl)] at w9h
  exact bodyPost_ret (v := .agg #[.int .u16 (e0 : Int), .int .u16 (e1 : Int), .int .u16 (e2 : Int), .int .u16 (e3 : Int), .int .u16 (x3 : Int), .int .u16 (x4 : Int)]) (results_cell1 Try.results84 _ w9 BR _ _ _ _ rfl w9h Try.underlying130 rfl (by kernel_rfl)) rfl ⟨rfl, w9b⟩
theorem chg_of {w : World} {X : Nat} {t : TypeId} {a0 a1 a2 a3 a4 a5 b0 b1 b2 b3 b4 b5 : Nat} (h : w.heap[X]? = some (.cells #[.int .u16 (a0 : Int), .int .u16 (b0 : Int), .int .u16 (a1 : Int), .int .u16 (b1 : Int), .int .u16 (a2 : Int), .int .u16 (b2 : Int), .int .u16 (a3 : Int), .int .u16 (b3 : Int), .int .u16 (a4 : Int), .int .u16 (b4 : Int), .int .u16 (a5 : Int), .int .u16 (b5 : Int)] t (0, 0))) (k : Nat) (hk : k ≤ 6) : Chg w (some ⟨X, 0, none⟩) (([((a0 : Int), (b0 : Int)), ((a1 : Int), (b1 : Int)), ((a2 : Int), (b2 : Int)), ((a3 : Int), (b3 : Int)), ((a4 : Int), (b4 : Int)), ((a5 : Int), (b5 : Int))] : List (Int × Int)).take k) := by
  intro hne
  refine ⟨X, 0, rfl, lt_of_block h, fun i p hp => ?_⟩
  have hp' : ([((a0 : Int), (b0 : Int)), ((a1 : Int), (b1 : Int)), ((a2 : Int), (b2 : Int)), ((a3 : Int), (b3 : Int)), ((a4 : Int), (b4 : Int)), ((a5 : Int), (b5 : Int))] : List (Int × Int))[i]? = some p := by
    rw [List.getElem?_take] at hp
    split at hp
    · exact hp
    · cases hp
  have hi : i < 6 := by
    have := (List.getElem?_eq_some_iff.1 hp').1
    simpa using this
  simp only [World.cell?, h]
  match i, hi with
  | 0, _ => simp at hp'; subst hp'; exact ⟨rfl, rfl⟩
  | 1, _ => simp at hp'; subst hp'; exact ⟨rfl, rfl⟩
  | 2, _ => simp at hp'; subst hp'; exact ⟨rfl, rfl⟩
  | 3, _ => simp at hp'; subst hp'; exact ⟨rfl, rfl⟩
  | 4, _ => simp at hp'; subst hp'; exact ⟨rfl, rfl⟩
  | 5, _ => simp at hp'; subst hp'; exact ⟨rfl, rfl⟩
set_option maxHeartbeats 1600000 in
theorem mendUDP_none (base n c g : Nat) (xs : List Int) (a0 a1 a2 a3 a4 a5 b0 b1 b2 b3 b4 b5 : Nat) (w : World) (hown : w.ownsRow base 5 1 (.slice (some ⟨g, 0, none⟩) n c) n (xs.map (Value.int .u8))) (hb : ∀ x ∈ xs, 0 ≤ x ∧ x ≤ 255) (hbs : base ≤ w.heap.size) (hgl : g < w.heap.size) (hn0 : 28 ≤ n) (hn : n ≤ 5000) (hcb : ∀ p ∈ ([((a0 : Int), (b0 : Int)), ((a1 : Int), (b1 : Int)), ((a2 : Int), (b2 : Int)), ((a3 : Int), (b3 : Int)), ((a4 : Int), (b4 : Int)), ((a5 : Int), (b5 : Int))] : List (Int × Int)), (0 ≤ p.1 ∧ p.1 ≤ 65535) ∧ 0 ≤ p.2 ∧ p.2 ≤ 65535) (hz : fld xs 26 2 = 0) :
    Calls Try.prog 88 #[.slice (some ⟨g, 0, none⟩) n c, .agg #[.int .u16 (a0 : Int), .int .u16 (b0 : Int), .int .u16 (a1 : Int), .int .u16 (b1 : Int), .int .u16 (a2 : Int), .int .u16 (b2 : Int), .int .u16 (a3 : Int), .int .u16 (b3 : Int), .int .u16 (a4 : Int), .int .u16 (b4 : Int), .int .u16 (a5 : Int), .int .u16 (b5 : Int)]] w fun e w' => e = .returned (.tuple #[]) ∧ w'.ownsRow base 5 1 (.slice (some ⟨g, 0, none⟩) n c) n ((xs).map (Value.int .u8)) ∧ w.grownBy w' (some g) := by
  have hxl : xs.length = n := by have := hown.1; simpa using this
  have HO0 := hide hown
  have HBY := hide hb
  have HHF := hide (fun (W : World) (hW : Below w.heap.size w W) => fhalf_any W (some ⟨g, 0, none⟩) xs n c 26 (Lies.of_owns (owns_below HO0.out hW (Nat.le_refl _))) hxl HBY.out hn (by omega))
  rw [hz, show ((0 : Nat) : Int) = 0 from rfl] at HHF
  clear hz hcb hown hb
  obtain ⟨V1, hV1⟩ : ∃ V, w.alloc (.cells #[.int .u16 (a0 : Int), .int .u16 (b0 : Int), .int .u16 (a1 : Int), .int .u16 (b1 : Int), .int .u16 (a2 : Int), .int .u16 (b2 : Int), .int .u16 (a3 : Int), .int .u16 (b3 : Int), .int .u16 (a4 : Int), .int .u16 (b4 : Int), .int .u16 (a5 : Int), .int .u16 (b5 : Int)] 133) = V := ⟨_, rfl⟩
  have hz1 : V1.heap.size = w.heap.size + 1 := by rw [← hV1]; simp
  have hb1 : Below w.heap.size w V1 := by rw [← hV1]; exact (Below.refl _ _).alloc (Nat.le_refl _) _
  have hp1_1 : V1.heap[w.heap.size]? = some (.cells #[.int .u16 (a0 : Int), .int .u16 (b0 : Int), .int .u16 (a1 : Int), .int .u16 (b1 : Int), .int .u16 (a2 : Int), .int .u16 (b2 : Int), .int .u16 (a3 : Int), .int .u16 (b3 : Int), .int .u16 (a4 : Int), .int .u16 (b4 : Int), .int .u16 (a5 : Int), .int .u16 (b5 : Int)] 133 (0, 0)) := by rw [← hV1]; exact heap_alloc_new _ _
  obtain ⟨BX, hBX⟩ : ∃ B, w.heap.size = B := ⟨_, rfl⟩
  have hw0 : w.heap.size ≤ BX := by omega
  have HX := hide (show V1.heap[BX]? = some (.cells #[.int .u16 (a0 : Int), .int .u16 (b0 : Int), .int .u16 (a1 : Int), .int .u16 (b1 : Int), .int .u16 (a2 : Int), .int .u16 (b2 : Int), .int .u16 (a3 : Int), .int .u16 (b3 : Int), .int .u16 (a4 : Int), .int .u16 (b4 : Int), .int .u16 (a5 : Int), .int .u16 (b5 : Int)] 133 (0, 0)) by rw [← hBX]; exact hp1_1)
  have NX : Hid (w.heap.size ≤ BX) := hide hw0
  have HB := hide hb1
  have HE := hide (And.intro (And.intro trivial trivial) (And.intro hV1 (And.intro hBX (trivial))))
  clear hw0 hV1 hz1 hb1  hp1_1 hBX 
  go_enter Try.func88, Try.ntmps88
  go_upto_region 1 with (fail)
  rw [HE.out.2.1]
  try rw [HE.out.2.2.1]
  clear HE
  go_wp2_with fail
  refine (HHF.out _ HB.out).mono ?_
  rintro e w1 ⟨rfl, b⟩
  replace HX := hide (below_block b HX.out (Nat.le_refl _))
  replace HB := hide (HB.out.trans (b.mono HB.out.size))
  clear b 
  go_wp2_with fail
  refine bodyPost_ret (results_none rfl _ _ _) rfl ?_
  exact ⟨rfl, owns_below HO0.out HB.out (Nat.le_refl _), gb_of_below HB.out⟩
set_option maxHeartbeats 1600000 in
theorem mendUDP_zero (base n c g : Nat) (xs : List Int) (a0 a1 a2 a3 a4 a5 b0 b1 b2 b3 b4 b5 : Nat) (w : World) (hown : w.ownsRow base 5 1 (.slice (some ⟨g, 0, none⟩) n c) n (xs.map (Value.int .u8))) (hb : ∀ x ∈ xs, 0 ≤ x ∧ x ≤ 255) (hbs : base ≤ w.heap.size) (hgl : g < w.heap.size) (hn0 : 28 ≤ n) (hn : n ≤ 5000) (hcb : ∀ p ∈ ([((a0 : Int), (b0 : Int)), ((a1 : Int), (b1 : Int)), ((a2 : Int), (b2 : Int)), ((a3 : Int), (b3 : Int)), ((a4 : Int), (b4 : Int)), ((a5 : Int), (b5 : Int))] : List (Int × Int)), (0 ≤ p.1 ∧ p.1 ≤ 65535) ∧ 0 ≤ p.2 ∧ p.2 ≤ 65535) (hz : fld xs 26 2 ≠ 0) (hz2 : updSL (fld xs 26 2 : Nat) [((a0 : Int), (b0 : Int)), ((a1 : Int), (b1 : Int)), ((a2 : Int), (b2 : Int)), ((a3 : Int), (b3 : Int)), ((a4 : Int), (b4 : Int)), ((a5 : Int), (b5 : Int))] = 0) :
    Calls Try.prog 88 #[.slice (some ⟨g, 0, none⟩) n c, .agg #[.int .u16 (a0 : Int), .int .u16 (b0 : Int), .int .u16 (a1 : Int), .int .u16 (b1 : Int), .int .u16 (a2 : Int), .int .u16 (b2 : Int), .int .u16 (a3 : Int), .int .u16 (b3 : Int), .int .u16 (a4 : Int), .int .u16 (b4 : Int), .int .u16 (a5 : Int), .int .u16 (b5 : Int)]] w fun e w' => e = .returned (.tuple #[]) ∧ w'.ownsRow base 5 1 (.slice (some ⟨g, 0, none⟩) n c) n ((spl (spl xs 26 (numB 2 0)) 26 (numB 2 65535)).map (Value.int .u8)) ∧ w.grownBy w' (some g) := by
  have hxl : xs.length = n := by have := hown.1; simpa using this
  have HO0 := hide hown
  have HBY := hide hb
  have hv := fld_lt xs 26 2 hb
  have hv2 : fld xs 26 2 ≤ 65535 := by simp at hv; omega
  have hur := updSL_rng (fld xs 26 2 : Nat) (by omega) (by omega) [((a0 : Int), (b0 : Int)), ((a1 : Int), (b1 : Int)), ((a2 : Int), (b2 : Int)), ((a3 : Int), (b3 : Int)), ((a4 : Int), (b4 : Int)), ((a5 : Int), (b5 : Int))]
  have HHF := hide (fun (W : World) (hW : Below w.heap.size w W) => fhalf_any W (some ⟨g, 0, none⟩) xs n c 26 (Lies.of_owns (owns_below HO0.out hW (Nat.le_refl _))) hxl HBY.out hn (by omega))
  have HMD := hide (fun (W : World) (hW : Below w.heap.size w W) (X : Nat) (hc : Chg W (some ⟨X, 0, none⟩) [((a0 : Int), (b0 : Int)), ((a1 : Int), (b1 : Int)), ((a2 : Int), (b2 : Int)), ((a3 : Int), (b3 : Int)), ((a4 : Int), (b4 : Int)), ((a5 : Int), (b5 : Int))]) => mend_any base n c 26 g xs (some ⟨X, 0, none⟩) [((a0 : Int), (b0 : Int)), ((a1 : Int), (b1 : Int)), ((a2 : Int), (b2 : Int)), ((a3 : Int), (b3 : Int)), ((a4 : Int), (b4 : Int)), ((a5 : Int), (b5 : Int))] 6 6 W (owns_below HO0.out hW (Nat.le_refl _)) HBY.out (Nat.le_trans hbs hW.size) (Nat.lt_of_lt_of_le hgl hW.size) hc hcb rfl (by omega) hn (by omega))
  obtain ⟨u, huu⟩ : ∃ u : Nat, updSL (fld xs 26 2 : Nat) [((a0 : Int), (b0 : Int)), ((a1 : Int), (b1 : Int)), ((a2 : Int), (b2 : Int)), ((a3 : Int), (b3 : Int)), ((a4 : Int), (b4 : Int)), ((a5 : Int), (b5 : Int))] = (u : Int) := ⟨(updSL (fld xs 26 2 : Nat) [((a0 : Int), (b0 : Int)), ((a1 : Int), (b1 : Int)), ((a2 : Int), (b2 : Int)), ((a3 : Int), (b3 : Int)), ((a4 : Int), (b4 : Int)), ((a5 : Int), (b5 : Int))]).toNat, by omega⟩
  have hu9 : u ≤ 65535 := by omega
  rw [huu] at HMD
  rw [Int.toNat_natCast] at HMD
  have hyb : ∀ x ∈ spl xs 26 (numB 2 u), 0 ≤ x ∧ x ≤ 255 := by
    intro x hx
    unfold spl at hx
    rcases List.mem_append.1 hx with h | h
    · rcases List.mem_append.1 h with h | h
      · exact hb x (List.mem_of_mem_take h)
      · exact numB_rng _ _ x h
    · exact hb x (List.mem_of_mem_drop h)
  have hyl : (spl xs 26 (numB 2 u)).length = n := by unfold spl; simp [numB_len]; omega
  have HH2 := hide (fun (W : World) (hL : Lies W (some ⟨g, 0, none⟩) (spl xs 26 (numB 2 u)) n c) => fhalf_any W (some ⟨g, 0, none⟩) (spl xs 26 (numB 2 u)) n c 26 hL hyl hyb hn (by omega))
  rw [numB2_fld u hu9 xs 26 (by omega)] at HH2
  obtain ⟨v, hvv⟩ : ∃ v, fld xs 26 2 = v := ⟨_, rfl⟩
  have hz0 : ((v : Int) == 0) = false := by rw [← hvv]; simp; omega
  rw [hvv] at HHF
  have hz1 : ((u : Int) == 0) = true := by rw [huu] at hz2; simp; omega
  obtain rfl : u = 0 := by rw [huu] at hz2; omega
  have HLY := hide (fun (W : World) (X : Nat) (hW : X = W.heap.size) (ho : (W.alloc (.cells #[.int .u16 65535] 22)).ownsRow base 5 1 (.slice (some ⟨g, 0, none⟩) n c) n ((spl xs 26 (numB 2 0)).map (Value.int .u8))) (hs : base ≤ W.heap.size) (hgX : g < W.heap.size) => flay_any base n c 26 g (spl xs 26 (numB 2 0)) W.heap.size 0 [65535] 1 1 (W.alloc (.cells #[.int .u16 65535] 22)) ho (Nat.le_trans hs (by simp)) (lit_u16 W 65535) (by omega) rfl (by omega) (by omega) (by simp))
  clear hz hz2 hur hv hv2 huu hvv hyb hyl hown hb hcb
  obtain ⟨V1, hV1⟩ : ∃ V, w.alloc (.cells #[.int .u16 (a0 : Int), .int .u16 (b0 : Int), .int .u16 (a1 : Int), .int .u16 (b1 : Int), .int .u16 (a2 : Int), .int .u16 (b2 : Int), .int .u16 (a3 : Int), .int .u16 (b3 : Int), .int .u16 (a4 : Int), .int .u16 (b4 : Int), .int .u16 (a5 : Int), .int .u16 (b5 : Int)] 133) = V := ⟨_, rfl⟩
  have hz1 : V1.heap.size = w.heap.size + 1 := by rw [← hV1]; simp
  have hb1 : Below w.heap.size w V1 := by rw [← hV1]; exact (Below.refl _ _).alloc (Nat.le_refl _) _
  have hp1_1 : V1.heap[w.heap.size]? = some (.cells #[.int .u16 (a0 : Int), .int .u16 (b0 : Int), .int .u16 (a1 : Int), .int .u16 (b1 : Int), .int .u16 (a2 : Int), .int .u16 (b2 : Int), .int .u16 (a3 : Int), .int .u16 (b3 : Int), .int .u16 (a4 : Int), .int .u16 (b4 : Int), .int .u16 (a5 : Int), .int .u16 (b5 : Int)] 133 (0, 0)) := by rw [← hV1]; exact heap_alloc_new _ _
  obtain ⟨BX, hBX⟩ : ∃ B, w.heap.size = B := ⟨_, rfl⟩
  have hw0 : w.heap.size ≤ BX := by omega
  have HX := hide (show V1.heap[BX]? = some (.cells #[.int .u16 (a0 : Int), .int .u16 (b0 : Int), .int .u16 (a1 : Int), .int .u16 (b1 : Int), .int .u16 (a2 : Int), .int .u16 (b2 : Int), .int .u16 (a3 : Int), .int .u16 (b3 : Int), .int .u16 (a4 : Int), .int .u16 (b4 : Int), .int .u16 (a5 : Int), .int .u16 (b5 : Int)] 133 (0, 0)) by rw [← hBX]; exact hp1_1)
  have NX : Hid (w.heap.size ≤ BX) := hide hw0
  have HB := hide hb1
  have HE := hide (And.intro (And.intro trivial trivial) (And.intro hV1 (And.intro hBX (trivial))))
  clear hw0 hV1 hz1 hb1  hp1_1 hBX 
  go_enter Try.func88, Try.ntmps88
  go_upto_region 1 with (fail)
  rw [HE.out.2.1]
  try rw [HE.out.2.2.1]
  clear HE
  go_wp2_with fail
  refine (HHF.out _ HB.out).mono ?_
  rintro e w1 ⟨rfl, b⟩
  replace HX := hide (below_block b HX.out (Nat.le_refl _))
  replace HB := hide (HB.out.trans (b.mono HB.out.size))
  clear b 
  have hcx := chg_of HX.out 6 (Nat.le_refl _)
  have HCX := hide hcx
  clear hcx
  go_wp2_with fail
  refine (HMD.out _ HB.out BX HCX.out).mono ?_
  rintro e y1 ⟨rfl, oy, gy⟩
  have HOY := hide oy
  have HGY := hide (gb_trans (gb_of_below (r := some g) HB.out) gy)
  have hgs := Nat.le_trans HB.out.size gy.size
  clear oy gy HMD HHF HCX
  go_wp2_with fail
  refine (HH2.out y1 (Lies.of_owns HOY.out)).mono ?_
  rintro e y2 ⟨rfl, b⟩
  have HOZ := hide (owns_below HOY.out b (Nat.le_refl _))
  have HGZ := hide (gb_trans HGY.out (gb_of_below (r := some g) b))
  have hgt := Nat.le_trans hgs b.size
  clear b HOY HGY HH2
  go_wp2_with fail
  refine (HLY.out y2 _ rfl (owns_below HOZ.out ((Below.refl y2.heap.size y2).alloc (Nat.le_refl _) _) (Nat.le_refl _)) (by omega) (by omega)).mono ?_
  rintro e y3 ⟨rfl, oy, gy⟩
  have HO9 := hide oy
  have HG9 := hide (gb_trans HGZ.out (gb_trans (gb_of_below (r := some g) ((Below.refl y2.heap.size y2).alloc (Nat.le_refl _) _)) gy))
  clear oy gy
  go_wp2_with fail
  go_end0
  exact ⟨rfl, HO9.out, HG9.out⟩
set_option maxHeartbeats 1600000 in
theorem mendUDP_some (base n c g : Nat) (xs : List Int) (a0 a1 a2 a3 a4 a5 b0 b1 b2 b3 b4 b5 : Nat) (w : World) (hown : w.ownsRow base 5 1 (.slice (some ⟨g, 0, none⟩) n c) n (xs.map (Value.int .u8))) (hb : ∀ x ∈ xs, 0 ≤ x ∧ x ≤ 255) (hbs : base ≤ w.heap.size) (hgl : g < w.heap.size) (hn0 : 28 ≤ n) (hn : n ≤ 5000) (hcb : ∀ p ∈ ([((a0 : Int), (b0 : Int)), ((a1 : Int), (b1 : Int)), ((a2 : Int), (b2 : Int)), ((a3 : Int), (b3 : Int)), ((a4 : Int), (b4 : Int)), ((a5 : Int), (b5 : Int))] : List (Int × Int)), (0 ≤ p.1 ∧ p.1 ≤ 65535) ∧ 0 ≤ p.2 ∧ p.2 ≤ 65535) (hz : fld xs 26 2 ≠ 0) (hz2 : updSL (fld xs 26 2 : Nat) [((a0 : Int), (b0 : Int)), ((a1 : Int), (b1 : Int)), ((a2 : Int), (b2 : Int)), ((a3 : Int), (b3 : Int)), ((a4 : Int), (b4 : Int)), ((a5 : Int), (b5 : Int))] ≠ 0) :
    Calls Try.prog 88 #[.slice (some ⟨g, 0, none⟩) n c, .agg #[.int .u16 (a0 : Int), .int .u16 (b0 : Int), .int .u16 (a1 : Int), .int .u16 (b1 : Int), .int .u16 (a2 : Int), .int .u16 (b2 : Int), .int .u16 (a3 : Int), .int .u16 (b3 : Int), .int .u16 (a4 : Int), .int .u16 (b4 : Int), .int .u16 (a5 : Int), .int .u16 (b5 : Int)]] w fun e w' => e = .returned (.tuple #[]) ∧ w'.ownsRow base 5 1 (.slice (some ⟨g, 0, none⟩) n c) n ((spl xs 26 (numB 2 (updSL (fld xs 26 2 : Nat) [((a0 : Int), (b0 : Int)), ((a1 : Int), (b1 : Int)), ((a2 : Int), (b2 : Int)), ((a3 : Int), (b3 : Int)), ((a4 : Int), (b4 : Int)), ((a5 : Int), (b5 : Int))]).toNat)).map (Value.int .u8)) ∧ w.grownBy w' (some g) := by
  have hxl : xs.length = n := by have := hown.1; simpa using this
  have HO0 := hide hown
  have HBY := hide hb
  have hv := fld_lt xs 26 2 hb
  have hv2 : fld xs 26 2 ≤ 65535 := by simp at hv; omega
  have hur := updSL_rng (fld xs 26 2 : Nat) (by omega) (by omega) [((a0 : Int), (b0 : Int)), ((a1 : Int), (b1 : Int)), ((a2 : Int), (b2 : Int)), ((a3 : Int), (b3 : Int)), ((a4 : Int), (b4 : Int)), ((a5 : Int), (b5 : Int))]
  have HHF := hide (fun (W : World) (hW : Below w.heap.size w W) => fhalf_any W (some ⟨g, 0, none⟩) xs n c 26 (Lies.of_owns (owns_below HO0.out hW (Nat.le_refl _))) hxl HBY.out hn (by omega))
  have HMD := hide (fun (W : World) (hW : Below w.heap.size w W) (X : Nat) (hc : Chg W (some ⟨X, 0, none⟩) [((a0 : Int), (b0 : Int)), ((a1 : Int), (b1 : Int)), ((a2 : Int), (b2 : Int)), ((a3 : Int), (b3 : Int)), ((a4 : Int), (b4 : Int)), ((a5 : Int), (b5 : Int))]) => mend_any base n c 26 g xs (some ⟨X, 0, none⟩) [((a0 : Int), (b0 : Int)), ((a1 : Int), (b1 : Int)), ((a2 : Int), (b2 : Int)), ((a3 : Int), (b3 : Int)), ((a4 : Int), (b4 : Int)), ((a5 : Int), (b5 : Int))] 6 6 W (owns_below HO0.out hW (Nat.le_refl _)) HBY.out (Nat.le_trans hbs hW.size) (Nat.lt_of_lt_of_le hgl hW.size) hc hcb rfl (by omega) hn (by omega))
  obtain ⟨u, huu⟩ : ∃ u : Nat, updSL (fld xs 26 2 : Nat) [((a0 : Int), (b0 : Int)), ((a1 : Int), (b1 : Int)), ((a2 : Int), (b2 : Int)), ((a3 : Int), (b3 : Int)), ((a4 : Int), (b4 : Int)), ((a5 : Int), (b5 : Int))] = (u : Int) := ⟨(updSL (fld xs 26 2 : Nat) [((a0 : Int), (b0 : Int)), ((a1 : Int), (b1 : Int)), ((a2 : Int), (b2 : Int)), ((a3 : Int), (b3 : Int)), ((a4 : Int), (b4 : Int)), ((a5 : Int), (b5 : Int))]).toNat, by omega⟩
  have hu9 : u ≤ 65535 := by omega
  rw [huu] at HMD ⊢
  rw [Int.toNat_natCast] at HMD ⊢
  have hyb : ∀ x ∈ spl xs 26 (numB 2 u), 0 ≤ x ∧ x ≤ 255 := by
    intro x hx
    unfold spl at hx
    rcases List.mem_append.1 hx with h | h
    · rcases List.mem_append.1 h with h | h
      · exact hb x (List.mem_of_mem_take h)
      · exact numB_rng _ _ x h
    · exact hb x (List.mem_of_mem_drop h)
  have hyl : (spl xs 26 (numB 2 u)).length = n := by unfold spl; simp [numB_len]; omega
  have HH2 := hide (fun (W : World) (hL : Lies W (some ⟨g, 0, none⟩) (spl xs 26 (numB 2 u)) n c) => fhalf_any W (some ⟨g, 0, none⟩) (spl xs 26 (numB 2 u)) n c 26 hL hyl hyb hn (by omega))
  rw [numB2_fld u hu9 xs 26 (by omega)] at HH2
  obtain ⟨v, hvv⟩ : ∃ v, fld xs 26 2 = v := ⟨_, rfl⟩
  have hz0 : ((v : Int) == 0) = false := by rw [← hvv]; simp; omega
  rw [hvv] at HHF
  have hz1 : ((u : Int) == 0) = false := by rw [huu] at hz2; simp; omega
  clear hz hz2 hur hv hv2 huu hvv hyb hyl hown hb hcb
  obtain ⟨V1, hV1⟩ : ∃ V, w.alloc (.cells #[.int .u16 (a0 : Int), .int .u16 (b0 : Int), .int .u16 (a1 : Int), .int .u16 (b1 : Int), .int .u16 (a2 : Int), .int .u16 (b2 : Int), .int .u16 (a3 : Int), .int .u16 (b3 : Int), .int .u16 (a4 : Int), .int .u16 (b4 : Int), .int .u16 (a5 : Int), .int .u16 (b5 : Int)] 133) = V := ⟨_, rfl⟩
  have hz1 : V1.heap.size = w.heap.size + 1 := by rw [← hV1]; simp
  have hb1 : Below w.heap.size w V1 := by rw [← hV1]; exact (Below.refl _ _).alloc (Nat.le_refl _) _
  have hp1_1 : V1.heap[w.heap.size]? = some (.cells #[.int .u16 (a0 : Int), .int .u16 (b0 : Int), .int .u16 (a1 : Int), .int .u16 (b1 : Int), .int .u16 (a2 : Int), .int .u16 (b2 : Int), .int .u16 (a3 : Int), .int .u16 (b3 : Int), .int .u16 (a4 : Int), .int .u16 (b4 : Int), .int .u16 (a5 : Int), .int .u16 (b5 : Int)] 133 (0, 0)) := by rw [← hV1]; exact heap_alloc_new _ _
  obtain ⟨BX, hBX⟩ : ∃ B, w.heap.size = B := ⟨_, rfl⟩
  have hw0 : w.heap.size ≤ BX := by omega
  have HX := hide (show V1.heap[BX]? = some (.cells #[.int .u16 (a0 : Int), .int .u16 (b0 : Int), .int .u16 (a1 : Int), .int .u16 (b1 : Int), .int .u16 (a2 : Int), .int .u16 (b2 : Int), .int .u16 (a3 : Int), .int .u16 (b3 : Int), .int .u16 (a4 : Int), .int .u16 (b4 : Int), .int .u16 (a5 : Int), .int .u16 (b5 : Int)] 133 (0, 0)) by rw [← hBX]; exact hp1_1)
  have NX : Hid (w.heap.size ≤ BX) := hide hw0
  have HB := hide hb1
  have HE := hide (And.intro (And.intro trivial trivial) (And.intro hV1 (And.intro hBX (trivial))))
  clear hw0 hV1 hz1 hb1  hp1_1 hBX 
  go_enter Try.func88, Try.ntmps88
  go_upto_region 1 with (fail)
  rw [HE.out.2.1]
  try rw [HE.out.2.2.1]
  clear HE
  go_wp2_with fail
  refine (HHF.out _ HB.out).mono ?_
  rintro e w1 ⟨rfl, b⟩
  replace HX := hide (below_block b HX.out (Nat.le_refl _))
  replace HB := hide (HB.out.trans (b.mono HB.out.size))
  clear b 
  have hcx := chg_of HX.out 6 (Nat.le_refl _)
  have HCX := hide hcx
  clear hcx
  go_wp2_with fail
  refine (HMD.out _ HB.out BX HCX.out).mono ?_
  rintro e y1 ⟨rfl, oy, gy⟩
  have HOY := hide oy
  have HGY := hide (gb_trans (gb_of_below (r := some g) HB.out) gy)
  have hgs := Nat.le_trans HB.out.size gy.size
  clear oy gy HMD HHF HCX
  go_wp2_with fail
  refine (HH2.out y1 (Lies.of_owns HOY.out)).mono ?_
  rintro e y2 ⟨rfl, b⟩
  have HOZ := hide (owns_below HOY.out b (Nat.le_refl _))
  have HGZ := hide (gb_trans HGY.out (gb_of_below (r := some g) b))
  have hgt := Nat.le_trans hgs b.size
  clear b HOY HGY HH2
  go_wp2_with fail
  go_end0
  exact ⟨rfl, HOZ.out, HGZ.out⟩
theorem mendUDP_any (base n c g : Nat) (xs : List Int) (a0 a1 a2 a3 a4 a5 b0 b1 b2 b3 b4 b5 : Nat) (w : World) (hown : w.ownsRow base 5 1 (.slice (some ⟨g, 0, none⟩) n c) n (xs.map (Value.int .u8))) (hb : ∀ x ∈ xs, 0 ≤ x ∧ x ≤ 255) (hbs : base ≤ w.heap.size) (hgl : g < w.heap.size) (hn0 : 28 ≤ n) (hn : n ≤ 5000) (hcb : ∀ p ∈ ([((a0 : Int), (b0 : Int)), ((a1 : Int), (b1 : Int)), ((a2 : Int), (b2 : Int)), ((a3 : Int), (b3 : Int)), ((a4 : Int), (b4 : Int)), ((a5 : Int), (b5 : Int))] : List (Int × Int)), (0 ≤ p.1 ∧ p.1 ≤ 65535) ∧ 0 ≤ p.2 ∧ p.2 ≤ 65535) :
    Calls Try.prog 88 #[.slice (some ⟨g, 0, none⟩) n c, .agg #[.int .u16 (a0 : Int), .int .u16 (b0 : Int), .int .u16 (a1 : Int), .int .u16 (b1 : Int), .int .u16 (a2 : Int), .int .u16 (b2 : Int), .int .u16 (a3 : Int), .int .u16 (b3 : Int), .int .u16 (a4 : Int), .int .u16 (b4 : Int), .int .u16 (a5 : Int), .int .u16 (b5 : Int)]] w fun e w' => e = .returned (.tuple #[]) ∧ w'.ownsRow base 5 1 (.slice (some ⟨g, 0, none⟩) n c) n ((udpM xs [((a0 : Int), (b0 : Int)), ((a1 : Int), (b1 : Int)), ((a2 : Int), (b2 : Int)), ((a3 : Int), (b3 : Int)), ((a4 : Int), (b4 : Int)), ((a5 : Int), (b5 : Int))]).map (Value.int .u8)) ∧ w.grownBy w' (some g) := by
  unfold udpM
  split
  · rename_i h; exact mendUDP_none base n c g xs a0 a1 a2 a3 a4 a5 b0 b1 b2 b3 b4 b5 w hown hb hbs hgl hn0 hn hcb h
  split
  · rename_i h h2; exact mendUDP_zero base n c g xs a0 a1 a2 a3 a4 a5 b0 b1 b2 b3 b4 b5 w hown hb hbs hgl hn0 hn hcb h h2
  · rename_i h h2; exact mendUDP_some base n c g xs a0 a1 a2 a3 a4 a5 b0 b1 b2 b3 b4 b5 w hown hb hbs hgl hn0 hn hcb h h2
end Go.Proofs.Ytgggcapgaikbeaa

/- Flows: the numbers of a flow's ends, and what they become. -/
namespace Go.Proofs.Ytgggcapgaikbeaa
open Go.RowKit
set_option linter.unusedVariables false
set_option linter.unusedSimpArgs false
set_option maxRecDepth 100000
theorem ld_arr {ops : Array Oper} {rest : List Oper} {o : Oper} {a : Act} {w : World} {Q : Exit → Act → World → Prop} (T : TypeId) (x : Operand) (ho : o.op = .load T x) (hw : Region.wanted o (yielded ops a.tmps) = true)
    (g : Nat) (hx : a.eval x = .pointer (some ⟨g, 0, none⟩)) (cs : Array Value) (t : TypeId) (hg : w.heap[g]? = some (.cells cs t (0, 0))) {m : Nat} {e : TypeId} (hu : Try.prog.underlying T = some (.array m e)) (hi : (Try.prog.info? T).map (·.size) = some cs.size)
    (h : wpList Try.prog ops Q rest (a.put o.dst (.agg cs)) w) : wpList Try.prog ops Q (o :: rest) a w :=
  BigFrame.wpList_want hw fun K hK => wp_load_row T x ho g hx _ cs (0, 0) _ hg hu rfl hi (hK _ _ h)
def enA (a : Nat → Nat) : Array Value := #[.int .u16 (a 0 : Int), .int .u16 (a 1 : Int), .int .u16 (a 2 : Int), .int .u16 (a 3 : Int), .int .u16 (a 4 : Int), .int .u16 (a 5 : Int)]
def chgA (a b : Nat → Nat) (k : Nat) : Array Value := ((List.range 12).map fun j => if j / 2 < k then (if j % 2 = 0 then Value.int .u16 (a (j / 2) : Int) else Value.int .u16 (b (j / 2) : Int)) else Value.int .u16 0).toArray
theorem chgA_size (a b : Nat → Nat) (k : Nat) : (chgA a b k).size = 12 := by simp [chgA]
theorem chgA_step (a b : Nat → Nat) (k : Nat) (h : k < 6) : upd (chgA a b k) (k * 2) [.int .u16 (a k : Int), .int .u16 (b k : Int)] = chgA a b (k + 1) := by
  match k, h with
  | 0, _ => rfl
  | 1, _ => rfl
  | 2, _ => rfl
  | 3, _ => rfl
  | 4, _ => rfl
  | 5, _ => rfl
theorem en_cell {w : World} {X : Nat} {t : TypeId} {a : Nat → Nat} (h : w.heap[X]? = some (.cells (enA a) t (0, 0))) (k : Nat) (hk : k < 6) : w.cell? ⟨X, k, none⟩ = some (.int .u16 (a k : Int)) := by
  refine cell_at h k ?_
  match k, hk with
  | 0, _ => rfl
  | 1, _ => rfl
  | 2, _ => rfl
  | 3, _ => rfl
  | 4, _ => rfl
  | 5, _ => rfl
set_option maxHeartbeats 2000000 in
theorem changes_any (w : World) (a b : Nat → Nat) :
    Calls Try.prog 85 #[.agg (enA a), .agg (enA b)] w fun e w' => e = .returned (.agg (chgA a b 6)) ∧ Below w.heap.size w w' := by
  obtain ⟨EA, hEA⟩ : ∃ c, enA a = c := ⟨_, rfl⟩
  obtain ⟨EB, hEB⟩ : ∃ c, enA b = c := ⟨_, rfl⟩
  rw [hEA, hEB]
  have HEA := hide hEA
  have HEB := hide hEB
  clear hEA hEB
  obtain ⟨V1, hV1⟩ : ∃ V, w.alloc (.cells EA 130) = V := ⟨_, rfl⟩
  obtain ⟨V2, hV2⟩ : ∃ V, V1.alloc (.cells EB 130) = V := ⟨_, rfl⟩
  obtain ⟨V3, hV3⟩ : ∃ V, V2.alloc (.cells #[.int .u16 0, .int .u16 0, .int .u16 0, .int .u16 0, .int .u16 0, .int .u16 0, .int .u16 0, .int .u16 0, .int .u16 0, .int .u16 0, .int .u16 0, .int .u16 0] 133) = V := ⟨_, rfl⟩
  have hz1 : V1.heap.size = w.heap.size + 1 := by rw [← hV1]; simp
  have hz2 : V2.heap.size = w.heap.size + 1 + 1 := by rw [← hV2]; simp [hz1]
  have hz3 : V3.heap.size = w.heap.size + 1 + 1 + 1 := by rw [← hV3]; simp [hz2]
  have hb1 : Below w.heap.size w V1 := by rw [← hV1]; exact (Below.refl _ _).alloc (Nat.le_refl _) _
  have hc2 : Below V1.heap.size V1 V2 := by rw [← hV2]; exact (Below.refl _ _).alloc (Nat.le_refl _) _
  have hb2 := hb1.trans (hc2.mono hb1.size)
  have hc3 : Below V2.heap.size V2 V3 := by rw [← hV3]; exact (Below.refl _ _).alloc (Nat.le_refl _) _
  have hb3 := hb2.trans (hc3.mono hb2.size)
  have hp1_1 : V1.heap[w.heap.size]? = some (.cells EA 130 (0, 0)) := by rw [← hV1]; exact heap_alloc_new _ _
  have hp1_2 := below_block hc2 hp1_1 (Nat.le_refl _)
  have hp1_3 := below_block hc3 hp1_2 (Nat.le_refl _)
  have hp2_2 : V2.heap[w.heap.size + 1]? = some (.cells EB 130 (0, 0)) := by rw [← hV2, ← hz1]; exact heap_alloc_new _ _
  have hp2_3 := below_block hc3 hp2_2 (Nat.le_refl _)
  have hp3_3 : V3.heap[w.heap.size + 1 + 1]? = some (.cells #[.int .u16 0, .int .u16 0, .int .u16 0, .int .u16 0, .int .u16 0, .int .u16 0, .int .u16 0, .int .u16 0, .int .u16 0, .int .u16 0, .int .u16 0, .int .u16 0] 133 (0, 0)) := by rw [← hV3, ← hz2]; exact heap_alloc_new _ _
  obtain ⟨BWa, hBWa⟩ : ∃ B, w.heap.size = B := ⟨_, rfl⟩
  obtain ⟨BIa, hBIa⟩ : ∃ B, w.heap.size + 1 = B := ⟨_, rfl⟩
  obtain ⟨BR, hBR⟩ : ∃ B, w.heap.size + 1 + 1 = B := ⟨_, rfl⟩
  have hw0 : w.heap.size ≤ BWa ∧ w.heap.size ≤ BIa ∧ w.heap.size ≤ BR := by omega
  have HWa := hide (show V3.heap[BWa]? = some (.cells EA 130 (0, 0)) by rw [← hBWa]; exact hp1_3)
  have NWa : Hid (w.heap.size ≤ BWa) := hide hw0.1
  have HIa := hide (show V3.heap[BIa]? = some (.cells EB 130 (0, 0)) by rw [← hBIa]; exact hp2_3)
  have NIa : Hid (w.heap.size ≤ BIa) := hide hw0.2.1
  have HR := hide (show V3.heap[BR]? = some (.cells #[.int .u16 0, .int .u16 0, .int .u16 0, .int .u16 0, .int .u16 0, .int .u16 0, .int .u16 0, .int .u16 0, .int .u16 0, .int .u16 0, .int .u16 0, .int .u16 0] 133 (0, 0)) by rw [← hBR]; exact hp3_3)
  have NR : Hid (w.heap.size ≤ BR) := hide hw0.2.2
  have nqWa_Ia : Hid (BWa ≠ BIa) := hide (by omega)
  have nqWa_R : Hid (BWa ≠ BR) := hide (by omega)
  have nqIa_R : Hid (BIa ≠ BR) := hide (by omega)
  have HB := hide hb3
  have HE := hide (And.intro (And.intro trivial trivial) (And.intro hV1 ( And.intro hV2 ( And.intro hV3 (And.intro hBWa ( And.intro hBIa ( And.intro hBR (trivial))))))))
  clear hw0 hV1 hz1 hb1 hV2 hz2 hb2 hV3 hz3 hb3 hc2 hc3 hp1_1 hp1_2 hp1_3 hp2_2 hp2_3 hp3_3 hBWa hBIa hBR 
  go_enter Try.func85, Try.ntmps85
  go_upto_region 1 with (fail)
  rw [HE.out.2.1]
  try rw [HE.out.2.2.1]
  try rw [HE.out.2.2.2.1]
  try rw [HE.out.2.2.2.2.2.2.1]
  try rw [HE.out.2.2.2.2.2.1]
  try rw [HE.out.2.2.2.2.1]
  clear HE
  obtain ⟨w1, hwn, wb, HN1⟩ : ∃ W, V3.alloc (.cells #[.int .u16 0, .int .u16 0, .int .u16 0, .int .u16 0, .int .u16 0, .int .u16 0, .int .u16 0, .int .u16 0, .int .u16 0, .int .u16 0, .int .u16 0, .int .u16 0] 133) = W ∧ Below V3.heap.size V3 W ∧ Hid (W.heap[V3.heap.size]? = some (.cells #[.int .u16 0, .int .u16 0, .int .u16 0, .int .u16 0, .int .u16 0, .int .u16 0, .int .u16 0, .int .u16 0, .int .u16 0, .int .u16 0, .int .u16 0, .int .u16 0] 133 (0, 0))) := ⟨_, rfl, (Below.refl V3.heap.size V3).alloc (Nat.le_refl _) _, hide (heap_alloc_new V3 _)⟩
  obtain ⟨BO, hBn⟩ : ∃ B, V3.heap.size = B := ⟨_, rfl⟩
  rw [hBn] at HN1
  have HW := hide (And.intro hwn hBn)
  have HBo := HB
  have nqWa_O := hide (blk_ne HWa.out hBn)
  have nqIa_O := hide (blk_ne HIa.out hBn)
  have nqR_O := hide (blk_ne HR.out hBn)
  clear hwn hBn
  replace HWa := hide (below_block wb HWa.out (Nat.le_refl _))
  replace HIa := hide (below_block wb HIa.out (Nat.le_refl _))
  replace HR := hide (below_block wb HR.out (Nat.le_refl _))
  replace HB := hide (HB.out.trans (wb.mono HB.out.size))
  have HO := HN1
  have NO := hide (show w.heap.size ≤ BO by rw [← HW.out.2]; exact HBo.out.size)
  clear wb HN1 HBo
  go_upto_region 2 with (fail)
  rw [HW.out.1]
  try rw [HW.out.2]
  clear HW
  go_wp2_with fail
  have HO0 := hide (show w1.heap[BO]? = some (.cells (chgA a b 0) 133 (0, 0)) from HO.out)
  have HV := hide (And.intro NO.out NR.out)
  have HNE := hide (And.intro nqWa_O.out (And.intro nqIa_O.out nqR_O.out))
  clear HO
  go_loopw [6, 7] (fun _ i wr => ∃ (k : Nat), k ≤ 6 ∧ i = .int .i64 k ∧ Hid (wr.heap[BO]? = some (.cells (chgA a b k) 133 (0, 0))) ∧ Hid (wr.heap[BWa]? = some (.cells EA 130 (0, 0))) ∧ Hid (wr.heap[BIa]? = some (.cells EB 130 (0, 0))) ∧ Hid (wr.heap[BR]? = some (.cells #[.int .u16 0, .int .u16 0, .int .u16 0, .int .u16 0, .int .u16 0, .int .u16 0, .int .u16 0, .int .u16 0, .int .u16 0, .int .u16 0, .int .u16 0, .int .u16 0] 133 (0, 0))) ∧ Hid (Below w.heap.size w wr)) (fun _ i _ => 6 - (intOf i).toNat)
  case atStart => exact ⟨0, Nat.zero_le _, rfl, HO0, HWa, HIa, HR, HB⟩
  case round =>
    clear HO0 HWa HIa HR HB
    obtain ⟨k, hk, rfl, HO, HWa, HIa, HR, HB⟩ := hrel
    by_cases hlt : k < 6
    · have q1 : wr.cell? ⟨BWa, k, none⟩ = some (.int .u16 (a k : Int)) := en_cell (a := a) (by rw [HEA.out]; exact HWa.out) k hlt
      have q2 : wr.cell? ⟨BIa, k, none⟩ = some (.int .u16 (b k : Int)) := en_cell (a := b) (by rw [HEB.out]; exact HIa.out) k hlt
      have hsz := chgA_size a b k
      have HST := hide (chgA_step a b k hlt)
      go_wp2_with fail
      go_still_tail 9, (by kernel_rfl)
      obtain ⟨v, hVq, wb⟩ : ∃ V, wr.drew = V ∧ Below wr.heap.size wr V := ⟨_, rfl, (Below.refl _ _).drew⟩
      change wpList _ _ _ _ _ wr.drew
      rw [hVq]
      clear hVq q1 q2
      replace HO := hide (below_block wb HO.out (Nat.le_refl _))
      replace HWa := hide (below_block wb HWa.out (Nat.le_refl _))
      replace HIa := hide (below_block wb HIa.out (Nat.le_refl _))
      replace HR := hide (below_block wb HR.out (Nat.le_refl _))
      replace HB := hide (HB.out.trans (wb.mono HB.out.size))
      clear wb
      have hble : Nat.ble (k * 2 + 2) (chgA a b k).size = true := by rw [hsz]; exact Nat.ble_eq_true_of_le (by omega)
      (refine st_part (o := ⟨none, _, _, _, _, _⟩) 132 (.tmp 18) (.tmp 17) rfl (by rfl) BO (k * 2) rfl (chgA a b k) 133 #[.int .u16 (a k : Int), .int .u16 (b k : Int)] rfl HO.out hble (by kernel_rfl) (by kernel_rfl) HB.out HV.out.1 ?_; rintro w9 w9h w9b w9o w9s; try simp only [Act.put, List.setIfInBounds_toArray, List.set_cons_zero, List.set_cons_succ])
      have h9 := HST.out
      rw [show (#[.int .u16 (a k : Int), .int .u16 (b k : Int)] : Array Value).toList = [.int .u16 (a k : Int), .int .u16 (b k : Int)] from rfl, h9] at w9h
      have HO9 := hide w9h
      have HWa9 := hide ((w9o _ HNE.out.1).trans HWa.out)
      have HIa9 := hide ((w9o _ HNE.out.2.1).trans HIa.out)
      have HR9 := hide ((w9o _ HNE.out.2.2).trans HR.out)
      have HB9 := hide w9b
      clear w9h w9o w9s w9b h9 hble hsz
      go_wp2_with fail
      go_roundw
      case rel => exact ⟨k + 1, by omega, by go_num, HO9, HWa9, HIa9, HR9, HB9⟩
      case measure => simp [intOf]; omega
    · have hkn : k = 6 := by omega
      subst hkn
      obtain ⟨CC, hCC⟩ : ∃ c, chgA a b 6 = c := ⟨_, rfl⟩
      have hsz : CC.size = 12 := by rw [← hCC]; exact chgA_size a b 6
      have hone : CC.all (·.oneCell') = true := by rw [← hCC, show chgA a b 6 = #[.int .u16 (a 0 : Int), .int .u16 (b 0 : Int), .int .u16 (a 1 : Int), .int .u16 (b 1 : Int), .int .u16 (a 2 : Int), .int .u16 (b 2 : Int), .int .u16 (a 3 : Int), .int .u16 (b 3 : Int), .int .u16 (a 4 : Int), .int .u16 (b 4 : Int), .int .u16 (a 5 : Int), .int .u16 (b 5 : Int)] from rfl]; kernel_rfl
      rw [hCC] at HO
      have HCC := hide hCC
      have HSZ := hide hsz
      have HON := hide hone
      clear hCC hsz hone
      go_wp2_with (first | (refine ld_arr (o := ⟨some 20, _, _, _, _, _⟩) 133 (.tmp 5) rfl (by rfl) BO rfl CC 133 HO.out Try.underlying133 (by rw [HSZ.out]; kernel_rfl) ?_; try simp only [Act.put, List.setIfInBounds_toArray, List.set_cons_zero, List.set_cons_succ]) | (refine st_part (o := ⟨none, _, _, _, _, _⟩) 133 (.tmp 4) (.tmp 20) rfl (by rfl) BR 0 rfl #[.int .u16 0, .int .u16 0, .int .u16 0, .int .u16 0, .int .u16 0, .int .u16 0, .int .u16 0, .int .u16 0, .int .u16 0, .int .u16 0, .int .u16 0, .int .u16 0] 133 CC rfl HR.out (by rw [HSZ.out]; rfl) (by rw [HSZ.out]; kernel_rfl) HON.out HB.out HV.out.2 ?_; rintro w9 w9h w9b w9o w9s; try simp only [Act.put, List.setIfInBounds_toArray, List.set_cons_zero, List.set_cons_succ]))
      rw [upd_whole (c := #[.int .u16 0, .int .u16 0, .int .u16 0, .int .u16 0, .int .u16 0, .int .u16 0, .int .u16 0, .int .u16 0, .int .u16 0, .int .u16 0, .int .u16 0, .int .u16 0]) (cs := CC) (by rw [HSZ.out]; rfl)] at w9h
      exact bodyPost_ret (v := .agg CC) (results_cell1 Try.results85 _ w9 BR _ _ _ _ rfl w9h Try.underlying133 rfl (by rw [HSZ.out]; kernel_rfl)) rfl ⟨by rw [HCC.out], w9b⟩
end Go.Proofs.Ytgggcapgaikbeaa
