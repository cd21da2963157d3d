/- Flows: an error goes between other ends: the program. -/
import Derived.Test.YtgggcapgaikbeaaPk17
import Derived.Test.YtgggcapgaikbeaaPk20
import Derived.Test.YtgggcapgaikbeaaPk16
import Derived.Test.YtgggcapgaikbeaaPk08
namespace Go.Proofs.Ytgggcapgaikbeaa
open Go.RowKit
set_option linter.unusedVariables false
set_option linter.unusedSimpArgs false
set_option maxRecDepth 100000
theorem fld_oneZ (xs : List Int) (i : Nat) (h : i < xs.length) (hb : ∀ x ∈ xs, 0 ≤ x ∧ x ≤ 255) : xs[i]? = some (fld xs i 1 : Int) := by
  obtain ⟨a, ha⟩ : ∃ a, xs[i]? = some a := ⟨_, List.getElem?_eq_getElem h⟩
  have h1 := hb a (List.mem_of_getElem? ha)
  rw [ha, ← fld_eq xs i 1 hb]
  have : (xs.drop i).take 1 = [a] := by
    apply List.ext_getElem?
    intro j
    rw [List.getElem?_take]
    match j with
    | 0 => simp [List.getElem?_drop, ha]
    | j + 1 => simp
  rw [this]
  simp [valB]
/-- What an error tells, of a packet that goes as v. -/
def reT (ds : List Int) (v : Fl) : List Int := rtl (tfl ds ds.length).p ds.length (if fld ds 20 1 = 8 then (tfl ds ds.length).f else (tfl ds ds.length).t) (if fld ds 20 1 = 8 then v.f else v.t) ds
  (endF (tfl ds ds.length).s (tfl ds ds.length).d (tfl ds ds.length).f (tfl ds ds.length).t) (endF v.s v.d v.f v.t)
theorem tok_p (ds : List Int) (n : Nat) (h : tok ds n = true) : 28 ≤ n ∧ ((tfl ds n).p = 1 ∨ (tfl ds n).p = 17 ∨ (tfl ds n).p = 6) ∧ (tfl ds n) = ⟨fld ds 9 1, fld ds 12 4, fld ds 16 4, tfrom ds, tto ds⟩ := by
  unfold tok at h
  rw [Bool.and_eq_true] at h
  have h1 := h.1
  have h2 := h.2
  unfold tfl
  rw [if_pos h1]
  unfold thead at h1
  simp only [Bool.and_eq_true, decide_eq_true_eq] at h1
  refine ⟨h1.1.1, ?_, rfl⟩
  show fld ds 9 1 = 1 ∨ fld ds 9 1 = 17 ∨ fld ds 9 1 = 6
  unfold tins at h2
  split at h2
  · omega
  · split at h2
    · omega
    · cases h2
theorem tfl_ok (ds : List Int) (n : Nat) (h : tok ds n = true) (hb : ∀ x ∈ ds, 0 ≤ x ∧ x ≤ 255) : (tfl ds n).Ok := by
  have l : ∀ K k, fld ds K k < 256 ^ k := fun K k => fld_lt ds K k hb
  have l9 := l 9 1; have l12 := l 12 4; have l16 := l 16 4; have l20 := l 20 2; have l22 := l 22 2; have l24 := l 24 2
  simp at l9 l12 l16 l20 l22 l24
  rw [(tok_p ds n h).2.2]
  refine ⟨by dsimp only; omega, by dsimp only; omega, by dsimp only; omega, ?_, ?_⟩
  · show tfrom ds ≤ 65535
    unfold tfrom qfrom
    repeat' split
    all_goals omega
  · show tto ds ≤ 65535
    unfold tto qto
    repeat' split
    all_goals omega
theorem slice_someT {w : World} {base n c : Nat} {e : TypeId} {a : Option Addr} {xs : List Value} (h : w.ownsRow base e 1 (.slice a n c) n xs) (hn : 0 < n) : ∃ b, a = some ⟨b, 0, none⟩ := by
  rcases h.2 with ⟨h1, h2⟩ | ⟨g, cap, cur, h1, _⟩
  · omega
  · injection h1 with h1 _ _; exact ⟨g, h1⟩
set_option maxHeartbeats 2000000 in
theorem move_err (w : World) (LB : Nat) (LC : Array Value) (base g n c : Nat) (ds : List Int) (yp ys yd yf yt x0 x1 x2 x3 x4 kd qq rr : Nat) (hL : w.heap[LB]? = some (.cells LC 65 (0, 0))) (h0 : LC[0]? = some (.int .u8 (yp : Int))) (h1 : LC[1]? = some (.int .u32 (ys : Int))) (h2 : LC[2]? = some (.int .u32 (yd : Int))) (h3 : LC[3]? = some (.int .u16 (yf : Int))) (h4 : LC[4]? = some (.int .u16 (yt : Int))) (h5 : LC[5]? = some (.int .i64 3)) (h22 : LC[22]? = some (.slice (some ⟨g, 0, none⟩) n c))
    (hown : w.ownsRow base 5 1 (.slice (some ⟨g, 0, none⟩) n c) n (ds.map (Value.int .u8))) (hLg : LB ≠ g) (hb : ∀ x ∈ ds, 0 ≤ x ∧ x ≤ 255) (hbs : base ≤ w.heap.size) (hn0 : 28 ≤ n) (hn : n ≤ 5000) (hy1 : ys ≤ 4294967295) (hy2 : yd ≤ 4294967295) (hy3 : yf ≤ 65535) (hy4 : yt ≤ 65535) (hx1 : x1 ≤ 4294967295) (hx2 : x2 ≤ 4294967295) (hx3 : x3 ≤ 65535) (hx4 : x4 ≤ 65535)
    (hkd : ds[20]? = some (kd : Int)) (hqq : (if kd = 8 then yt else yf) = qq) (hrr : (if kd = 8 then x4 else x3) = rr) (hp : yp = 1 ∨ yp = 17 ∨ yp = 6) :
    Calls Try.prog 31 #[.pointer (some ⟨LB, 0, none⟩), .agg #[.int .u8 (x0 : Int), .int .u32 (x1 : Int), .int .u32 (x2 : Int), .int .u16 (x3 : Int), .int .u16 (x4 : Int)]] w fun e w' => e = .returned (.tuple #[]) ∧ w'.ownsRow base 5 1 (.slice (some ⟨g, 0, none⟩) n c) n ((rtl yp n qq rr ds (endF yd ys yt yf) (endF x2 x1 x4 x3)).map (Value.int .u8)) ∧ w.grownBy w' (some g) := by
  have hgl : g < w.heap.size := (hown.lt g rfl).2
  have HRT := hide (fun (W : World) (hW : Below w.heap.size w W) => retell_any W base n c g ds yp yd ys yt yf x0 x2 x1 x4 x3 (owns_below hown hW (Nat.le_refl _)) hb (Nat.le_trans hbs hW.size) (Nat.lt_of_lt_of_le hgl hW.size) hn0 hn hy2 hy1 hy4 hy3 hx2 hx1 hx4 hx3 kd qq rr hkd hqq hrr hp)
  obtain ⟨RL, hRL⟩ : ∃ L, (rtl yp n qq rr ds (endF yd ys yt yf) (endF x2 x1 x4 x3)) = L := ⟨_, rfl⟩
  rw [hRL] at HRT ⊢
  obtain ⟨V, hV, hVL, hVF, hne, hBV⟩ : ∃ V, w.alloc (.cells #[.int .u8 (x0 : Int), .int .u32 (x1 : Int), .int .u32 (x2 : Int), .int .u16 (x3 : Int), .int .u16 (x4 : Int)] 29) = V ∧ V.heap[LB]? = some (.cells LC 65 (0, 0)) ∧ V.heap[w.heap.size]? = some (.cells #[.int .u8 (x0 : Int), .int .u32 (x1 : Int), .int .u32 (x2 : Int), .int .u16 (x3 : Int), .int .u16 (x4 : Int)] 29 (0, 0)) ∧ LB ≠ w.heap.size ∧ Below w.heap.size w V :=
    ⟨_, rfl, below_block ((Below.refl w.heap.size w).alloc (Nat.le_refl _) _) hL (Nat.le_refl _), heap_alloc_new _ _, by have := lt_of_block hL; omega, (Below.refl w.heap.size w).alloc (Nat.le_refl _) _⟩
  obtain ⟨FB, hFB⟩ : ∃ B, w.heap.size = B := ⟨_, rfl⟩
  have hFg : FB ≠ g := by omega
  rw [hFB] at hVF hne
  have HE := hide (And.intro hV hFB)
  have HB := hide hBV
  have HL := hide hVL
  have HF := hide hVF
  have NL := hide hLg
  have NF := hide hFg
  have q5 := cell_at hVL 5 h5
  have HT1 := hide (show ∀ W : World, Calls Try.prog 17 #[.agg #[.int .u8 (yp : Int), .int .u32 (ys : Int), .int .u32 (yd : Int), .int .u16 (yf : Int), .int .u16 (yt : Int)]] W fun e w' => e = .returned (.agg #[.int .u8 (yp : Int), .int .u32 (yd : Int), .int .u32 (ys : Int), .int .u16 (yt : Int), .int .u16 (yf : Int)]) ∧ Below W.heap.size W w' from fun W => turnP_any ⟨yp, ys, yd, yf, yt⟩ W)
  have HT2 := hide (show ∀ W : World, Calls Try.prog 17 #[.agg #[.int .u8 (x0 : Int), .int .u32 (x1 : Int), .int .u32 (x2 : Int), .int .u16 (x3 : Int), .int .u16 (x4 : Int)]] W fun e w' => e = .returned (.agg #[.int .u8 (x0 : Int), .int .u32 (x2 : Int), .int .u32 (x1 : Int), .int .u16 (x4 : Int), .int .u16 (x3 : Int)]) ∧ Below W.heap.size W w' from fun W => turnP_any ⟨x0, x1, x2, x3, x4⟩ W)
  have k0L0 := cell_at hVL 0 h0
  have k0L1 := cell_at hVL 1 h1
  have k0L2 := cell_at hVL 2 h2
  have k0L3 := cell_at hVL 3 h3
  have k0L4 := cell_at hVL 4 h4
  have k0L22 := cell_at hVL 22 h22
  have k0F0 : V.cell? ⟨FB, 0, none⟩ = some (.int .u8 (x0 : Int)) := cell_at hVF 0 rfl
  have k0F1 : V.cell? ⟨FB, 1, none⟩ = some (.int .u32 (x1 : Int)) := cell_at hVF 1 rfl
  have k0F2 : V.cell? ⟨FB, 2, none⟩ = some (.int .u32 (x2 : Int)) := cell_at hVF 2 rfl
  have k0F3 : V.cell? ⟨FB, 3, none⟩ = some (.int .u16 (x3 : Int)) := cell_at hVF 3 rfl
  have k0F4 : V.cell? ⟨FB, 4, none⟩ = some (.int .u16 (x4 : Int)) := cell_at hVF 4 rfl
  have HC := hide (And.intro h0 (And.intro h1 (And.intro h2 (And.intro h3 (And.intro h4 h22)))))
  have hlL : LB < V.heap.size := lt_of_block hVL
  have hlF : FB < V.heap.size := lt_of_block hVF
  have HBB := hide (Below.refl V.heap.size V)
  clear hV hFB hVL hVF hne hBV hL h0 h1 h2 h3 h4 h5 h22 hown hLg hFg hb hy1 hy2 hy3 hy4 hx1 hx2 hx3 hx4 hkd hqq hrr hp hRL
  go_enter Try.func31, Try.ntmps31
  go_upto_region 1 with (fail)
  rw [HE.out.1]
  try rw [HE.out.2]
  clear HE
  go_upto_region 9 with (fail)
  clear q5
  go_region_held3 (fun w' => w'.cell? ⟨LB, 0, none⟩ = some (.int .u8 (yp : Int)) ∧ w'.cell? ⟨LB, 1, none⟩ = some (.int .u32 (ys : Int)) ∧ w'.cell? ⟨LB, 2, none⟩ = some (.int .u32 (yd : Int)) ∧ w'.cell? ⟨LB, 3, none⟩ = some (.int .u16 (yf : Int)) ∧ w'.cell? ⟨LB, 4, none⟩ = some (.int .u16 (yt : Int)) ∧ w'.cell? ⟨LB, 22, none⟩ = some (.slice (some ⟨g, 0, none⟩) n c) ∧ w'.cell? ⟨FB, 0, none⟩ = some (.int .u8 (x0 : Int)) ∧ w'.cell? ⟨FB, 1, none⟩ = some (.int .u32 (x1 : Int)) ∧ w'.cell? ⟨FB, 2, none⟩ = some (.int .u32 (x2 : Int)) ∧ w'.cell? ⟨FB, 3, none⟩ = some (.int .u16 (x3 : Int)) ∧ w'.cell? ⟨FB, 4, none⟩ = some (.int .u16 (x4 : Int))) (go_keep) (first
    | (go_at_call 17; (with_reducible refine (HT1.out _).mono ?_); rintro e z1 ⟨rfl, b⟩; (try replace b := below_of_drew b); have HBB := hide (HBB.out.trans (b.mono HBB.out.size)); have k1L0 := (bcell HBB.out LB 0 hlL).trans k0L0; have k1L1 := (bcell HBB.out LB 1 hlL).trans k0L1; have k1L2 := (bcell HBB.out LB 2 hlL).trans k0L2; have k1L3 := (bcell HBB.out LB 3 hlL).trans k0L3; have k1L4 := (bcell HBB.out LB 4 hlL).trans k0L4; have k1L22 := (bcell HBB.out LB 22 hlL).trans k0L22; have k1F0 := (bcell HBB.out FB 0 hlF).trans k0F0; have k1F1 := (bcell HBB.out FB 1 hlF).trans k0F1; have k1F2 := (bcell HBB.out FB 2 hlF).trans k0F2; have k1F3 := (bcell HBB.out FB 3 hlF).trans k0F3; have k1F4 := (bcell HBB.out FB 4 hlF).trans k0F4; clear b)
    | (go_at_call 17; (with_reducible refine (HT2.out _).mono ?_); rintro e z2 ⟨rfl, b⟩; (try replace b := below_of_drew b); have HBB := hide (HBB.out.trans (b.mono HBB.out.size)); have k2L0 := (bcell HBB.out LB 0 hlL).trans k0L0; have k2L1 := (bcell HBB.out LB 1 hlL).trans k0L1; have k2L2 := (bcell HBB.out LB 2 hlL).trans k0L2; have k2L3 := (bcell HBB.out LB 3 hlL).trans k0L3; have k2L4 := (bcell HBB.out LB 4 hlL).trans k0L4; have k2L22 := (bcell HBB.out LB 22 hlL).trans k0L22; have k2F0 := (bcell HBB.out FB 0 hlF).trans k0F0; have k2F1 := (bcell HBB.out FB 1 hlF).trans k0F1; have k2F2 := (bcell HBB.out FB 2 hlF).trans k0F2; have k2F3 := (bcell HBB.out FB 3 hlF).trans k0F3; have k2F4 := (bcell HBB.out FB 4 hlF).trans k0F4; clear b)
    | (go_at_call 56; (with_reducible refine (HRT.out _ (HB.out.trans (HBB.out.mono HB.out.size))).mono ?_); rintro e z3 ⟨rfl, oy, gy⟩; have HOY := hide oy; have HGV := hide (gb_trans (gb_of_below (r := some g) HBB.out) gy); have k3L0 : z3.cell? ⟨LB, 0, none⟩ = some (.int .u8 (yp : Int)) := cell_at (gb_other HGV.out HL.out NL.out) 0 HC.out.1; have k3L1 : z3.cell? ⟨LB, 1, none⟩ = some (.int .u32 (ys : Int)) := cell_at (gb_other HGV.out HL.out NL.out) 1 HC.out.2.1; have k3L2 : z3.cell? ⟨LB, 2, none⟩ = some (.int .u32 (yd : Int)) := cell_at (gb_other HGV.out HL.out NL.out) 2 HC.out.2.2.1; have k3L3 : z3.cell? ⟨LB, 3, none⟩ = some (.int .u16 (yf : Int)) := cell_at (gb_other HGV.out HL.out NL.out) 3 HC.out.2.2.2.1; have k3L4 : z3.cell? ⟨LB, 4, none⟩ = some (.int .u16 (yt : Int)) := cell_at (gb_other HGV.out HL.out NL.out) 4 HC.out.2.2.2.2.1; have k3L22 : z3.cell? ⟨LB, 22, none⟩ = some (.slice (some ⟨g, 0, none⟩) n c) := cell_at (gb_other HGV.out HL.out NL.out) 22 HC.out.2.2.2.2.2; have k3F0 : z3.cell? ⟨FB, 0, none⟩ = some (.int .u8 (x0 : Int)) := cell_at (gb_other HGV.out HF.out NF.out) 0 rfl; have k3F1 : z3.cell? ⟨FB, 1, none⟩ = some (.int .u32 (x1 : Int)) := cell_at (gb_other HGV.out HF.out NF.out) 1 rfl; have k3F2 : z3.cell? ⟨FB, 2, none⟩ = some (.int .u32 (x2 : Int)) := cell_at (gb_other HGV.out HF.out NF.out) 2 rfl; have k3F3 : z3.cell? ⟨FB, 3, none⟩ = some (.int .u16 (x3 : Int)) := cell_at (gb_other HGV.out HF.out NF.out) 3 rfl; have k3F4 : z3.cell? ⟨FB, 4, none⟩ = some (.int .u16 (x4 : Int)) := cell_at (gb_other HGV.out HF.out NF.out) 4 rfl; have HGY := hide (gb_trans (gb_of_below (r := some g) HB.out) HGV.out); clear oy gy)
    | fail)
  all_goals (try go_wp2_with fail)
  all_goals go_end0
  all_goals exact ⟨rfl, HOY.out, HGY.out⟩
set_option maxHeartbeats 4000000 in
theorem rewrite_tell (w : World) (tt id S D : Nat) (da : Option Addr) (xs : List Int) (n dc : Nat) (fp fs fd ff ft : Nat) (hLx : Lies w da xs n dc) (hl : xs.length = n) (hb : ∀ x ∈ xs, 0 ≤ x ∧ x ≤ 255) (hS : S ≤ 4294967295) (hD : D ≤ 4294967295) (hfs : fs ≤ 4294967295) (hfd : fd ≤ 4294967295) (hff : ff ≤ 65535) (hft : ft ≤ 65535) (hc : icErr xs = 0) (hk : isErr (msgOf xs).p = true) (hfp : fp = (tfl (msgOf xs).ds (msgOf xs).ds.length).p) :
    Calls Try.prog 11 #[.agg #[.int .u8 (tt : Int), .int .u8 1, .int .u16 (id : Int), .int .u32 (S : Int), .int .u32 (D : Int), .slice da n dc], .agg #[.int .u8 (fp : Int), .int .u32 (fs : Int), .int .u32 (fd : Int), .int .u16 (ff : Int), .int .u16 (ft : Int)]] w fun e w' => ∃ a9 c9, e = .returned (.tuple #[.agg #[.int .u8 (tt : Int), .int .u8 1, .int .u16 (id : Int), .int .u32 (((if S = (tfl (msgOf xs).ds (msgOf xs).ds.length).d then fs else S) : Nat) : Int), .int .u32 (((if D = (tfl (msgOf xs).ds (msgOf xs).ds.length).s then fd else D) : Nat) : Int), .slice a9 (8 + (msgOf xs).ds.length) c9], .int .i64 0]) ∧ w'.ownsRow w.heap.size 5 1 (.slice a9 (8 + (msgOf xs).ds.length) c9) (8 + (msgOf xs).ds.length) ((icmpB (msgOf xs).p (msgOf xs).q (msgOf xs).r (reT (msgOf xs).ds (Fl.turn ⟨fp, fs, fd, ff, ft⟩))).map (Value.int .u8)) ∧ Below w.heap.size w w' := by
  have hok := msgOf_ok xs hb
  have hmc : msgCode xs = 0 := by
    unfold icErr at hc
    by_cases h0 : msgCode xs = 0
    · exact h0
    · rw [if_neg h0] at hc; exact absurd hc h0
  have htk : tok (msgOf xs).ds (msgOf xs).ds.length = true := by
    unfold icErr msgOk at hc
    rw [if_pos hmc, hk, if_pos rfl] at hc
    by_cases h0 : tok (msgOf xs).ds (msgOf xs).ds.length = true
    · exact h0
    · rw [if_neg h0] at hc; omega
  have HRD := hide (fun (W : World) (hL : Lies W da xs n dc) => rd_icmp W (tt : Int) (id : Int) S D da n dc xs hL hl hb)
  have hfl : icFl S D xs = (tfl (msgOf xs).ds (msgOf xs).ds.length).turn := by unfold icFl msgFl; rw [if_pos hmc, hk]; rfl
  have hkd : icKind xs = 3 := by unfold icKind msgKind; rw [if_pos hmc, hk]; rfl
  rw [hc, hfl, hkd] at HRD
  clear hfl hkd hmc hc hk
  generalize msgOf xs = ms at *
  obtain ⟨mp, mq, mr, ds⟩ := ms
  try dsimp only at *
  obtain ⟨h1, h2, h3, h4, h5⟩ := hok
  obtain ⟨g1, g2, _⟩ := tok_p ds ds.length htk
  obtain ⟨g5, g6, g7, g8, g9⟩ := tfl_ok ds ds.length htk h4
  have hre : reT ds (Fl.turn ⟨fp, fs, fd, ff, ft⟩) = rtl (tfl ds ds.length).p ds.length (if fld ds 20 1 = 8 then (tfl ds ds.length).f else (tfl ds ds.length).t) (if fld ds 20 1 = 8 then ft else ff) ds (endF (tfl ds ds.length).s (tfl ds ds.length).d (tfl ds ds.length).f (tfl ds ds.length).t) (endF fd fs ft ff) := rfl
  rw [hre]
  clear hre
  have hkd := fld_oneZ ds 20 (by omega) h4
  generalize fld ds 20 1 = kd at *
  obtain ⟨qq, hqq⟩ : ∃ q, (if kd = 8 then (tfl ds ds.length).f else (tfl ds ds.length).t) = q := ⟨_, rfl⟩
  obtain ⟨rr, hrr⟩ : ∃ q, (if kd = 8 then ft else ff) = q := ⟨_, rfl⟩
  rw [hqq, hrr]
  generalize tfl ds ds.length = y at *
  obtain ⟨yp, ys, yd, yf, yt⟩ := y
  unfold Fl.turn at *
  try dsimp only at *
  have hln := rtl_len yp ds.length qq rr ds (endF ys yd yf yt) (endF fd fs ft ff) g1 rfl
  have hrg := rtl_rng yp ds.length qq rr ds (endF ys yd yf yt) (endF fd fs ft ff) h4
  have HMQ := hide (fun (W : World) (BL : Nat) (LC : Array Value) (B g c : Nat) (hL : W.heap[BL]? = some (.cells LC 65 (0, 0))) (l0 : LC[0]? = some (.int .u8 (yp : Int))) (l1 : LC[1]? = some (.int .u32 (yd : Int))) (l2 : LC[2]? = some (.int .u32 (ys : Int))) (l3 : LC[3]? = some (.int .u16 (yt : Int))) (l4 : LC[4]? = some (.int .u16 (yf : Int))) (l5 : LC[5]? = some (.int .i64 3)) (l22 : LC[22]? = some (.slice (some ⟨g, 0, none⟩) ds.length c)) (ho : W.ownsRow B 5 1 (.slice (some ⟨g, 0, none⟩) ds.length c) ds.length (ds.map (Value.int .u8))) (hLg : BL ≠ g) (hB : B ≤ W.heap.size) =>
    move_err W BL LC B g ds.length c ds yp yd ys yt yf fp fs fd ff ft kd qq rr hL l0 l1 l2 l3 l4 l5 l22 ho hLg h4 hB g1 (by omega) g7 g6 g9 g8 hfs hfd hff hft hkd hqq hrr g2)
  try dsimp only at HMQ
  obtain ⟨RL, hRL⟩ : ∃ L, rtl yp ds.length qq rr ds (endF ys yd yf yt) (endF fd fs ft ff) = L := ⟨_, rfl⟩
  rw [hRL] at HMQ hln hrg ⊢
  obtain ⟨m, hm⟩ : ∃ m, ds.length = m := ⟨_, rfl⟩
  rw [hm] at HMQ HRD hln h5 g1 ⊢
  have HWT := hide (fun (W : World) (a2 : Option Addr) (c2 : Nat) (hh : Lies W a2 RL m c2) => wicmp_ok W mp mq mr a2 RL m c2 hh.row hh.no hln hrg h5 h1 h2 h3)
  obtain ⟨S2, hS2⟩ : ∃ x, (if S = yd then fs else S) = x := ⟨_, rfl⟩
  obtain ⟨D2, hD2⟩ : ∃ x, (if D = ys then fd else D) = x := ⟨_, rfl⟩
  have HM1 := hide (fun W => moved_any S yd fs W)
  have HM2 := hide (fun W => moved_any D ys fd W)
  have hSS : (if S = (if (1 : Nat) = 1 then yd else 0) then fs else S) = S2 := by rw [if_pos rfl]; exact hS2
  rw [hS2] at HM1 ⊢
  rw [hD2] at HM2 ⊢
  clear hSS h1 h2 h3 h4 h5 g2 g5 g6 g7 g8 g9 htk hkd hqq hrr hRL hln hrg hm hl hb hS2 hD2 hfs hfd hff hft hS hD
  have hfe : ((fp : Int) != (yp : Int)) = false := by rw [hfp]; simp
  have HFE := hide hfe
  clear hfe hfp
  obtain ⟨V1, hV1⟩ : ∃ V, w.alloc (.cells #[.int .u8 (tt : Int), .int .u8 1, .int .u16 (id : Int), .int .u32 (S : Int), .int .u32 (D : Int), .slice da n dc] 27) = V := ⟨_, rfl⟩
  obtain ⟨V2, hV2⟩ : ∃ V, V1.alloc (.cells #[.int .u8 (fp : Int), .int .u32 (fs : Int), .int .u32 (fd : Int), .int .u16 (ff : Int), .int .u16 (ft : Int)] 29) = V := ⟨_, rfl⟩
  obtain ⟨V3, hV3⟩ : ∃ V, V2.alloc (.cells #[.int .u8 0, .int .u8 0, .int .u16 0, .int .u32 0, .int .u32 0, .slice none 0 0] 27) = V := ⟨_, rfl⟩
  have hz1 : V1.heap.size = w.heap.size + 1 := by rw [← hV1]; simp
  have hz2 : V2.heap.size = w.heap.size + 1 + 1 := by rw [← hV2]; simp [hz1]
  have hz3 : V3.heap.size = w.heap.size + 1 + 1 + 1 := by rw [← hV3]; simp [hz2]
  have hb1 : Below w.heap.size w V1 := by rw [← hV1]; exact (Below.refl _ _).alloc (Nat.le_refl _) _
  have hc2 : Below V1.heap.size V1 V2 := by rw [← hV2]; exact (Below.refl _ _).alloc (Nat.le_refl _) _
  have hb2 := hb1.trans (hc2.mono hb1.size)
  have hc3 : Below V2.heap.size V2 V3 := by rw [← hV3]; exact (Below.refl _ _).alloc (Nat.le_refl _) _
  have hb3 := hb2.trans (hc3.mono hb2.size)
  have hp1_1 : V1.heap[w.heap.size]? = some (.cells #[.int .u8 (tt : Int), .int .u8 1, .int .u16 (id : Int), .int .u32 (S : Int), .int .u32 (D : Int), .slice da n dc] 27 (0, 0)) := by rw [← hV1]; exact heap_alloc_new _ _
  have hp1_2 := below_block hc2 hp1_1 (Nat.le_refl _)
  have hp1_3 := below_block hc3 hp1_2 (Nat.le_refl _)
  have hp2_2 : V2.heap[w.heap.size + 1]? = some (.cells #[.int .u8 (fp : Int), .int .u32 (fs : Int), .int .u32 (fd : Int), .int .u16 (ff : Int), .int .u16 (ft : Int)] 29 (0, 0)) := by rw [← hV2, ← hz1]; exact heap_alloc_new _ _
  have hp2_3 := below_block hc3 hp2_2 (Nat.le_refl _)
  have hp3_3 : V3.heap[w.heap.size + 1 + 1]? = some (.cells #[.int .u8 0, .int .u8 0, .int .u16 0, .int .u32 0, .int .u32 0, .slice none 0 0] 27 (0, 0)) := by rw [← hV3, ← hz2]; exact heap_alloc_new _ _
  obtain ⟨BX, hBX⟩ : ∃ B, w.heap.size = B := ⟨_, rfl⟩
  obtain ⟨BF, hBF⟩ : ∃ B, w.heap.size + 1 = B := ⟨_, rfl⟩
  obtain ⟨BR, hBR⟩ : ∃ B, w.heap.size + 1 + 1 = B := ⟨_, rfl⟩
  have hw0 : w.heap.size ≤ BX ∧ w.heap.size ≤ BF ∧ w.heap.size ≤ BR := by omega
  have HX := hide (show V3.heap[BX]? = some (.cells #[.int .u8 (tt : Int), .int .u8 1, .int .u16 (id : Int), .int .u32 (S : Int), .int .u32 (D : Int), .slice da n dc] 27 (0, 0)) by rw [← hBX]; exact hp1_3)
  have NX : Hid (w.heap.size ≤ BX) := hide hw0.1
  have HF := hide (show V3.heap[BF]? = some (.cells #[.int .u8 (fp : Int), .int .u32 (fs : Int), .int .u32 (fd : Int), .int .u16 (ff : Int), .int .u16 (ft : Int)] 29 (0, 0)) by rw [← hBF]; exact hp2_3)
  have NF : Hid (w.heap.size ≤ BF) := hide hw0.2.1
  have HR := hide (show V3.heap[BR]? = some (.cells #[.int .u8 0, .int .u8 0, .int .u16 0, .int .u32 0, .int .u32 0, .slice none 0 0] 27 (0, 0)) by rw [← hBR]; exact hp3_3)
  have NR : Hid (w.heap.size ≤ BR) := hide hw0.2.2
  have nqX_F : Hid (BX ≠ BF) := hide (by omega)
  have nqX_R : Hid (BX ≠ BR) := hide (by omega)
  have nqF_R : Hid (BF ≠ BR) := hide (by omega)
  have AP := hide hLx
  have RP := hide (hLx.below hb3 (Nat.le_refl _))
  have HB := hide hb3
  have HE := hide (And.intro (And.intro trivial trivial) (And.intro hV1 ( And.intro hV2 ( And.intro hV3 (And.intro hBX ( And.intro hBF ( And.intro hBR (trivial))))))))
  clear hw0 hV1 hz1 hb1 hV2 hz2 hb2 hV3 hz3 hb3 hc2 hc3 hp1_1 hp1_2 hp1_3 hp2_2 hp2_3 hp3_3 hBX hBF hBR hLx
  go_enter Try.func11, Try.ntmps11
  go_upto_region 1 with (fail)
  rw [HE.out.2.1]
  try rw [HE.out.2.2.1]
  try rw [HE.out.2.2.2.1]
  try rw [HE.out.2.2.2.2.2.2.1]
  try rw [HE.out.2.2.2.2.2.1]
  try rw [HE.out.2.2.2.2.1]
  clear HE
  go_wp2_with ((refine ld_whole (o := ⟨some 9, _, _, _, _, _⟩) 27 (.tmp 2) rfl (by rfl) BX rfl #[.int .u8 (tt : Int), .int .u8 1, .int .u16 (id : Int), .int .u32 (S : Int), .int .u32 (D : Int), .slice da n dc] 27 HX.out Try.underlying27 (by kernel_rfl) ?_; try simp only [Act.put, List.setIfInBounds_toArray, List.set_cons_zero, List.set_cons_succ]))
  have ltT_X := hide (lt_of_block HX.out)
  have ltT_F := hide (lt_of_block HF.out)
  have ltT_R := hide (lt_of_block HR.out)
  have lbT := hide HB.out.size
  refine (HRD.out _ RP.out).mono ?_
  rintro e w1 ⟨a2, c2, rfl, o2, b⟩
  replace HX := hide (below_block b HX.out (Nat.le_refl _))
  replace HF := hide (below_block b HF.out (Nat.le_refl _))
  replace HR := hide (below_block b HR.out (Nat.le_refl _))
  replace RP := hide (RP.out.below b (Nat.le_refl _))
  replace HB := hide (HB.out.trans (b.mono HB.out.size))
  have OT := hide o2
  have neT_X := hide (own_ne_lt o2 ltT_X.out)
  clear ltT_X
  have neT_F := hide (own_ne_lt o2 ltT_F.out)
  clear ltT_F
  have neT_R := hide (own_ne_lt o2 ltT_R.out)
  clear ltT_R
  clear b  o2
  obtain ⟨g, rfl⟩ := slice_someT OT.out (by omega)
  have hgw := hide (Nat.le_trans lbT.out (OT.out.lt g rfl).1)
  obtain ⟨LC, hLC⟩ : ∃ c, (#[.int .u8 (yp : Int), .int .u32 (yd : Int), .int .u32 (ys : Int), .int .u16 (yt : Int), .int .u16 (yf : Int), .int .i64 3, .int .u16 0, .int .u16 0, .int .u32 0, .int .u32 0, .int .u8 0, .int .u16 0, .int .u16 0, .slice none 0 0, .slice none 0 0, .int .u16 0, .int .u16 0, .bool false, .slice none 0 0, .int .u8 (mp : Int), .int .u8 (mq : Int), .int .u32 (mr : Int), .slice (some ⟨g, 0, none⟩) m c2] : Array Value) = c := ⟨_, rfl⟩
  rw [hLC]
  have HLs := hide (show LC.size = 23 by rw [← hLC]; rfl)
  have HLo := hide (show LC.all (·.oneCell') = true by rw [← hLC]; kernel_rfl)
  have HL0 := hide (show LC[0]? = some (.int .u8 (yp : Int)) by rw [← hLC]; rfl)
  have HL1 := hide (show LC[1]? = some (.int .u32 (yd : Int)) by rw [← hLC]; rfl)
  have HL2 := hide (show LC[2]? = some (.int .u32 (ys : Int)) by rw [← hLC]; rfl)
  have HL3 := hide (show LC[3]? = some (.int .u16 (yt : Int)) by rw [← hLC]; rfl)
  have HL4 := hide (show LC[4]? = some (.int .u16 (yf : Int)) by rw [← hLC]; rfl)
  have HL5 := hide (show LC[5]? = some (.int .i64 3) by rw [← hLC]; rfl)
  have HL6 := hide (show LC[6]? = some (.int .u16 0) by rw [← hLC]; rfl)
  have HL7 := hide (show LC[7]? = some (.int .u16 0) by rw [← hLC]; rfl)
  have HL8 := hide (show LC[8]? = some (.int .u32 0) by rw [← hLC]; rfl)
  have HL9 := hide (show LC[9]? = some (.int .u32 0) by rw [← hLC]; rfl)
  have HL10 := hide (show LC[10]? = some (.int .u8 0) by rw [← hLC]; rfl)
  have HL11 := hide (show LC[11]? = some (.int .u16 0) by rw [← hLC]; rfl)
  have HL12 := hide (show LC[12]? = some (.int .u16 0) by rw [← hLC]; rfl)
  have HL13 := hide (show LC[13]? = some (.slice none 0 0) by rw [← hLC]; rfl)
  have HL14 := hide (show LC[14]? = some (.slice none 0 0) by rw [← hLC]; rfl)
  have HL15 := hide (show LC[15]? = some (.int .u16 0) by rw [← hLC]; rfl)
  have HL16 := hide (show LC[16]? = some (.int .u16 0) by rw [← hLC]; rfl)
  have HL17 := hide (show LC[17]? = some (.bool false) by rw [← hLC]; rfl)
  have HL18 := hide (show LC[18]? = some (.slice none 0 0) by rw [← hLC]; rfl)
  have HL19 := hide (show LC[19]? = some (.int .u8 (mp : Int)) by rw [← hLC]; rfl)
  have HL20 := hide (show LC[20]? = some (.int .u8 (mq : Int)) by rw [← hLC]; rfl)
  have HL21 := hide (show LC[21]? = some (.int .u32 (mr : Int)) by rw [← hLC]; rfl)
  have HL22 := hide (show LC[22]? = some (.slice (some ⟨g, 0, none⟩) m c2) by rw [← hLC]; rfl)
  clear hLC
  have hst := run_storeCells_new (P := Try.prog) w1 65 (#[.int .u8 0, .int .u32 0, .int .u32 0, .int .u16 0, .int .u16 0, .int .i64 0, .int .u16 0, .int .u16 0, .int .u32 0, .int .u32 0, .int .u8 0, .int .u16 0, .int .u16 0, .slice none 0 0, .slice none 0 0, .int .u16 0, .int .u16 0, .bool false, .slice none 0 0, .int .u8 0, .int .u8 0, .int .u32 0, .slice none 0 0]) LC (by rw [HLs.out]; kernel_rfl) (by rw [HLs.out]; rfl) HLo.out
  obtain ⟨w2, hwn, wb, HN1⟩ : ∃ W, w1.alloc (.cells LC 65) = W ∧ Below w1.heap.size w1 W ∧ Hid (W.heap[w1.heap.size]? = some (.cells LC 65 (0, 0))) := ⟨_, rfl, (Below.refl w1.heap.size w1).alloc (Nat.le_refl _) _, hide (heap_alloc_new w1 _)⟩
  obtain ⟨BL, hBn⟩ : ∃ B, w1.heap.size = B := ⟨_, rfl⟩
  rw [hBn] at HN1
  have HW := hide (And.intro hwn hBn)
  have HBo := HB
  have neT_L := hide (own_ne (L := BL) OT.out (Nat.le_of_eq hBn))
  have nqX_L := hide (blk_ne HX.out hBn)
  have nqF_L := hide (blk_ne HF.out hBn)
  have nqR_L := hide (blk_ne HR.out hBn)
  have hbt := wb
  clear hwn hBn
  replace HX := hide (below_block wb HX.out (Nat.le_refl _))
  replace HF := hide (below_block wb HF.out (Nat.le_refl _))
  replace HR := hide (below_block wb HR.out (Nat.le_refl _))
  replace RP := hide (RP.out.below wb (Nat.le_refl _))
  replace OT := hide (owns_below OT.out wb (Nat.le_refl _))
  replace HB := hide (HB.out.trans (wb.mono HB.out.size))
  have HL := HN1
  have NL := hide (show w.heap.size ≤ BL by rw [← HW.out.2]; exact HBo.out.size)
  clear wb hbt HN1 HBo
  go_upto_region 2 with (fail)
  clear hst
  rw [HW.out.1]
  try rw [HW.out.2]
  clear HW
  have hfe := HFE.out
  clear HFE
  have qF_0 : w2.cell? ⟨BF, 0, none⟩ = some (.int .u8 (fp : Int)) := cell_at HF.out 0 rfl
  have qL0 : w2.cell? ⟨BL, 0, none⟩ = some (.int .u8 (yp : Int)) := cell_at HL.out 0 HL0.out
  go_upto_region 6 with (fail)
  clear qF_0 qL0
  clear hfe
  have qF_1 : w2.cell? ⟨BF, 1, none⟩ = some (.int .u32 (fs : Int)) := cell_at HF.out 1 rfl
  have qL1 : w2.cell? ⟨BL, 1, none⟩ = some (.int .u32 (yd : Int)) := cell_at HL.out 1 HL1.out
  have qF_2 : w2.cell? ⟨BF, 2, none⟩ = some (.int .u32 (fd : Int)) := cell_at HF.out 2 rfl
  have qL2 : w2.cell? ⟨BL, 2, none⟩ = some (.int .u32 (ys : Int)) := cell_at HL.out 2 HL2.out
  have qX_3 : w2.cell? ⟨BX, 3, none⟩ = some (.int .u32 (S : Int)) := cell_at HX.out 3 rfl
  have qX_4 : w2.cell? ⟨BX, 4, none⟩ = some (.int .u32 (D : Int)) := cell_at HX.out 4 rfl
  go_still_tail 17, (by kernel_rfl)
  still_call (HM1.out _)
  repeat still_step
  still_call (HM2.out _)
  repeat still_step
  refine wpStill_nil ?_
  obtain ⟨w3, hVq, wb⟩ : ∃ V, w2.drew = V ∧ Below w2.heap.size w2 V := ⟨_, rfl, (Below.refl _ _).drew⟩
  change wpList _ _ _ _ _ w2.drew
  rw [hVq]
  clear hVq
  clear qF_1 qL1 qF_2 qL2 qX_3 qX_4
  replace HX := hide (below_block wb HX.out (Nat.le_refl _))
  replace HF := hide (below_block wb HF.out (Nat.le_refl _))
  replace HR := hide (below_block wb HR.out (Nat.le_refl _))
  replace HL := hide (below_block wb HL.out (Nat.le_refl _))
  replace RP := hide (RP.out.below wb (Nat.le_refl _))
  replace OT := hide (owns_below OT.out wb (Nat.le_refl _))
  replace HB := hide (HB.out.trans (wb.mono HB.out.size))
  clear wb
  have qX_3 : w3.cell? ⟨BX, 3, none⟩ = some (.int .u32 (S : Int)) := cell_at HX.out 3 rfl
  have qX_4 : w3.cell? ⟨BX, 4, none⟩ = some (.int .u32 (D : Int)) := cell_at HX.out 4 rfl
  have fz := free_at HX.out
  obtain ⟨w4, hVa, hVH, hVB, hVo, hVs⟩ := set1 (i := 3) (.int .u32 (S2 : Int)) (c' := #[.int .u8 (tt : Int), .int .u8 1, .int .u16 (id : Int), .int .u32 (S2 : Int), .int .u32 (D : Int), .slice da n dc]) HX.out HB.out NX.out (by kernel_rfl)
  obtain ⟨w5, hVb, hUH, hUB, hUo, hUs⟩ := set1 (i := 4) (.int .u32 (D2 : Int)) (c' := #[.int .u8 (tt : Int), .int .u8 1, .int .u16 (id : Int), .int .u32 (S2 : Int), .int .u32 (D2 : Int), .slice da n dc]) hVH hVB NX.out (by kernel_rfl)
  have HVn := hide (And.intro hVa hVb)
  clear hVa hVb
  have HG := hide (gb_trans (gb_part HB.out hVB hVo hVs) (gb_part hVB hUB hUo hUs))
  have HXn := hide hUH
  have HFn := hide ((hUo _ nqX_F.out.symm).trans ((hVo _ nqX_F.out.symm).trans HF.out))
  have HRn := hide ((hUo _ nqX_R.out.symm).trans ((hVo _ nqX_R.out.symm).trans HR.out))
  have HLn := hide ((hUo _ nqX_L.out.symm).trans ((hVo _ nqX_L.out.symm).trans HL.out))
  have RPn := hide (AP.out.below hUB (Nat.le_refl _))
  have OTn := hide (owns_kept OT.out HG.out neT_X.out)
  have HBn := hide hUB
  clear hVH hVB hVo hVs hUH hUB hUo hUs HG
  go_upto_region 7 with (fail)
  rw [HVn.out.1, HVn.out.2]
  clear HVn fz
  clear qX_3 qX_4
  replace HX := HXn
  clear HXn
  replace HF := HFn
  clear HFn
  replace HR := HRn
  clear HRn
  replace HL := HLn
  clear HLn
  replace RP := RPn
  clear RPn
  replace OT := OTn
  clear OTn
  replace HB := HBn
  clear HBn
  go_wp2_with ((refine ld_whole (o := ⟨some 42, _, _, _, _, _⟩) 29 (.tmp 3) rfl (by rfl) BF rfl #[.int .u8 (fp : Int), .int .u32 (fs : Int), .int .u32 (fd : Int), .int .u16 (ff : Int), .int .u16 (ft : Int)] 29 HF.out Try.underlying29 (by kernel_rfl) ?_; try simp only [Act.put, List.setIfInBounds_toArray, List.set_cons_zero, List.set_cons_succ]))
  have neTL : BL ≠ g := fun e => neT_L.out (by rw [e]; rfl)
  refine (HMQ.out _ BL LC _ g c2 HL.out HL0.out HL1.out HL2.out HL3.out HL4.out HL5.out HL22.out OT.out neTL (Nat.le_of_lt (Nat.lt_of_le_of_lt (OT.out.lt g rfl).1 (OT.out.lt g rfl).2))).mono ?_
  rintro e w6 ⟨rfl, oy, gy⟩
  have HBn := hide (HB.out.grown gy HB.out.size (fun k e => by cases e; exact hgw.out))
  replace HX := hide (gb_other gy HX.out (fun e => neT_X.out (by rw [e]; rfl)))
  replace HF := hide (gb_other gy HF.out (fun e => neT_F.out (by rw [e]; rfl)))
  replace HR := hide (gb_other gy HR.out (fun e => neT_R.out (by rw [e]; rfl)))
  replace HL := hide (gb_other gy HL.out (fun e => neT_L.out (by rw [e]; rfl)))
  replace OT := hide oy
  skip
  replace RP := hide (AP.out.below HBn.out (Nat.le_refl _))
  replace HB := HBn
  clear HBn oy gy HMQ neTL
  go_wp2_with ((refine ld_whole (o := ⟨some 44, _, _, _, _, _⟩) 27 (.tmp 2) rfl (by rfl) BX rfl #[.int .u8 (tt : Int), .int .u8 1, .int .u16 (id : Int), .int .u32 (S2 : Int), .int .u32 (D2 : Int), .slice da n dc] 27 HX.out Try.underlying27 (by kernel_rfl) ?_; try simp only [Act.put, List.setIfInBounds_toArray, List.set_cons_zero, List.set_cons_succ]))
  have ltZ_X := hide (lt_of_block HX.out)
  have ltZ_F := hide (lt_of_block HF.out)
  have ltZ_R := hide (lt_of_block HR.out)
  have ltZ_L := hide (lt_of_block HL.out)
  have lbZ := hide HB.out.size
  refine (write_icmp _ BL LC tt id S2 D2 da n dc mp mq mr (some ⟨g, 0, none⟩) m c2 (8 + m) _ HL.out HL19.out HL20.out HL21.out HL22.out (hide (fun W hW => HWT.out W (some ⟨g, 0, none⟩) c2 ((Lies.of_owns OT.out).below hW (Nat.le_refl _))))).mono ?_
  rintro e w7 ⟨a9, c9, rfl, o, b⟩
  replace HX := hide (below_block b HX.out (Nat.le_refl _))
  replace HF := hide (below_block b HF.out (Nat.le_refl _))
  replace HR := hide (below_block b HR.out (Nat.le_refl _))
  replace HL := hide (below_block b HL.out (Nat.le_refl _))
  replace RP := hide (RP.out.below b (Nat.le_refl _))
  replace OT := hide (owns_below OT.out b (Nat.le_refl _))
  replace HB := hide (HB.out.trans (b.mono HB.out.size))
  have OZ := hide o
  have neZ_X := hide (own_ne_lt o ltZ_X.out)
  clear ltZ_X
  have neZ_F := hide (own_ne_lt o ltZ_F.out)
  clear ltZ_F
  have neZ_R := hide (own_ne_lt o ltZ_R.out)
  clear ltZ_R
  have neZ_L := hide (own_ne_lt o ltZ_L.out)
  clear ltZ_L
  clear b  o
  have fz := free_at HX.out 5
  have qX_5 : w7.cell? ⟨BX, 5, none⟩ = some (.slice da n dc) := cell_at HX.out 5 rfl
  obtain ⟨w8, hVn, hVH, hVB, hVo, hVs⟩ := set1 (i := 5) (.slice a9 (8 + m) c9) (c' := #[.int .u8 (tt : Int), .int .u8 1, .int .u16 (id : Int), .int .u32 (S2 : Int), .int .u32 (D2 : Int), .slice a9 (8 + m) c9]) HX.out HB.out NX.out (by kernel_rfl)
  have HVn := hide hVn
  clear hVn
  have HG := hide (gb_part HB.out hVB hVo hVs)
  have HXn := hide hVH
  have HFn := hide ((hVo _ nqX_F.out.symm).trans HF.out)
  have HRn := hide ((hVo _ nqX_R.out.symm).trans HR.out)
  have HLn := hide ((hVo _ nqX_L.out.symm).trans HL.out)
  have RPn := hide (AP.out.below hVB (Nat.le_refl _))
  have OTn := hide (owns_kept OT.out HG.out neT_X.out)
  have OZn := hide (owns_kept OZ.out HG.out neZ_X.out)
  have HBn := hide hVB
  clear hVH hVB hVo hVs HG
  go_upto_region 9 with (fail)
  rw [HVn.out]
  clear HVn fz
  clear qX_5
  replace HX := HXn
  clear HXn
  replace HF := HFn
  clear HFn
  replace HR := HRn
  clear HRn
  replace HL := HLn
  clear HLn
  replace RP := RPn
  clear RPn
  replace OT := OTn
  clear OTn
  replace OZ := OZn
  clear OZn
  replace HB := HBn
  clear HBn
  go_wp2_with (first | (refine ld_whole (o := ⟨some 47, _, _, _, _, _⟩) 27 (.tmp 2) rfl (by rfl) BX rfl #[.int .u8 (tt : Int), .int .u8 1, .int .u16 (id : Int), .int .u32 (S2 : Int), .int .u32 (D2 : Int), .slice a9 (8 + m) c9] 27 HX.out Try.underlying27 (by kernel_rfl) ?_; try simp only [Act.put, List.setIfInBounds_toArray, List.set_cons_zero, List.set_cons_succ]) | (refine st_part (o := ⟨none, _, _, _, _, _⟩) 27 (.tmp 4) (.tmp 47) rfl (by rfl) BR 0 rfl #[.int .u8 0, .int .u8 0, .int .u16 0, .int .u32 0, .int .u32 0, .slice none 0 0] 27 #[.int .u8 (tt : Int), .int .u8 1, .int .u16 (id : Int), .int .u32 (S2 : Int), .int .u32 (D2 : Int), .slice a9 (8 + m) c9] rfl HR.out rfl (by kernel_rfl) (by kernel_rfl) HB.out NR.out ?_; rintro w9 w9h w9b w9o w9s; try simp only [Act.put, List.setIfInBounds_toArray, List.set_cons_zero, List.set_cons_succ]))
  rw [upd_whole (by rfl)] at w9h
  exact bodyPost_ret (v := .tuple #[.agg #[.int .u8 (tt : Int), .int .u8 1, .int .u16 (id : Int), .int .u32 (S2 : Int), .int .u32 (D2 : Int), .slice a9 (8 + m) c9], .int .i64 0]) (results_cell_tmp Try.results11 _ w9 BR _ _ _ _ rfl w9h Try.underlying27 rfl (by kernel_rfl) _ rfl) rfl ⟨a9, c9, rfl, owns_mono (owns_kept OZ.out (gb_part HB.out w9b w9o w9s) neZ_R.out) lbZ.out, w9b⟩
end Go.Proofs.Ytgggcapgaikbeaa

/- An error that tells of a packet: between which ends it goes. No program is named. -/
namespace Go.Proofs.Ytgggcapgaikbeaa
open Go.RowKit
set_option linter.unusedVariables false
set_option linter.unusedSimpArgs false
set_option maxRecDepth 100000
end Go.Proofs.Ytgggcapgaikbeaa

/- A packet that is let go between other ends: what it reads as then. No program is named. -/
namespace Go.Proofs.Ytgggcapgaikbeaa
open Go.RowKit
set_option linter.unusedVariables false
set_option linter.unusedSimpArgs false
set_option maxRecDepth 100000
theorem tcpG_0 (p q u v f g h : Nat) (os xs : List Int) (k : Nat) (hp : p ≤ 65535) : fld (tcpG p q u v f g h os xs k) 0 2 = p := fld_num 2 p _ (by omega)
theorem tcpG_2 (p q u v f g h : Nat) (os xs : List Int) (k : Nat) (hq : q ≤ 65535) : fld (tcpG p q u v f g h os xs k) 2 2 = q := by
  unfold tcpG; rw [fld_skip _ _ 0 2 2 (numB_len _ _), fld_num 2 q _ (by omega)]
theorem tcpG_4 (p q u v f g h : Nat) (os xs : List Int) (k : Nat) (hu : u ≤ 4294967295) : fld (tcpG p q u v f g h os xs k) 4 4 = u := by
  unfold tcpG; rw [fld_skip _ _ 2 2 4 (numB_len _ _), fld_skip _ _ 0 2 4 (numB_len _ _), fld_num 4 u _ (by omega)]
theorem tcpG_8 (p q u v f g h : Nat) (os xs : List Int) (k : Nat) (hv : v ≤ 4294967295) : fld (tcpG p q u v f g h os xs k) 8 4 = v := by
  unfold tcpG; rw [fld_skip _ _ 6 2 4 (numB_len _ _), fld_skip _ _ 4 2 4 (numB_len _ _), fld_skip _ _ 0 4 4 (numB_len _ _), fld_num 4 v _ (by omega)]
theorem tcpG_tail (p q u v f g h : Nat) (os xs : List Int) (k K j : Nat) : fld (tcpG p q u v f g h os xs k) (12 + K) j = fld ([hdB os.length, (f : Int)] ++ (numB 2 g ++ (numB 2 k ++ (numB 2 h ++ (os ++ xs))))) K j := by
  have e : tcpG p q u v f g h os xs k = (numB 2 p ++ (numB 2 q ++ (numB 4 u ++ numB 4 v))) ++ ([hdB os.length, (f : Int)] ++ (numB 2 g ++ (numB 2 k ++ (numB 2 h ++ (os ++ xs))))) := by simp [tcpG]
  rw [e, fld_skip _ _ K 12 j (by simp [numB_len])]
theorem tcpG_13 (p q u v f g h : Nat) (os xs : List Int) (k : Nat) : fld (tcpG p q u v f g h os xs k) 13 1 = f := by
  rw [tcpG_tail p q u v f g h os xs k 1 1]
  unfold fld valB
  simp
theorem tcpG_14 (p q u v f g h : Nat) (os xs : List Int) (k : Nat) (hg : g ≤ 65535) : fld (tcpG p q u v f g h os xs k) 14 2 = g := by
  rw [tcpG_tail p q u v f g h os xs k 2 2, fld_skip _ _ 0 2 2 (by rfl), fld_num 2 g _ (by omega)]
theorem tcpG_18 (p q u v f g h : Nat) (os xs : List Int) (k : Nat) (hh : h ≤ 65535) : fld (tcpG p q u v f g h os xs k) 18 2 = h := by
  rw [tcpG_tail p q u v f g h os xs k 6 2, fld_skip _ _ 4 2 2 (by rfl), fld_skip _ _ 2 2 2 (numB_len _ _), fld_skip _ _ 0 2 2 (numB_len _ _), fld_num 2 h _ (by omega)]
theorem tcpG_20 (p q u v f g h : Nat) (os xs : List Int) (k : Nat) : (tcpG p q u v f g h os xs k).drop 20 = os ++ xs := by
  have e : tcpG p q u v f g h os xs k = (numB 2 p ++ (numB 2 q ++ (numB 4 u ++ (numB 4 v ++ ([hdB os.length, (f : Int)] ++ (numB 2 g ++ (numB 2 k ++ numB 2 h))))))) ++ (os ++ xs) := by simp [tcpG]
  rw [e, List.drop_left' (by simp [numB_len])]
theorem tcpG_12 (p q u v f g h : Nat) (os xs : List Int) (k : Nat) (ho : os.length ≤ 40) : fld (tcpG p q u v f g h os xs k) 12 1 = 16 * (5 + os.length / 4) := by
  rw [tcpG_tail p q u v f g h os xs k 0 1]
  unfold hdB
  exact fld_byte _ _
theorem tcpG_psum (p q u v f g h : Nat) (os xs : List Int) (k : Nat) (hk : k ≤ 65535) : psum (tcpG p q u v f g h os xs k) = psum (tcpG p q u v f g h os xs 0) + k := by
  have e : ∀ j, tcpG p q u v f g h os xs j = (numB 2 p ++ (numB 2 q ++ (numB 4 u ++ (numB 4 v ++ ([hdB os.length, (f : Int)] ++ numB 2 g))))) ++ (numB 2 j ++ (numB 2 h ++ (os ++ xs))) := fun j => by simp [tcpG]
  rw [e k, e 0, psum_append _ _ (by simp [numB_len]), psum_append _ (numB 2 0 ++ _) (by simp [numB_len]), psum_append (numB 2 k) _ (by rw [numB_len]), psum_append (numB 2 0) _ (by rw [numB_len]), psum_num2 _ hk, psum_num2 0 (by omega)]
  omega
theorem tcpB_len (s d p q : Nat) (y : Seg) : (tcpB s d p q y).length = 20 + y.os.length + y.ds.length := tcpG_len ..
theorem tcpB_rng (s d p q : Nat) (y : Seg) (h : SegFit y) : ∀ x ∈ tcpB s d p q y, 0 ≤ x ∧ x ≤ 255 := by
  intro x hx
  exact tcpG_rng _ _ _ _ _ _ _ _ _ _ h.f h.o h.ob h.db x hx
theorem tcp_back (s d p q : Nat) (y : Seg) (h : SegFit y) (hs : s ≤ 4294967295) (hd : d ≤ 4294967295) (hp : p ≤ 65535) (hq : q ≤ 65535) :
    segCode s d (tcpB s d p q y) = 0 ∧ segOf s d (tcpB s d p q y) = ⟨p, q, y.u, y.v, y.f, y.g, y.h, y.os, y.ds⟩ := by
  have hl := tcpB_len s d p q y
  have h4 := h.o4
  have hsh : segHL (tcpB s d p q y) = 20 + y.os.length := by
    unfold segHL tcpB
    rw [tcpG_12 _ _ _ _ _ _ _ _ _ _ h.o]
    omega
  have hsum : csum (psB s d 6 (20 + y.os.length + y.ds.length) ++ tcpB s d p q y) = 0 := by
    have hr := csum_rng (psB s d 6 (20 + y.os.length + y.ds.length) ++ tcpG p q y.u y.v y.f y.g y.h y.os y.ds 0)
    have hk : ((tcpK s d p q y.u y.v y.f y.g y.h y.os y.ds).toNat : Int) = csum (psB s d 6 (20 + y.os.length + y.ds.length) ++ tcpG p q y.u y.v y.f y.g y.h y.os y.ds 0) := by unfold tcpK; omega
    have hpos := (psum_rng (psB s d 6 (20 + y.os.length + y.ds.length) ++ tcpG p q y.u y.v y.f y.g y.h y.os y.ds 0) (by
      intro x hx
      rcases List.mem_append.1 hx with h' | h'
      · exact psB_rng _ _ _ _ (by omega) x h'
      · exact tcpG_rng _ _ _ _ _ _ _ _ _ _ h.f h.o h.ob h.db x h')).1
    have e : csum (psB s d 6 (20 + y.os.length + y.ds.length) ++ tcpB s d p q y) = 65535 - f16 (psum (psB s d 6 (20 + y.os.length + y.ds.length) ++ tcpG p q y.u y.v y.f y.g y.h y.os y.ds 0) + csum (psB s d 6 (20 + y.os.length + y.ds.length) ++ tcpG p q y.u y.v y.f y.g y.h y.os y.ds 0)) := by
      unfold csum at *
      unfold tcpB
      rw [psum_append _ _ (by rw [psB_len]), tcpG_psum _ _ _ _ _ _ _ _ _ _ (by omega), hk, psum_append _ (tcpG p q y.u y.v y.f y.g y.h y.os y.ds 0) (by rw [psB_len])]
      congr 2
      omega
    rw [e]
    exact right_good _ _ hpos rfl
  have ho := h.o
  have hdd := h.d
  have hc : segCode s d (tcpB s d p q y) = 0 := by
    unfold segCode
    rw [hl, hsh, if_neg (by omega), if_neg (by omega), if_neg (by omega), if_pos hsum]
  refine ⟨hc, ?_⟩
  unfold segOf
  rw [if_pos hc, hsh]
  have d20 : (tcpB s d p q y).drop 20 = y.os ++ y.ds := tcpG_20 _ _ _ _ _ _ _ _ _ _
  have dhl : (tcpB s d p q y).drop (20 + y.os.length) = y.ds := by rw [← List.drop_drop, d20, List.drop_left' rfl]
  rw [d20, dhl, show 20 + y.os.length - 20 = y.os.length by omega, List.take_left' rfl]
  unfold tcpB
  rw [tcpG_0 _ _ _ _ _ _ _ _ _ _ hp, tcpG_2 _ _ _ _ _ _ _ _ _ _ hq, tcpG_4 _ _ _ _ _ _ _ _ _ _ h.u, tcpG_8 _ _ _ _ _ _ _ _ _ _ h.v, tcpG_13, tcpG_14 _ _ _ _ _ _ _ _ _ _ h.g, tcpG_18 _ _ _ _ _ _ _ _ _ _ h.h]
theorem udpB_G (s d p q : Nat) (y : Dgm) : udpB s d p q y = udpG p q y.ds (if y.pl then 0 else (udpK s d p q y.ds).toNat) := by
  unfold udpB
  split
  · exact udpZ_G _ _ _
  · exact udpS_G _ _ _ _ _
theorem udpB_len (s d p q : Nat) (y : Dgm) : (udpB s d p q y).length = 8 + y.ds.length := by rw [udpB_G, udpG_len]
theorem udpB_rng (s d p q : Nat) (y : Dgm) (h : DgmFit y) : ∀ x ∈ udpB s d p q y, 0 ≤ x ∧ x ≤ 255 := by rw [udpB_G]; exact udpG_rng _ _ _ _ h.db
theorem udp_back (s d p q : Nat) (y : Dgm) (h : DgmFit y) (hs : s ≤ 4294967295) (hd : d ≤ 4294967295) (hp : p ≤ 65535) (hq : q ≤ 65535) :
    dgmCode s d (udpB s d p q y) = 0 ∧ dgmOf s d (udpB s d p q y) = ⟨p, q, y.pl, y.ds⟩ := by
  have hl := udpB_len s d p q y
  have hk := udpK_rng s d p q y.ds
  have hkp := udpK_pos s d p q y.ds
  have hdd := h.d
  have f4 : fld (udpB s d p q y) 4 2 = 8 + y.ds.length := by rw [udpB_G, udpG_4 _ _ _ _ (by omega)]
  have f6 : fld (udpB s d p q y) 6 2 = if y.pl then 0 else (udpK s d p q y.ds).toNat := by rw [udpB_G, udpG_6 _ _ _ _ (by split <;> omega)]
  have ht : (udpB s d p q y).take (8 + y.ds.length) = udpB s d p q y := List.take_of_length_le (by omega)
  have hc : dgmCode s d (udpB s d p q y) = 0 := by
    unfold dgmCode
    rw [hl, f4, f6, ht, if_neg (by omega), if_neg (by omega), if_neg (by omega)]
    cases hpl : y.pl with
    | true => simp
    | false =>
      have := (udpK_iff s d s d p q y.ds hs hd hs hd hp hq h.db (by omega)).2 rfl
      rw [if_neg (by simp; omega)]
      have e : udpB s d p q y = udpS s d p q y.ds := by unfold udpB; rw [hpl]; rfl
      rw [e, if_pos this]
  refine ⟨hc, ?_⟩
  unfold dgmOf
  rw [if_pos hc, f4, f6]
  have d8 : (udpB s d p q y).drop 8 = y.ds := by rw [udpB_G]; exact udpG_8 _ _ _ _
  rw [d8, show 8 + y.ds.length - 8 = y.ds.length by omega, List.take_length]
  have f0 : fld (udpB s d p q y) 0 2 = p := by rw [udpB_G]; exact udpG_0 _ _ _ _ hp
  have f2 : fld (udpB s d p q y) 2 2 = q := by rw [udpB_G]; exact udpG_2 _ _ _ _ hq
  rw [f0, f2]
  obtain ⟨a, b, pl, ds⟩ := y
  cases pl with
  | true => simp
  | false =>
    have h9 : (udpK s d p q ds).toNat ≠ 0 := by dsimp only at hkp hk; omega
    simp [h9]
/-- The body of a packet with data, or a query, between the ends of g. -/
def rwB (P S D : Nat) (xs : List Int) (g : Fl) : List Int :=
  if P = 6 then tcpB g.s g.d g.f g.t (segOf S D xs) else if P = 17 then udpB g.s g.d g.f g.t (dgmOf S D xs) else icmpB (msgOf xs).p (msgOf xs).q (qryR (msgOf xs) g.f g.t) (msgOf xs).ds
/-- A flow between which a query may go. -/
def qFit (P : Nat) (xs : List Int) (g : Fl) : Prop := P = 1 → (if (msgOf xs).p = 8 then g.t = 0 else g.f = 0)
theorem qry_cases (xs : List Int) (h : icErr xs = 0) (hk : icKind xs ≠ 3) : msgCode xs = 0 ∧ isErr (msgOf xs).p = false ∧ (msgOf xs).q = 0 ∧ ((msgOf xs).p = 8 ∨ (msgOf xs).p = 0) := by
  unfold icErr at h
  by_cases hc : msgCode xs = 0
  · rw [if_pos hc] at h
    unfold icKind msgKind at hk
    rw [if_pos hc] at hk
    have hE : isErr (msgOf xs).p = false := by
      cases hh : isErr (msgOf xs).p with
      | false => rfl
      | true => rw [hh] at hk; simp at hk
    unfold msgOk at h
    rw [hE] at h
    have hq : qok (msgOf xs).p (msgOf xs).q = true := by
      by_cases hh : qok (msgOf xs).p (msgOf xs).q = true
      · exact hh
      · simp [hh] at h
    unfold qok at hq
    simp at hq
    exact ⟨hc, hE, hq.1, hq.2⟩
  · rw [if_neg hc] at h; exact absurd h hc
theorem rw_fit (P S D : Nat) (xs : List Int) (g : Fl) (hb : ∀ x ∈ xs, 0 ≤ x ∧ x ≤ 255) (he : ofErr P S D xs = 0) (hk : ofKind P S D xs ≠ 3) (hg : g.Ok) (hq : qFit P xs g) :
    (∀ x ∈ rwB P S D xs g, 0 ≤ x ∧ x ≤ 255) ∧ (rwB P S D xs g).length ≤ 1480 ∧ ofErr P g.s g.d (rwB P S D xs g) = 0 ∧ ofKind P g.s g.d (rwB P S D xs g) = ofKind P S D xs ∧ (g.p = P → ofFl P g.s g.d (rwB P S D xs g) = g) ∧ (∀ g2 : Fl, rwB P g.s g.d (rwB P S D xs g) g2 = rwB P S D xs g2) := by
  have he' := he
  unfold ofErr at he'
  by_cases h6 : P = 6
  · subst h6
    rw [if_pos rfl] at he'
    have hf := seg_fit S D xs hb he'
    have e : rwB 6 S D xs g = tcpB g.s g.d g.f g.t (segOf S D xs) := rfl
    obtain ⟨b1, b2⟩ := tcp_back g.s g.d g.f g.t (segOf S D xs) hf hg.s hg.d hg.f hg.t
    have o := hf.o
    have dd := hf.d
    have e1 : ofErr 6 g.s g.d (rwB 6 S D xs g) = 0 := by rw [e]; unfold ofErr; rw [if_pos rfl]; exact b1
    refine ⟨by rw [e]; exact tcpB_rng _ _ _ _ _ hf, by rw [e, tcpB_len]; omega, e1, ?_, ?_, ?_⟩
    · unfold ofKind; rw [e1, he, if_pos rfl, if_pos rfl, if_pos (.inl rfl), if_pos (.inl rfl)]
    · intro hp
      unfold ofFl
      rw [e1, if_pos rfl, if_pos rfl, e, b2, ← hp]
    · intro g2
      show tcpB g2.s g2.d g2.f g2.t (segOf g.s g.d (rwB 6 S D xs g)) = _
      rw [e, b2]
      rfl
  rw [if_neg h6] at he'
  by_cases h17 : P = 17
  · subst h17
    rw [if_pos rfl] at he'
    have hf := dgm_fit S D xs hb he'
    have e : rwB 17 S D xs g = udpB g.s g.d g.f g.t (dgmOf S D xs) := rfl
    obtain ⟨b1, b2⟩ := udp_back g.s g.d g.f g.t (dgmOf S D xs) hf hg.s hg.d hg.f hg.t
    have dd := hf.d
    have e1 : ofErr 17 g.s g.d (rwB 17 S D xs g) = 0 := by rw [e]; unfold ofErr; rw [if_neg (by omega), if_pos rfl]; exact b1
    refine ⟨by rw [e]; exact udpB_rng _ _ _ _ _ hf, by rw [e, udpB_len]; omega, e1, ?_, ?_, ?_⟩
    · unfold ofKind; rw [e1, he, if_pos rfl, if_pos rfl, if_pos (.inr rfl), if_pos (.inr rfl)]
    · intro hp
      unfold ofFl
      rw [e1, if_pos rfl, if_neg (by omega), if_pos rfl, e, b2, ← hp]
    · intro g2
      show udpB g2.s g2.d g2.f g2.t (dgmOf g.s g.d (rwB 17 S D xs g)) = _
      rw [e, b2]
      rfl
  rw [if_neg h17] at he'
  by_cases h1 : P = 1
  · subst h1
    rw [if_pos rfl] at he'
    have hk1 : icKind xs ≠ 3 := by
      unfold ofKind at hk
      rw [he, if_pos rfl, if_neg (by omega)] at hk
      exact hk
    obtain ⟨q1, q2, q3, q4⟩ := qry_cases xs he' hk1
    have hok := msgOf_ok xs hb
    have hRb : qryR (msgOf xs) g.f g.t ≤ 4294967295 := by unfold qryR; have := hg.f; have := hg.t; split <;> omega
    have e : rwB 1 S D xs g = icmpB (msgOf xs).p (msgOf xs).q (qryR (msgOf xs) g.f g.t) (msgOf xs).ds := rfl
    have b1 := icmpB_code (msgOf xs).p (msgOf xs).q (qryR (msgOf xs) g.f g.t) (msgOf xs).ds hok.1 hok.2.1 hok.2.2.2.1 hok.2.2.2.2
    have b2 := icmpB_of (msgOf xs).p (msgOf xs).q (qryR (msgOf xs) g.f g.t) (msgOf xs).ds hok.1 hok.2.1 hRb hok.2.2.2.1 hok.2.2.2.2
    rw [← e] at b1 b2
    have hqk : qok (msgOf xs).p (msgOf xs).q = true := by unfold qok; simp [q3, q4]
    have e0 : icErr (rwB 1 S D xs g) = 0 := by
      unfold icErr msgOk
      rw [if_pos b1, b2]
      dsimp only
      rw [q2, hqk]; rfl
    have e1 : ofErr 1 g.s g.d (rwB 1 S D xs g) = 0 := by unfold ofErr; rw [if_neg (by omega), if_neg (by omega), if_pos rfl]; exact e0
    have dd := hok.2.2.2.2
    refine ⟨by rw [e]; exact icmpB_rng _ _ _ _ hok.1 hok.2.1 hok.2.2.2.1, by rw [e, icmpB_len]; omega, e1, ?_, ?_, ?_⟩
    · unfold ofKind
      rw [e1, he, if_pos rfl, if_pos rfl, if_neg (by omega), if_neg (by omega)]
      unfold icKind msgKind
      rw [if_pos b1, if_pos q1, b2]
    · intro hp
      unfold ofFl
      rw [e1, if_pos rfl, if_neg (by omega), if_neg (by omega)]
      unfold icFl msgFl
      rw [if_pos b1, b2]
      dsimp only
      rw [q2]
      have hqq := hq rfl
      obtain ⟨gp, gs, gd, gf, gt⟩ := g
      have hgf := hg.f
      have hgt := hg.t
      dsimp only at *
      unfold qfrom qto qryR
      rw [q3]
      rcases q4 with q4 | q4
      · rw [q4] at hqq ⊢
        simp at hqq ⊢
        exact ⟨hp.symm, by omega, hqq.symm⟩
      · rw [q4] at hqq ⊢
        simp at hqq ⊢
        exact ⟨hp.symm, hqq.symm, by omega⟩
    · intro g2
      show icmpB (msgOf (rwB 1 S D xs g)).p (msgOf (rwB 1 S D xs g)).q (qryR (msgOf (rwB 1 S D xs g)) g2.f g2.t) (msgOf (rwB 1 S D xs g)).ds = _
      rw [b2]
      dsimp only
      have hR2 : qryR ⟨(msgOf xs).p, (msgOf xs).q, qryR (msgOf xs) g.f g.t, (msgOf xs).ds⟩ g2.f g2.t = qryR (msgOf xs) g2.f g2.t := by
        unfold qryR
        dsimp only
        omega
      rw [hR2]
      rfl
  · rw [if_neg h1] at he'; omega
end Go.Proofs.Ytgggcapgaikbeaa

/- Flows: of what packet an error tells that goes between other ends: plain. -/
namespace Go.Proofs.Ytgggcapgaikbeaa
open Go.RowKit
set_option linter.unusedVariables false
set_option linter.unusedSimpArgs false
theorem layK_num (xs : List Int) (K : Nat) (ns : List Nat) (hv : ∀ v ∈ ns, v ≤ 65535) : ∀ k j, j < k → k ≤ ns.length → K + 2 * k ≤ xs.length → fld (layK xs K ns k) (K + 2 * j) 2 = ns.getD j 0
  | 0, j, h, _, _ => by omega
  | k + 1, j, h, hk, hx => by
    have hl := layK_len xs K ns k (by omega)
    show fld (spl _ _ _) _ _ = _
    by_cases c : j = k
    · subst c
      have : ns.getD j 0 ≤ 65535 := by
        rw [List.getD_eq_getElem?_getD, List.getElem?_eq_getElem (by omega)]
        exact hv _ (List.getElem_mem _)
      exact numB2_fld _ this _ _ (by omega)
    · rw [fld_out _ _ _ _ _ (by rw [numB_len]; omega) (by left; omega)]
      exact layK_num xs K ns hv k j (by omega) (by omega) (by omega)
theorem rtH_fld (xs : List Int) (a b : Nat → Nat) (K k : Nat) (h : 28 ≤ xs.length) (hd : K + k ≤ 10 ∨ 20 ≤ K) : fld (rtH xs a b) K k = fld xs K k := fld_cong _ _ _ _ fun i h1 h2 => rtH_at xs a b i h (by omega)
theorem rtH_num (xs : List Int) (a b : Nat → Nat) (h : 28 ≤ xs.length) (hb : ∀ i, b i ≤ 65535) (j : Nat) (hj : j < 4) : fld (rtH xs a b) (12 + 2 * j) 2 = b j := by
  have hl := layK_len xs 12 [b 0, b 1, b 2, b 3] 4 (by omega)
  unfold rtH mnd
  rw [fld_out _ _ _ _ _ (by rw [numB_len]; omega) (by right; rw [numB_len]; omega), layK_num xs 12 _ (by intro v hv; simp at hv; rcases hv with rfl | rfl | rfl | rfl <;> exact hb _) 4 j hj (by simp) (by omega)]
  match j, hj with
  | 0, _ => rfl
  | 1, _ => rfl
  | 2, _ => rfl
  | 3, _ => rfl
/-- Ahead of what lies behind the head nothing else is changed. -/
theorem rtl_head (P n q r : Nat) (xs : List Int) (a b : Nat → Nat) (h : 28 ≤ xs.length) (hn : xs.length = n) (i : Nat) (hi : i < 20) : (rtl P n q r xs a b)[i]? = (rtH xs a b)[i]? := by
  have h0 := rtH_len xs a b h
  have h1 := layK_len (rtH xs a b) 24 [r] 1 (by omega)
  have h2 := layK_len (rtH xs a b) 20 [b 4, b 5] 2 (by omega)
  unfold rtl
  split
  · rw [mnd_at _ _ _ _ (by omega) (by omega), layK_at _ _ _ _ _ (by omega) (by omega)]
  split
  · rw [udpM_at _ _ _ (by omega) (by omega), layK_at _ _ _ _ _ (by omega) (by omega)]
  split
  · rw [mnd_at _ _ _ _ (by omega) (by omega), layK_at _ _ _ _ _ (by omega) (by omega)]
  · rw [layK_at _ _ _ _ _ (by omega) (by omega)]
theorem endF_le (a b c d : Nat) (ha : a ≤ 4294967295) (hb : b ≤ 4294967295) (hc : c ≤ 65535) (hd : d ≤ 65535) (i : Nat) : endF a b c d i ≤ 65535 := by
  unfold endF
  split <;> omega
theorem reT_flow (ds : List Int) (v : Fl) (h : tok ds ds.length = true) (hb : ∀ x ∈ ds, 0 ≤ x ∧ x ≤ 255) (hv : v.Ok) (hp : v.p = (tfl ds ds.length).p) (hq : (tfl ds ds.length).p = 1 → (if fld ds 20 1 = 8 then v.t = 0 else v.f = 0)) :
    (∀ x ∈ reT ds v, 0 ≤ x ∧ x ≤ 255) ∧ (reT ds v).length = ds.length ∧ tok (reT ds v) ds.length = true ∧ tfl (reT ds v) ds.length = v := by
  obtain ⟨g1, g2, g3⟩ := tok_p ds ds.length h
  have hlen : (reT ds v).length = ds.length := rtl_len _ _ _ _ _ _ _ g1 rfl
  have hrng : ∀ x ∈ reT ds v, 0 ≤ x ∧ x ≤ 255 := rtl_rng _ _ _ _ _ _ _ hb
  have hbb : ∀ i, endF v.s v.d v.f v.t i ≤ 65535 := endF_le _ _ _ _ hv.s hv.d hv.f hv.t
  have low : ∀ K k, K + k ≤ 20 → fld (reT ds v) K k = fld (rtH ds (endF (tfl ds ds.length).s (tfl ds ds.length).d (tfl ds ds.length).f (tfl ds ds.length).t) (endF v.s v.d v.f v.t)) K k := fun K k hk =>
    fld_cong _ _ _ _ fun i h1 h2 => rtl_head _ _ _ _ _ _ _ g1 rfl i (by omega)
  have e0 : fld (reT ds v) 0 1 = fld ds 0 1 := by rw [low _ _ (by omega), rtH_fld _ _ _ _ _ g1 (by omega)]
  have e6 : fld (reT ds v) 6 2 = fld ds 6 2 := by rw [low _ _ (by omega), rtH_fld _ _ _ _ _ g1 (by omega)]
  have e9 : fld (reT ds v) 9 1 = fld ds 9 1 := by rw [low _ _ (by omega), rtH_fld _ _ _ _ _ g1 (by omega)]
  have f0 := rtH_num ds (endF (tfl ds ds.length).s (tfl ds ds.length).d (tfl ds ds.length).f (tfl ds ds.length).t) (endF v.s v.d v.f v.t) g1 hbb 0 (by omega)
  have f1 := rtH_num ds (endF (tfl ds ds.length).s (tfl ds ds.length).d (tfl ds ds.length).f (tfl ds ds.length).t) (endF v.s v.d v.f v.t) g1 hbb 1 (by omega)
  have f2 := rtH_num ds (endF (tfl ds ds.length).s (tfl ds ds.length).d (tfl ds ds.length).f (tfl ds ds.length).t) (endF v.s v.d v.f v.t) g1 hbb 2 (by omega)
  have f3 := rtH_num ds (endF (tfl ds ds.length).s (tfl ds ds.length).d (tfl ds ds.length).f (tfl ds ds.length).t) (endF v.s v.d v.f v.t) g1 hbb 3 (by omega)
  rw [← low _ _ (by omega)] at f0 f1 f2 f3
  have b0 : endF v.s v.d v.f v.t 0 = v.s / 65536 := rfl
  have b1 : endF v.s v.d v.f v.t 1 = v.s % 65536 := rfl
  have b2 : endF v.s v.d v.f v.t 2 = v.d / 65536 := rfl
  have b3 : endF v.s v.d v.f v.t 3 = v.d % 65536 := rfl
  have e12 : fld (reT ds v) 12 4 = v.s := by
    rw [fld_four _ _ hrng (by omega)]
    simp only [Nat.mul_zero, Nat.add_zero, Nat.mul_one] at f0 f1
    rw [f0, f1, b0, b1]; omega
  have e16 : fld (reT ds v) 16 4 = v.d := by
    rw [fld_four _ _ hrng (by omega), show (16 : Nat) = 12 + 2 * 2 by rfl, f2, show 12 + 2 * 2 + 2 = 12 + 2 * 3 by rfl, f3, b2, b3]; omega
  have hP : (tfl ds ds.length).p = fld ds 9 1 := by rw [g3]
  -- behind the head
  have hh : thead ds ds.length = true := by unfold tok at h; rw [Bool.and_eq_true] at h; exact h.1
  have hi : tins ds = true := by unfold tok at h; rw [Bool.and_eq_true] at h; exact h.2
  have hh' : thead (reT ds v) ds.length = true := by unfold thead at hh ⊢; rw [e0, e6]; exact hh
  have h0 := rtH_len ds (endF (tfl ds ds.length).s (tfl ds ds.length).d (tfl ds ds.length).f (tfl ds ds.length).t) (endF v.s v.d v.f v.t) g1
  have key : tins (reT ds v) = true ∧ tfrom (reT ds v) = v.f ∧ tto (reT ds v) = v.t := by
    unfold tins tfrom tto
    rw [e9]
    unfold tins at hi
    by_cases c1 : fld ds 9 1 = 1
    · have hq := hq (hP.trans c1)
      rw [if_neg (by omega), if_pos c1] at hi
      have e20 : fld (reT ds v) 20 1 = fld ds 20 1 := by
        unfold reT rtl
        rw [if_pos (hP.trans c1)]
        unfold mnd
        rw [fld_out _ _ _ _ _ (by rw [numB_len, layK_len _ _ _ _ (by omega)]; omega) (by omega), layK_fld _ _ _ _ _ _ (by omega) (by omega), rtH_fld _ _ _ _ _ g1 (by omega)]
      have e21 : fld (reT ds v) 21 1 = fld ds 21 1 := by
        unfold reT rtl
        rw [if_pos (hP.trans c1)]
        unfold mnd
        rw [fld_out _ _ _ _ _ (by rw [numB_len, layK_len _ _ _ _ (by omega)]; omega) (by omega), layK_fld _ _ _ _ _ _ (by omega) (by omega), rtH_fld _ _ _ _ _ g1 (by omega)]
      have hr : (if fld ds 20 1 = 8 then v.f else v.t) ≤ 65535 := by have := hv.f; have := hv.t; split <;> omega
      have e24 : fld (reT ds v) 24 2 = if fld ds 20 1 = 8 then v.f else v.t := by
        unfold reT rtl
        rw [if_pos (hP.trans c1)]
        unfold mnd
        rw [fld_out _ _ _ _ _ (by rw [numB_len, layK_len _ _ _ _ (by omega)]; omega) (by rw [numB_len]; omega)]
        exact layK_num _ 24 _ (by intro x hx; rw [List.mem_singleton] at hx; rw [hx]; exact hr) 1 0 (by omega) (by simp) (by omega)
      have n6 : ¬ (fld ds 9 1 = 6 ∨ fld ds 9 1 = 17) := by omega
      simp only [if_neg n6, if_pos c1]
      rw [e20, e21, e24]
      refine ⟨hi, ?_⟩
      unfold qok at hi
      simp only [Bool.and_eq_true, Bool.or_eq_true, decide_eq_true_eq] at hi
      obtain ⟨i1, i2⟩ := hi
      unfold qfrom qto
      by_cases c8 : fld ds 20 1 = 8
      · rw [if_pos c8] at hq ⊢
        rw [if_pos ⟨c8, i1⟩, if_neg (by omega)]
        exact ⟨rfl, hq.symm⟩
      · rw [if_neg c8] at hq ⊢
        rw [if_neg (fun hc => c8 hc.1), if_pos ⟨by omega, i1⟩]
        exact ⟨hq.symm, rfl⟩
    · have c6 : fld ds 9 1 = 6 ∨ fld ds 9 1 = 17 := by
        by_cases c : fld ds 9 1 = 6 ∨ fld ds 9 1 = 17
        · exact c
        · rw [if_neg c, if_neg c1] at hi; cases hi
      rw [if_pos c6, if_pos c6, if_pos c6]
      have h2 := layK_len (rtH ds (endF (tfl ds ds.length).s (tfl ds ds.length).d (tfl ds ds.length).f (tfl ds ds.length).t) (endF v.s v.d v.f v.t)) 20 [endF v.s v.d v.f v.t 4, endF v.s v.d v.f v.t 5] 2 (by omega)
      have hlay : ∀ j, j < 2 → fld (reT ds v) (20 + 2 * j) 2 = [endF v.s v.d v.f v.t 4, endF v.s v.d v.f v.t 5].getD j 0 := by
        intro j hj
        have hk := layK_num (rtH ds (endF (tfl ds ds.length).s (tfl ds ds.length).d (tfl ds ds.length).f (tfl ds ds.length).t) (endF v.s v.d v.f v.t)) 20 [endF v.s v.d v.f v.t 4, endF v.s v.d v.f v.t 5] (by intro x hx; simp at hx; rcases hx with rfl | rfl <;> exact hbb _) 2 j hj (by simp) (by omega)
        rw [← hk]
        refine fld_cong _ _ _ _ fun i i1 i2 => ?_
        unfold reT rtl
        rw [if_neg (by omega)]
        split
        · rw [udpM_at _ _ _ (by omega) (by omega)]
        split
        · rw [mnd_at _ _ _ _ (by omega) (by omega)]
        · rfl
      exact ⟨rfl, hlay 0 (by omega), hlay 1 (by omega)⟩
  refine ⟨hrng, hlen, ?_, ?_⟩
  · unfold tok
    rw [hh', key.1]; rfl
  · unfold tfl
    rw [if_pos hh', e9, e12, e16, key.2.1, key.2.2, ← hP, ← hp]
theorem u16_and_nat (a b : Nat) (ha : a < 65536) (hb : b < 65536) : bits .and .u16 (a : Int) (b : Int) = ((a &&& b : Nat) : Int) := by
  have hx : a &&& b < 2 ^ 16 := Nat.and_lt_two_pow _ (by omega)
  have h1 : (BitVec.ofInt 16 (a : Int)).toNat = a := by
    rw [BitVec.ofInt_natCast, BitVec.toNat_ofNat]; exact Nat.mod_eq_of_lt (by omega)
  have h2 : (BitVec.ofInt 16 (b : Int)).toNat = b := by
    rw [BitVec.ofInt_natCast, BitVec.toNat_ofNat]; exact Nat.mod_eq_of_lt (by omega)
  show IntKind.u16.wrap ((BitVec.ofInt 16 (a : Int) &&& BitVec.ofInt 16 (b : Int)).toNat : Int) = _
  rw [BitVec.toNat_and, h1, h2, IntKind.wrap_u16]
  omega
end Go.Proofs.Ytgggcapgaikbeaa
