/- A mapping lasts as long as its lease. -/
import Derived.Test.YtijjgnkfddklgaaMSpk
import Derived.Test.YtijjgnkfddklgaaFrame
import Derived.Test.YtijjgnkfddklgaaRows
import Derived.LaidMore
import Derived.Deep.Slices
import Derived.OpenShut
namespace Go.Proofs.Ytijjgnkfddklgaa
open Go.RowKit Go.Deep Go.Shelf
set_option linter.unusedVariables false
set_option linter.unusedSimpArgs false
set_option maxRecDepth 100000
theorem ls_ends (l now : Int) (h1 : 1 ≤ l) (h2 : l ≤ 604800) (h3 : 0 ≤ now) (h4 : now ≤ 2000000) : endsE l now = now + l := by
  unfold endsE leaseE
  rw [if_neg (by omega)]
  omega
theorem ls_again (a : Option Addr) (cap : Nat) (e lease : Int) (hl : lease ≤ 604800) : addV (plG a cap) [(k80, mA e)] hA k80 80 (hA : Int) lease = 0 := by
  unfold addV
  rw [ref_A a cap k80 rfl lease hl]
  have h1 : conflB (k0 k80) 80 (hA : Int) [(k80, mA e)] = false := by rfl
  unfold hinV
  rw [h1]
  rfl
theorem ins_two (e f : Int) : insL tM k80 (mA f) [(k80, mA e)] = [(k80, mA f)] := rfl
/-- Add, of the laws' mapping, by its host. -/
theorem add80 (w : World) (sp tt : Nat) (a : Option Addr) (cap : Nat) (up : Int) (L : ML) (lease now : Int) (h : SA w sp tt (plG a cap) up L) (hL : L = [] ∨ ∃ e, L = [(k80, mA e)]) (hl : 1 ≤ lease ∧ lease ≤ 604800) (hn : 0 ≤ now ∧ now ≤ 2000000) :
    Calls Try.prog 20 #[.pointer (some ⟨sp, 0, none⟩), .int .u32 3232235783, .agg #[.int .u8 6, .int .u16 80, .int .u16 80, .int .u32 0, .int .u32 3232235783, .bool true, .string ⟨#[]⟩, .int .u64 0], .int .u64 lease, .int .u64 now] w fun e w' => e = .returned (.int .i64 0) ∧ SA w' sp tt (plG a cap) (IntKind.u32.wrap (up + 1)) [(k80, mA (now + lease))] ∧ OnlyS (fun q => q = sp ∨ q = tt) w w' := by
  have had : Calls Try.prog 20 #[.pointer (some ⟨sp, 0, none⟩), .int .u32 3232235783, .agg #[.int .u8 6, .int .u16 80, .int .u16 80, .int .u32 0, .int .u32 3232235783, .bool true, .string ⟨#[]⟩, .int .u64 0], .int .u64 lease, .int .u64 now] w (AddAns sp tt (plG a cap) up L hA k80 80 (hA : Int) true ⟨#[]⟩ lease now w) := madd_any w sp tt (plG a cap) up L hA k80 80 (hA : Int) true ⟨#[]⟩ 0 lease now h (by rcases hL with rfl | ⟨e, rfl⟩ <;> simp) (by decide) (by omega) (by omega) (by decide)
  refine had.mono ?_
  rintro e w' ⟨he, hs, _, ho⟩
  have hv : addV (plG a cap) L hA k80 80 (hA : Int) lease = 0 := by
    rcases hL with rfl | ⟨e, rfl⟩
    · exact sp1 a cap lease hl.2
    · exact ls_again a cap e lease hl.2
  rw [hv] at he
  have hs2 := hs hv
  rw [ls_ends lease now hl.1 hl.2 hn.1 hn.2] at hs2
  have hi : insL tM k80 (mkE k80 80 (hA : Int) true ⟨#[]⟩ (now + lease)) L = [(k80, mA (now + lease))] := by
    rcases hL with rfl | ⟨e, rfl⟩
    · rfl
    · exact ins_two e (now + lease)
  rw [hi] at hs2
  exact ⟨he, hs2, ho⟩
/-- What is new may turn. -/
def BW (w : World) (sp tt : Nat) : Prop := w.heap.size ≤ sp ∧ w.heap.size ≤ tt
theorem BW.a {w0 w w' : World} {sp tt : Nat} (h : BW w0 sp tt) (hb : Below w0.heap.size w0 w) (ho : OnlyS (fun q => q = sp ∨ q = tt) w w') : Below w0.heap.size w0 w' :=
  ((OnlyS.of hb).trans (X := fun q => w0.heap.size ≤ q) ho (fun i hi hy => by rcases hy with rfl | rfl; exact h.1; exact h.2)).below (fun k hk => hk) (Nat.le_refl _)
theorem BW.e {w0 w w' : World} {sp tt : Nat} (h : BW w0 sp tt) (hb : Below w0.heap.size w0 w) (ho : OnlyS (fun q => q = sp ∨ XT tt w.heap.size q) w w') : Below w0.heap.size w0 w' :=
  ((OnlyS.of hb).trans (X := fun q => w0.heap.size ≤ q) ho (fun i hi hy => by rcases hy with rfl | rfl | hy; exact h.1; exact h.2; exact Nat.le_trans hb.size hy)).below (fun k hk => hk) (Nat.le_refl _)
set_option maxHeartbeats 4000000 in
theorem mapsLasts_any (w : World) (l0 l1 at0 : Int) (h0 : 0 ≤ l0 ∧ l0 ≤ 18446744073709551615) (h1 : 0 ≤ l1 ∧ l1 ≤ 18446744073709551615) (h2 : 0 ≤ at0 ∧ at0 ≤ 18446744073709551615) :
    Calls Try.prog 5 #[.agg #[.int .u64 l0, .int .u64 l1], .int .u64 at0] w fun e w' => e = .returned (.bool true) ∧ Below w.heap.size w w' := by
  obtain ⟨W, hW, hb, hx⟩ : ∃ W, w.alloc (.cells #[.int .u64 l0, .int .u64 l1] 56) = W ∧ Below w.heap.size w W ∧ W.heap[w.heap.size]? = some (.cells #[.int .u64 l0, .int .u64 l1] 56 (0, 0)) := ⟨_, rfl, (Below.refl _ _).alloc (Nat.le_refl _) _, heap_alloc_new _ _⟩
  obtain ⟨B, hB⟩ : ∃ B, w.heap.size = B := ⟨_, rfl⟩
  rw [hB] at hx
  have HE := hide (And.intro hW hB)
  have HB := hide hb
  have HX := hide hx
  have HSK := hide (speaks_any W)
  obtain ⟨a, ha⟩ : ∃ a, 1 + l0 % 604800 = a := ⟨_, rfl⟩
  obtain ⟨b, hb'⟩ : ∃ a, 1 + l1 % 604800 = a := ⟨_, rfl⟩
  have ha1 : 1 ≤ a ∧ a ≤ 604800 := by omega
  have hb1 : 1 ≤ b ∧ b ≤ 604800 := by omega
  obtain ⟨r, hr⟩ : ∃ r, at0 % a = r := ⟨_, rfl⟩
  have hr1 : 0 ≤ r ∧ r < a := by rw [← hr]; exact ⟨Int.emod_nonneg _ (by omega), Int.emod_lt_of_pos _ (by omega)⟩
  have HA := hide ha
  have HBQ := hide hb'
  have HR := hide hr
  have HH := hide (And.intro h0 (And.intro h1 h2))
  clear hW hB hb hx ha hb' hr h0 h1 h2
  go_enter Try.func5, Try.ntmps5
  go_upto_region 1 with (fail)
  rw [HE.out.1]
  try rw [HE.out.2]
  clear HE
  go_wp2_with fail
  refine HSK.out.mono ?_
  rintro e w1 ⟨rfl, b1⟩
  have HB1 := hide (HB.out.trans (b1.mono HB.out.size))
  have HX1 := hide (below_block b1 HX.out (Nat.le_refl _))
  have HPL := hide (plain_any w1)
  clear b1 HSK HX HB
  go_wp2_with fail
  refine HPL.out.mono ?_
  rintro e w2 ⟨rfl, b2⟩
  have HB2 := hide (HB1.out.trans (b2.mono HB1.out.size))
  have HX2 := hide (below_block b2 HX1.out (Nat.le_refl _))
  have HNW := hide (snew_any pl w2 none [] 0 0 (fun h => absurd rfl h) rfl (by omega) (by decide))
  clear b2 HPL HX1 HB1
  obtain ⟨pc, hpc⟩ : ∃ c, pl.cells none 0 0 = c := ⟨_, rfl⟩
  rw [hpc] at HNW ⊢
  clear hpc
  go_wp2_with fail
  refine HNW.out.mono ?_
  rintro e w3 ⟨sp, tt, a', c', rfl, hs, hb, h1, h2⟩
  have HS3 := hide hs
  have HB3 := hide (HB2.out.trans (hb.mono HB2.out.size))
  have hx3 := below_block hb HX2.out (Nat.le_refl _)
  have HSP := hide (show BW w sp tt from ⟨Nat.le_trans HB2.out.size h1, Nat.le_trans HB2.out.size h2⟩)
  obtain ⟨x0, x1, xf⟩ := two_cells hx3
  clear hs hb h1 h2 HNW hx3 HX2 HB2
  have hh0 := HH.out.1
  have hh1 := HH.out.2.1
  have hw1 : IntKind.u64.wrap (1 + l0.tmod 604800) = a := by rw [Int.tmod_eq_emod_of_nonneg hh0.1, HA.out, IntKind.wrap_u64]; omega
  have hw2 : IntKind.u64.wrap (1 + l1.tmod 604800) = b := by rw [Int.tmod_eq_emod_of_nonneg hh1.1, HBQ.out, IntKind.wrap_u64]; omega
  clear hh0 hh1
  go_wp2_with fail
  go_quiet (fail)
  obtain ⟨w4, hw4⟩ : ∃ q, w3.drewN nq = q := ⟨_, rfl⟩
  have hb4 : Below w3.heap.size w3 w4 := by rw [← hw4]; exact bdrewN (Below.refl _ _) _
  rw [hw4]
  have HS4 := hide (HS3.out.below hb4)
  have HB4 := hide (HB3.out.trans (hb4.mono HB3.out.size))
  have HEN := hide (entry_any w4 3232235783 80)
  clear hw4 hb4 hw1 hw2 x0 x1 xf HS3 HB3
  go_wp2_with fail
  refine HEN.out.mono ?_
  rintro e w5 ⟨rfl, b5⟩
  have hsz := b5.size
  have HS5 := hide (HS4.out.below b5)
  have HB5 := hide (HB4.out.trans (b5.mono HB4.out.size))
  obtain ⟨V, hV, hvb, hv⟩ : ∃ V, w5.alloc (.cells #[.int .u8 6, .int .u16 80, .int .u16 80, .int .u32 0, .int .u32 3232235783, .bool true, .string ⟨#[]⟩, .int .u64 0] 40) = V ∧ Below w5.heap.size w5 V ∧ V.heap[w5.heap.size]? = some (.cells #[.int .u8 6, .int .u16 80, .int .u16 80, .int .u32 0, .int .u32 3232235783, .bool true, .string ⟨#[]⟩, .int .u64 0] 40 (0, 0)) := ⟨_, rfl, (Below.refl _ _).alloc (Nat.le_refl _) _, heap_alloc_new _ _⟩
  obtain ⟨eb, heb⟩ : ∃ q, w5.heap.size = q := ⟨_, rfl⟩
  rw [heb] at hv
  have HV := hide (And.intro hV heb)
  have HSV := hide (HS5.out.below hvb)
  have HBV := hide (HB5.out.trans (hvb.mono HB5.out.size))
  have HEB := hide hv
  have HNE := hide (show eb ≠ sp ∧ eb ≠ tt from ⟨fun e => by rw [e, HSV.out.st.blk] at hv; injection hv with hv; injection hv with _ h2 _; exact absurd h2 (by decide), fun e => by
    obtain ⟨ds, h1⟩ := tab_hd HSV.out.st.tab
    rw [e, h1] at hv; injection hv with hv; injection hv with _ h2 _; exact absurd h2 (by decide)⟩)
  have HKE := hide (fun (w w' : World) (h : w.heap[eb]? = some (Obj.cells #[.int .u8 6, .int .u16 80, .int .u16 80, .int .u32 0, .int .u32 3232235783, .bool true, .string ⟨#[]⟩, .int .u64 0] 40 (0, 0))) (ho : OnlyS (fun q => q = sp ∨ q = tt) w w') => ho.heap h (by rintro (e | e); exact HNE.out.1 e; exact HNE.out.2 e))
  have HKX := hide (fun (w w' : World) (h : w.heap[eb]? = some (Obj.cells #[.int .u8 6, .int .u16 80, .int .u16 80, .int .u32 0, .int .u32 3232235783, .bool true, .string ⟨#[]⟩, .int .u64 0] 40 (0, 0))) (ho : OnlyS (fun q => q = sp ∨ XT tt w.heap.size q) w w') => ho.heap h (by rintro (e | e | e); exact HNE.out.1 e; exact HNE.out.2 e; have := lt_of_block h; omega))
  obtain ⟨e0, e1, e2, e3, e4, e5, e6, e7, ef⟩ := C.val_cells hv
  clear hV heb hvb hv b5 HEN HS4 HB4 hsz HS5 HB5
  have HAD := hide (add80 V sp tt a' c' 0 [] a 10 HSV.out (.inl rfl) ha1 (by omega))
  go_upto_region 8 with (fail)
  rw [HV.out.1, HV.out.2]
  go_wp2_with fail
  refine HAD.out.mono ?_
  rintro e v1 ⟨rfl, hs, ho⟩
  rw [show IntKind.u32.wrap (0 + 1) = 1 by rfl] at hs
  have HS6 := hide hs
  have HB6 := hide (HSP.out.a HBV.out ho)
  have HE6 := hide (HKE.out _ _ HEB.out ho)
  have HEX := hide (exp_stay v1 sp tt (plG a' c') 1 k80 (mA (10 + a)) (9 + a) hs (by show 9 + a < 10 + a; omega))
  clear hs ho HAD HSV HBV HEB e0 e1 e2 e3 e4 e5 e6 e7 ef
  go_wp2_with fail
  refine HEX.out.mono ?_
  rintro e v2 ⟨rfl, hs, ho⟩
  have HS7 := hide hs
  have HB7 := hide (HSP.out.e HB6.out ho)
  have HE7 := hide (HKX.out _ _ HE6.out ho)
  have HLE := hide (slen_any v2 sp tt _ 1 _ hs.st)
  clear hs ho HEX HS6 HB6 HE6
  go_wp2_with fail
  refine HLE.out.mono ?_
  rintro e v3 ⟨rfl, hq⟩
  obtain rfl := hq.symm
  have hrm1 : at0.tmod a = r := by rw [Int.tmod_eq_emod_of_nonneg HH.out.2.2.1, HR.out]
  have hrm2 : at0 % a = r := HR.out
  have HEX := hide (exp_stay v2 sp tt (plG a' c') 1 k80 (mA (10 + a)) (10 + r) HS7.out (by show 10 + r < 10 + a; omega))
  clear HLE
  go_wp2_with fail
  refine HEX.out.mono ?_
  rintro e v4 ⟨rfl, hs, ho⟩
  have HS8 := hide hs
  have HB8 := hide (HSP.out.e HB7.out ho)
  have he8 := HKX.out _ _ HE7.out ho
  have HE8 := hide he8
  obtain ⟨e0, e1, e2, e3, e4, e5, e6, e7, ef⟩ := C.val_cells he8
  have HAD := hide (add80 v4 sp tt a' c' 1 [(k80, mA (10 + a))] b (10 + r) hs (.inr ⟨_, rfl⟩) hb1 (by omega))
  clear hs ho HEX HS7 HB7 HE7 he8 hrm1 hrm2
  go_wp2_with fail
  refine HAD.out.mono ?_
  rintro e v5 ⟨rfl, hs, ho⟩
  rw [show IntKind.u32.wrap (1 + 1) = 2 by rfl] at hs
  have HS9 := hide hs
  have HB9 := hide (HSP.out.a HB8.out ho)
  have HEX := hide (exp_stay v5 sp tt (plG a' c') 2 k80 (mA (10 + r + b)) (10 + r + b - 1) hs (by show 10 + r + b - 1 < 10 + r + b; omega))
  clear hs ho HAD HS8 HB8 HE8 e0 e1 e2 e3 e4 e5 e6 e7 ef
  go_wp2_with fail
  refine HEX.out.mono ?_
  rintro e v6 ⟨rfl, hs, ho⟩
  have HS10 := hide hs
  have HB10 := hide (HSP.out.e HB9.out ho)
  have HLE := hide (slen_any v6 sp tt _ 2 _ hs.st)
  clear hs ho HEX HS9 HB9
  go_wp2_with fail
  refine HLE.out.mono ?_
  rintro e v7 ⟨rfl, hq⟩
  obtain rfl := hq.symm
  have HEX := hide (exp_gone v6 sp tt (plG a' c') 2 k80 (mA (10 + r + b)) (10 + r + b) HS10.out (by show 10 + r + b ≤ 10 + r + b; omega))
  clear HLE
  go_wp2_with fail
  refine HEX.out.mono ?_
  rintro e v8 ⟨rfl, hs, ho⟩
  rw [show IntKind.u32.wrap (2 + 1) = 3 by rfl] at hs
  have HB11 := hide (HSP.out.e HB10.out ho)
  have HLE := hide (slen_any v8 sp tt _ 3 _ hs.st)
  have HUP := hide (upd_any v8 sp tt _ 3 _ hs.st)
  clear hs ho HEX HS10 HB10
  go_wp2_with fail
  refine HLE.out.mono ?_
  rintro e v9 ⟨rfl, hq⟩
  obtain rfl := hq.symm
  clear HLE
  go_wp2_with fail
  refine HUP.out.mono ?_
  rintro e v10 ⟨rfl, hq⟩
  obtain rfl := hq.symm
  clear HUP
  go_wp2_with fail
  go_ret
  exact ⟨rfl, HB11.out⟩
end Go.Proofs.Ytijjgnkfddklgaa
namespace Go.Proofs.Ytijjgnkfddklgaa
open Go.RowKit Go.Deep
open Go.ChangeShapes Go.WideShapes Go.ChangeAt
set_option linter.unusedVariables false
set_option maxRecDepth 100000
section
variable {H : Type} {enc : TypeId × Value → H} {W : World} {base : Nat} {held : Bool}
theorem okWide_array {P : Program} {w : World} {r : Reach} {b0 n : Nat} {t e : TypeId} {v : Value} (ht : P.underlying t = some (.array n e)) (h : Value.okWide P w r b0 t v) : ∃ cs, v = .agg cs ∧ cs.size = P.cellsOf t := by
  simp only [Value.okWide, ht] at h
  obtain ⟨cs, h1, h2, _⟩ := h
  exact ⟨cs, h1, h2⟩
theorem open_pair64 {r : Reach} {b0 : Nat} {v : Value} {dd : DataW H} {p : List MemPlace} (hv : Value.okWide Try.prog W r b0 56 v) (h : DataW.Trod enc Try.prog W base (fun _ => true) held 56 v dd p) :
    ∃ (x0 x1 : Int), v = .agg #[.int .u64 x0, .int .u64 x1] ∧ (0 ≤ x0 ∧ x0 ≤ 18446744073709551615) ∧ (0 ≤ x1 ∧ x1 ≤ 18446744073709551615) := by
  obtain ⟨cs, rfl, hsz⟩ := okWide_array Try.underlying56 hv
  have hC : Try.prog.cellsOf 56 = 2 := by kernel_rfl
  obtain ⟨l⟩ := cs
  have hl : l.length = 2 := by simpa [hC] using hsz
  obtain ⟨fuel, hf⟩ := h
  obtain ⟨xs, m, _, hx, hlen, hn, hel⟩ := DataW.trod_array Try.underlying56 hf
  have hc5 : Try.prog.cellsOf 35 = 1 := by kernel_rfl
  rw [hc5] at hel
  match l, hl with
  | [c0, c1], _ =>
    match xs, hlen with
    | [y0, y1], _ =>
      have g0 := hel 0 (by omega)
      have g1 := hel 1 (by omega)
      simp only [Value.cells] at g0 g1
      obtain ⟨x0, e0, _, w0⟩ := DataW.trod_int Try.underlying35 (show DataW.trod enc Try.prog W base (fun _ => true) held m 35 [c0] = some y0 from g0)
      obtain ⟨x1, e1, _, w1⟩ := DataW.trod_int Try.underlying35 (show DataW.trod enc Try.prog W base (fun _ => true) held m 35 [c1] = some y1 from g1)
      have b0 := bounds_u64 w0
      have b1 := bounds_u64 w1
      simp only [List.cons.injEq, and_true] at e0 e1
      subst e0 e1
      exact ⟨x0, x1, rfl, b0, b1⟩
end
end Go.Proofs.Ytijjgnkfddklgaa
