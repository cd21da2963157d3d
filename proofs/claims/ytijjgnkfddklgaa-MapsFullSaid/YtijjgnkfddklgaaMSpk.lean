/- A new set with its configuration; the small functions of the laws. -/
import Derived.Test.YtijjgnkfddklgaaMAny
import Derived.Test.YtijjgnkfddklgaaMExp
namespace Go.Proofs.Ytijjgnkfddklgaa
open Go.RowKit Go.Deep Go.Shelf
set_option linter.unusedVariables false
set_option linter.unusedSimpArgs false
set_option maxRecDepth 100000
def cgOf (c : Cfg) (a : Option Addr) (cap : Nat) (fs : List Fwd) : CG := ⟨c.cells a fs.length cap, a, fs, fs.length, cap, c.lan, c.nb, c.mm⟩
theorem cgOf_ok (c : Cfg) (a : Option Addr) (cap : Nat) (fs : List Fwd) (hf : fs.length ≤ 1000000) (hl : c.lan ≤ 4294967295) : (cgOf c a cap fs).Ok := ⟨⟨rfl, rfl⟩, ⟨rfl, rfl, rfl⟩, rfl, rfl, hf, hl⟩
theorem fw_of_own {w : World} {base n cc : Nat} {a : Option Addr} {fs : List Fwd} (h : w.ownsRow base 52 4 (.slice a n cc) n (flat fs)) (hl : fs.length = n) :
    FwAt w a fs ∧ ∀ ad, fs ≠ [] → a = some ad → ∃ cs f, w.heap[ad.block]? = some (.cells cs 52 f) := by
  have h0 := h
  by_cases hne : fs = []
  · exact ⟨fun h1 => absurd hne h1, fun ad h1 => absurd hne h1⟩
  · have hn0 : n ≠ 0 := by intro e; rw [e] at hl; exact hne (List.length_eq_zero_iff.1 hl)
    rcases h.2 with ⟨h1, h2⟩ | ⟨g', cap, cur, h1, hb, hh, _, _, hsz, ht⟩
    · exact absurd h2 hn0
    · obtain ⟨rfl, rfl⟩ : a = some ⟨g', 0, none⟩ ∧ cc = cap := by simpa using h1
      refine ⟨fun _ => ⟨g', 0, rfl, lt_of_block hh, fun i f hi => ?_⟩, fun ad _ e => by cases e; exact ⟨_, _, hh⟩⟩
      have hil : i < fs.length := (List.getElem?_eq_some_iff.1 hi).1
      have k : ∀ j, j < 4 → w.cell? ⟨g', 0 + i * 4 + j, none⟩ = (fwV f)[j]? := fun j hj => by
        have hc := h0.cellAt (i * 4 + j) (by omega)
        rw [cell_of_row w g' _ cur _ _ hh, flat_at fs i j hj, hi] at hc
        rw [show 0 + i * 4 + j = i * 4 + j by omega, cell_of_row w g' _ cur _ _ hh]
        exact hc
      exact ⟨(k 0 (by omega)).trans rfl, (k 1 (by omega)).trans rfl, (k 2 (by omega)).trans rfl, (k 3 (by omega)).trans rfl⟩
theorem snew_any (c : Cfg) (w : World) (a : Option Addr) (fs : List Fwd) (n cap : Nat) (h : FwAt w a fs) (hl : fs.length = n) (hn : n ≤ 1000000) (hlan : c.lan ≤ 4294967295) :
    Calls Try.prog 10 #[.agg (c.cells a n cap)] w fun e w' => ∃ sp tt a' c', e = .returned (.pointer (some ⟨sp, 0, none⟩)) ∧ SA w' sp tt (cgOf c a' c' fs) 0 [] ∧ Below w.heap.size w w' ∧ w.heap.size ≤ sp ∧ w.heap.size ≤ tt := by
  refine (mnew_any c w a fs n cap h hl hn).mono ?_
  rintro e w' ⟨sp, tt, a', c', rfl, hs, ho, hb, h1, h2⟩
  obtain ⟨f1, f2⟩ := fw_of_own ho hl
  subst hl
  exact ⟨sp, tt, a', c', rfl, ⟨hs, f1, f2, cgOf_ok c a' c' fs hn hlan⟩, hb, h1, h2⟩
theorem upd_any (w : World) (sp tt : Nat) (cs : Array Value) (up : Int) (L : ML) (h : SAt w sp tt cs up L) :
    Calls Try.prog 22 #[.pointer (some ⟨sp, 0, none⟩)] w fun e w' => e = .returned (.int .u32 up) ∧ w' = w := by
  have c29 := h.c29
  clear h
  go_enter Try.func22, Try.ntmps22
  go_wp2
  go_ret
  exact ⟨rfl, rfl⟩
set_option maxHeartbeats 1000000 in
theorem entry_any (w : World) (h x : Int) :
    Calls Try.prog 19 #[.int .u32 h, .int .u16 x] w fun e w' => e = .returned (.agg #[.int .u8 6, .int .u16 x, .int .u16 80, .int .u32 0, .int .u32 h, .bool true, .string ⟨#[]⟩, .int .u64 0]) ∧ Below w.heap.size w w' := by
  go_enter Try.func19, Try.ntmps19
  go_wp2_with fail
  obtain ⟨V, hV, hb, hv⟩ : ∃ V, w.alloc (.cells #[.int .u8 6, .int .u16 x, .int .u16 80, .int .u32 0, .int .u32 h, .bool true, .string ⟨#[]⟩, .int .u64 0] 40) = V ∧ Below w.heap.size w V ∧ V.heap[w.heap.size]? = some (.cells #[.int .u8 6, .int .u16 x, .int .u16 80, .int .u32 0, .int .u32 h, .bool true, .string ⟨#[]⟩, .int .u64 0] 40 (0, 0)) := ⟨_, rfl, (Below.refl _ _).alloc (Nat.le_refl _) _, heap_alloc_new _ _⟩
  rw [hV]
  obtain ⟨e0, e1, e2, e3, e4, e5, e6, e7, ef⟩ := C.val_cells hv
  have HB := hide hb
  clear hV hb hv
  exact bodyPost_ret (v := .agg #[.int .u8 6, .int .u16 x, .int .u16 80, .int .u32 0, .int .u32 h, .bool true, .string ⟨#[]⟩, .int .u64 0]) (by simp [results, Try.results19, go_sem, *]) rfl ⟨rfl, HB.out⟩
/-- The key of the laws' mappings. -/
def kE (x : Nat) (h : x ≤ 65535) : MK := ⟨6, (x : Int), 0, by omega, by omega, by omega⟩
end Go.Proofs.Ytijjgnkfddklgaa

/- The example of layer 20. -/
namespace Go.Proofs.Ytijjgnkfddklgaa
open Go.RowKit Go.Deep Go.Shelf
set_option linter.unusedVariables false
set_option linter.unusedSimpArgs false
set_option maxRecDepth 100000
def hA : Nat := 3232235783
def hB : Nat := 3232235784
abbrev plG (a : Option Addr) (cap : Nat) : CG := cgOf pl a cap []
abbrev k80 : MK := kE 80 (by omega)
/-- The first mapping of the example. -/
def mA (e : Int) : ME := mkE k80 80 (hA : Int) true ⟨#[]⟩ e
theorem pl_fg (a : Option Addr) (cap : Nat) (k : MK) : fgB (plG a cap) k = false := rfl
theorem pl_hA : hostB pl.lan pl.nb hA = true := by decide +kernel
theorem pl_hB : hostB pl.lan pl.nb hB = true := by decide +kernel
theorem ref_A (a : Option Addr) (cap : Nat) (k : MK) (hk : k.p = 6) (lease : Int) (hl : lease ≤ 604800) : refE (plG a cap) hA k (hA : Int) lease = 0 := by
  unfold refE refV
  rw [show hostB (plG a cap).lan (plG a cap).nb hA = true from pl_hA, hk, decide_eq_false (by omega)]
  simp [nzF]
theorem ref_B (a : Option Addr) (cap : Nat) (k : MK) (hk : k.p = 6) (lease : Int) (hl : lease ≤ 604800) : refE (plG a cap) hB k (hB : Int) lease = 0 := by
  unfold refE refV
  rw [show hostB (plG a cap).lan (plG a cap).nb hB = true from pl_hB, hk, decide_eq_false (by omega)]
  simp [nzF]
theorem con_nil (k : MK) (mt mh : Int) : conflB k mt mh [] = false := rfl
theorem sp1 (a : Option Addr) (cap : Nat) (lease : Int) (hl : lease ≤ 604800) : addV (plG a cap) [] hA k80 80 (hA : Int) lease = 0 := by
  unfold addV
  rw [ref_A a cap k80 rfl lease hl]
  rfl
theorem sp2 (a : Option Addr) (cap : Nat) (e : Int) : addV (plG a cap) [(k80, mA e)] hB k80 80 (hB : Int) 0 = 718 := by
  unfold addV
  rw [ref_B a cap k80 rfl 0 (by omega)]
  have h1 : conflB (k0 k80) 80 (hB : Int) [(k80, mA e)] = true := by rfl
  unfold hinV
  rw [h1]
  rfl
theorem sp3 (a : Option Addr) (cap : Nat) (e : Int) : anyV (plG a cap) [(k80, mA e)] hB k80 80 (hB : Int) 0 = 0 := by
  unfold anyV
  rw [ref_B a cap k80 rfl 0 (by omega)]
  rfl
theorem sp4 (a : Option Addr) (cap : Nat) (e : Int) : ownB (plG a cap) [(k80, mA e)] k80 80 (hB : Int) = false := by
  unfold ownB
  have h1 : conflB (k0 k80) 80 (hB : Int) [(k80, mA e)] = true := by rfl
  unfold hinV
  rw [h1]
  rfl
theorem sp5 (a : Option Addr) (cap : Nat) (e : Int) : hinX (plG a cap) [(k80, mA e)] k80 80 (hB : Int) 1024 = 0 := by
  unfold hinX
  rw [dif_pos (by omega)]
  have h1 : conflB (k0 (setX k80 1024 (by omega))) 80 (hB : Int) [(k80, mA e)] = false := by rfl
  unfold hinV
  rw [h1]
  rfl
theorem sp6 (a : Option Addr) (cap : Nat) (e : Int) : ¬ FreeNo (plG a cap) [(k80, mA e)] k80 80 (hB : Int) := fun h => h.2 0 (by omega) (sp5 a cap e)
theorem sp7 {a : Option Addr} {cap : Nat} {e : Int} {p : Nat} (h : FreeIs (plG a cap) [(k80, mA e)] k80 80 (hB : Int) p) : p = 1024 := by
  rcases h with ⟨h, _⟩ | ⟨_, i, _, h1, _, rfl⟩
  · rw [sp4] at h; cases h
  · cases i with
    | zero => rfl
    | succ i => exact absurd (sp5 a cap e) (h1 0 (by omega))
set_option maxHeartbeats 2000000 in
theorem speaks_any (w : World) :
    Calls Try.prog 7 #[] w fun e w' => e = .returned (.bool true) ∧ Below w.heap.size w w' := by
  have HPL := hide (plain_any w)
  go_enter Try.func7, Try.ntmps7
  go_wp2_with fail
  refine HPL.out.mono ?_
  rintro e w1 ⟨rfl, b1⟩
  have HB1 := hide b1
  have HNW := hide (snew_any pl w1 none [] 0 0 (fun h => absurd rfl h) rfl (by omega) (by decide))
  clear b1 HPL
  obtain ⟨pc, hpc⟩ : ∃ c, pl.cells none 0 0 = c := ⟨_, rfl⟩
  rw [hpc] at HNW ⊢
  clear hpc
  go_wp2_with fail
  refine HNW.out.mono ?_
  rintro e w2 ⟨sp, tt, a', c', rfl, hs, hb, h1, h2⟩
  have HS2 := hide hs
  have HB2 := hide (HB1.out.trans (hb.mono HB1.out.size))
  have HSP := hide (show w.heap.size ≤ sp ∧ w.heap.size ≤ tt from ⟨Nat.le_trans HB1.out.size h1, Nat.le_trans HB1.out.size h2⟩)
  have HEN := hide (entry_any w2 3232235783 80)
  clear hs hb h1 h2 HNW
  go_wp2_with fail
  refine HEN.out.mono ?_
  rintro e w3 ⟨rfl, b3⟩
  have HB3 := hide (HB2.out.trans (b3.mono HB2.out.size))
  have had : Calls Try.prog 20 #[.pointer (some ⟨sp, 0, none⟩), .int .u32 3232235783, .agg #[.int .u8 6, .int .u16 80, .int .u16 80, .int .u32 0, .int .u32 3232235783, .bool true, .string ⟨#[]⟩, .int .u64 0], .int .u64 0, .int .u64 0] w3 (AddAns sp tt (plG a' c') 0 [] hA k80 80 (hA : Int) true ⟨#[]⟩ 0 0 w3) := madd_any w3 sp tt (plG a' c') 0 [] hA k80 80 (hA : Int) true ⟨#[]⟩ 0 0 0 (HS2.out.below b3) (by simp) (by decide) (by omega) (by omega) (by decide)
  have HAD := hide had
  clear had b3 HEN
  go_wp2_with fail
  refine HAD.out.mono ?_
  rintro e w4 ⟨he, hs, _, ho⟩
  have hs4 := hs (sp1 a' c' 0 (by omega))
  rw [sp1 a' c' 0 (by omega)] at he
  subst he
  rw [show IntKind.u32.wrap (0 + 1) = 1 by rfl, show insL tM k80 (mkE k80 80 (hA : Int) true ⟨#[]⟩ (endsE 0 0)) [] = [(k80, mA (endsE 0 0))] from rfl] at hs4
  have HS4 := hide hs4
  have HO4 := hide ((OnlyS.of HB3.out).trans ho (Y := fun q => q = sp ∨ q = tt) (X := fun q => q = sp ∨ q = tt) (fun i _ h => h))
  have HEN2 := hide (entry_any w4 3232235784 80)
  clear hs ho hs4 HAD
  go_wp2_with fail
  refine HEN2.out.mono ?_
  rintro e w5 ⟨rfl, b5⟩
  have HO5 := hide (HO4.out.then b5)
  have HS5 := hide (HS4.out.below b5)
  have had : Calls Try.prog 20 #[.pointer (some ⟨sp, 0, none⟩), .int .u32 3232235784, .agg #[.int .u8 6, .int .u16 80, .int .u16 80, .int .u32 0, .int .u32 3232235784, .bool true, .string ⟨#[]⟩, .int .u64 0], .int .u64 0, .int .u64 0] w5 (AddAns sp tt (plG a' c') 1 [(k80, mA (endsE 0 0))] hB k80 80 (hB : Int) true ⟨#[]⟩ 0 0 w5) := madd_any w5 sp tt (plG a' c') 1 [(k80, mA (endsE 0 0))] hB k80 80 (hB : Int) true ⟨#[]⟩ 0 0 0 HS5.out (by simp) (by decide) (by omega) (by omega) (by decide)
  have HAD := hide had
  clear had b5 HEN2
  go_wp2_with fail
  refine HAD.out.mono ?_
  rintro e w6 ⟨he, _, hs, ho⟩
  have hs6 := hs (by rw [sp2]; decide)
  rw [sp2 a' c'] at he
  subst he
  have HS6 := hide hs6
  have HO6 := hide (HO5.out.tr ho)
  have HEN3 := hide (entry_any w6 3232235784 80)
  clear hs ho hs6 HAD
  go_wp2_with fail
  refine HEN3.out.mono ?_
  rintro e w7 ⟨rfl, b7⟩
  have HO7 := hide (HO6.out.then b7)
  have HS7 := hide (HS6.out.below b7)
  have had : Calls Try.prog 24 #[.pointer (some ⟨sp, 0, none⟩), .int .u32 3232235784, .agg #[.int .u8 6, .int .u16 80, .int .u16 80, .int .u32 0, .int .u32 3232235784, .bool true, .string ⟨#[]⟩, .int .u64 0], .int .u64 0, .int .u64 0] w7 (AnyAns sp tt (plG a' c') 1 [(k80, mA (endsE 0 0))] hB k80 80 (hB : Int) true ⟨#[]⟩ 0 0 w7) := many_any w7 sp tt (plG a' c') 1 [(k80, mA (endsE 0 0))] hB k80 80 (hB : Int) true ⟨#[]⟩ 0 0 0 HS7.out (by simp) (by decide) (by omega) (by omega) (by decide)
  have HAD := hide had
  clear had b7 HEN3
  go_wp2_with fail
  refine HAD.out.mono ?_
  rintro e w8 (⟨h1, _⟩ | ⟨h1, p, hp, hf, rfl, _, ho⟩ | ⟨_, h1, _⟩)
  · exact absurd (sp3 a' c' _) h1
  · obtain rfl := sp7 hf
    have HO8 := hide (HO7.out.tr ho)
    clear h1 hf ho HAD
    go_wp2_with fail
    go_ret
    exact ⟨rfl, HO8.out.below (fun k hk => by rcases hk with rfl | rfl; exact HSP.out.1; exact HSP.out.2) (Nat.le_refl _)⟩
  · exact absurd h1 (sp6 a' c' _)
end Go.Proofs.Ytijjgnkfddklgaa
