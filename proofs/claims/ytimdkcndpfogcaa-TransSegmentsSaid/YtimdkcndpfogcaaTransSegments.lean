/- The law that segments are put into bytes and read back, walked. -/
import Derived.Test.YtimdkcndpfogcaaRTcp
import Derived.Test.YtimdkcndpfogcaaTcpRO
import Derived.Test.YtimdkcndpfogcaaSameTcp
import Derived.Test.YtimdkcndpfogcaaTurnPlain
import Derived.Test.YtimdkcndpfogcaaTSpeaks
import Derived.Maps.AppendAt
namespace Go.Proofs.Ytimdkcndpfogcaa
open Go.RowKit
set_option linter.unusedVariables false
set_option linter.unusedSimpArgs false
set_option maxRecDepth 100000
theorem own_empty {W : World} {Lb base : Nat} (h : W.heap[Lb]? = some (.cells #[] 5)) (hb : base ≤ Lb) : W.ownsRow base 5 1 (.slice (some ⟨Lb, 0, none⟩) 0 0) 0 (([] : List Int).map (Value.int .u8)) :=
  ⟨rfl, .inr ⟨Lb, 0, #[], rfl, hb, h, Nat.le_refl _, by unfold maxLen; omega, rfl, rfl⟩⟩
theorem app3 (W : World) (base Lb : Nat) (hL : W.heap[Lb]? = some (.cells #[] 5)) (hb : base ≤ Lb) (a : Option Addr) (ys : List Int) (m c : Nat) (hr : Row .u8 W a ys) (hl : ys.length = m) (hn : a = none → c = 0) (hs : m ≤ 100000) (hbw : base ≤ W.heap.size) :
    ∃ v' w', (Builtin.append_ #[25, 25] 25 #[.slice (some ⟨Lb, 0, none⟩) 0 0, .slice a m c]).run Try.prog W = .ok v' w' ∧ (w'.ownsRow base 5 1 v' m (ys.map (Value.int .u8)) ∧ Below base W w' ∧ (∀ (K : Nat) (o : Obj), W.heap[K]? = some o → K ≠ Lb → w'.heap[K]? = some o) ∧ (v'.ownBlock = some Lb ∨ v'.ownBlock = some W.heap.size)) := by
  obtain ⟨i0, hi, hz0, hz1, hz2⟩ := info_parts Try.info5
  have hV := own_empty hL hb
  cases a with
  | none =>
    have hy : ys = [] := row_none hr
    have hm0 : m = 0 := by rw [← hl, hy]; rfl
    have hrun := run_append_owned_none (P := Try.prog) (w := W) base 25 25 5 i0 1 Try.underlying25 hi _ 0 _ hV
    rw [hn rfl, hm0, hy]
    exact ⟨_, _, hrun, hV, Below.refl _ _, fun _ _ h _ => h, .inl rfl⟩
  | some ad =>
    obtain ⟨v', w', h1, h2, h3, _, h5⟩ := run_append_own_at (P := Try.prog) (w := W) base 25 25 5 i0 (.int .u8 0) 1 1 Try.underlying25 hi hz0 hz1 hz2 rfl (by decide) _ 0 _ hV ad m c (ys.map (Value.int .u8)) (by simp [hl]) (row_cells hr) (ints_one _ _) (by unfold maxLen; omega) (by omega) hbw
    rw [Nat.zero_add, List.map_nil, List.nil_append] at h2
    exact ⟨_, _, h1, h2, (Below.refl base W).grown h3 hbw (fun k e => (hV.lt k e).1), fun K o h hne => (h3.block K (lt_of_block h) (by intro e; injection e with e; exact hne e)).trans h, h5⟩
theorem tcpG_0 (p q u v f g h : Nat) (os xs : List Int) (k : Nat) (hp : p ≤ 65535) : fld (tcpG p q u v f g h os xs k) 0 2 = p := fld_num 2 p _ (by omega)
theorem tcpG_2 (p q u v f g h : Nat) (os xs : List Int) (k : Nat) (hq : q ≤ 65535) : fld (tcpG p q u v f g h os xs k) 2 2 = q := by
  unfold tcpG; rw [fld_skip _ _ 0 2 2 (numB_len _ _), fld_num 2 q _ (by omega)]
theorem tcpG_4 (p q u v f g h : Nat) (os xs : List Int) (k : Nat) (hu : u ≤ 4294967295) : fld (tcpG p q u v f g h os xs k) 4 4 = u := by
  unfold tcpG; rw [fld_skip _ _ 2 2 4 (numB_len _ _), fld_skip _ _ 0 2 4 (numB_len _ _), fld_num 4 u _ (by omega)]
theorem tcpG_8 (p q u v f g h : Nat) (os xs : List Int) (k : Nat) (hv : v ≤ 4294967295) : fld (tcpG p q u v f g h os xs k) 8 4 = v := by
  unfold tcpG; rw [fld_skip _ _ 6 2 4 (numB_len _ _), fld_skip _ _ 4 2 4 (numB_len _ _), fld_skip _ _ 0 4 4 (numB_len _ _), fld_num 4 v _ (by omega)]
theorem tcpG_tail (p q u v f g h : Nat) (os xs : List Int) (k K j : Nat) : fld (tcpG p q u v f g h os xs k) (12 + K) j = fld ([hdB os.length, (f : Int)] ++ (numB 2 g ++ (numB 2 k ++ (numB 2 h ++ (os ++ xs))))) K j := by
  have e : tcpG p q u v f g h os xs k = (numB 2 p ++ (numB 2 q ++ (numB 4 u ++ numB 4 v))) ++ ([hdB os.length, (f : Int)] ++ (numB 2 g ++ (numB 2 k ++ (numB 2 h ++ (os ++ xs))))) := by simp [tcpG]
  rw [e, fld_skip _ _ K 12 j (by simp [numB_len])]
theorem tcpG_13 (p q u v f g h : Nat) (os xs : List Int) (k : Nat) : fld (tcpG p q u v f g h os xs k) 13 1 = f := by
  rw [tcpG_tail p q u v f g h os xs k 1 1]
  unfold fld valB
  simp
theorem tcpG_14 (p q u v f g h : Nat) (os xs : List Int) (k : Nat) (hg : g ≤ 65535) : fld (tcpG p q u v f g h os xs k) 14 2 = g := by
  rw [tcpG_tail p q u v f g h os xs k 2 2, fld_skip _ _ 0 2 2 (by rfl), fld_num 2 g _ (by omega)]
theorem tcpG_18 (p q u v f g h : Nat) (os xs : List Int) (k : Nat) (hh : h ≤ 65535) : fld (tcpG p q u v f g h os xs k) 18 2 = h := by
  rw [tcpG_tail p q u v f g h os xs k 6 2, fld_skip _ _ 4 2 2 (by rfl), fld_skip _ _ 2 2 2 (numB_len _ _), fld_skip _ _ 0 2 2 (numB_len _ _), fld_num 2 h _ (by omega)]
theorem tcpG_20 (p q u v f g h : Nat) (os xs : List Int) (k : Nat) : (tcpG p q u v f g h os xs k).drop 20 = os ++ xs := by
  have e : tcpG p q u v f g h os xs k = (numB 2 p ++ (numB 2 q ++ (numB 4 u ++ (numB 4 v ++ ([hdB os.length, (f : Int)] ++ (numB 2 g ++ (numB 2 k ++ numB 2 h))))))) ++ (os ++ xs) := by simp [tcpG]
  rw [e, List.drop_left' (by simp [numB_len])]

set_option maxHeartbeats 1600000 in
theorem ts_big1 (w : World) (src dst p q u v f g h : Nat) (oa : Option Addr) (os : List Int) (m oc : Nat) (da : Option Addr) (xs : List Int) (n dc : Nat) (hro : Row .u8 w oa os) (hno : oa = none → oc = 0) (hlo : os.length = m) (hr : Row .u8 w da xs) (hn : da = none → dc = 0) (hl : xs.length = n) (hbo : ∀ x ∈ os, 0 ≤ x ∧ x ≤ 255) (hb : ∀ x ∈ xs, 0 ≤ x ∧ x ≤ 255) (hs : src ≤ 4294967295) (hd : dst ≤ 4294967295) (hp : p ≤ 65535) (hq : q ≤ 65535) (hu : u ≤ 4294967295) (hv : v ≤ 4294967295) (hf : f ≤ 255) (hg : g ≤ 65535) (hh : h ≤ 65535) (h4 : 3000 < n) (h5 : n < 9223372036854775808) :
    Calls Try.prog 3 #[.int .u32 src, .int .u32 dst, .agg #[.int .u16 (p : Int), .int .u16 (q : Int), .int .u32 (u : Int), .int .u32 (v : Int), .int .u8 (f : Int), .int .u16 (g : Int), .int .u16 (h : Int), .slice oa m oc, .slice da n dc]] w fun e w' => e = .returned (.bool true) ∧ Below w.heap.size w w' := by
  have HRO := hide hro
  have HNO := hide hno
  have HLO := hide hlo
  have HR := hide hr
  have HN := hide hn
  have HL := hide hl
  have HB := hide hb
  have HBO := hide hbo
  clear hro hno hlo hr hn hl hb hbo
  go_enter Try.func3, Try.ntmps3
  go_wp2_with fail
  obtain ⟨A, w0, hA, hqq, hbel, hheap⟩ : ∃ A wq, w.heap.size = A ∧ w.alloc (.cells #[.int .u16 (p : Int), .int .u16 (q : Int), .int .u32 (u : Int), .int .u32 (v : Int), .int .u8 (f : Int), .int .u16 (g : Int), .int .u16 (h : Int), .slice oa m oc, .slice da n dc] 27) = wq ∧ Below w.heap.size w wq ∧
      wq.heap[A]? = some (.cells #[.int .u16 (p : Int), .int .u16 (q : Int), .int .u32 (u : Int), .int .u32 (v : Int), .int .u8 (f : Int), .int .u16 (g : Int), .int .u16 (h : Int), .slice oa m oc, .slice da n dc] 27 (0, 0)) := ⟨_, _, rfl, rfl, (Below.refl _ _).alloc (Nat.le_refl _) _, heap_alloc_new _ _⟩
  rw [hqq, hA]
  have HAw := hide hA
  have HR0 := hide (And.intro (HRO.out.below hbel (Nat.le_refl _)) (HR.out.below hbel (Nat.le_refl _)))
  have HH0 := hide hheap
  have HB0 := hide hbel
  clear hqq hA hbel hheap
  refine (speaks5_any w0).mono ?_
  rintro e w1 ⟨rfl, b1⟩
  have HH1 := hide (below_block b1 HH0.out (Nat.le_refl _))
  have HR1 := hide (rs_below HR0.out b1 (Nat.le_refl _))
  have HB1 := hide (HB0.out.trans (b1.mono HB0.out.size))
  clear b1 HH0 HR0 HB0
  obtain ⟨⟨a0, a1, a2, a3, a4, a5, a6, a7, a8⟩, af⟩ := nine_cells HH1.out
  have hlA := lt_of_block HH1.out
  clear af
  go_wp2
  go_ret
  exact ⟨rfl, HB1.out⟩

set_option maxHeartbeats 1600000 in
theorem ts_big2 (w : World) (src dst p q u v f g h : Nat) (oa : Option Addr) (os : List Int) (m oc : Nat) (da : Option Addr) (xs : List Int) (n dc : Nat) (hro : Row .u8 w oa os) (hno : oa = none → oc = 0) (hlo : os.length = m) (hr : Row .u8 w da xs) (hn : da = none → dc = 0) (hl : xs.length = n) (hbo : ∀ x ∈ os, 0 ≤ x ∧ x ≤ 255) (hb : ∀ x ∈ xs, 0 ≤ x ∧ x ≤ 255) (hs : src ≤ 4294967295) (hd : dst ≤ 4294967295) (hp : p ≤ 65535) (hq : q ≤ 65535) (hu : u ≤ 4294967295) (hv : v ≤ 4294967295) (hf : f ≤ 255) (hg : g ≤ 65535) (hh : h ≤ 65535) (h4 : n ≤ 3000) (h5 : 300 < m) (h6 : m < 9223372036854775808) :
    Calls Try.prog 3 #[.int .u32 src, .int .u32 dst, .agg #[.int .u16 (p : Int), .int .u16 (q : Int), .int .u32 (u : Int), .int .u32 (v : Int), .int .u8 (f : Int), .int .u16 (g : Int), .int .u16 (h : Int), .slice oa m oc, .slice da n dc]] w fun e w' => e = .returned (.bool true) ∧ Below w.heap.size w w' := by
  have HRO := hide hro
  have HNO := hide hno
  have HLO := hide hlo
  have HR := hide hr
  have HN := hide hn
  have HL := hide hl
  have HB := hide hb
  have HBO := hide hbo
  clear hro hno hlo hr hn hl hb hbo
  go_enter Try.func3, Try.ntmps3
  go_wp2_with fail
  obtain ⟨A, w0, hA, hqq, hbel, hheap⟩ : ∃ A wq, w.heap.size = A ∧ w.alloc (.cells #[.int .u16 (p : Int), .int .u16 (q : Int), .int .u32 (u : Int), .int .u32 (v : Int), .int .u8 (f : Int), .int .u16 (g : Int), .int .u16 (h : Int), .slice oa m oc, .slice da n dc] 27) = wq ∧ Below w.heap.size w wq ∧
      wq.heap[A]? = some (.cells #[.int .u16 (p : Int), .int .u16 (q : Int), .int .u32 (u : Int), .int .u32 (v : Int), .int .u8 (f : Int), .int .u16 (g : Int), .int .u16 (h : Int), .slice oa m oc, .slice da n dc] 27 (0, 0)) := ⟨_, _, rfl, rfl, (Below.refl _ _).alloc (Nat.le_refl _) _, heap_alloc_new _ _⟩
  rw [hqq, hA]
  have HAw := hide hA
  have HR0 := hide (And.intro (HRO.out.below hbel (Nat.le_refl _)) (HR.out.below hbel (Nat.le_refl _)))
  have HH0 := hide hheap
  have HB0 := hide hbel
  clear hqq hA hbel hheap
  refine (speaks5_any w0).mono ?_
  rintro e w1 ⟨rfl, b1⟩
  have HH1 := hide (below_block b1 HH0.out (Nat.le_refl _))
  have HR1 := hide (rs_below HR0.out b1 (Nat.le_refl _))
  have HB1 := hide (HB0.out.trans (b1.mono HB0.out.size))
  clear b1 HH0 HR0 HB0
  obtain ⟨⟨a0, a1, a2, a3, a4, a5, a6, a7, a8⟩, af⟩ := nine_cells HH1.out
  have hlA := lt_of_block HH1.out
  clear af
  have hd1 : decide ((3000 : Int) < (n : Int)) = false := by simp; omega
  go_wp2
  go_ret
  exact ⟨rfl, HB1.out⟩

set_option maxHeartbeats 1600000 in
theorem ts_arg1 (w : World) (src dst p q u v f g h : Nat) (oa : Option Addr) (os : List Int) (m oc : Nat) (da : Option Addr) (xs : List Int) (n dc : Nat) (hro : Row .u8 w oa os) (hno : oa = none → oc = 0) (hlo : os.length = m) (hr : Row .u8 w da xs) (hn : da = none → dc = 0) (hl : xs.length = n) (hbo : ∀ x ∈ os, 0 ≤ x ∧ x ≤ 255) (hb : ∀ x ∈ xs, 0 ≤ x ∧ x ≤ 255) (hs : src ≤ 4294967295) (hd : dst ≤ 4294967295) (hp : p ≤ 65535) (hq : q ≤ 65535) (hu : u ≤ 4294967295) (hv : v ≤ 4294967295) (hf : f ≤ 255) (hg : g ≤ 65535) (hh : h ≤ 65535) (h1 : 40 < m) (h2 : m ≤ 300) (h3 : n ≤ 3000) :
    Calls Try.prog 3 #[.int .u32 src, .int .u32 dst, .agg #[.int .u16 (p : Int), .int .u16 (q : Int), .int .u32 (u : Int), .int .u32 (v : Int), .int .u8 (f : Int), .int .u16 (g : Int), .int .u16 (h : Int), .slice oa m oc, .slice da n dc]] w fun e w' => e = .returned (.bool true) ∧ Below w.heap.size w w' := by
  have HRO := hide hro
  have HNO := hide hno
  have HLO := hide hlo
  have HR := hide hr
  have HN := hide hn
  have HL := hide hl
  have HB := hide hb
  have HBO := hide hbo
  clear hro hno hlo hr hn hl hb hbo
  go_enter Try.func3, Try.ntmps3
  go_wp2_with fail
  obtain ⟨A, w0, hA, hqq, hbel, hheap⟩ : ∃ A wq, w.heap.size = A ∧ w.alloc (.cells #[.int .u16 (p : Int), .int .u16 (q : Int), .int .u32 (u : Int), .int .u32 (v : Int), .int .u8 (f : Int), .int .u16 (g : Int), .int .u16 (h : Int), .slice oa m oc, .slice da n dc] 27) = wq ∧ Below w.heap.size w wq ∧
      wq.heap[A]? = some (.cells #[.int .u16 (p : Int), .int .u16 (q : Int), .int .u32 (u : Int), .int .u32 (v : Int), .int .u8 (f : Int), .int .u16 (g : Int), .int .u16 (h : Int), .slice oa m oc, .slice da n dc] 27 (0, 0)) := ⟨_, _, rfl, rfl, (Below.refl _ _).alloc (Nat.le_refl _) _, heap_alloc_new _ _⟩
  rw [hqq, hA]
  have HAw := hide hA
  have HR0 := hide (And.intro (HRO.out.below hbel (Nat.le_refl _)) (HR.out.below hbel (Nat.le_refl _)))
  have HH0 := hide hheap
  have HB0 := hide hbel
  clear hqq hA hbel hheap
  refine (speaks5_any w0).mono ?_
  rintro e w1 ⟨rfl, b1⟩
  have HH1 := hide (below_block b1 HH0.out (Nat.le_refl _))
  have HR1 := hide (rs_below HR0.out b1 (Nat.le_refl _))
  have HB1 := hide (HB0.out.trans (b1.mono HB0.out.size))
  clear b1 HH0 HR0 HB0
  obtain ⟨⟨a0, a1, a2, a3, a4, a5, a6, a7, a8⟩, af⟩ := nine_cells HH1.out
  have hlA := lt_of_block HH1.out
  clear af
  have hd1 : decide ((3000 : Int) < (n : Int)) = false := by simp; omega
  have hd2 : decide ((300 : Int) < (m : Int)) = false := by simp; omega
  obtain ⟨wz, hwz, hCz, hbz, hzs⟩ : ∃ wz, w1.alloc (.cells #[.int .u16 (p : Int), .int .u16 (q : Int), .int .u32 (u : Int), .int .u32 (v : Int), .int .u8 (f : Int), .int .u16 (g : Int), .int .u16 (h : Int), .slice oa m oc, .slice da n dc] 27) = wz ∧ wz.heap[w1.heap.size]? = some (.cells #[.int .u16 (p : Int), .int .u16 (q : Int), .int .u32 (u : Int), .int .u32 (v : Int), .int .u8 (f : Int), .int .u16 (g : Int), .int .u16 (h : Int), .slice oa m oc, .slice da n dc] 27 (0, 0)) ∧ Below w1.heap.size w1 wz ∧ wz.heap.size = w1.heap.size + 1 := ⟨_, rfl, heap_alloc_new _ _, (Below.refl _ _).alloc (Nat.le_refl _) _, by simp⟩
  obtain ⟨C, hC⟩ : ∃ C, w1.heap.size = C := ⟨_, rfl⟩
  go_wp2_with fail
  try rw [hwz]
  try rw [hC]
  rw [hC] at hCz hlA hzs
  have HCz := hide hCz
  have HAz := hide (below_block hbz HH1.out (by omega))
  have HRz := hide (rs_below HR1.out hbz (by omega))
  have HBz := hide (HB1.out.trans (hbz.mono HB1.out.size))
  have hCs : C < wz.heap.size := by omega
  have hAz : A < wz.heap.size := by omega
  have hAC : ¬ A = C := by omega
  have HCe := hide hC
  have hwC : w.heap.size ≤ C := by have := HB1.out.size; omega
  obtain ⟨⟨z0, z1, z2, z3, z4, z5, z6, z7, z8⟩, zf⟩ := nine_cells HAz.out
  clear hwz hC hCz hbz hzs a0 a1 a2 a3 a4 a5 a6 a7 a8 zf z0 z1 z2 z3 z4 z5 z6
  have hxa : ∀ W : World, W = ((wz.alloc (.cells #[] 5)).alloc (.cells #[] 5)).drew → ∃ v' w', (Builtin.append_ #[25, 25] 25 #[.slice (some ⟨wz.heap.size, 0, none⟩) 0 0, .slice oa m oc]).run Try.prog W = .ok v' w' ∧ (w'.ownsRow wz.heap.size 5 1 v' m (os.map (Value.int .u8)) ∧ Below wz.heap.size wz w' ∧ w'.heap[wz.heap.size + 1]? = some (.cells #[] 5) ∧ v'.ownBlock ≠ some (wz.heap.size + 1)) := by
    rintro W rfl
    have e0 : (((wz.alloc (.cells #[] 5)).alloc (.cells #[] 5)).drew).heap[wz.heap.size]? = some (.cells #[] 5) := (Below.heap_alloc _ _ _ (by simp)).trans (heap_alloc_new wz _)
    have e1 : (((wz.alloc (.cells #[] 5)).alloc (.cells #[] 5)).drew).heap[wz.heap.size + 1]? = some (.cells #[] 5) := by have h := heap_alloc_new (wz.alloc (.cells #[] 5)) (.cells #[] 5); rw [show (wz.alloc (.cells #[] 5)).heap.size = wz.heap.size + 1 by simp] at h; exact h
    have hb : Below wz.heap.size wz (((wz.alloc (.cells #[] 5)).alloc (.cells #[] 5)).drew) := (((Below.refl _ wz).alloc (Nat.le_refl _) _).alloc (by simp) _).drew
    obtain ⟨v', w', h1, h2, h3, h4, h5⟩ := app3 (((wz.alloc (.cells #[] 5)).alloc (.cells #[] 5)).drew) wz.heap.size wz.heap.size e0 (Nat.le_refl _) oa os m oc (HRz.out.1.below hb (Nat.le_refl _)) HLO.out HNO.out (by omega) hb.size
    have hsz : (((wz.alloc (.cells #[] 5)).alloc (.cells #[] 5)).drew).heap.size = wz.heap.size + 2 := by simp
    refine ⟨v', w', h1, h2, hb.trans h3, h4 _ _ e1 (by omega), ?_⟩
    rcases h5 with h5 | h5 <;> rw [h5] <;> intro e <;> injection e with e <;> omega
  have hxb : ∀ W : World, W = ((wz.alloc (.cells #[] 5)).alloc (.cells #[] 5)).drew → ∃ v' w', (Builtin.append_ #[25, 25] 25 #[.slice (some ⟨wz.heap.size + 1, 0, none⟩) 0 0, .slice oa m oc]).run Try.prog W = .ok v' w' ∧ (w'.ownsRow wz.heap.size 5 1 v' m (os.map (Value.int .u8)) ∧ Below wz.heap.size wz w' ∧ w'.heap[wz.heap.size]? = some (.cells #[] 5) ∧ v'.ownBlock ≠ some wz.heap.size) := by
    rintro W rfl
    have e0 : (((wz.alloc (.cells #[] 5)).alloc (.cells #[] 5)).drew).heap[wz.heap.size]? = some (.cells #[] 5) := (Below.heap_alloc _ _ _ (by simp)).trans (heap_alloc_new wz _)
    have e1 : (((wz.alloc (.cells #[] 5)).alloc (.cells #[] 5)).drew).heap[wz.heap.size + 1]? = some (.cells #[] 5) := by have h := heap_alloc_new (wz.alloc (.cells #[] 5)) (.cells #[] 5); rw [show (wz.alloc (.cells #[] 5)).heap.size = wz.heap.size + 1 by simp] at h; exact h
    have hb : Below wz.heap.size wz (((wz.alloc (.cells #[] 5)).alloc (.cells #[] 5)).drew) := (((Below.refl _ wz).alloc (Nat.le_refl _) _).alloc (by simp) _).drew
    obtain ⟨v', w', h1, h2, h3, h4, h5⟩ := app3 (((wz.alloc (.cells #[] 5)).alloc (.cells #[] 5)).drew) wz.heap.size (wz.heap.size + 1) e1 (by omega) oa os m oc (HRz.out.1.below hb (Nat.le_refl _)) HLO.out HNO.out (by omega) hb.size
    have hsz : (((wz.alloc (.cells #[] 5)).alloc (.cells #[] 5)).drew).heap.size = wz.heap.size + 2 := by simp
    refine ⟨v', w', h1, h2, hb.trans h3, h4 _ _ e0 (by omega), ?_⟩
    rcases h5 with h5 | h5 <;> rw [h5] <;> intro e <;> injection e with e <;> omega
  have hxc : ∀ W : World, W = (wz.alloc (.cells #[] 5)).drew → ∃ v' w', (Builtin.append_ #[25, 25] 25 #[.slice (some ⟨wz.heap.size, 0, none⟩) 0 0, .slice oa m oc]).run Try.prog W = .ok v' w' ∧ (w'.ownsRow wz.heap.size 5 1 v' m (os.map (Value.int .u8)) ∧ Below wz.heap.size wz w') := by
    rintro W rfl
    have e0 : ((wz.alloc (.cells #[] 5)).drew).heap[wz.heap.size]? = some (.cells #[] 5) := heap_alloc_new wz _
    have hb : Below wz.heap.size wz ((wz.alloc (.cells #[] 5)).drew) := ((Below.refl _ wz).alloc (Nat.le_refl _) _).drew
    obtain ⟨v', w', h1, h2, h3, h4, h5⟩ := app3 ((wz.alloc (.cells #[] 5)).drew) wz.heap.size wz.heap.size e0 (Nat.le_refl _) oa os m oc (HRz.out.1.below hb (Nat.le_refl _)) HLO.out HNO.out (by omega) hb.size
    exact ⟨v', w', h1, h2, hb.trans h3⟩
  have hy : ∀ (W : World) (Lb : Nat) (v3 : Value), W.heap[Lb]? = some (.cells #[] 5) → wz.heap.size ≤ Lb → W.ownsRow wz.heap.size 5 1 v3 m (os.map (Value.int .u8)) → Below wz.heap.size wz W → v3.ownBlock ≠ some Lb → ∃ v' w', (Builtin.append_ #[25, 25] 25 #[.slice (some ⟨Lb, 0, none⟩) 0 0, .slice da n dc]).run Try.prog W = .ok v' w' ∧ (w'.ownsRow wz.heap.size 5 1 v' n (xs.map (Value.int .u8)) ∧ w'.ownsRow wz.heap.size 5 1 v3 m (os.map (Value.int .u8)) ∧ Below wz.heap.size wz w') := fun W Lb v3 e0 hL ho hb hne => by
    obtain ⟨v', w', h1, h2, h3, h4, h5⟩ := app3 W wz.heap.size Lb e0 hL da xs n dc (HRz.out.2.below hb (Nat.le_refl _)) HL.out HN.out (by omega) hb.size
    refine ⟨v', w', h1, h2, ?_, hb.trans h3⟩
    refine ⟨ho.1, ?_⟩
    rcases ho.2 with h | ⟨gg, cap, cur, hv, hgg, hhh, rest⟩
    · exact .inl h
    · exact .inr ⟨gg, cap, cur, hv, hgg, h4 _ _ hhh (by intro e; subst e; exact hne (by rw [hv]; rfl)), rest⟩
  have HXa := hide hxa
  have HXb := hide hxb
  have HXc := hide hxc
  have HYY := hide hy
  clear hxa hxb hxc hy
  go_cut [] (fun wx => ∃ ca cc ea ec, Hid (wx.heap[C]? = some (.cells #[.int .u16 (p : Int), .int .u16 (q : Int), .int .u32 (u : Int), .int .u32 (v : Int), .int .u8 (f : Int), .int .u16 (g : Int), .int .u16 (h : Int), .slice ca m cc, .slice ea n ec] 27 (0, 0))) ∧ Hid (wx.heap[A]? = some (.cells #[.int .u16 (p : Int), .int .u16 (q : Int), .int .u32 (u : Int), .int .u32 (v : Int), .int .u8 (f : Int), .int .u16 (g : Int), .int .u16 (h : Int), .slice oa m oc, .slice da n dc] 27 (0, 0))) ∧ Hid (Row .u8 wx ca os ∧ Row .u8 wx ea xs) ∧ Hid ((ca = none → cc = 0) ∧ (ea = none → ec = 0)) ∧ Hid (Row .u8 wx oa os ∧ Row .u8 wx da xs) ∧ Hid (Below w.heap.size w wx))
  case first =>
    go_region_held3 (fun w' => w'.cell? ⟨A, 7, none⟩ = some (.slice oa m oc) ∧ w'.cell? ⟨A, 8, none⟩ = some (.slice da n dc)) (first | go_keep | (exact ⟨(cell_set_ne _ _ _ _ (by assumption)).trans (by assumption), (cell_set_ne _ _ _ _ (by assumption)).trans (by assumption)⟩) | (exact ⟨((cell_set_ne _ _ _ _ (by assumption)).trans (cell_set_ne _ _ _ _ (by assumption))).trans (by assumption), ((cell_set_ne _ _ _ _ (by assumption)).trans (cell_set_ne _ _ _ _ (by assumption))).trans (by assumption)⟩)) (first
      | (refine step_append_ex rfl (.tmp 31) (.tmp 33) 25 25 rfl _ _ rfl rfl _ HY.out ?_; rintro v7 w7 HP; obtain ⟨ea, ec, rfl⟩ := slice_form HP.1; have BW := hide HP.2.2; have k7g := (bcell BW.out A 7 hAz).trans z7; have k8g := (bcell BW.out A 8 hAz).trans z8; have O7 := hide HP.1; have O3 := hide HP.2.1; have hC7 := below_block HP.2.2 HCz.out (Nat.le_refl _); obtain ⟨⟨c0, c1, c2, c3, c4, c5, c6, c7, c8⟩, cf⟩ := nine_cells hC7; have cf7 := cf 7; have cf8 := cf 8; have HC7 := hide hC7; clear HP hC7 cf)
      | (refine step_append_ex rfl (.tmp 27) (.tmp 29) 25 25 rfl (.slice (some ⟨wz.heap.size, 0, none⟩) 0 0) (.slice oa m oc) rfl rfl _ (HXa.out _ ?_) ?_; (with_reducible rfl); rintro v3 w3 HP; obtain ⟨ca, cc, rfl⟩ := slice_form HP.1; have BW := hide HP.2.1; have k7c := (bcell BW.out A 7 hAz).trans z7; have k8c := (bcell BW.out A 8 hAz).trans z8; have HY := hide (HYY.out w3 _ _ HP.2.2.1 (by omega) HP.1 HP.2.1 HP.2.2.2); have hA3 : A < w3.heap.size := Nat.lt_of_lt_of_le hAz BW.out.size; clear HP)
      | (refine step_append_ex rfl (.tmp 27) (.tmp 29) 25 25 rfl (.slice (some ⟨wz.heap.size + 1, 0, none⟩) 0 0) (.slice oa m oc) rfl rfl _ (HXb.out _ ?_) ?_; (with_reducible rfl); rintro v3 w3 HP; obtain ⟨ca, cc, rfl⟩ := slice_form HP.1; have BW := hide HP.2.1; have k7c := (bcell BW.out A 7 hAz).trans z7; have k8c := (bcell BW.out A 8 hAz).trans z8; have HY := hide (HYY.out w3 _ _ HP.2.2.1 (Nat.le_refl _) HP.1 HP.2.1 HP.2.2.2); have hA3 : A < w3.heap.size := Nat.lt_of_lt_of_le hAz BW.out.size; clear HP)
      | (refine step_append_ex rfl (.tmp 27) (.tmp 29) 25 25 rfl (.slice (some ⟨wz.heap.size, 0, none⟩) 0 0) (.slice oa m oc) rfl rfl _ (HXc.out _ ?_) ?_; (with_reducible rfl); rintro v3 w3 HP; obtain ⟨ca, cc, rfl⟩ := slice_form HP.1; have BW := hide HP.2; have k7c := (bcell BW.out A 7 hAz).trans z7; have k8c := (bcell BW.out A 8 hAz).trans z8; have HY := hide (HYY.out (w3.alloc (.cells #[] 5)) _ _ (heap_alloc_new w3 _) BW.out.size (HP.1.alloc _) (BW.out.alloc BW.out.size _) (own_ne HP.1 (Nat.le_refl _))); have hA3 : A < w3.heap.size := Nat.lt_of_lt_of_le hAz BW.out.size; clear HP)
      | fail)
    all_goals
      try go_wp2_with fail
      go_meet
      refine ⟨ca, cc, ea, ec, ?_, ?_, ?_, ?_, ?_, ?_⟩
      · exact hide (nine_set (nine_set HC7.out))
      · exact hide (set_ne_block (set_ne_block (below_block BW.out HAz.out (Nat.le_refl _)) hAC) hAC)
      · exact hide ⟨Row.of_owns (owns_set (owns_set O3.out hCs) hCs), Row.of_owns (owns_set (owns_set O7.out hCs) hCs)⟩
      · exact hide ⟨none_cap O3.out, none_cap O7.out⟩
      · have hdr : ∀ (a : Option Addr) (zs : List Int), Row .u8 w1 a zs → Row .u8 w7 a zs → Row .u8 ((w7.setCell ⟨C, 7, none⟩ (.slice ca m cc)).setCell ⟨C, 8, none⟩ (.slice ea n ec)) a zs := by
          intro a zs h1 h3 hz
          obtain ⟨b', off, e', hlt, _⟩ := h1 hz
          have hbC : ∀ b, a = some b → b.block ≠ C := fun b e => by rw [e] at e'; cases e'; have := HCe.out; simp; omega
          exact row_set (row_set h3 hbC) hbC hz
        have hr7 := rs_below HRz.out BW.out (Nat.le_refl _)
        exact hide ⟨hdr _ _ HR1.out.1 hr7.1, hdr _ _ HR1.out.2 hr7.2⟩
      · exact hide (((HBz.out.trans (BW.out.mono HBz.out.size)).setCell (by simpa using hwC) _).setCell (by simpa using hwC) _)
  case rest =>
  obtain ⟨ca, cc, ea, ec, HC, HA, HRC, HNC, HRA, HBW⟩ := hcut
  clear z7 z8 HXa HXb HXc HYY
  obtain ⟨⟨m0, m1, m2, m3, m4, m5, m6, m7, m8⟩, mf⟩ := nine_cells HC.out
  obtain ⟨⟨a0, a1, a2, a3, a4, a5, a6, a7, a8⟩, af⟩ := nine_cells HA.out
  clear mf af
  go_wp2_with fail
  refine (wtcp_arg1 wc _ _ _ _ _ _ _ _ _ _ _ _ _ _ _ h1).mono ?_
  rintro e w5 ⟨rfl, b5⟩
  clear m0 m1 m2 m3 m4 m5 m6 m7 m8 a0 a1 a2 a3 a4 a5 a6 a7 a8
  have HA := hide (below_block b5 HA.out (Nat.le_refl _))
  have HC := hide (below_block b5 HC.out (Nat.le_refl _))
  have HRC := hide (rs_below HRC.out b5 (Nat.le_refl _))
  have HRA := hide (rs_below HRA.out b5 (Nat.le_refl _))
  have HBW := hide (HBW.out.trans (b5.mono HBW.out.size))
  clear b5
  obtain ⟨⟨m0, m1, m2, m3, m4, m5, m6, m7, m8⟩, mf⟩ := nine_cells HC.out
  obtain ⟨⟨a0, a1, a2, a3, a4, a5, a6, a7, a8⟩, af⟩ := nine_cells HA.out
  clear mf af
  go_wp2_with fail
  refine (rwtcp_arg1 w5 _ _ _ _ _ _ _ _ _ _ _ _ _ _ _ h1 (by omega)).mono ?_
  rintro e w6 ⟨g6, rfl, b6⟩
  clear m0 m1 m2 m3 m4 m5 m6 m7 m8 a0 a1 a2 a3 a4 a5 a6 a7 a8
  have HA := hide (below_block b6 HA.out (Nat.le_refl _))
  have HC := hide (below_block b6 HC.out (Nat.le_refl _))
  have HRC := hide (rs_below HRC.out b6 (Nat.le_refl _))
  have HRA := hide (rs_below HRA.out b6 (Nat.le_refl _))
  have HBW := hide (HBW.out.trans (b6.mono HBW.out.size))
  clear b6
  obtain ⟨⟨m0, m1, m2, m3, m4, m5, m6, m7, m8⟩, mf⟩ := nine_cells HC.out
  obtain ⟨⟨a0, a1, a2, a3, a4, a5, a6, a7, a8⟩, af⟩ := nine_cells HA.out
  clear mf af
  have hcv1 : (convert 25 9 (.slice none 0 0)).run Try.prog w6 = .ok (.string (strOfNums [])) w6 := conv_any none [] 0 w6 (fun h => absurd rfl h)
  have hcv2 : (convert 25 9 (.slice (some ⟨g6, 0, none⟩) 0 0)).run Try.prog w6 = .ok (.string (strOfNums [])) w6 := conv_any (some ⟨g6, 0, none⟩) [] 0 w6 (fun h => absurd rfl h)
  have HS := hide (sameTcp_any w6 p q u v f g h ca oa ea da os xs m n cc oc ec dc HRC.out.1 HRA.out.1 HLO.out HRC.out.2 HRA.out.2 HL.out)
  go_wp2_with fail
  refine HS.out.mono ?_
  rintro e w7 ⟨rfl, b7⟩
  have HB7 := hide (HBW.out.trans (b7.mono HBW.out.size))
  clear b7 hcv1 hcv2
  clear m0 m1 m2 m3 m4 m5 m6 m7 m8 a0 a1 a2 a3 a4 a5 a6 a7 a8
  go_wp2
  go_ret
  exact ⟨rfl, HB7.out⟩

set_option maxHeartbeats 1600000 in
theorem ts_arg2 (w : World) (src dst p q u v f g h : Nat) (oa : Option Addr) (os : List Int) (m oc : Nat) (da : Option Addr) (xs : List Int) (n dc : Nat) (hro : Row .u8 w oa os) (hno : oa = none → oc = 0) (hlo : os.length = m) (hr : Row .u8 w da xs) (hn : da = none → dc = 0) (hl : xs.length = n) (hbo : ∀ x ∈ os, 0 ≤ x ∧ x ≤ 255) (hb : ∀ x ∈ xs, 0 ≤ x ∧ x ≤ 255) (hs : src ≤ 4294967295) (hd : dst ≤ 4294967295) (hp : p ≤ 65535) (hq : q ≤ 65535) (hu : u ≤ 4294967295) (hv : v ≤ 4294967295) (hf : f ≤ 255) (hg : g ≤ 65535) (hh : h ≤ 65535) (h1 : m ≤ 40) (h2 : m % 4 ≠ 0) (h3 : n ≤ 3000) :
    Calls Try.prog 3 #[.int .u32 src, .int .u32 dst, .agg #[.int .u16 (p : Int), .int .u16 (q : Int), .int .u32 (u : Int), .int .u32 (v : Int), .int .u8 (f : Int), .int .u16 (g : Int), .int .u16 (h : Int), .slice oa m oc, .slice da n dc]] w fun e w' => e = .returned (.bool true) ∧ Below w.heap.size w w' := by
  have HRO := hide hro
  have HNO := hide hno
  have HLO := hide hlo
  have HR := hide hr
  have HN := hide hn
  have HL := hide hl
  have HB := hide hb
  have HBO := hide hbo
  clear hro hno hlo hr hn hl hb hbo
  go_enter Try.func3, Try.ntmps3
  go_wp2_with fail
  obtain ⟨A, w0, hA, hqq, hbel, hheap⟩ : ∃ A wq, w.heap.size = A ∧ w.alloc (.cells #[.int .u16 (p : Int), .int .u16 (q : Int), .int .u32 (u : Int), .int .u32 (v : Int), .int .u8 (f : Int), .int .u16 (g : Int), .int .u16 (h : Int), .slice oa m oc, .slice da n dc] 27) = wq ∧ Below w.heap.size w wq ∧
      wq.heap[A]? = some (.cells #[.int .u16 (p : Int), .int .u16 (q : Int), .int .u32 (u : Int), .int .u32 (v : Int), .int .u8 (f : Int), .int .u16 (g : Int), .int .u16 (h : Int), .slice oa m oc, .slice da n dc] 27 (0, 0)) := ⟨_, _, rfl, rfl, (Below.refl _ _).alloc (Nat.le_refl _) _, heap_alloc_new _ _⟩
  rw [hqq, hA]
  have HAw := hide hA
  have HR0 := hide (And.intro (HRO.out.below hbel (Nat.le_refl _)) (HR.out.below hbel (Nat.le_refl _)))
  have HH0 := hide hheap
  have HB0 := hide hbel
  clear hqq hA hbel hheap
  refine (speaks5_any w0).mono ?_
  rintro e w1 ⟨rfl, b1⟩
  have HH1 := hide (below_block b1 HH0.out (Nat.le_refl _))
  have HR1 := hide (rs_below HR0.out b1 (Nat.le_refl _))
  have HB1 := hide (HB0.out.trans (b1.mono HB0.out.size))
  clear b1 HH0 HR0 HB0
  obtain ⟨⟨a0, a1, a2, a3, a4, a5, a6, a7, a8⟩, af⟩ := nine_cells HH1.out
  have hlA := lt_of_block HH1.out
  clear af
  have hd1 : decide ((3000 : Int) < (n : Int)) = false := by simp; omega
  have hd2 : decide ((300 : Int) < (m : Int)) = false := by simp; omega
  obtain ⟨wz, hwz, hCz, hbz, hzs⟩ : ∃ wz, w1.alloc (.cells #[.int .u16 (p : Int), .int .u16 (q : Int), .int .u32 (u : Int), .int .u32 (v : Int), .int .u8 (f : Int), .int .u16 (g : Int), .int .u16 (h : Int), .slice oa m oc, .slice da n dc] 27) = wz ∧ wz.heap[w1.heap.size]? = some (.cells #[.int .u16 (p : Int), .int .u16 (q : Int), .int .u32 (u : Int), .int .u32 (v : Int), .int .u8 (f : Int), .int .u16 (g : Int), .int .u16 (h : Int), .slice oa m oc, .slice da n dc] 27 (0, 0)) ∧ Below w1.heap.size w1 wz ∧ wz.heap.size = w1.heap.size + 1 := ⟨_, rfl, heap_alloc_new _ _, (Below.refl _ _).alloc (Nat.le_refl _) _, by simp⟩
  obtain ⟨C, hC⟩ : ∃ C, w1.heap.size = C := ⟨_, rfl⟩
  go_wp2_with fail
  try rw [hwz]
  try rw [hC]
  rw [hC] at hCz hlA hzs
  have HCz := hide hCz
  have HAz := hide (below_block hbz HH1.out (by omega))
  have HRz := hide (rs_below HR1.out hbz (by omega))
  have HBz := hide (HB1.out.trans (hbz.mono HB1.out.size))
  have hCs : C < wz.heap.size := by omega
  have hAz : A < wz.heap.size := by omega
  have hAC : ¬ A = C := by omega
  have HCe := hide hC
  have hwC : w.heap.size ≤ C := by have := HB1.out.size; omega
  obtain ⟨⟨z0, z1, z2, z3, z4, z5, z6, z7, z8⟩, zf⟩ := nine_cells HAz.out
  clear hwz hC hCz hbz hzs a0 a1 a2 a3 a4 a5 a6 a7 a8 zf z0 z1 z2 z3 z4 z5 z6
  have hxa : ∀ W : World, W = ((wz.alloc (.cells #[] 5)).alloc (.cells #[] 5)).drew → ∃ v' w', (Builtin.append_ #[25, 25] 25 #[.slice (some ⟨wz.heap.size, 0, none⟩) 0 0, .slice oa m oc]).run Try.prog W = .ok v' w' ∧ (w'.ownsRow wz.heap.size 5 1 v' m (os.map (Value.int .u8)) ∧ Below wz.heap.size wz w' ∧ w'.heap[wz.heap.size + 1]? = some (.cells #[] 5) ∧ v'.ownBlock ≠ some (wz.heap.size + 1)) := by
    rintro W rfl
    have e0 : (((wz.alloc (.cells #[] 5)).alloc (.cells #[] 5)).drew).heap[wz.heap.size]? = some (.cells #[] 5) := (Below.heap_alloc _ _ _ (by simp)).trans (heap_alloc_new wz _)
    have e1 : (((wz.alloc (.cells #[] 5)).alloc (.cells #[] 5)).drew).heap[wz.heap.size + 1]? = some (.cells #[] 5) := by have h := heap_alloc_new (wz.alloc (.cells #[] 5)) (.cells #[] 5); rw [show (wz.alloc (.cells #[] 5)).heap.size = wz.heap.size + 1 by simp] at h; exact h
    have hb : Below wz.heap.size wz (((wz.alloc (.cells #[] 5)).alloc (.cells #[] 5)).drew) := (((Below.refl _ wz).alloc (Nat.le_refl _) _).alloc (by simp) _).drew
    obtain ⟨v', w', h1, h2, h3, h4, h5⟩ := app3 (((wz.alloc (.cells #[] 5)).alloc (.cells #[] 5)).drew) wz.heap.size wz.heap.size e0 (Nat.le_refl _) oa os m oc (HRz.out.1.below hb (Nat.le_refl _)) HLO.out HNO.out (by omega) hb.size
    have hsz : (((wz.alloc (.cells #[] 5)).alloc (.cells #[] 5)).drew).heap.size = wz.heap.size + 2 := by simp
    refine ⟨v', w', h1, h2, hb.trans h3, h4 _ _ e1 (by omega), ?_⟩
    rcases h5 with h5 | h5 <;> rw [h5] <;> intro e <;> injection e with e <;> omega
  have hxb : ∀ W : World, W = ((wz.alloc (.cells #[] 5)).alloc (.cells #[] 5)).drew → ∃ v' w', (Builtin.append_ #[25, 25] 25 #[.slice (some ⟨wz.heap.size + 1, 0, none⟩) 0 0, .slice oa m oc]).run Try.prog W = .ok v' w' ∧ (w'.ownsRow wz.heap.size 5 1 v' m (os.map (Value.int .u8)) ∧ Below wz.heap.size wz w' ∧ w'.heap[wz.heap.size]? = some (.cells #[] 5) ∧ v'.ownBlock ≠ some wz.heap.size) := by
    rintro W rfl
    have e0 : (((wz.alloc (.cells #[] 5)).alloc (.cells #[] 5)).drew).heap[wz.heap.size]? = some (.cells #[] 5) := (Below.heap_alloc _ _ _ (by simp)).trans (heap_alloc_new wz _)
    have e1 : (((wz.alloc (.cells #[] 5)).alloc (.cells #[] 5)).drew).heap[wz.heap.size + 1]? = some (.cells #[] 5) := by have h := heap_alloc_new (wz.alloc (.cells #[] 5)) (.cells #[] 5); rw [show (wz.alloc (.cells #[] 5)).heap.size = wz.heap.size + 1 by simp] at h; exact h
    have hb : Below wz.heap.size wz (((wz.alloc (.cells #[] 5)).alloc (.cells #[] 5)).drew) := (((Below.refl _ wz).alloc (Nat.le_refl _) _).alloc (by simp) _).drew
    obtain ⟨v', w', h1, h2, h3, h4, h5⟩ := app3 (((wz.alloc (.cells #[] 5)).alloc (.cells #[] 5)).drew) wz.heap.size (wz.heap.size + 1) e1 (by omega) oa os m oc (HRz.out.1.below hb (Nat.le_refl _)) HLO.out HNO.out (by omega) hb.size
    have hsz : (((wz.alloc (.cells #[] 5)).alloc (.cells #[] 5)).drew).heap.size = wz.heap.size + 2 := by simp
    refine ⟨v', w', h1, h2, hb.trans h3, h4 _ _ e0 (by omega), ?_⟩
    rcases h5 with h5 | h5 <;> rw [h5] <;> intro e <;> injection e with e <;> omega
  have hxc : ∀ W : World, W = (wz.alloc (.cells #[] 5)).drew → ∃ v' w', (Builtin.append_ #[25, 25] 25 #[.slice (some ⟨wz.heap.size, 0, none⟩) 0 0, .slice oa m oc]).run Try.prog W = .ok v' w' ∧ (w'.ownsRow wz.heap.size 5 1 v' m (os.map (Value.int .u8)) ∧ Below wz.heap.size wz w') := by
    rintro W rfl
    have e0 : ((wz.alloc (.cells #[] 5)).drew).heap[wz.heap.size]? = some (.cells #[] 5) := heap_alloc_new wz _
    have hb : Below wz.heap.size wz ((wz.alloc (.cells #[] 5)).drew) := ((Below.refl _ wz).alloc (Nat.le_refl _) _).drew
    obtain ⟨v', w', h1, h2, h3, h4, h5⟩ := app3 ((wz.alloc (.cells #[] 5)).drew) wz.heap.size wz.heap.size e0 (Nat.le_refl _) oa os m oc (HRz.out.1.below hb (Nat.le_refl _)) HLO.out HNO.out (by omega) hb.size
    exact ⟨v', w', h1, h2, hb.trans h3⟩
  have hy : ∀ (W : World) (Lb : Nat) (v3 : Value), W.heap[Lb]? = some (.cells #[] 5) → wz.heap.size ≤ Lb → W.ownsRow wz.heap.size 5 1 v3 m (os.map (Value.int .u8)) → Below wz.heap.size wz W → v3.ownBlock ≠ some Lb → ∃ v' w', (Builtin.append_ #[25, 25] 25 #[.slice (some ⟨Lb, 0, none⟩) 0 0, .slice da n dc]).run Try.prog W = .ok v' w' ∧ (w'.ownsRow wz.heap.size 5 1 v' n (xs.map (Value.int .u8)) ∧ w'.ownsRow wz.heap.size 5 1 v3 m (os.map (Value.int .u8)) ∧ Below wz.heap.size wz w') := fun W Lb v3 e0 hL ho hb hne => by
    obtain ⟨v', w', h1, h2, h3, h4, h5⟩ := app3 W wz.heap.size Lb e0 hL da xs n dc (HRz.out.2.below hb (Nat.le_refl _)) HL.out HN.out (by omega) hb.size
    refine ⟨v', w', h1, h2, ?_, hb.trans h3⟩
    refine ⟨ho.1, ?_⟩
    rcases ho.2 with h | ⟨gg, cap, cur, hv, hgg, hhh, rest⟩
    · exact .inl h
    · exact .inr ⟨gg, cap, cur, hv, hgg, h4 _ _ hhh (by intro e; subst e; exact hne (by rw [hv]; rfl)), rest⟩
  have HXa := hide hxa
  have HXb := hide hxb
  have HXc := hide hxc
  have HYY := hide hy
  clear hxa hxb hxc hy
  go_cut [] (fun wx => ∃ ca cc ea ec, Hid (wx.heap[C]? = some (.cells #[.int .u16 (p : Int), .int .u16 (q : Int), .int .u32 (u : Int), .int .u32 (v : Int), .int .u8 (f : Int), .int .u16 (g : Int), .int .u16 (h : Int), .slice ca m cc, .slice ea n ec] 27 (0, 0))) ∧ Hid (wx.heap[A]? = some (.cells #[.int .u16 (p : Int), .int .u16 (q : Int), .int .u32 (u : Int), .int .u32 (v : Int), .int .u8 (f : Int), .int .u16 (g : Int), .int .u16 (h : Int), .slice oa m oc, .slice da n dc] 27 (0, 0))) ∧ Hid (Row .u8 wx ca os ∧ Row .u8 wx ea xs) ∧ Hid ((ca = none → cc = 0) ∧ (ea = none → ec = 0)) ∧ Hid (Row .u8 wx oa os ∧ Row .u8 wx da xs) ∧ Hid (Below w.heap.size w wx))
  case first =>
    go_region_held3 (fun w' => w'.cell? ⟨A, 7, none⟩ = some (.slice oa m oc) ∧ w'.cell? ⟨A, 8, none⟩ = some (.slice da n dc)) (first | go_keep | (exact ⟨(cell_set_ne _ _ _ _ (by assumption)).trans (by assumption), (cell_set_ne _ _ _ _ (by assumption)).trans (by assumption)⟩) | (exact ⟨((cell_set_ne _ _ _ _ (by assumption)).trans (cell_set_ne _ _ _ _ (by assumption))).trans (by assumption), ((cell_set_ne _ _ _ _ (by assumption)).trans (cell_set_ne _ _ _ _ (by assumption))).trans (by assumption)⟩)) (first
      | (refine step_append_ex rfl (.tmp 31) (.tmp 33) 25 25 rfl _ _ rfl rfl _ HY.out ?_; rintro v7 w7 HP; obtain ⟨ea, ec, rfl⟩ := slice_form HP.1; have BW := hide HP.2.2; have k7g := (bcell BW.out A 7 hAz).trans z7; have k8g := (bcell BW.out A 8 hAz).trans z8; have O7 := hide HP.1; have O3 := hide HP.2.1; have hC7 := below_block HP.2.2 HCz.out (Nat.le_refl _); obtain ⟨⟨c0, c1, c2, c3, c4, c5, c6, c7, c8⟩, cf⟩ := nine_cells hC7; have cf7 := cf 7; have cf8 := cf 8; have HC7 := hide hC7; clear HP hC7 cf)
      | (refine step_append_ex rfl (.tmp 27) (.tmp 29) 25 25 rfl (.slice (some ⟨wz.heap.size, 0, none⟩) 0 0) (.slice oa m oc) rfl rfl _ (HXa.out _ ?_) ?_; (with_reducible rfl); rintro v3 w3 HP; obtain ⟨ca, cc, rfl⟩ := slice_form HP.1; have BW := hide HP.2.1; have k7c := (bcell BW.out A 7 hAz).trans z7; have k8c := (bcell BW.out A 8 hAz).trans z8; have HY := hide (HYY.out w3 _ _ HP.2.2.1 (by omega) HP.1 HP.2.1 HP.2.2.2); have hA3 : A < w3.heap.size := Nat.lt_of_lt_of_le hAz BW.out.size; clear HP)
      | (refine step_append_ex rfl (.tmp 27) (.tmp 29) 25 25 rfl (.slice (some ⟨wz.heap.size + 1, 0, none⟩) 0 0) (.slice oa m oc) rfl rfl _ (HXb.out _ ?_) ?_; (with_reducible rfl); rintro v3 w3 HP; obtain ⟨ca, cc, rfl⟩ := slice_form HP.1; have BW := hide HP.2.1; have k7c := (bcell BW.out A 7 hAz).trans z7; have k8c := (bcell BW.out A 8 hAz).trans z8; have HY := hide (HYY.out w3 _ _ HP.2.2.1 (Nat.le_refl _) HP.1 HP.2.1 HP.2.2.2); have hA3 : A < w3.heap.size := Nat.lt_of_lt_of_le hAz BW.out.size; clear HP)
      | (refine step_append_ex rfl (.tmp 27) (.tmp 29) 25 25 rfl (.slice (some ⟨wz.heap.size, 0, none⟩) 0 0) (.slice oa m oc) rfl rfl _ (HXc.out _ ?_) ?_; (with_reducible rfl); rintro v3 w3 HP; obtain ⟨ca, cc, rfl⟩ := slice_form HP.1; have BW := hide HP.2; have k7c := (bcell BW.out A 7 hAz).trans z7; have k8c := (bcell BW.out A 8 hAz).trans z8; have HY := hide (HYY.out (w3.alloc (.cells #[] 5)) _ _ (heap_alloc_new w3 _) BW.out.size (HP.1.alloc _) (BW.out.alloc BW.out.size _) (own_ne HP.1 (Nat.le_refl _))); have hA3 : A < w3.heap.size := Nat.lt_of_lt_of_le hAz BW.out.size; clear HP)
      | fail)
    all_goals
      try go_wp2_with fail
      go_meet
      refine ⟨ca, cc, ea, ec, ?_, ?_, ?_, ?_, ?_, ?_⟩
      · exact hide (nine_set (nine_set HC7.out))
      · exact hide (set_ne_block (set_ne_block (below_block BW.out HAz.out (Nat.le_refl _)) hAC) hAC)
      · exact hide ⟨Row.of_owns (owns_set (owns_set O3.out hCs) hCs), Row.of_owns (owns_set (owns_set O7.out hCs) hCs)⟩
      · exact hide ⟨none_cap O3.out, none_cap O7.out⟩
      · have hdr : ∀ (a : Option Addr) (zs : List Int), Row .u8 w1 a zs → Row .u8 w7 a zs → Row .u8 ((w7.setCell ⟨C, 7, none⟩ (.slice ca m cc)).setCell ⟨C, 8, none⟩ (.slice ea n ec)) a zs := by
          intro a zs h1 h3 hz
          obtain ⟨b', off, e', hlt, _⟩ := h1 hz
          have hbC : ∀ b, a = some b → b.block ≠ C := fun b e => by rw [e] at e'; cases e'; have := HCe.out; simp; omega
          exact row_set (row_set h3 hbC) hbC hz
        have hr7 := rs_below HRz.out BW.out (Nat.le_refl _)
        exact hide ⟨hdr _ _ HR1.out.1 hr7.1, hdr _ _ HR1.out.2 hr7.2⟩
      · exact hide (((HBz.out.trans (BW.out.mono HBz.out.size)).setCell (by simpa using hwC) _).setCell (by simpa using hwC) _)
  case rest =>
  obtain ⟨ca, cc, ea, ec, HC, HA, HRC, HNC, HRA, HBW⟩ := hcut
  clear z7 z8 HXa HXb HXc HYY
  obtain ⟨⟨m0, m1, m2, m3, m4, m5, m6, m7, m8⟩, mf⟩ := nine_cells HC.out
  obtain ⟨⟨a0, a1, a2, a3, a4, a5, a6, a7, a8⟩, af⟩ := nine_cells HA.out
  clear mf af
  go_wp2_with fail
  refine (wtcp_arg2 wc _ _ _ _ _ _ _ _ _ _ _ _ _ _ _ h1 h2).mono ?_
  rintro e w5 ⟨rfl, b5⟩
  clear m0 m1 m2 m3 m4 m5 m6 m7 m8 a0 a1 a2 a3 a4 a5 a6 a7 a8
  have HA := hide (below_block b5 HA.out (Nat.le_refl _))
  have HC := hide (below_block b5 HC.out (Nat.le_refl _))
  have HRC := hide (rs_below HRC.out b5 (Nat.le_refl _))
  have HRA := hide (rs_below HRA.out b5 (Nat.le_refl _))
  have HBW := hide (HBW.out.trans (b5.mono HBW.out.size))
  clear b5
  obtain ⟨⟨m0, m1, m2, m3, m4, m5, m6, m7, m8⟩, mf⟩ := nine_cells HC.out
  obtain ⟨⟨a0, a1, a2, a3, a4, a5, a6, a7, a8⟩, af⟩ := nine_cells HA.out
  clear mf af
  go_wp2_with fail
  refine (rwtcp_arg2 w5 _ _ _ _ _ _ _ _ _ _ _ _ _ _ _ h1 h2).mono ?_
  rintro e w6 ⟨g6, rfl, b6⟩
  clear m0 m1 m2 m3 m4 m5 m6 m7 m8 a0 a1 a2 a3 a4 a5 a6 a7 a8
  have HA := hide (below_block b6 HA.out (Nat.le_refl _))
  have HC := hide (below_block b6 HC.out (Nat.le_refl _))
  have HRC := hide (rs_below HRC.out b6 (Nat.le_refl _))
  have HRA := hide (rs_below HRA.out b6 (Nat.le_refl _))
  have HBW := hide (HBW.out.trans (b6.mono HBW.out.size))
  clear b6
  obtain ⟨⟨m0, m1, m2, m3, m4, m5, m6, m7, m8⟩, mf⟩ := nine_cells HC.out
  obtain ⟨⟨a0, a1, a2, a3, a4, a5, a6, a7, a8⟩, af⟩ := nine_cells HA.out
  clear mf af
  have hcv1 : (convert 25 9 (.slice none 0 0)).run Try.prog w6 = .ok (.string (strOfNums [])) w6 := conv_any none [] 0 w6 (fun h => absurd rfl h)
  have hcv2 : (convert 25 9 (.slice (some ⟨g6, 0, none⟩) 0 0)).run Try.prog w6 = .ok (.string (strOfNums [])) w6 := conv_any (some ⟨g6, 0, none⟩) [] 0 w6 (fun h => absurd rfl h)
  have HS := hide (sameTcp_any w6 p q u v f g h ca oa ea da os xs m n cc oc ec dc HRC.out.1 HRA.out.1 HLO.out HRC.out.2 HRA.out.2 HL.out)
  go_wp2_with fail
  refine HS.out.mono ?_
  rintro e w7 ⟨rfl, b7⟩
  have HB7 := hide (HBW.out.trans (b7.mono HBW.out.size))
  clear b7 hcv1 hcv2
  clear m0 m1 m2 m3 m4 m5 m6 m7 m8 a0 a1 a2 a3 a4 a5 a6 a7 a8
  go_wp2
  go_ret
  exact ⟨rfl, HB7.out⟩

set_option maxHeartbeats 1600000 in
theorem ts_long (w : World) (src dst p q u v f g h : Nat) (oa : Option Addr) (os : List Int) (m oc : Nat) (da : Option Addr) (xs : List Int) (n dc : Nat) (hro : Row .u8 w oa os) (hno : oa = none → oc = 0) (hlo : os.length = m) (hr : Row .u8 w da xs) (hn : da = none → dc = 0) (hl : xs.length = n) (hbo : ∀ x ∈ os, 0 ≤ x ∧ x ≤ 255) (hb : ∀ x ∈ xs, 0 ≤ x ∧ x ≤ 255) (hs : src ≤ 4294967295) (hd : dst ≤ 4294967295) (hp : p ≤ 65535) (hq : q ≤ 65535) (hu : u ≤ 4294967295) (hv : v ≤ 4294967295) (hf : f ≤ 255) (hg : g ≤ 65535) (hh : h ≤ 65535) (h1 : m ≤ 40) (h2 : m % 4 = 0) (h3 : 1460 - m < n) (h4 : n ≤ 3000) :
    Calls Try.prog 3 #[.int .u32 src, .int .u32 dst, .agg #[.int .u16 (p : Int), .int .u16 (q : Int), .int .u32 (u : Int), .int .u32 (v : Int), .int .u8 (f : Int), .int .u16 (g : Int), .int .u16 (h : Int), .slice oa m oc, .slice da n dc]] w fun e w' => e = .returned (.bool true) ∧ Below w.heap.size w w' := by
  have HRO := hide hro
  have HNO := hide hno
  have HLO := hide hlo
  have HR := hide hr
  have HN := hide hn
  have HL := hide hl
  have HB := hide hb
  have HBO := hide hbo
  clear hro hno hlo hr hn hl hb hbo
  go_enter Try.func3, Try.ntmps3
  go_wp2_with fail
  obtain ⟨A, w0, hA, hqq, hbel, hheap⟩ : ∃ A wq, w.heap.size = A ∧ w.alloc (.cells #[.int .u16 (p : Int), .int .u16 (q : Int), .int .u32 (u : Int), .int .u32 (v : Int), .int .u8 (f : Int), .int .u16 (g : Int), .int .u16 (h : Int), .slice oa m oc, .slice da n dc] 27) = wq ∧ Below w.heap.size w wq ∧
      wq.heap[A]? = some (.cells #[.int .u16 (p : Int), .int .u16 (q : Int), .int .u32 (u : Int), .int .u32 (v : Int), .int .u8 (f : Int), .int .u16 (g : Int), .int .u16 (h : Int), .slice oa m oc, .slice da n dc] 27 (0, 0)) := ⟨_, _, rfl, rfl, (Below.refl _ _).alloc (Nat.le_refl _) _, heap_alloc_new _ _⟩
  rw [hqq, hA]
  have HAw := hide hA
  have HR0 := hide (And.intro (HRO.out.below hbel (Nat.le_refl _)) (HR.out.below hbel (Nat.le_refl _)))
  have HH0 := hide hheap
  have HB0 := hide hbel
  clear hqq hA hbel hheap
  refine (speaks5_any w0).mono ?_
  rintro e w1 ⟨rfl, b1⟩
  have HH1 := hide (below_block b1 HH0.out (Nat.le_refl _))
  have HR1 := hide (rs_below HR0.out b1 (Nat.le_refl _))
  have HB1 := hide (HB0.out.trans (b1.mono HB0.out.size))
  clear b1 HH0 HR0 HB0
  obtain ⟨⟨a0, a1, a2, a3, a4, a5, a6, a7, a8⟩, af⟩ := nine_cells HH1.out
  have hlA := lt_of_block HH1.out
  clear af
  have hd1 : decide ((3000 : Int) < (n : Int)) = false := by simp; omega
  have hd2 : decide ((300 : Int) < (m : Int)) = false := by simp; omega
  obtain ⟨wz, hwz, hCz, hbz, hzs⟩ : ∃ wz, w1.alloc (.cells #[.int .u16 (p : Int), .int .u16 (q : Int), .int .u32 (u : Int), .int .u32 (v : Int), .int .u8 (f : Int), .int .u16 (g : Int), .int .u16 (h : Int), .slice oa m oc, .slice da n dc] 27) = wz ∧ wz.heap[w1.heap.size]? = some (.cells #[.int .u16 (p : Int), .int .u16 (q : Int), .int .u32 (u : Int), .int .u32 (v : Int), .int .u8 (f : Int), .int .u16 (g : Int), .int .u16 (h : Int), .slice oa m oc, .slice da n dc] 27 (0, 0)) ∧ Below w1.heap.size w1 wz ∧ wz.heap.size = w1.heap.size + 1 := ⟨_, rfl, heap_alloc_new _ _, (Below.refl _ _).alloc (Nat.le_refl _) _, by simp⟩
  obtain ⟨C, hC⟩ : ∃ C, w1.heap.size = C := ⟨_, rfl⟩
  go_wp2_with fail
  try rw [hwz]
  try rw [hC]
  rw [hC] at hCz hlA hzs
  have HCz := hide hCz
  have HAz := hide (below_block hbz HH1.out (by omega))
  have HRz := hide (rs_below HR1.out hbz (by omega))
  have HBz := hide (HB1.out.trans (hbz.mono HB1.out.size))
  have hCs : C < wz.heap.size := by omega
  have hAz : A < wz.heap.size := by omega
  have hAC : ¬ A = C := by omega
  have HCe := hide hC
  have hwC : w.heap.size ≤ C := by have := HB1.out.size; omega
  obtain ⟨⟨z0, z1, z2, z3, z4, z5, z6, z7, z8⟩, zf⟩ := nine_cells HAz.out
  clear hwz hC hCz hbz hzs a0 a1 a2 a3 a4 a5 a6 a7 a8 zf z0 z1 z2 z3 z4 z5 z6
  have hxa : ∀ W : World, W = ((wz.alloc (.cells #[] 5)).alloc (.cells #[] 5)).drew → ∃ v' w', (Builtin.append_ #[25, 25] 25 #[.slice (some ⟨wz.heap.size, 0, none⟩) 0 0, .slice oa m oc]).run Try.prog W = .ok v' w' ∧ (w'.ownsRow wz.heap.size 5 1 v' m (os.map (Value.int .u8)) ∧ Below wz.heap.size wz w' ∧ w'.heap[wz.heap.size + 1]? = some (.cells #[] 5) ∧ v'.ownBlock ≠ some (wz.heap.size + 1)) := by
    rintro W rfl
    have e0 : (((wz.alloc (.cells #[] 5)).alloc (.cells #[] 5)).drew).heap[wz.heap.size]? = some (.cells #[] 5) := (Below.heap_alloc _ _ _ (by simp)).trans (heap_alloc_new wz _)
    have e1 : (((wz.alloc (.cells #[] 5)).alloc (.cells #[] 5)).drew).heap[wz.heap.size + 1]? = some (.cells #[] 5) := by have h := heap_alloc_new (wz.alloc (.cells #[] 5)) (.cells #[] 5); rw [show (wz.alloc (.cells #[] 5)).heap.size = wz.heap.size + 1 by simp] at h; exact h
    have hb : Below wz.heap.size wz (((wz.alloc (.cells #[] 5)).alloc (.cells #[] 5)).drew) := (((Below.refl _ wz).alloc (Nat.le_refl _) _).alloc (by simp) _).drew
    obtain ⟨v', w', h1, h2, h3, h4, h5⟩ := app3 (((wz.alloc (.cells #[] 5)).alloc (.cells #[] 5)).drew) wz.heap.size wz.heap.size e0 (Nat.le_refl _) oa os m oc (HRz.out.1.below hb (Nat.le_refl _)) HLO.out HNO.out (by omega) hb.size
    have hsz : (((wz.alloc (.cells #[] 5)).alloc (.cells #[] 5)).drew).heap.size = wz.heap.size + 2 := by simp
    refine ⟨v', w', h1, h2, hb.trans h3, h4 _ _ e1 (by omega), ?_⟩
    rcases h5 with h5 | h5 <;> rw [h5] <;> intro e <;> injection e with e <;> omega
  have hxb : ∀ W : World, W = ((wz.alloc (.cells #[] 5)).alloc (.cells #[] 5)).drew → ∃ v' w', (Builtin.append_ #[25, 25] 25 #[.slice (some ⟨wz.heap.size + 1, 0, none⟩) 0 0, .slice oa m oc]).run Try.prog W = .ok v' w' ∧ (w'.ownsRow wz.heap.size 5 1 v' m (os.map (Value.int .u8)) ∧ Below wz.heap.size wz w' ∧ w'.heap[wz.heap.size]? = some (.cells #[] 5) ∧ v'.ownBlock ≠ some wz.heap.size) := by
    rintro W rfl
    have e0 : (((wz.alloc (.cells #[] 5)).alloc (.cells #[] 5)).drew).heap[wz.heap.size]? = some (.cells #[] 5) := (Below.heap_alloc _ _ _ (by simp)).trans (heap_alloc_new wz _)
    have e1 : (((wz.alloc (.cells #[] 5)).alloc (.cells #[] 5)).drew).heap[wz.heap.size + 1]? = some (.cells #[] 5) := by have h := heap_alloc_new (wz.alloc (.cells #[] 5)) (.cells #[] 5); rw [show (wz.alloc (.cells #[] 5)).heap.size = wz.heap.size + 1 by simp] at h; exact h
    have hb : Below wz.heap.size wz (((wz.alloc (.cells #[] 5)).alloc (.cells #[] 5)).drew) := (((Below.refl _ wz).alloc (Nat.le_refl _) _).alloc (by simp) _).drew
    obtain ⟨v', w', h1, h2, h3, h4, h5⟩ := app3 (((wz.alloc (.cells #[] 5)).alloc (.cells #[] 5)).drew) wz.heap.size (wz.heap.size + 1) e1 (by omega) oa os m oc (HRz.out.1.below hb (Nat.le_refl _)) HLO.out HNO.out (by omega) hb.size
    have hsz : (((wz.alloc (.cells #[] 5)).alloc (.cells #[] 5)).drew).heap.size = wz.heap.size + 2 := by simp
    refine ⟨v', w', h1, h2, hb.trans h3, h4 _ _ e0 (by omega), ?_⟩
    rcases h5 with h5 | h5 <;> rw [h5] <;> intro e <;> injection e with e <;> omega
  have hxc : ∀ W : World, W = (wz.alloc (.cells #[] 5)).drew → ∃ v' w', (Builtin.append_ #[25, 25] 25 #[.slice (some ⟨wz.heap.size, 0, none⟩) 0 0, .slice oa m oc]).run Try.prog W = .ok v' w' ∧ (w'.ownsRow wz.heap.size 5 1 v' m (os.map (Value.int .u8)) ∧ Below wz.heap.size wz w') := by
    rintro W rfl
    have e0 : ((wz.alloc (.cells #[] 5)).drew).heap[wz.heap.size]? = some (.cells #[] 5) := heap_alloc_new wz _
    have hb : Below wz.heap.size wz ((wz.alloc (.cells #[] 5)).drew) := ((Below.refl _ wz).alloc (Nat.le_refl _) _).drew
    obtain ⟨v', w', h1, h2, h3, h4, h5⟩ := app3 ((wz.alloc (.cells #[] 5)).drew) wz.heap.size wz.heap.size e0 (Nat.le_refl _) oa os m oc (HRz.out.1.below hb (Nat.le_refl _)) HLO.out HNO.out (by omega) hb.size
    exact ⟨v', w', h1, h2, hb.trans h3⟩
  have hy : ∀ (W : World) (Lb : Nat) (v3 : Value), W.heap[Lb]? = some (.cells #[] 5) → wz.heap.size ≤ Lb → W.ownsRow wz.heap.size 5 1 v3 m (os.map (Value.int .u8)) → Below wz.heap.size wz W → v3.ownBlock ≠ some Lb → ∃ v' w', (Builtin.append_ #[25, 25] 25 #[.slice (some ⟨Lb, 0, none⟩) 0 0, .slice da n dc]).run Try.prog W = .ok v' w' ∧ (w'.ownsRow wz.heap.size 5 1 v' n (xs.map (Value.int .u8)) ∧ w'.ownsRow wz.heap.size 5 1 v3 m (os.map (Value.int .u8)) ∧ Below wz.heap.size wz w') := fun W Lb v3 e0 hL ho hb hne => by
    obtain ⟨v', w', h1, h2, h3, h4, h5⟩ := app3 W wz.heap.size Lb e0 hL da xs n dc (HRz.out.2.below hb (Nat.le_refl _)) HL.out HN.out (by omega) hb.size
    refine ⟨v', w', h1, h2, ?_, hb.trans h3⟩
    refine ⟨ho.1, ?_⟩
    rcases ho.2 with h | ⟨gg, cap, cur, hv, hgg, hhh, rest⟩
    · exact .inl h
    · exact .inr ⟨gg, cap, cur, hv, hgg, h4 _ _ hhh (by intro e; subst e; exact hne (by rw [hv]; rfl)), rest⟩
  have HXa := hide hxa
  have HXb := hide hxb
  have HXc := hide hxc
  have HYY := hide hy
  clear hxa hxb hxc hy
  go_cut [] (fun wx => ∃ ca cc ea ec, Hid (wx.heap[C]? = some (.cells #[.int .u16 (p : Int), .int .u16 (q : Int), .int .u32 (u : Int), .int .u32 (v : Int), .int .u8 (f : Int), .int .u16 (g : Int), .int .u16 (h : Int), .slice ca m cc, .slice ea n ec] 27 (0, 0))) ∧ Hid (wx.heap[A]? = some (.cells #[.int .u16 (p : Int), .int .u16 (q : Int), .int .u32 (u : Int), .int .u32 (v : Int), .int .u8 (f : Int), .int .u16 (g : Int), .int .u16 (h : Int), .slice oa m oc, .slice da n dc] 27 (0, 0))) ∧ Hid (Row .u8 wx ca os ∧ Row .u8 wx ea xs) ∧ Hid ((ca = none → cc = 0) ∧ (ea = none → ec = 0)) ∧ Hid (Row .u8 wx oa os ∧ Row .u8 wx da xs) ∧ Hid (Below w.heap.size w wx))
  case first =>
    go_region_held3 (fun w' => w'.cell? ⟨A, 7, none⟩ = some (.slice oa m oc) ∧ w'.cell? ⟨A, 8, none⟩ = some (.slice da n dc)) (first | go_keep | (exact ⟨(cell_set_ne _ _ _ _ (by assumption)).trans (by assumption), (cell_set_ne _ _ _ _ (by assumption)).trans (by assumption)⟩) | (exact ⟨((cell_set_ne _ _ _ _ (by assumption)).trans (cell_set_ne _ _ _ _ (by assumption))).trans (by assumption), ((cell_set_ne _ _ _ _ (by assumption)).trans (cell_set_ne _ _ _ _ (by assumption))).trans (by assumption)⟩)) (first
      | (refine step_append_ex rfl (.tmp 31) (.tmp 33) 25 25 rfl _ _ rfl rfl _ HY.out ?_; rintro v7 w7 HP; obtain ⟨ea, ec, rfl⟩ := slice_form HP.1; have BW := hide HP.2.2; have k7g := (bcell BW.out A 7 hAz).trans z7; have k8g := (bcell BW.out A 8 hAz).trans z8; have O7 := hide HP.1; have O3 := hide HP.2.1; have hC7 := below_block HP.2.2 HCz.out (Nat.le_refl _); obtain ⟨⟨c0, c1, c2, c3, c4, c5, c6, c7, c8⟩, cf⟩ := nine_cells hC7; have cf7 := cf 7; have cf8 := cf 8; have HC7 := hide hC7; clear HP hC7 cf)
      | (refine step_append_ex rfl (.tmp 27) (.tmp 29) 25 25 rfl (.slice (some ⟨wz.heap.size, 0, none⟩) 0 0) (.slice oa m oc) rfl rfl _ (HXa.out _ ?_) ?_; (with_reducible rfl); rintro v3 w3 HP; obtain ⟨ca, cc, rfl⟩ := slice_form HP.1; have BW := hide HP.2.1; have k7c := (bcell BW.out A 7 hAz).trans z7; have k8c := (bcell BW.out A 8 hAz).trans z8; have HY := hide (HYY.out w3 _ _ HP.2.2.1 (by omega) HP.1 HP.2.1 HP.2.2.2); have hA3 : A < w3.heap.size := Nat.lt_of_lt_of_le hAz BW.out.size; clear HP)
      | (refine step_append_ex rfl (.tmp 27) (.tmp 29) 25 25 rfl (.slice (some ⟨wz.heap.size + 1, 0, none⟩) 0 0) (.slice oa m oc) rfl rfl _ (HXb.out _ ?_) ?_; (with_reducible rfl); rintro v3 w3 HP; obtain ⟨ca, cc, rfl⟩ := slice_form HP.1; have BW := hide HP.2.1; have k7c := (bcell BW.out A 7 hAz).trans z7; have k8c := (bcell BW.out A 8 hAz).trans z8; have HY := hide (HYY.out w3 _ _ HP.2.2.1 (Nat.le_refl _) HP.1 HP.2.1 HP.2.2.2); have hA3 : A < w3.heap.size := Nat.lt_of_lt_of_le hAz BW.out.size; clear HP)
      | (refine step_append_ex rfl (.tmp 27) (.tmp 29) 25 25 rfl (.slice (some ⟨wz.heap.size, 0, none⟩) 0 0) (.slice oa m oc) rfl rfl _ (HXc.out _ ?_) ?_; (with_reducible rfl); rintro v3 w3 HP; obtain ⟨ca, cc, rfl⟩ := slice_form HP.1; have BW := hide HP.2; have k7c := (bcell BW.out A 7 hAz).trans z7; have k8c := (bcell BW.out A 8 hAz).trans z8; have HY := hide (HYY.out (w3.alloc (.cells #[] 5)) _ _ (heap_alloc_new w3 _) BW.out.size (HP.1.alloc _) (BW.out.alloc BW.out.size _) (own_ne HP.1 (Nat.le_refl _))); have hA3 : A < w3.heap.size := Nat.lt_of_lt_of_le hAz BW.out.size; clear HP)
      | fail)
    all_goals
      try go_wp2_with fail
      go_meet
      refine ⟨ca, cc, ea, ec, ?_, ?_, ?_, ?_, ?_, ?_⟩
      · exact hide (nine_set (nine_set HC7.out))
      · exact hide (set_ne_block (set_ne_block (below_block BW.out HAz.out (Nat.le_refl _)) hAC) hAC)
      · exact hide ⟨Row.of_owns (owns_set (owns_set O3.out hCs) hCs), Row.of_owns (owns_set (owns_set O7.out hCs) hCs)⟩
      · exact hide ⟨none_cap O3.out, none_cap O7.out⟩
      · have hdr : ∀ (a : Option Addr) (zs : List Int), Row .u8 w1 a zs → Row .u8 w7 a zs → Row .u8 ((w7.setCell ⟨C, 7, none⟩ (.slice ca m cc)).setCell ⟨C, 8, none⟩ (.slice ea n ec)) a zs := by
          intro a zs h1 h3 hz
          obtain ⟨b', off, e', hlt, _⟩ := h1 hz
          have hbC : ∀ b, a = some b → b.block ≠ C := fun b e => by rw [e] at e'; cases e'; have := HCe.out; simp; omega
          exact row_set (row_set h3 hbC) hbC hz
        have hr7 := rs_below HRz.out BW.out (Nat.le_refl _)
        exact hide ⟨hdr _ _ HR1.out.1 hr7.1, hdr _ _ HR1.out.2 hr7.2⟩
      · exact hide (((HBz.out.trans (BW.out.mono HBz.out.size)).setCell (by simpa using hwC) _).setCell (by simpa using hwC) _)
  case rest =>
  obtain ⟨ca, cc, ea, ec, HC, HA, HRC, HNC, HRA, HBW⟩ := hcut
  clear z7 z8 HXa HXb HXc HYY
  obtain ⟨⟨m0, m1, m2, m3, m4, m5, m6, m7, m8⟩, mf⟩ := nine_cells HC.out
  obtain ⟨⟨a0, a1, a2, a3, a4, a5, a6, a7, a8⟩, af⟩ := nine_cells HA.out
  clear mf af
  go_wp2_with fail
  refine (wtcp_long wc _ _ _ _ _ _ _ _ _ _ _ _ _ _ _ h1 h2 h3).mono ?_
  rintro e w5 ⟨rfl, b5⟩
  clear m0 m1 m2 m3 m4 m5 m6 m7 m8 a0 a1 a2 a3 a4 a5 a6 a7 a8
  have HA := hide (below_block b5 HA.out (Nat.le_refl _))
  have HC := hide (below_block b5 HC.out (Nat.le_refl _))
  have HRC := hide (rs_below HRC.out b5 (Nat.le_refl _))
  have HRA := hide (rs_below HRA.out b5 (Nat.le_refl _))
  have HBW := hide (HBW.out.trans (b5.mono HBW.out.size))
  clear b5
  obtain ⟨⟨m0, m1, m2, m3, m4, m5, m6, m7, m8⟩, mf⟩ := nine_cells HC.out
  obtain ⟨⟨a0, a1, a2, a3, a4, a5, a6, a7, a8⟩, af⟩ := nine_cells HA.out
  clear mf af
  go_wp2_with fail
  refine (rwtcp_long w5 _ _ _ _ _ _ _ _ _ _ _ _ _ _ _ h1 h2 h3).mono ?_
  rintro e w6 ⟨g6, rfl, b6⟩
  clear m0 m1 m2 m3 m4 m5 m6 m7 m8 a0 a1 a2 a3 a4 a5 a6 a7 a8
  have HA := hide (below_block b6 HA.out (Nat.le_refl _))
  have HC := hide (below_block b6 HC.out (Nat.le_refl _))
  have HRC := hide (rs_below HRC.out b6 (Nat.le_refl _))
  have HRA := hide (rs_below HRA.out b6 (Nat.le_refl _))
  have HBW := hide (HBW.out.trans (b6.mono HBW.out.size))
  clear b6
  obtain ⟨⟨m0, m1, m2, m3, m4, m5, m6, m7, m8⟩, mf⟩ := nine_cells HC.out
  obtain ⟨⟨a0, a1, a2, a3, a4, a5, a6, a7, a8⟩, af⟩ := nine_cells HA.out
  clear mf af
  have hcv1 : (convert 25 9 (.slice none 0 0)).run Try.prog w6 = .ok (.string (strOfNums [])) w6 := conv_any none [] 0 w6 (fun h => absurd rfl h)
  have hcv2 : (convert 25 9 (.slice (some ⟨g6, 0, none⟩) 0 0)).run Try.prog w6 = .ok (.string (strOfNums [])) w6 := conv_any (some ⟨g6, 0, none⟩) [] 0 w6 (fun h => absurd rfl h)
  have HS := hide (sameTcp_any w6 p q u v f g h ca oa ea da os xs m n cc oc ec dc HRC.out.1 HRA.out.1 HLO.out HRC.out.2 HRA.out.2 HL.out)
  go_wp2_with fail
  refine HS.out.mono ?_
  rintro e w7 ⟨rfl, b7⟩
  have HB7 := hide (HBW.out.trans (b7.mono HBW.out.size))
  clear b7 hcv1 hcv2
  clear m0 m1 m2 m3 m4 m5 m6 m7 m8 a0 a1 a2 a3 a4 a5 a6 a7 a8
  go_wp2
  go_ret
  exact ⟨rfl, HB7.out⟩

set_option maxHeartbeats 1600000 in
theorem ts_ok (w : World) (src dst p q u v f g h : Nat) (oa : Option Addr) (os : List Int) (m oc : Nat) (da : Option Addr) (xs : List Int) (n dc : Nat) (hro : Row .u8 w oa os) (hno : oa = none → oc = 0) (hlo : os.length = m) (hr : Row .u8 w da xs) (hn : da = none → dc = 0) (hl : xs.length = n) (hbo : ∀ x ∈ os, 0 ≤ x ∧ x ≤ 255) (hb : ∀ x ∈ xs, 0 ≤ x ∧ x ≤ 255) (hs : src ≤ 4294967295) (hd : dst ≤ 4294967295) (hp : p ≤ 65535) (hq : q ≤ 65535) (hu : u ≤ 4294967295) (hv : v ≤ 4294967295) (hf : f ≤ 255) (hg : g ≤ 65535) (hh : h ≤ 65535) (h1 : m ≤ 40) (h2 : m % 4 = 0) (h3 : n ≤ 1460 - m) :
    Calls Try.prog 3 #[.int .u32 src, .int .u32 dst, .agg #[.int .u16 (p : Int), .int .u16 (q : Int), .int .u32 (u : Int), .int .u32 (v : Int), .int .u8 (f : Int), .int .u16 (g : Int), .int .u16 (h : Int), .slice oa m oc, .slice da n dc]] w fun e w' => e = .returned (.bool true) ∧ Below w.heap.size w w' := by
  have HRO := hide hro
  have HNO := hide hno
  have HLO := hide hlo
  have HR := hide hr
  have HN := hide hn
  have HL := hide hl
  have HB := hide hb
  have HBO := hide hbo
  clear hro hno hlo hr hn hl hb hbo
  go_enter Try.func3, Try.ntmps3
  go_wp2_with fail
  obtain ⟨A, w0, hA, hqq, hbel, hheap⟩ : ∃ A wq, w.heap.size = A ∧ w.alloc (.cells #[.int .u16 (p : Int), .int .u16 (q : Int), .int .u32 (u : Int), .int .u32 (v : Int), .int .u8 (f : Int), .int .u16 (g : Int), .int .u16 (h : Int), .slice oa m oc, .slice da n dc] 27) = wq ∧ Below w.heap.size w wq ∧
      wq.heap[A]? = some (.cells #[.int .u16 (p : Int), .int .u16 (q : Int), .int .u32 (u : Int), .int .u32 (v : Int), .int .u8 (f : Int), .int .u16 (g : Int), .int .u16 (h : Int), .slice oa m oc, .slice da n dc] 27 (0, 0)) := ⟨_, _, rfl, rfl, (Below.refl _ _).alloc (Nat.le_refl _) _, heap_alloc_new _ _⟩
  rw [hqq, hA]
  have HAw := hide hA
  have HR0 := hide (And.intro (HRO.out.below hbel (Nat.le_refl _)) (HR.out.below hbel (Nat.le_refl _)))
  have HH0 := hide hheap
  have HB0 := hide hbel
  clear hqq hA hbel hheap
  refine (speaks5_any w0).mono ?_
  rintro e w1 ⟨rfl, b1⟩
  have HH1 := hide (below_block b1 HH0.out (Nat.le_refl _))
  have HR1 := hide (rs_below HR0.out b1 (Nat.le_refl _))
  have HB1 := hide (HB0.out.trans (b1.mono HB0.out.size))
  clear b1 HH0 HR0 HB0
  obtain ⟨⟨a0, a1, a2, a3, a4, a5, a6, a7, a8⟩, af⟩ := nine_cells HH1.out
  have hlA := lt_of_block HH1.out
  clear af
  have hd1 : decide ((3000 : Int) < (n : Int)) = false := by simp; omega
  have hd2 : decide ((300 : Int) < (m : Int)) = false := by simp; omega
  obtain ⟨wz, hwz, hCz, hbz, hzs⟩ : ∃ wz, w1.alloc (.cells #[.int .u16 (p : Int), .int .u16 (q : Int), .int .u32 (u : Int), .int .u32 (v : Int), .int .u8 (f : Int), .int .u16 (g : Int), .int .u16 (h : Int), .slice oa m oc, .slice da n dc] 27) = wz ∧ wz.heap[w1.heap.size]? = some (.cells #[.int .u16 (p : Int), .int .u16 (q : Int), .int .u32 (u : Int), .int .u32 (v : Int), .int .u8 (f : Int), .int .u16 (g : Int), .int .u16 (h : Int), .slice oa m oc, .slice da n dc] 27 (0, 0)) ∧ Below w1.heap.size w1 wz ∧ wz.heap.size = w1.heap.size + 1 := ⟨_, rfl, heap_alloc_new _ _, (Below.refl _ _).alloc (Nat.le_refl _) _, by simp⟩
  obtain ⟨C, hC⟩ : ∃ C, w1.heap.size = C := ⟨_, rfl⟩
  go_wp2_with fail
  try rw [hwz]
  try rw [hC]
  rw [hC] at hCz hlA hzs
  have HCz := hide hCz
  have HAz := hide (below_block hbz HH1.out (by omega))
  have HRz := hide (rs_below HR1.out hbz (by omega))
  have HBz := hide (HB1.out.trans (hbz.mono HB1.out.size))
  have hCs : C < wz.heap.size := by omega
  have hAz : A < wz.heap.size := by omega
  have hAC : ¬ A = C := by omega
  have HCe := hide hC
  have hwC : w.heap.size ≤ C := by have := HB1.out.size; omega
  obtain ⟨⟨z0, z1, z2, z3, z4, z5, z6, z7, z8⟩, zf⟩ := nine_cells HAz.out
  clear hwz hC hCz hbz hzs a0 a1 a2 a3 a4 a5 a6 a7 a8 zf z0 z1 z2 z3 z4 z5 z6
  have hxa : ∀ W : World, W = ((wz.alloc (.cells #[] 5)).alloc (.cells #[] 5)).drew → ∃ v' w', (Builtin.append_ #[25, 25] 25 #[.slice (some ⟨wz.heap.size, 0, none⟩) 0 0, .slice oa m oc]).run Try.prog W = .ok v' w' ∧ (w'.ownsRow wz.heap.size 5 1 v' m (os.map (Value.int .u8)) ∧ Below wz.heap.size wz w' ∧ w'.heap[wz.heap.size + 1]? = some (.cells #[] 5) ∧ v'.ownBlock ≠ some (wz.heap.size + 1)) := by
    rintro W rfl
    have e0 : (((wz.alloc (.cells #[] 5)).alloc (.cells #[] 5)).drew).heap[wz.heap.size]? = some (.cells #[] 5) := (Below.heap_alloc _ _ _ (by simp)).trans (heap_alloc_new wz _)
    have e1 : (((wz.alloc (.cells #[] 5)).alloc (.cells #[] 5)).drew).heap[wz.heap.size + 1]? = some (.cells #[] 5) := by have h := heap_alloc_new (wz.alloc (.cells #[] 5)) (.cells #[] 5); rw [show (wz.alloc (.cells #[] 5)).heap.size = wz.heap.size + 1 by simp] at h; exact h
    have hb : Below wz.heap.size wz (((wz.alloc (.cells #[] 5)).alloc (.cells #[] 5)).drew) := (((Below.refl _ wz).alloc (Nat.le_refl _) _).alloc (by simp) _).drew
    obtain ⟨v', w', h1, h2, h3, h4, h5⟩ := app3 (((wz.alloc (.cells #[] 5)).alloc (.cells #[] 5)).drew) wz.heap.size wz.heap.size e0 (Nat.le_refl _) oa os m oc (HRz.out.1.below hb (Nat.le_refl _)) HLO.out HNO.out (by omega) hb.size
    have hsz : (((wz.alloc (.cells #[] 5)).alloc (.cells #[] 5)).drew).heap.size = wz.heap.size + 2 := by simp
    refine ⟨v', w', h1, h2, hb.trans h3, h4 _ _ e1 (by omega), ?_⟩
    rcases h5 with h5 | h5 <;> rw [h5] <;> intro e <;> injection e with e <;> omega
  have hxb : ∀ W : World, W = ((wz.alloc (.cells #[] 5)).alloc (.cells #[] 5)).drew → ∃ v' w', (Builtin.append_ #[25, 25] 25 #[.slice (some ⟨wz.heap.size + 1, 0, none⟩) 0 0, .slice oa m oc]).run Try.prog W = .ok v' w' ∧ (w'.ownsRow wz.heap.size 5 1 v' m (os.map (Value.int .u8)) ∧ Below wz.heap.size wz w' ∧ w'.heap[wz.heap.size]? = some (.cells #[] 5) ∧ v'.ownBlock ≠ some wz.heap.size) := by
    rintro W rfl
    have e0 : (((wz.alloc (.cells #[] 5)).alloc (.cells #[] 5)).drew).heap[wz.heap.size]? = some (.cells #[] 5) := (Below.heap_alloc _ _ _ (by simp)).trans (heap_alloc_new wz _)
    have e1 : (((wz.alloc (.cells #[] 5)).alloc (.cells #[] 5)).drew).heap[wz.heap.size + 1]? = some (.cells #[] 5) := by have h := heap_alloc_new (wz.alloc (.cells #[] 5)) (.cells #[] 5); rw [show (wz.alloc (.cells #[] 5)).heap.size = wz.heap.size + 1 by simp] at h; exact h
    have hb : Below wz.heap.size wz (((wz.alloc (.cells #[] 5)).alloc (.cells #[] 5)).drew) := (((Below.refl _ wz).alloc (Nat.le_refl _) _).alloc (by simp) _).drew
    obtain ⟨v', w', h1, h2, h3, h4, h5⟩ := app3 (((wz.alloc (.cells #[] 5)).alloc (.cells #[] 5)).drew) wz.heap.size (wz.heap.size + 1) e1 (by omega) oa os m oc (HRz.out.1.below hb (Nat.le_refl _)) HLO.out HNO.out (by omega) hb.size
    have hsz : (((wz.alloc (.cells #[] 5)).alloc (.cells #[] 5)).drew).heap.size = wz.heap.size + 2 := by simp
    refine ⟨v', w', h1, h2, hb.trans h3, h4 _ _ e0 (by omega), ?_⟩
    rcases h5 with h5 | h5 <;> rw [h5] <;> intro e <;> injection e with e <;> omega
  have hxc : ∀ W : World, W = (wz.alloc (.cells #[] 5)).drew → ∃ v' w', (Builtin.append_ #[25, 25] 25 #[.slice (some ⟨wz.heap.size, 0, none⟩) 0 0, .slice oa m oc]).run Try.prog W = .ok v' w' ∧ (w'.ownsRow wz.heap.size 5 1 v' m (os.map (Value.int .u8)) ∧ Below wz.heap.size wz w') := by
    rintro W rfl
    have e0 : ((wz.alloc (.cells #[] 5)).drew).heap[wz.heap.size]? = some (.cells #[] 5) := heap_alloc_new wz _
    have hb : Below wz.heap.size wz ((wz.alloc (.cells #[] 5)).drew) := ((Below.refl _ wz).alloc (Nat.le_refl _) _).drew
    obtain ⟨v', w', h1, h2, h3, h4, h5⟩ := app3 ((wz.alloc (.cells #[] 5)).drew) wz.heap.size wz.heap.size e0 (Nat.le_refl _) oa os m oc (HRz.out.1.below hb (Nat.le_refl _)) HLO.out HNO.out (by omega) hb.size
    exact ⟨v', w', h1, h2, hb.trans h3⟩
  have hy : ∀ (W : World) (Lb : Nat) (v3 : Value), W.heap[Lb]? = some (.cells #[] 5) → wz.heap.size ≤ Lb → W.ownsRow wz.heap.size 5 1 v3 m (os.map (Value.int .u8)) → Below wz.heap.size wz W → v3.ownBlock ≠ some Lb → ∃ v' w', (Builtin.append_ #[25, 25] 25 #[.slice (some ⟨Lb, 0, none⟩) 0 0, .slice da n dc]).run Try.prog W = .ok v' w' ∧ (w'.ownsRow wz.heap.size 5 1 v' n (xs.map (Value.int .u8)) ∧ w'.ownsRow wz.heap.size 5 1 v3 m (os.map (Value.int .u8)) ∧ Below wz.heap.size wz w') := fun W Lb v3 e0 hL ho hb hne => by
    obtain ⟨v', w', h1, h2, h3, h4, h5⟩ := app3 W wz.heap.size Lb e0 hL da xs n dc (HRz.out.2.below hb (Nat.le_refl _)) HL.out HN.out (by omega) hb.size
    refine ⟨v', w', h1, h2, ?_, hb.trans h3⟩
    refine ⟨ho.1, ?_⟩
    rcases ho.2 with h | ⟨gg, cap, cur, hv, hgg, hhh, rest⟩
    · exact .inl h
    · exact .inr ⟨gg, cap, cur, hv, hgg, h4 _ _ hhh (by intro e; subst e; exact hne (by rw [hv]; rfl)), rest⟩
  have HXa := hide hxa
  have HXb := hide hxb
  have HXc := hide hxc
  have HYY := hide hy
  clear hxa hxb hxc hy
  go_cut [] (fun wx => ∃ ca cc ea ec, Hid (wx.heap[C]? = some (.cells #[.int .u16 (p : Int), .int .u16 (q : Int), .int .u32 (u : Int), .int .u32 (v : Int), .int .u8 (f : Int), .int .u16 (g : Int), .int .u16 (h : Int), .slice ca m cc, .slice ea n ec] 27 (0, 0))) ∧ Hid (wx.heap[A]? = some (.cells #[.int .u16 (p : Int), .int .u16 (q : Int), .int .u32 (u : Int), .int .u32 (v : Int), .int .u8 (f : Int), .int .u16 (g : Int), .int .u16 (h : Int), .slice oa m oc, .slice da n dc] 27 (0, 0))) ∧ Hid (Row .u8 wx ca os ∧ Row .u8 wx ea xs) ∧ Hid ((ca = none → cc = 0) ∧ (ea = none → ec = 0)) ∧ Hid (Row .u8 wx oa os ∧ Row .u8 wx da xs) ∧ Hid (Below w.heap.size w wx))
  case first =>
    go_region_held3 (fun w' => w'.cell? ⟨A, 7, none⟩ = some (.slice oa m oc) ∧ w'.cell? ⟨A, 8, none⟩ = some (.slice da n dc)) (first | go_keep | (exact ⟨(cell_set_ne _ _ _ _ (by assumption)).trans (by assumption), (cell_set_ne _ _ _ _ (by assumption)).trans (by assumption)⟩) | (exact ⟨((cell_set_ne _ _ _ _ (by assumption)).trans (cell_set_ne _ _ _ _ (by assumption))).trans (by assumption), ((cell_set_ne _ _ _ _ (by assumption)).trans (cell_set_ne _ _ _ _ (by assumption))).trans (by assumption)⟩)) (first
      | (refine step_append_ex rfl (.tmp 31) (.tmp 33) 25 25 rfl _ _ rfl rfl _ HY.out ?_; rintro v7 w7 HP; obtain ⟨ea, ec, rfl⟩ := slice_form HP.1; have BW := hide HP.2.2; have k7g := (bcell BW.out A 7 hAz).trans z7; have k8g := (bcell BW.out A 8 hAz).trans z8; have O7 := hide HP.1; have O3 := hide HP.2.1; have hC7 := below_block HP.2.2 HCz.out (Nat.le_refl _); obtain ⟨⟨c0, c1, c2, c3, c4, c5, c6, c7, c8⟩, cf⟩ := nine_cells hC7; have cf7 := cf 7; have cf8 := cf 8; have HC7 := hide hC7; clear HP hC7 cf)
      | (refine step_append_ex rfl (.tmp 27) (.tmp 29) 25 25 rfl (.slice (some ⟨wz.heap.size, 0, none⟩) 0 0) (.slice oa m oc) rfl rfl _ (HXa.out _ ?_) ?_; (with_reducible rfl); rintro v3 w3 HP; obtain ⟨ca, cc, rfl⟩ := slice_form HP.1; have BW := hide HP.2.1; have k7c := (bcell BW.out A 7 hAz).trans z7; have k8c := (bcell BW.out A 8 hAz).trans z8; have HY := hide (HYY.out w3 _ _ HP.2.2.1 (by omega) HP.1 HP.2.1 HP.2.2.2); have hA3 : A < w3.heap.size := Nat.lt_of_lt_of_le hAz BW.out.size; clear HP)
      | (refine step_append_ex rfl (.tmp 27) (.tmp 29) 25 25 rfl (.slice (some ⟨wz.heap.size + 1, 0, none⟩) 0 0) (.slice oa m oc) rfl rfl _ (HXb.out _ ?_) ?_; (with_reducible rfl); rintro v3 w3 HP; obtain ⟨ca, cc, rfl⟩ := slice_form HP.1; have BW := hide HP.2.1; have k7c := (bcell BW.out A 7 hAz).trans z7; have k8c := (bcell BW.out A 8 hAz).trans z8; have HY := hide (HYY.out w3 _ _ HP.2.2.1 (Nat.le_refl _) HP.1 HP.2.1 HP.2.2.2); have hA3 : A < w3.heap.size := Nat.lt_of_lt_of_le hAz BW.out.size; clear HP)
      | (refine step_append_ex rfl (.tmp 27) (.tmp 29) 25 25 rfl (.slice (some ⟨wz.heap.size, 0, none⟩) 0 0) (.slice oa m oc) rfl rfl _ (HXc.out _ ?_) ?_; (with_reducible rfl); rintro v3 w3 HP; obtain ⟨ca, cc, rfl⟩ := slice_form HP.1; have BW := hide HP.2; have k7c := (bcell BW.out A 7 hAz).trans z7; have k8c := (bcell BW.out A 8 hAz).trans z8; have HY := hide (HYY.out (w3.alloc (.cells #[] 5)) _ _ (heap_alloc_new w3 _) BW.out.size (HP.1.alloc _) (BW.out.alloc BW.out.size _) (own_ne HP.1 (Nat.le_refl _))); have hA3 : A < w3.heap.size := Nat.lt_of_lt_of_le hAz BW.out.size; clear HP)
      | fail)
    all_goals
      try go_wp2_with fail
      go_meet
      refine ⟨ca, cc, ea, ec, ?_, ?_, ?_, ?_, ?_, ?_⟩
      · exact hide (nine_set (nine_set HC7.out))
      · exact hide (set_ne_block (set_ne_block (below_block BW.out HAz.out (Nat.le_refl _)) hAC) hAC)
      · exact hide ⟨Row.of_owns (owns_set (owns_set O3.out hCs) hCs), Row.of_owns (owns_set (owns_set O7.out hCs) hCs)⟩
      · exact hide ⟨none_cap O3.out, none_cap O7.out⟩
      · have hdr : ∀ (a : Option Addr) (zs : List Int), Row .u8 w1 a zs → Row .u8 w7 a zs → Row .u8 ((w7.setCell ⟨C, 7, none⟩ (.slice ca m cc)).setCell ⟨C, 8, none⟩ (.slice ea n ec)) a zs := by
          intro a zs h1 h3 hz
          obtain ⟨b', off, e', hlt, _⟩ := h1 hz
          have hbC : ∀ b, a = some b → b.block ≠ C := fun b e => by rw [e] at e'; cases e'; have := HCe.out; simp; omega
          exact row_set (row_set h3 hbC) hbC hz
        have hr7 := rs_below HRz.out BW.out (Nat.le_refl _)
        exact hide ⟨hdr _ _ HR1.out.1 hr7.1, hdr _ _ HR1.out.2 hr7.2⟩
      · exact hide (((HBz.out.trans (BW.out.mono HBz.out.size)).setCell (by simpa using hwC) _).setCell (by simpa using hwC) _)
  case rest =>
  obtain ⟨ca, cc, ea, ec, HC, HA, HRC, HNC, HRA, HBW⟩ := hcut
  clear z7 z8 HXa HXb HXc HYY
  obtain ⟨⟨m0, m1, m2, m3, m4, m5, m6, m7, m8⟩, mf⟩ := nine_cells HC.out
  obtain ⟨⟨a0, a1, a2, a3, a4, a5, a6, a7, a8⟩, af⟩ := nine_cells HA.out
  clear mf af
  have HMM := hide h2
  clear h2
  go_wp2_with fail
  refine (wtcp_ok wc src dst p q u v f g h ca os m cc ea xs n ec HRC.out.1 HNC.out.1 HLO.out HRC.out.2 HNC.out.2 HL.out HBO.out HB.out h1 HMM.out h3 hs hd hp hq hu hv hf hg hh).mono ?_
  rintro e w5 ⟨y5, c5, rfl, o5, b5⟩
  have HO5 := hide o5
  clear m0 m1 m2 m3 m4 m5 m6 m7 m8 a0 a1 a2 a3 a4 a5 a6 a7 a8
  have HA := hide (below_block b5 HA.out (Nat.le_refl _))
  have HC := hide (below_block b5 HC.out (Nat.le_refl _))
  have HRC := hide (rs_below HRC.out b5 (Nat.le_refl _))
  have HRA := hide (rs_below HRA.out b5 (Nat.le_refl _))
  have HBW := hide (HBW.out.trans (b5.mono HBW.out.size))
  clear b5 o5
  obtain ⟨⟨m0, m1, m2, m3, m4, m5, m6, m7, m8⟩, mf⟩ := nine_cells HC.out
  obtain ⟨⟨a0, a1, a2, a3, a4, a5, a6, a7, a8⟩, af⟩ := nine_cells HA.out
  clear mf af
  go_wp2_with fail
  refine (rwtcp_ok w5 src dst p q u v f g h oa os m oc da xs n dc HRA.out.1 HNO.out HLO.out HRA.out.2 HN.out HL.out HBO.out HB.out h1 HMM.out h3 hs hd hp hq hu hv hf hg hh).mono ?_
  rintro e w6 ⟨y6, c6, rfl, o6, b6⟩
  have HO5 := hide (owns_below HO5.out b6 (Nat.le_refl _))
  clear m0 m1 m2 m3 m4 m5 m6 m7 m8 a0 a1 a2 a3 a4 a5 a6 a7 a8
  have HA := hide (below_block b6 HA.out (Nat.le_refl _))
  have HC := hide (below_block b6 HC.out (Nat.le_refl _))
  have HRC := hide (rs_below HRC.out b6 (Nat.le_refl _))
  have HRA := hide (rs_below HRA.out b6 (Nat.le_refl _))
  have HBW := hide (HBW.out.trans (b6.mono HBW.out.size))
  clear b6
  have hyl : (tcpG p q u v f g h os xs (tcpK src dst p q u v f g h os xs).toNat).length = 20 + m + n := by rw [tcpG_len, HLO.out, HL.out]
  have hcv1 := conv_any y5 (tcpG p q u v f g h os xs (tcpK src dst p q u v f g h os xs).toNat) c5 w6 (Row.of_owns HO5.out)
  have hcv2 := conv_any y6 (tcpG p q u v f g h os xs (tcpK src dst p q u v f g h os xs).toNat) c6 w6 (Row.of_owns o6)
  rw [hyl] at hcv1 hcv2
  have hyb := tcpG_rng p q u v f g h os xs (tcpK src dst p q u v f g h os xs).toNat hf (by rw [HLO.out]; omega) HBO.out HB.out
  have hyk := tcpK_ok src dst p q u v f g h os xs (tcpG_rng p q u v f g h os xs 0 hf (by rw [HLO.out]; omega) HBO.out HB.out) (by rw [HLO.out]; have := HMM.out; omega)
  rw [HLO.out, HL.out] at hyk
  have hk5 : (tcpK src dst p q u v f g h os xs).toNat ≤ 65535 := by have := csum_rng (psB src dst 6 (20 + os.length + xs.length) ++ tcpG p q u v f g h os xs 0); unfold tcpK; omega
  have f0 := tcpG_0 p q u v f g h os xs (tcpK src dst p q u v f g h os xs).toNat hp
  have f2 := tcpG_2 p q u v f g h os xs (tcpK src dst p q u v f g h os xs).toNat hq
  have f4 := tcpG_4 p q u v f g h os xs (tcpK src dst p q u v f g h os xs).toNat hu
  have f8 := tcpG_8 p q u v f g h os xs (tcpK src dst p q u v f g h os xs).toNat hv
  have f12 := tcpG_12 p q u v f g h os xs (tcpK src dst p q u v f g h os xs).toNat (by rw [HLO.out]; omega)
  have f13 := tcpG_13 p q u v f g h os xs (tcpK src dst p q u v f g h os xs).toNat
  have f14 := tcpG_14 p q u v f g h os xs (tcpK src dst p q u v f g h os xs).toNat hg
  have f18 := tcpG_18 p q u v f g h os xs (tcpK src dst p q u v f g h os xs).toNat hh
  have f20 := tcpG_20 p q u v f g h os xs (tcpK src dst p q u v f g h os xs).toNat
  rw [HLO.out] at f12
  generalize (tcpK src dst p q u v f g h os xs).toNat = kk at *
  generalize tcpG p q u v f g h os xs kk = ys at *
  have e20 : (ys.drop 20).take m = os := by rw [f20, List.take_left' HLO.out]
  have eHH : ys.drop (20 + m) = xs := by rw [← List.drop_drop, f20, List.drop_left' HLO.out]
  obtain ⟨N, hN⟩ : ∃ N, 20 + m + n = N := ⟨_, rfl⟩
  rw [hN] at hyl hyk hcv1 hcv2 HO5 ⊢
  have hrd := fun W (ho : W.ownsRow wc.heap.size 5 1 (.slice y5 N c5) N (ys.map (Value.int .u8))) => rtcp_ok W src dst y5 ys N c5 p q u v _ f g _ h (20 + m) (Row.of_owns ho) (none_cap ho) hyl hyb (by omega) (by omega) (hide f0) (hide f2) (hide f4) (hide f8) (hide rfl) (hide f13) (hide f14) (hide rfl) (hide f18) (hide (by rw [f12]; have := HMM.out; omega)) (by omega) (by omega) hs hd (hide (by rw [hyk]; rfl))
  simp only [e20, eHH, show 20 + m - 20 = m by omega, show N - (20 + m) = n by omega] at hrd
  have HRD := hide hrd
  generalize strOfNums ys = zs at *
  have hN1 : 20 ≤ N := by omega
  have hN2 : N ≤ 1480 := by omega
  clear o6 hyl hyb hyk f0 f2 f4 f8 f12 f13 f14 f18 f20 e20 eHH hrd hN
  obtain ⟨⟨m0, m1, m2, m3, m4, m5, m6, m7, m8⟩, mf⟩ := nine_cells HC.out
  obtain ⟨⟨a0, a1, a2, a3, a4, a5, a6, a7, a8⟩, af⟩ := nine_cells HA.out
  clear mf af
  have HS := hide (sameTcp_any w6 p q u v f g h ca oa ea da os xs m n cc oc ec dc HRC.out.1 HRA.out.1 HLO.out HRC.out.2 HRA.out.2 HL.out)
  go_wp2_with fail
  refine HS.out.mono ?_
  rintro e w7 ⟨rfl, b7⟩
  have HO5 := hide (owns_below HO5.out b7 (Nat.le_refl _))
  clear hcv1 hcv2
  clear m0 m1 m2 m3 m4 m5 m6 m7 m8 a0 a1 a2 a3 a4 a5 a6 a7 a8
  have HA := hide (below_block b7 HA.out (Nat.le_refl _))
  have HC := hide (below_block b7 HC.out (Nat.le_refl _))
  have HRC := hide (rs_below HRC.out b7 (Nat.le_refl _))
  have HRA := hide (rs_below HRA.out b7 (Nat.le_refl _))
  have HBW := hide (HBW.out.trans (b7.mono HBW.out.size))
  clear b7
  go_wp2_with fail
  refine (HRD.out w7 HO5.out).mono ?_
  rintro e w8 ⟨b8, d8, e8, g8, rfl, o8, q8, bb8⟩
  have HA := hide (below_block bb8 HA.out (Nat.le_refl _))
  have HC := hide (below_block bb8 HC.out (Nat.le_refl _))
  have HRC := hide (rs_below HRC.out bb8 (Nat.le_refl _))
  have HRA := hide (rs_below HRA.out bb8 (Nat.le_refl _))
  have HBW := hide (HBW.out.trans (bb8.mono HBW.out.size))
  have HR8 := hide (And.intro (Row.of_owns o8) (Row.of_owns q8))
  clear bb8 o8 q8
  obtain ⟨⟨a0, a1, a2, a3, a4, a5', a6', a7, a8⟩, af⟩ := nine_cells HA.out
  have hlA8 := lt_of_block HA.out
  have hb9 : Below w8.heap.size w8 (w8.alloc (.cells #[.int .u16 (p : Int), .int .u16 (q : Int), .int .u32 (u : Int), .int .u32 (v : Int), .int .u8 (f : Int), .int .u16 (g : Int), .int .u16 (h : Int), .slice b8 m d8, .slice e8 n g8] 27)) := (Below.refl _ _).alloc (Nat.le_refl _) _
  have h89 := rs_below HR8.out hb9 (Nat.le_refl _)
  have hA9 := rs_below HRA.out hb9 (Nat.le_refl _)
  have HS2 := hide (sameTcp_any _ p q u v f g h b8 oa e8 da os xs m n d8 oc g8 dc h89.1 hA9.1 HLO.out h89.2 hA9.2 HL.out)
  have HB9 := hide (HBW.out.trans (hb9.mono HBW.out.size))
  clear af hb9 h89 hA9
  go_wp2_with fail
  refine HS2.out.mono ?_
  rintro e w10 ⟨rfl, b10⟩
  have HB10 := hide (HB9.out.trans (b10.mono HB9.out.size))
  clear b10
  go_wp2
  go_ret
  exact ⟨rfl, HB10.out⟩
theorem transSegments_any (w : World) (src dst p q u v f g h : Nat) (oa : Option Addr) (os : List Int) (m oc : Nat) (da : Option Addr) (xs : List Int) (n dc : Nat) (hro : Row .u8 w oa os) (hno : oa = none → oc = 0) (hlo : os.length = m) (hr : Row .u8 w da xs) (hn : da = none → dc = 0) (hl : xs.length = n) (hbo : ∀ x ∈ os, 0 ≤ x ∧ x ≤ 255) (hb : ∀ x ∈ xs, 0 ≤ x ∧ x ≤ 255) (hs : src ≤ 4294967295) (hd : dst ≤ 4294967295) (hp : p ≤ 65535) (hq : q ≤ 65535) (hu : u ≤ 4294967295) (hv : v ≤ 4294967295) (hf : f ≤ 255) (hg : g ≤ 65535) (hh : h ≤ 65535) (h5 : n < 9223372036854775808) (h6 : m < 9223372036854775808) :
    Calls Try.prog 3 #[.int .u32 src, .int .u32 dst, .agg #[.int .u16 (p : Int), .int .u16 (q : Int), .int .u32 (u : Int), .int .u32 (v : Int), .int .u8 (f : Int), .int .u16 (g : Int), .int .u16 (h : Int), .slice oa m oc, .slice da n dc]] w fun e w' => e = .returned (.bool true) ∧ Below w.heap.size w w' := by
  by_cases k1 : 3000 < n
  · exact ts_big1 w src dst p q u v f g h oa os m oc da xs n dc hro hno hlo hr hn hl hbo hb hs hd hp hq hu hv hf hg hh k1 h5
  · by_cases k2 : 300 < m
    · exact ts_big2 w src dst p q u v f g h oa os m oc da xs n dc hro hno hlo hr hn hl hbo hb hs hd hp hq hu hv hf hg hh (by omega) k2 h6
    · by_cases k3 : 40 < m
      · exact ts_arg1 w src dst p q u v f g h oa os m oc da xs n dc hro hno hlo hr hn hl hbo hb hs hd hp hq hu hv hf hg hh k3 (by omega) (by omega)
      · by_cases k4 : m % 4 = 0
        · by_cases k5 : 1460 - m < n
          · exact ts_long w src dst p q u v f g h oa os m oc da xs n dc hro hno hlo hr hn hl hbo hb hs hd hp hq hu hv hf hg hh (by omega) k4 k5 (by omega)
          · exact ts_ok w src dst p q u v f g h oa os m oc da xs n dc hro hno hlo hr hn hl hbo hb hs hd hp hq hu hv hf hg hh (by omega) k4 (by omega)
        · exact ts_arg2 w src dst p q u v f g h oa os m oc da xs n dc hro hno hlo hr hn hl hbo hb hs hd hp hq hu hv hf hg hh (by omega) k4 (by omega)
end Go.Proofs.Ytimdkcndpfogcaa
