/- What has ended goes. -/
import Derived.Test.YtijjgnkfddklgaaMTkP
import Derived.Test.YtijjgnkfddklgaaMDel
namespace Go.Proofs.Ytijjgnkfddklgaa
open Go.RowKit Go.Deep Go.Shelf
set_option linter.unusedVariables false
set_option linter.unusedSimpArgs false
set_option maxRecDepth 100000
attribute [local go_sem] Oper.semAt_some
theorem nkC_b {w : World} (W : World) (l : Nat) (o o' : Obj) (_ : w.heap.size ≤ l) (h : W.heap[l]? = some o) (ho : o.isCells = false) (_ : o.isWalk = false) : C.NK W (W.putObj l o') := fun b cs hb => by
  have hne : b ≠ l := by
    intro e; subst e
    rw [h] at hb; cases hb; cases ho
  exact (World.putObj_heap_other hne).trans hb
set_option maxHeartbeats 1000000 in
theorem exp1_any (base : Nat) (W : World) (x : MK × ME) (nb : Nat) (now : Int) (hx : W.heap[nb]? = some (.cells #[.int .u64 now] 35 (0, 0))) :
    Calls Try.prog 51 #[.agg #[.int .u8 x.2.p, .int .u16 x.2.x, .int .u16 x.2.t, .int .u32 x.2.r, .int .u32 x.2.h, .bool x.2.en, .string x.2.ws, .int .u64 x.2.e], .pointer (some ⟨nb, 0, none⟩)] W fun e W' => e = .returned (.bool (decide (x.2.e ≤ now))) ∧ W'.heap[nb]? = some (.cells #[.int .u64 now] 35 (0, 0)) ∧ OnlyI base W W' := by
  obtain ⟨V, hV, hb, hv⟩ : ∃ V, W.alloc (.cells #[.int .u8 x.2.p, .int .u16 x.2.x, .int .u16 x.2.t, .int .u32 x.2.r, .int .u32 x.2.h, .bool x.2.en, .string x.2.ws, .int .u64 x.2.e] 40) = V ∧ Below W.heap.size W V ∧ V.heap[W.heap.size]? = some (.cells #[.int .u8 x.2.p, .int .u16 x.2.x, .int .u16 x.2.t, .int .u32 x.2.r, .int .u32 x.2.h, .bool x.2.en, .string x.2.ws, .int .u64 x.2.e] 40 (0, 0)) := ⟨_, rfl, (Below.refl _ _).alloc (Nat.le_refl _) _, heap_alloc_new _ _⟩
  obtain ⟨B, hB⟩ : ∃ B, W.heap.size = B := ⟨_, rfl⟩
  rw [hB] at hv
  have hn := below_block hb hx (Nat.le_refl _)
  have HE := hide (And.intro hV hB)
  have HR := hide (And.intro hn (OnlyI.of (base := base) hb))
  obtain ⟨e0, e1, e2, e3, e4, e5, e6, e7, ef⟩ := C.val_cells hv
  obtain ⟨n0, nf⟩ := one_cell hn
  clear hV hb hv hB hx hn
  go_enter Try.func51, Try.ntmps51
  go_upto_region 1 with (fail)
  rw [HE.out.1]
  try rw [HE.out.2]
  clear HE
  go_wp2_with fail
  go_ret
  exact ⟨rfl, HR.out⟩
/-- Between two: what lies where. -/
structure StExp (nb : Nat) (now : Int) (q : ML → MK × ME → Bool) (sp tt sb gb base : Nat) (cs : Array Value) (up : Int) (L : ML) (w : World) (pre : ML) (W : World) : Prop where
  st : SAt W sp tt cs up (midQ q L pre)
  sb : W.heap[sb]? = some (.cells #[.pointer (some ⟨sp, 0, none⟩)] 33 (0, 0))
  gb : W.heap[gb]? = some (.cells #[.func (.func 51) #[] #[.pointer (some ⟨nb, 0, none⟩)]] 82 (0, 0))
  jg : W.heap[nb]? = some (Obj.cells #[.int .u64 now] 35 (0, 0))
  only : OnlyS (XT tt base) w W
theorem StExp.keep {q : ML → MK × ME → Bool} {sp tt sb gb base : Nat} {cs : Array Value} {up : Int} {L : ML} {w W W' : World} {pre : ML} {nb : Nat} {now : Int} (h : StExp nb now q sp tt sb gb base cs up L w pre W) (hk : ∀ (k : Nat) (ds : Array Value) (T : TypeId) (f : Nat × Nat), W.heap[k]? = some (Obj.cells ds T f) → W'.heap[k]? = some (Obj.cells ds T f)) (ho : OnlyS (XT tt base) w W') : StExp nb now q sp tt sb gb base cs up L w pre W' :=
  ⟨h.st.keepC (fun k ds T f _ hb => hk k ds T f hb), hk _ _ _ _ h.sb, hk _ _ _ _ h.gb, hk _ _ _ _ h.jg, ho⟩
theorem StExp_own (nb : Nat) (now : Int) (q : ML → MK × ME → Bool) (sp tt sb gb base : Nat) (cs : Array Value) (up : Int) (L : ML) (w : World) (B : Nat) (hB : base ≤ B) : OwnFrom B (StExp nb now q sp tt sb gb base cs up L w) := fun s W W' row hs hg hr =>
  hs.keep (fun k ds T f hb => own_cells hg hr hb) (hs.only.grown hg (fun k e => .inl (.inr (Nat.le_trans hB (hr k e).1))))
def AxExp (sp tt sb gb bx b0 : Nat) (n : Int) (nb : Nat) (now : Int) (x : MK × ME) (a' : Act) (W : World) : Prop := ∃ Bk Be, b0 ≤ Bk ∧ b0 ≤ Be ∧ W.heap[Bk]? = some (.cells #[.int .u8 x.1.p, .int .u16 x.1.x, .int .u32 x.1.r] 76 (0, 0)) ∧ W.heap[Be]? = some (.cells #[.int .u8 x.2.p, .int .u16 x.2.x, .int .u16 x.2.t, .int .u32 x.2.r, .int .u32 x.2.h, .bool x.2.en, .string x.2.ws, .int .u64 x.2.e] 40 (0, 0)) ∧ a' = { tmps := #[.pointer (some ⟨sp, 0, none⟩), .func (.func 51) #[] #[.pointer (some ⟨nb, 0, none⟩)], .pointer (some ⟨sb, 0, none⟩), .pointer (some ⟨gb, 0, none⟩), .bool false, .int .i64 n, .pointer (some ⟨Bk, 0, none⟩), .pointer (some ⟨Be, 0, none⟩), .pointer (some ⟨sp, 0, none⟩), .int .i64 n, .pointer (some ⟨sp, 0, none⟩), .pointer (some ⟨sp, 0, none⟩), .pointer (some ⟨sp, 28, none⟩), .pointer (some ⟨tt, 0, none⟩), .func (.func 84) #[] #[.pointer (some ⟨bx, 0, none⟩)], .agg #[.int .u8 x.1.p, .int .u16 x.1.x, .int .u32 x.1.r], .agg #[.int .u8 x.2.p, .int .u16 x.2.x, .int .u16 x.2.t, .int .u32 x.2.r, .int .u32 x.2.h, .bool x.2.en, .string x.2.ws, .int .u64 x.2.e], undef, undef, undef, undef, undef, undef, undef, undef, undef, undef, undef, undef, undef, undef, undef, undef, undef, undef, undef, undef], defers := [] }
theorem AxExp_own (sp tt sb gb bx b0 : Nat) (n : Int) (nb : Nat) (now : Int) (B : Nat) (x : MK × ME) (a' : Act) : OwnFrom B (fun (_ : Unit) W => AxExp sp tt sb gb bx b0 n nb now x a' W) := fun s W W' row hs hg hr => by
  obtain ⟨Bk, Be, h1, h2, h3, h4, ha⟩ := hs
  exact ⟨Bk, Be, h1, h2, own_cells hg hr h3, own_cells hg hr h4, ha⟩
set_option maxHeartbeats 6000000 in
theorem takeExp_any (nb : Nat) (now : Int) (q : ML → MK × ME → Bool) (w : World) (base sp tt : Nat) (cs : Array Value) (up : Int) (L : ML) (hbase : base ≤ w.heap.size) (h : SAt w sp tt cs up L) (hL : L.length ≤ 500000) (hj : w.heap[nb]? = some (Obj.cells #[.int .u64 now] 35 (0, 0)))
    (hq : ∀ (W : World) (pre : ML) (x : MK × ME), W.heap[nb]? = some (Obj.cells #[.int .u64 now] 35 (0, 0)) → pre.length < L.length → Calls Try.prog 51 (#[.agg #[.int .u8 x.2.p, .int .u16 x.2.x, .int .u16 x.2.t, .int .u32 x.2.r, .int .u32 x.2.h, .bool x.2.en, .string x.2.ws, .int .u64 x.2.e], .pointer (some ⟨nb, 0, none⟩)]) W fun e W' => e = .returned (.bool (q pre x)) ∧ (W'.heap[nb]? = some (Obj.cells #[.int .u64 now] 35 (0, 0))) ∧ OnlyI base W W') :
    Calls Try.prog 50 #[.pointer (some ⟨sp, 0, none⟩), .func (.func 51) #[] #[.pointer (some ⟨nb, 0, none⟩)]] w (TakeAns q base sp tt cs up L w) := by
  obtain ⟨V, hV, hv1, hv2, hvb⟩ := two_alloc w (.cells #[.pointer (some ⟨sp, 0, none⟩)] 33) (.cells #[.func (.func 51) #[] #[.pointer (some ⟨nb, 0, none⟩)]] 82)
  obtain ⟨sb, hsb⟩ : ∃ b, w.heap.size = b := ⟨_, rfl⟩
  obtain ⟨gb, hgb⟩ : ∃ b, w.heap.size + 1 = b := ⟨_, rfl⟩
  rw [hsb] at hv1
  rw [hgb] at hv2
  have HV := hide (And.intro hV (And.intro hgb hsb))
  have hkV : ∀ (k : Nat) (ds : Array Value) (T : TypeId) (f : Nat × Nat), w.heap[k]? = some (Obj.cells ds T f) → V.heap[k]? = some (Obj.cells ds T f) := fun k ds T f hb => below_block hvb hb (Nat.le_refl _)
  have HS := hide (show StExp nb now q sp tt sb gb base cs up L w [] V from ⟨by rw [midQ_nil]; exact h.below hvb, hv1, hv2, hkV _ _ _ _ hj, OnlyS.of hvb⟩)
  have HAS := hide h.tab.asc
  have HLN := hide hL
  have HBASE := hide hbase
  have HQ := hide hq
  have HSZ := hide hvb.size
  clear hV hv1 hv2 hvb hsb hgb h hL hj hq hkV hbase
  obtain ⟨s0, sf⟩ := one_cell HS.out.sb
  have HLE := hide (slen_any V sp tt cs up L (by have := HS.out.st; rw [midQ_nil] at this; exact this))
  obtain ⟨n, hn⟩ : ∃ n : Int, (L.length : Int) = n := ⟨_, rfl⟩
  rw [hn] at HLE
  have HN := hide hn
  have c28 := HS.out.st.c28
  have HA := hide (C.all_any tt V)
  clear hn
  refine (callsIn_wide (n := 8)).1 ?_
  have hro : Fence.wide.round = none := rfl
  refine callsIn_of_wp_marks Try.func50 rfl trivial ?_ hro
  simp only [Try.ntmps50, List.size_toArray, List.length_cons, List.length_nil, Nat.reduceAdd, Nat.reduceSub, Array.replicate_succ, Array.replicate_zero, List.push_toArray, List.append_toArray, List.nil_append, List.cons_append]
  gi_upto_region 1 with (fail)
  rw [HV.out.1, HV.out.2.1, HV.out.2.2]
  gi_wp2_with fail
  refine ⟨trivial, ?_⟩
  refine (callsIn_wide.2 HLE.out).mono ?_
  rintro e w1 ⟨rfl, hq⟩
  obtain rfl := hq
  gi_wp2_with fail
  refine ⟨trivial, ?_⟩
  refine (callsIn_wide.2 HA.out).mono ?_
  rintro e w2 ⟨rfl, hw2⟩
  have hbl : Below w1.heap.size w1 w2 := by rw [hw2]; exact (Below.refl w1.heap.size w1).alloc (Nat.le_refl _) _
  have hbx : w2.heap[w1.heap.size]? = some (.cells #[.pointer (some ⟨tt, 0, none⟩)] 73 (0, 0)) := by rw [hw2]; exact heap_alloc_new _ _
  obtain ⟨bx, hbxe⟩ : ∃ b, w1.heap.size = b := ⟨_, rfl⟩
  rw [hbxe] at hbx
  try rw [hbxe]
  have HBX := hide hbx
  have HS2 := hide (HS.out.keep (fun k ds T f hb => below_block hbl hb (Nat.le_refl _)) (HS.out.only.then hbl))
  have HB2 := hide hbl.size
  clear hw2 hbl hbx hbxe s0 sf c28 HLE HA HS
  gi_wp2_with fail
  obtain ⟨T, hT1, hT2, hT3, hT4⟩ := (show C.Tab w2 tt MX C.oF tM L from by have := HS2.out.st.tab; rw [midQ_nil] at this; exact this)
  have hTE : toL T = L := hT3
  have hlen : C.nsz T = L.length := by rw [← hTE]; rfl
  have HB0 := hide (show base ≤ w2.heap.size from Nat.le_trans HBASE.out HS2.out.only.size)
  refine wpIn_rangeFunc_ownH hro (by omega) (gf := 84) (lb := #[.pointer (some ⟨bx, 0, none⟩)]) rfl trivial (enters_of Try.func84 (by kernel_rfl) rfl)
    (C.all_stops Fence.wide rfl 7 trivial trivial hro bx tt MX C.oF T w2 HBX.out hT1 hT2) C.NK.trans nkC_b (Below.refl _ _) (fun _ => rfl)
    (fun pre W => StExp nb now q sp tt sb gb base cs up L w pre W) (fun _ _ _ => False) (StExp_own nb now q sp tt sb gb base cs up L w _ HB0.out) (fun c s W W' row hs hg hr => hs) HS2.out
    (AxExp sp tt sb gb bx 0 n nb now) (fun x a' => AxExp_own sp tt sb gb bx 0 n nb now _ x a') ?assign ?body ?done ?stop
  case assign =>
    intro l pre x W K hi hK
    obtain ⟨V, hV, k1, k2, kb⟩ := two_alloc W (.cells #[.int .u8 x.1.p, .int .u16 x.1.x, .int .u32 x.1.r] 76) (.cells #[.int .u8 x.2.p, .int .u16 x.2.x, .int .u16 x.2.t, .int .u32 x.2.r, .int .u32 x.2.h, .bool x.2.en, .string x.2.ws, .int .u64 x.2.e] 40)
    have HI := hide (show StExp nb now q sp tt sb gb base cs up L w pre V from hi.keep (fun k ds T f hb => below_block kb hb (Nat.le_refl _)) (hi.only.then kb))
    have HK := hide hK
    have HKO := hide (show KeepsOthers W V by rw [← hV]; exact (KeepsOthers.alloc _ _).trans (KeepsOthers.alloc _ _))
    have HKB := hide (C.NK.of_below kb (Nat.le_refl _))
    have HAX := hide (show AxExp sp tt sb gb bx 0 n nb now x { tmps := #[.pointer (some ⟨sp, 0, none⟩), .func (.func 51) #[] #[.pointer (some ⟨nb, 0, none⟩)], .pointer (some ⟨sb, 0, none⟩), .pointer (some ⟨gb, 0, none⟩), .bool false, .int .i64 n, .pointer (some ⟨W.heap.size, 0, none⟩), .pointer (some ⟨W.heap.size + 1, 0, none⟩), .pointer (some ⟨sp, 0, none⟩), .int .i64 n, .pointer (some ⟨sp, 0, none⟩), .pointer (some ⟨sp, 0, none⟩), .pointer (some ⟨sp, 28, none⟩), .pointer (some ⟨tt, 0, none⟩), .func (.func 84) #[] #[.pointer (some ⟨bx, 0, none⟩)], .agg #[.int .u8 x.1.p, .int .u16 x.1.x, .int .u32 x.1.r], .agg #[.int .u8 x.2.p, .int .u16 x.2.x, .int .u16 x.2.t, .int .u32 x.2.r, .int .u32 x.2.h, .bool x.2.en, .string x.2.ws, .int .u64 x.2.e], undef, undef, undef, undef, undef, undef, undef, undef, undef, undef, undef, undef, undef, undef, undef, undef, undef, undef, undef, undef], defers := [] } V from ⟨_, _, Nat.zero_le _, Nat.zero_le _, k1, k2, rfl⟩)
    have HV := hide hV
    clear hi hK hT1 hT2 hT3 hT4 hV k1 k2 kb
    gi_wp2
    rw [HV.out]
    exact HK.out _ _ (HKO.out.from _) HKB.out HI.out HAX.out
  case body =>
    rintro l pre x a' W hl ⟨r, hr⟩ hSt ⟨Bk, Be, _, _, hBk, hBe, rfl⟩ hlt
    obtain ⟨e0, e1, e2, e3, e4, e5, e6, e7, ef⟩ := C.val_cells hBe
    obtain ⟨g0, gf⟩ := one_cell hSt.gb
    have hcq := HQ.out W pre x hSt.jg (by rw [← hlen]; exact hlt)
    have HCQ := hide hcq
    have HST := hide hSt
    have HBK := hide hBk
    clear hcq hSt hBk hBe hlt hT1 hT2 hT3 hT4 hr hl gf ef
    gi_wp2_with fail
    refine ⟨trivial, ?_⟩
    refine (CallsIn.inRound l (callsIn_wide.2 HCQ.out)).mono ?_
    rintro e W1 ⟨rfl, hj1, ho1⟩
    have HO1 := hide ho1
    have HK1 := hide (show KeepsFrom w2.heap.size W W1 from ⟨ho1.size, fun k o _ hk hc => ho1.other hc hk⟩)
    have HN1 := hide (show C.NK W W1 from fun b ds hb => ho1.cells (by decide) hb)
    have HX1 := hide (ho1.cells (by decide) HBK.out)
    have HS1 := hide (HST.out.st.keepC (fun k ds T f hT hb => ho1.cells (by rcases hT with rfl | rfl | rfl <;> decide) hb))
    have HSB := hide (ho1.cells (by decide) HST.out.sb)
    have HGB := hide (ho1.cells (by decide) HST.out.gb)
    have HJ1 := hide hj1
    have HON := hide (XT_int HST.out.only ho1)
    clear hj1 ho1 HCQ e0 e1 e2 e3 e4 e5 e6 e7 g0
    cases hqx : q pre x with
    | false =>
      have HQX := hide hqx
      clear hqx
      gi_wp2
      exact ⟨HK1.out, HN1.out, by rw [midQ_stay HQX.out]; exact HS1.out, HSB.out, HGB.out, HJ1.out, HON.out⟩
    | true =>
      have HQX := hide hqx
      obtain ⟨s0, sf⟩ := one_cell HSB.out
      obtain ⟨k0, k1, k2, kf⟩ := C.key_cells HX1.out
      have c28 := HS1.out.c28
      have HML := midQ_len q L pre
      have hdr := fun (V : World) (hV : Below W1.heap.size W1 V) => C.DropL (HS1.out.below hV).tab C.oF_ord x.1 (by have := HLN.out; omega)
      have HDR := hide hdr
      clear hqx hdr HML sf kf
      gi_wp2_with fail
      refine wpIn_region_any (by kernel_rfl) ?_
      try (change wpAnyIn _ _ _ _ _ _ _ _ _ (World.drew _))
      refine wpAnyIn_ready (rs := [0, 4]) (by kernel_rfl) (by simp) ?_
      refine AllReadyIn.cons (o := { dst := some 20, op := Op.load 33 (Operand.tmp 2), type := 33, pos := "entries.go:116", after := #[], guard := none }) rfl (fun K hK => ?_) ?_
      ·
        go_simp
        refine hK _ _ ?_
        clear hK K
        try simp only [Act.put, List.setIfInBounds_toArray, List.set_cons_zero, List.set_cons_succ]
        refine wpAnyIn_ready (rs := [1, 4]) (by kernel_rfl) (by simp) ?_
        refine AllReadyIn.cons (o := { dst := some 21, op := Op.nilCheck (Operand.tmp 20), type := 0, pos := "entries.go:116", after := #[{ on := 0, ground := Ground.data }], guard := none }) rfl (fun K hK => ?_) ?_
        ·
          go_simp
          refine hK _ _ ?_
          clear hK K
          try simp only [Act.put, List.setIfInBounds_toArray, List.set_cons_zero, List.set_cons_succ]
          refine wpAnyIn_ready (rs := [2, 4]) (by kernel_rfl) (by simp) ?_
          refine AllReadyIn.cons (o := { dst := some 22, op := Op.fieldAddr 79 (Operand.tmp 21) 1, type := 0, pos := "entries.go:116", after := #[{ on := 1, ground := Ground.data }], guard := none }) rfl (fun K hK => ?_) ?_
          ·
            go_simp
            refine hK _ _ ?_
            clear hK K
            try simp only [Act.put, List.setIfInBounds_toArray, List.set_cons_zero, List.set_cons_succ]
            refine wpAnyIn_ready (rs := [3, 4]) (by kernel_rfl) (by simp) ?_
            refine AllReadyIn.cons (o := { dst := some 23, op := Op.load 73 (Operand.tmp 22), type := 73, pos := "entries.go:116", after := #[{ on := 2, ground := Ground.data }], guard := none }) rfl (fun K hK => ?_) ?_
            ·
              go_simp
              refine hK _ _ ?_
              clear hK K
              try simp only [Act.put, List.setIfInBounds_toArray, List.set_cons_zero, List.set_cons_succ]
              refine wpAnyIn_ready (rs := [4]) (by kernel_rfl) (by simp) ?_
              refine AllReadyIn.cons (o := { dst := some 24, op := Op.load 76 (Operand.tmp 6), type := 76, pos := "entries.go:116", after := #[], guard := none }) rfl (fun K hK => ?_) ?_
              ·
                go_simp
                refine hK _ _ ?_
                clear hK K
                try simp only [Act.put, List.setIfInBounds_toArray, List.set_cons_zero, List.set_cons_succ]
                refine wpAnyIn_ready (rs := [5]) (by kernel_rfl) (by simp) ?_
                refine AllReadyIn.cons (o := { dst := some 25, op := Op.call { callee := Callee.value (Operand.func 54), args := #[Operand.tmp 23, Operand.tmp 24], argTypes := #[73, 76] }, type := 4, pos := "entries.go:116", after := #[{ on := 3, ground := Ground.data }, { on := 4, ground := Ground.data }], guard := none }) rfl (fun K hK => ?_) ?_
                ·
                  go_simp
                  refine ⟨trivial, ?_⟩
                  refine (CallsIn.inRound l (callsIn_wide.2 (HDR.out _ (below_drew W1)))).mono ?_
                  rintro e W2 ⟨rfl, ht9, hg9⟩
                  ·
                    replace hg9 := gb_trans (gb_of_below (r := some tt) (below_drew W1) (Nat.le_refl _)) hg9
                    have htb := tab_hd HS1.out.tab
                    obtain ⟨tds, htb⟩ := htb
                    have hkc : ∀ (k : Nat) (ds : Array Value) (T : TypeId) (f : Nat × Nat), T ≠ 107 → W1.heap[k]? = some (Obj.cells ds T f) → W2.heap[k]? = some (Obj.cells ds T f) := fun k ds T f hT hb => (hg9.block k (lt_of_block hb) (fun e => by
                      cases e; rw [htb] at hb; injection hb with hb; injection hb with _ h2 _; exact hT h2.symm)).trans hb
                    have HS2 := hide (HS1.out.tabs ht9 hg9)
                    have HSB2 := hide (hkc _ _ _ _ (by decide) HSB.out)
                    have HGB2 := hide (hkc _ _ _ _ (by decide) HGB.out)
                    have HKC := hide (hkc)
                    have HN2 := hide (HN1.out.trans (show C.NK W1 W2 from fun b ds hb => hkc _ _ _ _ (by decide) hb))
                    have HK2 := hide (HK1.out.trans (show KeepsFrom w2.heap.size W1 W2 from ⟨hg9.size, fun k o _ hk hc => (hg9.block k (lt_of_block hk) (fun e => by
                      cases e; rw [htb] at hk; cases hk; cases hc)).trans hk⟩))
                    have HON2 := hide (HON.out.grown hg9 (fun k e => by cases e; exact .inl (.inl rfl)))
                    clear ht9 hg9 htb hkc
                    refine hK _ _ ?_
                    clear hK K
                    try simp only [Act.put, List.setIfInBounds_toArray, List.set_cons_zero, List.set_cons_succ]
                    refine wpAnyIn_done (by kernel_rfl) ?_ _
                    gi_wp2
                    exact ⟨HK2.out, HN2.out, by rw [midQ_gone HQX.out]; exact HS2.out, HSB2.out, HGB2.out, HKC.out _ _ _ _ (by decide) HJ1.out, HON2.out⟩
                exact AllReadyIn.nil
              exact AllReadyIn.nil
            refine AllReadyIn.cons (o := { dst := some 24, op := Op.load 76 (Operand.tmp 6), type := 76, pos := "entries.go:116", after := #[], guard := none }) rfl (fun K hK => ?_) ?_
            ·
              go_simp
              refine hK _ _ ?_
              clear hK K
              try simp only [Act.put, List.setIfInBounds_toArray, List.set_cons_zero, List.set_cons_succ]
              refine wpAnyIn_ready (rs := [3]) (by kernel_rfl) (by simp) ?_
              refine AllReadyIn.cons (o := { dst := some 23, op := Op.load 73 (Operand.tmp 22), type := 73, pos := "entries.go:116", after := #[{ on := 2, ground := Ground.data }], guard := none }) rfl (fun K hK => ?_) ?_
              ·
                go_simp
                refine hK _ _ ?_
                clear hK K
                try simp only [Act.put, List.setIfInBounds_toArray, List.set_cons_zero, List.set_cons_succ]
                refine wpAnyIn_ready (rs := [5]) (by kernel_rfl) (by simp) ?_
                refine AllReadyIn.cons (o := { dst := some 25, op := Op.call { callee := Callee.value (Operand.func 54), args := #[Operand.tmp 23, Operand.tmp 24], argTypes := #[73, 76] }, type := 4, pos := "entries.go:116", after := #[{ on := 3, ground := Ground.data }, { on := 4, ground := Ground.data }], guard := none }) rfl (fun K hK => ?_) ?_
                ·
                  go_simp
                  refine ⟨trivial, ?_⟩
                  refine (CallsIn.inRound l (callsIn_wide.2 (HDR.out _ (below_drew W1)))).mono ?_
                  rintro e W2 ⟨rfl, ht9, hg9⟩
                  ·
                    replace hg9 := gb_trans (gb_of_below (r := some tt) (below_drew W1) (Nat.le_refl _)) hg9
                    have htb := tab_hd HS1.out.tab
                    obtain ⟨tds, htb⟩ := htb
                    have hkc : ∀ (k : Nat) (ds : Array Value) (T : TypeId) (f : Nat × Nat), T ≠ 107 → W1.heap[k]? = some (Obj.cells ds T f) → W2.heap[k]? = some (Obj.cells ds T f) := fun k ds T f hT hb => (hg9.block k (lt_of_block hb) (fun e => by
                      cases e; rw [htb] at hb; injection hb with hb; injection hb with _ h2 _; exact hT h2.symm)).trans hb
                    have HS2 := hide (HS1.out.tabs ht9 hg9)
                    have HSB2 := hide (hkc _ _ _ _ (by decide) HSB.out)
                    have HGB2 := hide (hkc _ _ _ _ (by decide) HGB.out)
                    have HKC := hide (hkc)
                    have HN2 := hide (HN1.out.trans (show C.NK W1 W2 from fun b ds hb => hkc _ _ _ _ (by decide) hb))
                    have HK2 := hide (HK1.out.trans (show KeepsFrom w2.heap.size W1 W2 from ⟨hg9.size, fun k o _ hk hc => (hg9.block k (lt_of_block hk) (fun e => by
                      cases e; rw [htb] at hk; cases hk; cases hc)).trans hk⟩))
                    have HON2 := hide (HON.out.grown hg9 (fun k e => by cases e; exact .inl (.inl rfl)))
                    clear ht9 hg9 htb hkc
                    refine hK _ _ ?_
                    clear hK K
                    try simp only [Act.put, List.setIfInBounds_toArray, List.set_cons_zero, List.set_cons_succ]
                    refine wpAnyIn_done (by kernel_rfl) ?_ _
                    gi_wp2
                    exact ⟨HK2.out, HN2.out, by rw [midQ_gone HQX.out]; exact HS2.out, HSB2.out, HGB2.out, HKC.out _ _ _ _ (by decide) HJ1.out, HON2.out⟩
                exact AllReadyIn.nil
              exact AllReadyIn.nil
            exact AllReadyIn.nil
          refine AllReadyIn.cons (o := { dst := some 24, op := Op.load 76 (Operand.tmp 6), type := 76, pos := "entries.go:116", after := #[], guard := none }) rfl (fun K hK => ?_) ?_
          ·
            go_simp
            refine hK _ _ ?_
            clear hK K
            try simp only [Act.put, List.setIfInBounds_toArray, List.set_cons_zero, List.set_cons_succ]
            refine wpAnyIn_ready (rs := [2]) (by kernel_rfl) (by simp) ?_
            refine AllReadyIn.cons (o := { dst := some 22, op := Op.fieldAddr 79 (Operand.tmp 21) 1, type := 0, pos := "entries.go:116", after := #[{ on := 1, ground := Ground.data }], guard := none }) rfl (fun K hK => ?_) ?_
            ·
              go_simp
              refine hK _ _ ?_
              clear hK K
              try simp only [Act.put, List.setIfInBounds_toArray, List.set_cons_zero, List.set_cons_succ]
              refine wpAnyIn_ready (rs := [3]) (by kernel_rfl) (by simp) ?_
              refine AllReadyIn.cons (o := { dst := some 23, op := Op.load 73 (Operand.tmp 22), type := 73, pos := "entries.go:116", after := #[{ on := 2, ground := Ground.data }], guard := none }) rfl (fun K hK => ?_) ?_
              ·
                go_simp
                refine hK _ _ ?_
                clear hK K
                try simp only [Act.put, List.setIfInBounds_toArray, List.set_cons_zero, List.set_cons_succ]
                refine wpAnyIn_ready (rs := [5]) (by kernel_rfl) (by simp) ?_
                refine AllReadyIn.cons (o := { dst := some 25, op := Op.call { callee := Callee.value (Operand.func 54), args := #[Operand.tmp 23, Operand.tmp 24], argTypes := #[73, 76] }, type := 4, pos := "entries.go:116", after := #[{ on := 3, ground := Ground.data }, { on := 4, ground := Ground.data }], guard := none }) rfl (fun K hK => ?_) ?_
                ·
                  go_simp
                  refine ⟨trivial, ?_⟩
                  refine (CallsIn.inRound l (callsIn_wide.2 (HDR.out _ (below_drew W1)))).mono ?_
                  rintro e W2 ⟨rfl, ht9, hg9⟩
                  ·
                    replace hg9 := gb_trans (gb_of_below (r := some tt) (below_drew W1) (Nat.le_refl _)) hg9
                    have htb := tab_hd HS1.out.tab
                    obtain ⟨tds, htb⟩ := htb
                    have hkc : ∀ (k : Nat) (ds : Array Value) (T : TypeId) (f : Nat × Nat), T ≠ 107 → W1.heap[k]? = some (Obj.cells ds T f) → W2.heap[k]? = some (Obj.cells ds T f) := fun k ds T f hT hb => (hg9.block k (lt_of_block hb) (fun e => by
                      cases e; rw [htb] at hb; injection hb with hb; injection hb with _ h2 _; exact hT h2.symm)).trans hb
                    have HS2 := hide (HS1.out.tabs ht9 hg9)
                    have HSB2 := hide (hkc _ _ _ _ (by decide) HSB.out)
                    have HGB2 := hide (hkc _ _ _ _ (by decide) HGB.out)
                    have HKC := hide (hkc)
                    have HN2 := hide (HN1.out.trans (show C.NK W1 W2 from fun b ds hb => hkc _ _ _ _ (by decide) hb))
                    have HK2 := hide (HK1.out.trans (show KeepsFrom w2.heap.size W1 W2 from ⟨hg9.size, fun k o _ hk hc => (hg9.block k (lt_of_block hk) (fun e => by
                      cases e; rw [htb] at hk; cases hk; cases hc)).trans hk⟩))
                    have HON2 := hide (HON.out.grown hg9 (fun k e => by cases e; exact .inl (.inl rfl)))
                    clear ht9 hg9 htb hkc
                    refine hK _ _ ?_
                    clear hK K
                    try simp only [Act.put, List.setIfInBounds_toArray, List.set_cons_zero, List.set_cons_succ]
                    refine wpAnyIn_done (by kernel_rfl) ?_ _
                    gi_wp2
                    exact ⟨HK2.out, HN2.out, by rw [midQ_gone HQX.out]; exact HS2.out, HSB2.out, HGB2.out, HKC.out _ _ _ _ (by decide) HJ1.out, HON2.out⟩
                exact AllReadyIn.nil
              exact AllReadyIn.nil
            exact AllReadyIn.nil
          exact AllReadyIn.nil
        refine AllReadyIn.cons (o := { dst := some 24, op := Op.load 76 (Operand.tmp 6), type := 76, pos := "entries.go:116", after := #[], guard := none }) rfl (fun K hK => ?_) ?_
        ·
          go_simp
          refine hK _ _ ?_
          clear hK K
          try simp only [Act.put, List.setIfInBounds_toArray, List.set_cons_zero, List.set_cons_succ]
          refine wpAnyIn_ready (rs := [1]) (by kernel_rfl) (by simp) ?_
          refine AllReadyIn.cons (o := { dst := some 21, op := Op.nilCheck (Operand.tmp 20), type := 0, pos := "entries.go:116", after := #[{ on := 0, ground := Ground.data }], guard := none }) rfl (fun K hK => ?_) ?_
          ·
            go_simp
            refine hK _ _ ?_
            clear hK K
            try simp only [Act.put, List.setIfInBounds_toArray, List.set_cons_zero, List.set_cons_succ]
            refine wpAnyIn_ready (rs := [2]) (by kernel_rfl) (by simp) ?_
            refine AllReadyIn.cons (o := { dst := some 22, op := Op.fieldAddr 79 (Operand.tmp 21) 1, type := 0, pos := "entries.go:116", after := #[{ on := 1, ground := Ground.data }], guard := none }) rfl (fun K hK => ?_) ?_
            ·
              go_simp
              refine hK _ _ ?_
              clear hK K
              try simp only [Act.put, List.setIfInBounds_toArray, List.set_cons_zero, List.set_cons_succ]
              refine wpAnyIn_ready (rs := [3]) (by kernel_rfl) (by simp) ?_
              refine AllReadyIn.cons (o := { dst := some 23, op := Op.load 73 (Operand.tmp 22), type := 73, pos := "entries.go:116", after := #[{ on := 2, ground := Ground.data }], guard := none }) rfl (fun K hK => ?_) ?_
              ·
                go_simp
                refine hK _ _ ?_
                clear hK K
                try simp only [Act.put, List.setIfInBounds_toArray, List.set_cons_zero, List.set_cons_succ]
                refine wpAnyIn_ready (rs := [5]) (by kernel_rfl) (by simp) ?_
                refine AllReadyIn.cons (o := { dst := some 25, op := Op.call { callee := Callee.value (Operand.func 54), args := #[Operand.tmp 23, Operand.tmp 24], argTypes := #[73, 76] }, type := 4, pos := "entries.go:116", after := #[{ on := 3, ground := Ground.data }, { on := 4, ground := Ground.data }], guard := none }) rfl (fun K hK => ?_) ?_
                ·
                  go_simp
                  refine ⟨trivial, ?_⟩
                  refine (CallsIn.inRound l (callsIn_wide.2 (HDR.out _ (below_drew W1)))).mono ?_
                  rintro e W2 ⟨rfl, ht9, hg9⟩
                  ·
                    replace hg9 := gb_trans (gb_of_below (r := some tt) (below_drew W1) (Nat.le_refl _)) hg9
                    have htb := tab_hd HS1.out.tab
                    obtain ⟨tds, htb⟩ := htb
                    have hkc : ∀ (k : Nat) (ds : Array Value) (T : TypeId) (f : Nat × Nat), T ≠ 107 → W1.heap[k]? = some (Obj.cells ds T f) → W2.heap[k]? = some (Obj.cells ds T f) := fun k ds T f hT hb => (hg9.block k (lt_of_block hb) (fun e => by
                      cases e; rw [htb] at hb; injection hb with hb; injection hb with _ h2 _; exact hT h2.symm)).trans hb
                    have HS2 := hide (HS1.out.tabs ht9 hg9)
                    have HSB2 := hide (hkc _ _ _ _ (by decide) HSB.out)
                    have HGB2 := hide (hkc _ _ _ _ (by decide) HGB.out)
                    have HKC := hide (hkc)
                    have HN2 := hide (HN1.out.trans (show C.NK W1 W2 from fun b ds hb => hkc _ _ _ _ (by decide) hb))
                    have HK2 := hide (HK1.out.trans (show KeepsFrom w2.heap.size W1 W2 from ⟨hg9.size, fun k o _ hk hc => (hg9.block k (lt_of_block hk) (fun e => by
                      cases e; rw [htb] at hk; cases hk; cases hc)).trans hk⟩))
                    have HON2 := hide (HON.out.grown hg9 (fun k e => by cases e; exact .inl (.inl rfl)))
                    clear ht9 hg9 htb hkc
                    refine hK _ _ ?_
                    clear hK K
                    try simp only [Act.put, List.setIfInBounds_toArray, List.set_cons_zero, List.set_cons_succ]
                    refine wpAnyIn_done (by kernel_rfl) ?_ _
                    gi_wp2
                    exact ⟨HK2.out, HN2.out, by rw [midQ_gone HQX.out]; exact HS2.out, HSB2.out, HGB2.out, HKC.out _ _ _ _ (by decide) HJ1.out, HON2.out⟩
                exact AllReadyIn.nil
              exact AllReadyIn.nil
            exact AllReadyIn.nil
          exact AllReadyIn.nil
        exact AllReadyIn.nil
      refine AllReadyIn.cons (o := { dst := some 24, op := Op.load 76 (Operand.tmp 6), type := 76, pos := "entries.go:116", after := #[], guard := none }) rfl (fun K hK => ?_) ?_
      ·
        go_simp
        refine hK _ _ ?_
        clear hK K
        try simp only [Act.put, List.setIfInBounds_toArray, List.set_cons_zero, List.set_cons_succ]
        refine wpAnyIn_ready (rs := [0]) (by kernel_rfl) (by simp) ?_
        refine AllReadyIn.cons (o := { dst := some 20, op := Op.load 33 (Operand.tmp 2), type := 33, pos := "entries.go:116", after := #[], guard := none }) rfl (fun K hK => ?_) ?_
        ·
          go_simp
          refine hK _ _ ?_
          clear hK K
          try simp only [Act.put, List.setIfInBounds_toArray, List.set_cons_zero, List.set_cons_succ]
          refine wpAnyIn_ready (rs := [1]) (by kernel_rfl) (by simp) ?_
          refine AllReadyIn.cons (o := { dst := some 21, op := Op.nilCheck (Operand.tmp 20), type := 0, pos := "entries.go:116", after := #[{ on := 0, ground := Ground.data }], guard := none }) rfl (fun K hK => ?_) ?_
          ·
            go_simp
            refine hK _ _ ?_
            clear hK K
            try simp only [Act.put, List.setIfInBounds_toArray, List.set_cons_zero, List.set_cons_succ]
            refine wpAnyIn_ready (rs := [2]) (by kernel_rfl) (by simp) ?_
            refine AllReadyIn.cons (o := { dst := some 22, op := Op.fieldAddr 79 (Operand.tmp 21) 1, type := 0, pos := "entries.go:116", after := #[{ on := 1, ground := Ground.data }], guard := none }) rfl (fun K hK => ?_) ?_
            ·
              go_simp
              refine hK _ _ ?_
              clear hK K
              try simp only [Act.put, List.setIfInBounds_toArray, List.set_cons_zero, List.set_cons_succ]
              refine wpAnyIn_ready (rs := [3]) (by kernel_rfl) (by simp) ?_
              refine AllReadyIn.cons (o := { dst := some 23, op := Op.load 73 (Operand.tmp 22), type := 73, pos := "entries.go:116", after := #[{ on := 2, ground := Ground.data }], guard := none }) rfl (fun K hK => ?_) ?_
              ·
                go_simp
                refine hK _ _ ?_
                clear hK K
                try simp only [Act.put, List.setIfInBounds_toArray, List.set_cons_zero, List.set_cons_succ]
                refine wpAnyIn_ready (rs := [5]) (by kernel_rfl) (by simp) ?_
                refine AllReadyIn.cons (o := { dst := some 25, op := Op.call { callee := Callee.value (Operand.func 54), args := #[Operand.tmp 23, Operand.tmp 24], argTypes := #[73, 76] }, type := 4, pos := "entries.go:116", after := #[{ on := 3, ground := Ground.data }, { on := 4, ground := Ground.data }], guard := none }) rfl (fun K hK => ?_) ?_
                ·
                  go_simp
                  refine ⟨trivial, ?_⟩
                  refine (CallsIn.inRound l (callsIn_wide.2 (HDR.out _ (below_drew W1)))).mono ?_
                  rintro e W2 ⟨rfl, ht9, hg9⟩
                  ·
                    replace hg9 := gb_trans (gb_of_below (r := some tt) (below_drew W1) (Nat.le_refl _)) hg9
                    have htb := tab_hd HS1.out.tab
                    obtain ⟨tds, htb⟩ := htb
                    have hkc : ∀ (k : Nat) (ds : Array Value) (T : TypeId) (f : Nat × Nat), T ≠ 107 → W1.heap[k]? = some (Obj.cells ds T f) → W2.heap[k]? = some (Obj.cells ds T f) := fun k ds T f hT hb => (hg9.block k (lt_of_block hb) (fun e => by
                      cases e; rw [htb] at hb; injection hb with hb; injection hb with _ h2 _; exact hT h2.symm)).trans hb
                    have HS2 := hide (HS1.out.tabs ht9 hg9)
                    have HSB2 := hide (hkc _ _ _ _ (by decide) HSB.out)
                    have HGB2 := hide (hkc _ _ _ _ (by decide) HGB.out)
                    have HKC := hide (hkc)
                    have HN2 := hide (HN1.out.trans (show C.NK W1 W2 from fun b ds hb => hkc _ _ _ _ (by decide) hb))
                    have HK2 := hide (HK1.out.trans (show KeepsFrom w2.heap.size W1 W2 from ⟨hg9.size, fun k o _ hk hc => (hg9.block k (lt_of_block hk) (fun e => by
                      cases e; rw [htb] at hk; cases hk; cases hc)).trans hk⟩))
                    have HON2 := hide (HON.out.grown hg9 (fun k e => by cases e; exact .inl (.inl rfl)))
                    clear ht9 hg9 htb hkc
                    refine hK _ _ ?_
                    clear hK K
                    try simp only [Act.put, List.setIfInBounds_toArray, List.set_cons_zero, List.set_cons_succ]
                    refine wpAnyIn_done (by kernel_rfl) ?_ _
                    gi_wp2
                    exact ⟨HK2.out, HN2.out, by rw [midQ_gone HQX.out]; exact HS2.out, HSB2.out, HGB2.out, HKC.out _ _ _ _ (by decide) HJ1.out, HON2.out⟩
                exact AllReadyIn.nil
              exact AllReadyIn.nil
            exact AllReadyIn.nil
          exact AllReadyIn.nil
        exact AllReadyIn.nil
      exact AllReadyIn.nil
  case done =>
    rintro D ys W hD rfl hSt hKD
    rw [hTE] at hSt
    obtain ⟨K, hK⟩ : ∃ K, keepQ q [] L = K := ⟨_, rfl⟩
    have hst := hSt.st
    rw [midQ_all HAS.out, hK] at hst
    have HST := hide hst
    have HK := hide hK
    have HSB := hide hSt.sb
    have HON := hide hSt.only
    have hDR : D ≠ sp := by intro e; subst e; rw [hst.blk] at hKD; cases hKD
    obtain ⟨s0, sf⟩ := one_cell hSt.sb
    have HLE := hide (slen_any W sp tt cs up K hst)
    obtain ⟨m, hm⟩ : ∃ m : Int, (K.length : Int) = m := ⟨_, rfl⟩
    rw [hm] at HLE
    have HM := hide hm
    have HKD := hide hKD
    clear hSt hst hT1 hT2 hT3 hT4 hK hm sf hKD
    gi_wp2_with fail
    refine ⟨trivial, ?_⟩
    refine (callsIn_wide.2 HLE.out).mono ?_
    rintro e w3 ⟨rfl, hq⟩
    obtain rfl := hq
    clear HLE
    by_cases hc : m = n
    · have hd : (m == n) = true := by simpa using hc
      have hres : K.length = L.length := by have h1 := HM.out; have h2 := HN.out; omega
      have HRES := hide hres
      clear hc hres
      gi_wp2_with fail
      refine ⟨by simp, .inl ⟨_, _, rfl, run_takeDeferred HKD.out, ?_⟩⟩
      refine ⟨.bool false, by simp [results, Try.results50, go_sem], ?_, ?_, ?_⟩
      · show Ending.returned (.bool false) = _; rw [HK.out, HRES.out]; simp
      · rw [HK.out, if_neg (by rw [HRES.out]; simp)]
        exact HST.out.keepC (fun k ds T f _ hb => (World.putObj_heap_other (by intro e; subst e; rw [HKD.out] at hb; cases hb)).trans hb)
      · exact (HON.out.mono (fun i _ h => .inr h)).grown (grownBy_putObj' w3 D (.deferred none)) (fun k e => by cases e; exact .inl (.inr (.inr (Nat.le_trans HB0.out hD))))
    · have hd : (m == n) = false := by simpa using hc
      have hres : K.length ≠ L.length := by have h1 := HM.out; have h2 := HN.out; omega
      have HRES := hide hres
      have c29 := HST.out.c29
      have hf9 := frozen_of_row _ sp 29 _ _ HST.out.blk
      clear hc hres
      gi_wp2_with fail
      try rw [show (up + 1) % 4294967296 = IntKind.u32.wrap (up + 1) from (IntKind.wrap_u32 _).symm]
      have hk2 : (w3.setCell ⟨sp, 29, none⟩ (.int .u32 (IntKind.u32.wrap (up + 1)))).heap[D]? = some (.deferred (some [])) := (heap_setCell_other _ _ _ _ hDR).trans HKD.out
      have hs2 := HST.out.upd (IntKind.u32.wrap (up + 1))
      have ho2 := (HON.out.mono (Y := fun k => k = sp ∨ XT tt base k) (fun i _ h => .inr h)).setCell sp 29 (.int .u32 (IntKind.u32.wrap (up + 1))) (.inl (.inl rfl))
      obtain ⟨X, hX⟩ : ∃ X, w3.setCell ⟨sp, 29, none⟩ (.int .u32 (IntKind.u32.wrap (up + 1))) = X := ⟨_, rfl⟩
      rw [hX] at hk2 hs2 ho2 ⊢
      refine ⟨by simp, .inl ⟨_, _, rfl, run_takeDeferred hk2, ?_⟩⟩
      refine ⟨.bool true, by simp [results, Try.results50, go_sem], ?_, ?_, ?_⟩
      · rw [HK.out, decide_eq_true HRES.out]
      · rw [HK.out, if_pos HRES.out]
        exact hs2.keepC (fun k ds T f _ hb => (World.putObj_heap_other (by intro e; subst e; rw [hk2] at hb; cases hb)).trans hb)
      · exact ho2.grown (grownBy_putObj' X D (.deferred none)) (fun k e => by cases e; exact .inl (.inr (.inr (Nat.le_trans HB0.out hD))))
  case stop =>
    rintro D c pre W hD hpre hF hKD
    exact hF.elim
/-- What Expire answers, and leaves. -/
def ExpAns (sp tt : Nat) (g : CG) (up : Int) (L : ML) (now : Int) (w : World) (e : Ending) (w' : World) : Prop :=
  e = .returned (.bool (decide ((L.filter fun x => !decide (x.2.e ≤ now)).length ≠ L.length))) ∧ SA w' sp tt g (if (L.filter fun x => !decide (x.2.e ≤ now)).length ≠ L.length then IntKind.u32.wrap (up + 1) else up) (L.filter fun x => !decide (x.2.e ≤ now)) ∧ OnlyS (fun k => k = sp ∨ XT tt w.heap.size k) w w'
theorem SA.took {w w' : World} {sp tt base : Nat} {g : CG} {up up' : Int} {L L' : ML} (h : SA w sp tt g up L) (hb : ∀ ad, g.fs ≠ [] → g.a = some ad → ad.block < base) (hs : SAt w' sp tt g.cs up' L') (ho : OnlyS (fun k => k = sp ∨ XT tt base k) w w') : SA w' sp tt g up' L' := by
  have hx : ∀ ad, g.fs ≠ [] → g.a = some ad → ¬ (ad.block = sp ∨ XT tt base ad.block) := fun ad h1 h2 h3 => by
    have h4 := h.aw ad h1 h2
    obtain ⟨ds, f1, h6⟩ := h.ty ad h1 h2
    have h7 := lt_of_block h6
    have h8 := hb ad h1 h2
    rcases h3 with h3 | h3 | h3 <;> omega
  exact ⟨hs, h.fw.only ho hx, fun ad h1 h2 => by
    obtain ⟨cs, f, h3⟩ := h.ty ad h1 h2
    exact ⟨cs, f, ho.heap h3 (hx ad h1 h2)⟩, h.ok⟩
set_option maxHeartbeats 1000000 in
theorem mexp_any (w : World) (sp tt : Nat) (g : CG) (up : Int) (L : ML) (now : Int) (h : SA w sp tt g up L) (hL : L.length ≤ 500000) :
    Calls Try.prog 21 #[.pointer (some ⟨sp, 0, none⟩), .int .u64 now] w (ExpAns sp tt g up L now w) := by
  obtain ⟨V, hV, hb, hv⟩ : ∃ V, w.alloc (.cells #[.int .u64 now] 35) = V ∧ Below w.heap.size w V ∧ V.heap[w.heap.size]? = some (.cells #[.int .u64 now] 35 (0, 0)) := ⟨_, rfl, (Below.refl _ _).alloc (Nat.le_refl _) _, heap_alloc_new _ _⟩
  obtain ⟨nb, hnb⟩ : ∃ B, w.heap.size = B := ⟨_, rfl⟩
  rw [hnb] at hv
  have htk := takeExp_any nb now (fun _ x => decide (x.2.e ≤ now)) V w.heap.size sp tt g.cs up L hb.size (h.below hb).st hL hv (fun W pre x hj _ => exp1_any w.heap.size W x nb now hj)
  have HTK := hide htk
  have HE := hide (And.intro hV hnb)
  have HB := hide hb
  have HH := hide h
  clear hV hb hv hnb htk h hL
  go_enter Try.func21, Try.ntmps21
  go_upto_region 1 with (fail)
  rw [HE.out.1]
  try rw [HE.out.2]
  clear HE
  go_wp2_with fail
  refine HTK.out.mono ?_
  rintro e w2 ⟨rfl, hs, ho⟩
  rw [keepQ_const] at hs
  have ho2 : OnlyS (fun k => k = sp ∨ XT tt w.heap.size k) w w2 := (OnlyS.of HB.out).trans ho (fun i hi hx => by
    exact hx)
  rw [keepQ_const]
  have HS := hide (HH.out.took (fun ad h1 h2 => by obtain ⟨_, _, h3⟩ := HH.out.ty ad h1 h2; exact lt_of_block h3) hs ho2)
  have HO := hide ho2
  obtain ⟨b, hb⟩ : ∃ b, decide ((L.filter fun x => !decide (x.2.e ≤ now)).length ≠ L.length) = b := ⟨_, rfl⟩
  rw [hb]
  have HBB := hide hb
  clear hs ho ho2 HTK hb
  go_wp2_with fail
  go_ret
  exact ⟨by rw [HBB.out]; rfl, HS.out, HO.out⟩
/-- At a set of one mapping. -/
theorem exp_stay (w : World) (sp tt : Nat) (g : CG) (up : Int) (k : MK) (v : ME) (now : Int) (h : SA w sp tt g up [(k, v)]) (hn : now < v.e) :
    Calls Try.prog 21 #[.pointer (some ⟨sp, 0, none⟩), .int .u64 now] w fun e w' => e = .returned (.bool false) ∧ SA w' sp tt g up [(k, v)] ∧ OnlyS (fun q => q = sp ∨ XT tt w.heap.size q) w w' := by
  refine (mexp_any w sp tt g up [(k, v)] now h (by simp)).mono ?_
  rintro e w' ⟨rfl, hs, ho⟩
  have hf : ([(k, v)].filter fun x => !decide (x.2.e ≤ now)) = [(k, v)] := by rw [List.filter_cons, if_pos (by simp; omega)]; rfl
  rw [hf] at hs ⊢
  rw [if_neg (by simp)] at hs
  exact ⟨by simp, hs, ho⟩
theorem exp_gone (w : World) (sp tt : Nat) (g : CG) (up : Int) (k : MK) (v : ME) (now : Int) (h : SA w sp tt g up [(k, v)]) (hn : v.e ≤ now) :
    Calls Try.prog 21 #[.pointer (some ⟨sp, 0, none⟩), .int .u64 now] w fun e w' => e = .returned (.bool true) ∧ SA w' sp tt g (IntKind.u32.wrap (up + 1)) [] ∧ OnlyS (fun q => q = sp ∨ XT tt w.heap.size q) w w' := by
  refine (mexp_any w sp tt g up [(k, v)] now h (by simp)).mono ?_
  rintro e w' ⟨rfl, hs, ho⟩
  have hf : ([(k, v)].filter fun x => !decide (x.2.e ≤ now)) = [] := by rw [List.filter_cons, if_neg (by simp; omega)]; rfl
  rw [hf] at hs ⊢
  rw [if_pos (by simp)] at hs
  exact ⟨by simp, hs, ho⟩
end Go.Proofs.Ytijjgnkfddklgaa
