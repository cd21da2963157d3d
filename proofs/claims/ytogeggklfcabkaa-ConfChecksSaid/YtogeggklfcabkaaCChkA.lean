/- Whether a configuration is right, part by part: the program's. -/
import Derived.Test.YtogeggklfcabkaaCOpen
import Derived.Test.YtogeggklfcabkaaCFindC
import Derived.Test.YtogeggklfcabkaaCUuidR
import Derived.Laws.BitsAllLaws
namespace Go.Proofs.Ytogeggklfcabkaa
open Go.RowKit
set_option linter.unusedVariables false
set_option linter.unusedSimpArgs false
set_option maxRecDepth 100000
/-- The cells of a configuration. -/
structure CfA (cs : Array Value) (c : Cfg) (a : Option Addr) (n cap : Nat) : Prop where
  size : cs.size = 28
  m0 : cs[0]? = some (.int .u8 ((c.m0 0).toNat : Int))
  m1 : cs[6]? = some (.int .u8 ((c.m1 0).toNat : Int))
  m2 : cs[12]? = some (.int .u8 ((c.m2 0).toNat : Int))
  lan : cs[18]? = some (.int .u32 (c.lan : Int))
  wan : cs[19]? = some (.int .u32 (c.wan : Int))
  nb : cs[20]? = some (.int .i64 c.nb)
  ms : cs[21]? = some (.int .i64 c.ms)
  mm : cs[22]? = some (.int .i64 c.mm)
  mc : cs[23]? = some (.int .i64 c.mc)
  mb : cs[24]? = some (.int .i64 c.mb)
  fw : cs[25]? = some (.slice a n cap)
  dmz : cs[26]? = some (.int .u32 (c.dmz : Int))
  uuid : cs[27]? = some (.string c.uuid)
theorem Cfg.cfA (c : Cfg) (a : Option Addr) (n cap : Nat) : CfA (c.cells a n cap) c a n cap := ⟨rfl, rfl, rfl, rfl, rfl, rfl, rfl, rfl, rfl, rfl, rfl, rfl, rfl, rfl⟩
theorem CfA.h {cs : Array Value} {c : Cfg} {a : Option Addr} {n cap : Nat} (h : CfA cs c a n cap) : CfH cs c.lan c.nb := ⟨h.size, h.lan, h.nb⟩
theorem CfA.f {cs : Array Value} {c : Cfg} {a : Option Addr} {n cap : Nat} (h : CfA cs c a n cap) : CfF cs a n cap := ⟨h.size, h.fw⟩
def btw (n lo hi : Int) : Bool := decide (lo ≤ n) && decide (n ≤ hi)
def addrsB (c : Cfg) : Bool := btw c.nb 8 30 && innerB c.lan c.nb && !decide (c.wan = 0) && !decide (c.wan = 4294967295) && !winB c.wan c.lan c.nb
def evenB (g : Nat → UInt8) : Bool := decide ((g 0).toNat % 2 = 0)
def macsB (c : Cfg) : Bool := evenB c.m0 && evenB c.m1 && evenB c.m2
def countsB (c : Cfg) : Bool := btw c.ms 1 4096 && btw c.mm 1 256 && btw c.mc 1 32 && btw c.mb 1 16
def fwdB (c : Cfg) (f : Fwd) : Bool := (decide (f.1 = 6) || decide (f.1 = 17)) && decide (0 < f.2.1) && decide (0 < f.2.2.1) && hostB c.lan c.nb f.2.2.2
def dmzB (c : Cfg) : Bool := decide (c.dmz = 0) || hostB c.lan c.nb c.dmz
theorem btw_any (n lo hi : Int) (w : World) : Calls Try.prog 31 #[.int .i64 n, .int .i64 lo, .int .i64 hi] w fun e w' => e = .returned (.bool (btw n lo hi)) ∧ w' = w := by
  unfold btw
  obtain ⟨x, hx⟩ : ∃ x, decide (lo ≤ n) = x := ⟨_, rfl⟩
  obtain ⟨y, hy⟩ : ∃ x, decide (n ≤ hi) = x := ⟨_, rfl⟩
  rw [hx, hy]
  cases x <;> cases y <;>
  · go_enter Try.func31, Try.ntmps31
    go_wp2_with fail
    go_ret
    exact ⟨rfl, rfl⟩
theorem or_even (x y z : Nat) (hx : x < 256) (hy : y < 256) (hz : z < 256) : (bits .and .u8 (bits .or .u8 (bits .or .u8 (x : Int) (y : Int)) (z : Int)) 1 == 0) = (decide (x % 2 = 0) && decide (y % 2 = 0) && decide (z % 2 = 0)) := by
  have h1 : (x ||| y) < 256 := Nat.or_lt_two_pow (n := 8) hx hy
  have h2 : (x ||| y ||| z) < 256 := Nat.or_lt_two_pow (n := 8) h1 hz
  have hm : ∀ u v : Nat, (u ||| v) % 2 = 0 ↔ (u % 2 = 0 ∧ v % 2 = 0) := fun u v => by
    have := @Nat.or_mod_two_eq_one u v
    omega
  rw [u8_or_nat x y hx hy, u8_or_nat _ z h1 hz, show (1 : Int) = ((1 : Nat) : Int) from rfl, u8_and_nat _ 1 h2 (by omega), Nat.and_one_is_mod, show (0 : Int) = ((0 : Nat) : Int) from rfl, int_beq2, Bool.eq_iff_iff]
  simp only [Bool.and_eq_true, decide_eq_true_eq, hm]
set_option maxHeartbeats 3000000 in
theorem rightAddrs_any (cs : Array Value) (c : Cfg) (a : Option Addr) (n cap : Nat) (w : World) (hc : CfA cs c a n cap) (hk : CfOk c) :
    Calls Try.prog 20 #[.agg cs] w fun e w' => e = .returned (.bool (addrsB c)) ∧ Below w.heap.size w w' := by
  obtain ⟨r, hr⟩ : ∃ r, addrsB c = r := ⟨_, rfl⟩
  rw [hr]
  obtain ⟨_, c18⟩ := Array.getElem?_eq_some_iff.1 hc.lan
  obtain ⟨_, c19⟩ := Array.getElem?_eq_some_iff.1 hc.wan
  obtain ⟨_, c20⟩ := Array.getElem?_eq_some_iff.1 hc.nb
  have hs := hc.size
  have HB := hide ((Below.refl w.heap.size w).alloc (Nat.le_refl _) (.cells cs 28))
  unfold addrsB at hr
  obtain ⟨p, hp⟩ : ∃ x, btw c.nb 8 30 = x := ⟨_, rfl⟩
  obtain ⟨q, hq⟩ : ∃ x, innerB c.lan c.nb = x := ⟨_, rfl⟩
  obtain ⟨t, ht⟩ : ∃ x, winB c.wan c.lan c.nb = x := ⟨_, rfl⟩
  have H1 := hide (fun V => btw_any c.nb 8 30 V)
  have H2 := hide (fun V => amid_any c.lan c.nb V hk.lan)
  have H3 := hide (fun V => within_any c.wan c.lan c.nb V hk.wan hk.lan)
  rw [hp] at H1 hr
  rw [hq] at H2 hr
  rw [ht] at H3 hr
  have e1 : ((c.wan : Int) != 0) = !decide (c.wan = 0) := int_beq c.wan 0
  have e2 : ((c.wan : Int) != 4294967295) = !decide (c.wan = 4294967295) := int_beq c.wan 4294967295
  rw [← e1, ← e2] at hr
  obtain ⟨x, hx⟩ : ∃ x, ((c.wan : Int) != 0) = x := ⟨_, rfl⟩
  obtain ⟨y, hy⟩ : ∃ x, ((c.wan : Int) != 4294967295) = x := ⟨_, rfl⟩
  rw [hx, hy] at hr
  have HR := hide hr
  clear hr hp hq ht e1 e2
  clear hc hk
  cases p with
  | false =>
    go_enter Try.func20, Try.ntmps20
    go_wp2_with (first | (go_at_call 31; refine (H1.out _).mono ?_; rintro e w1 ⟨rfl, rfl⟩) | (go_at_call 29; refine (H2.out _).mono ?_; rintro e w1 ⟨rfl, rfl⟩) | (go_at_call 28; refine (H3.out _).mono ?_; rintro e w1 ⟨rfl, n1, rfl⟩))
    go_ret
    first
      | exact ⟨by rw [← HR.out]; simp, HB.out⟩
      | exact ⟨by rw [← HR.out]; simp, bdrewN HB.out _⟩
  | true =>
    cases q with
    | false =>
      go_enter Try.func20, Try.ntmps20
      go_wp2_with (first | (go_at_call 31; refine (H1.out _).mono ?_; rintro e w1 ⟨rfl, rfl⟩) | (go_at_call 29; refine (H2.out _).mono ?_; rintro e w1 ⟨rfl, rfl⟩) | (go_at_call 28; refine (H3.out _).mono ?_; rintro e w1 ⟨rfl, n1, rfl⟩))
      go_ret
      first
        | exact ⟨by rw [← HR.out]; simp, HB.out⟩
        | exact ⟨by rw [← HR.out]; simp, bdrewN HB.out _⟩
    | true =>
      cases x with
      | false =>
        go_enter Try.func20, Try.ntmps20
        go_wp2_with (first | (go_at_call 31; refine (H1.out _).mono ?_; rintro e w1 ⟨rfl, rfl⟩) | (go_at_call 29; refine (H2.out _).mono ?_; rintro e w1 ⟨rfl, rfl⟩) | (go_at_call 28; refine (H3.out _).mono ?_; rintro e w1 ⟨rfl, n1, rfl⟩))
        go_ret
        first
          | exact ⟨by rw [← HR.out]; simp, HB.out⟩
          | exact ⟨by rw [← HR.out]; simp, bdrewN HB.out _⟩
      | true =>
        cases y with
        | false =>
          go_enter Try.func20, Try.ntmps20
          go_wp2_with (first | (go_at_call 31; refine (H1.out _).mono ?_; rintro e w1 ⟨rfl, rfl⟩) | (go_at_call 29; refine (H2.out _).mono ?_; rintro e w1 ⟨rfl, rfl⟩) | (go_at_call 28; refine (H3.out _).mono ?_; rintro e w1 ⟨rfl, n1, rfl⟩))
          go_ret
          first
            | exact ⟨by rw [← HR.out]; simp, HB.out⟩
            | exact ⟨by rw [← HR.out]; simp, bdrewN HB.out _⟩
        | true =>
          cases t with
          | false =>
            go_enter Try.func20, Try.ntmps20
            go_wp2_with (first | (go_at_call 31; refine (H1.out _).mono ?_; rintro e w1 ⟨rfl, rfl⟩) | (go_at_call 29; refine (H2.out _).mono ?_; rintro e w1 ⟨rfl, rfl⟩) | (go_at_call 28; refine (H3.out _).mono ?_; rintro e w1 ⟨rfl, n1, rfl⟩))
            go_ret
            first
              | exact ⟨by rw [← HR.out]; simp, HB.out⟩
              | exact ⟨by rw [← HR.out]; simp, bdrewN HB.out _⟩
          | true =>
            go_enter Try.func20, Try.ntmps20
            go_wp2_with (first | (go_at_call 31; refine (H1.out _).mono ?_; rintro e w1 ⟨rfl, rfl⟩) | (go_at_call 29; refine (H2.out _).mono ?_; rintro e w1 ⟨rfl, rfl⟩) | (go_at_call 28; refine (H3.out _).mono ?_; rintro e w1 ⟨rfl, n1, rfl⟩))
            go_ret
            first
              | exact ⟨by rw [← HR.out]; simp, HB.out⟩
              | exact ⟨by rw [← HR.out]; simp, bdrewN HB.out _⟩
set_option maxHeartbeats 3000000 in
theorem rightCounts_any (cs : Array Value) (c : Cfg) (a : Option Addr) (n cap : Nat) (w : World) (hc : CfA cs c a n cap) (hk : CfOk c) :
    Calls Try.prog 22 #[.agg cs] w fun e w' => e = .returned (.bool (countsB c)) ∧ Below w.heap.size w w' := by
  obtain ⟨r, hr⟩ : ∃ r, countsB c = r := ⟨_, rfl⟩
  rw [hr]
  obtain ⟨_, c21⟩ := Array.getElem?_eq_some_iff.1 hc.ms
  obtain ⟨_, c22⟩ := Array.getElem?_eq_some_iff.1 hc.mm
  obtain ⟨_, c23⟩ := Array.getElem?_eq_some_iff.1 hc.mc
  obtain ⟨_, c24⟩ := Array.getElem?_eq_some_iff.1 hc.mb
  have hs := hc.size
  have HB := hide ((Below.refl w.heap.size w).alloc (Nat.le_refl _) (.cells cs 28))
  unfold countsB at hr
  obtain ⟨p, hp⟩ : ∃ x, btw c.ms 1 4096 = x := ⟨_, rfl⟩
  have Hp := hide (fun V => btw_any c.ms 1 4096 V)
  rw [hp] at Hp hr
  clear hp
  obtain ⟨q, hq⟩ : ∃ x, btw c.mm 1 256 = x := ⟨_, rfl⟩
  have Hq := hide (fun V => btw_any c.mm 1 256 V)
  rw [hq] at Hq hr
  clear hq
  obtain ⟨x, hx⟩ : ∃ x, btw c.mc 1 32 = x := ⟨_, rfl⟩
  have Hx := hide (fun V => btw_any c.mc 1 32 V)
  rw [hx] at Hx hr
  clear hx
  obtain ⟨y, hy⟩ : ∃ x, btw c.mb 1 16 = x := ⟨_, rfl⟩
  have Hy := hide (fun V => btw_any c.mb 1 16 V)
  rw [hy] at Hy hr
  clear hy
  have HR := hide hr
  clear hr
  clear hc hk
  cases p with
  | false =>
    go_enter Try.func22, Try.ntmps22
    go_wp2_with (first | (go_at_call 31; (with_reducible refine (Hp.out _).mono ?_); rintro e w1 ⟨rfl, rfl⟩) | (go_at_call 31; (with_reducible refine (Hq.out _).mono ?_); rintro e w1 ⟨rfl, rfl⟩) | (go_at_call 31; (with_reducible refine (Hx.out _).mono ?_); rintro e w1 ⟨rfl, rfl⟩) | (go_at_call 31; (with_reducible refine (Hy.out _).mono ?_); rintro e w1 ⟨rfl, rfl⟩))
    go_ret
    first
      | exact ⟨by rw [← HR.out]; simp, HB.out⟩
      | exact ⟨by rw [← HR.out]; simp, bdrewN HB.out _⟩
  | true =>
    cases q with
    | false =>
      go_enter Try.func22, Try.ntmps22
      go_wp2_with (first | (go_at_call 31; (with_reducible refine (Hp.out _).mono ?_); rintro e w1 ⟨rfl, rfl⟩) | (go_at_call 31; (with_reducible refine (Hq.out _).mono ?_); rintro e w1 ⟨rfl, rfl⟩) | (go_at_call 31; (with_reducible refine (Hx.out _).mono ?_); rintro e w1 ⟨rfl, rfl⟩) | (go_at_call 31; (with_reducible refine (Hy.out _).mono ?_); rintro e w1 ⟨rfl, rfl⟩))
      go_ret
      first
        | exact ⟨by rw [← HR.out]; simp, HB.out⟩
        | exact ⟨by rw [← HR.out]; simp, bdrewN HB.out _⟩
    | true =>
      cases x with
      | false =>
        go_enter Try.func22, Try.ntmps22
        go_wp2_with (first | (go_at_call 31; (with_reducible refine (Hp.out _).mono ?_); rintro e w1 ⟨rfl, rfl⟩) | (go_at_call 31; (with_reducible refine (Hq.out _).mono ?_); rintro e w1 ⟨rfl, rfl⟩) | (go_at_call 31; (with_reducible refine (Hx.out _).mono ?_); rintro e w1 ⟨rfl, rfl⟩) | (go_at_call 31; (with_reducible refine (Hy.out _).mono ?_); rintro e w1 ⟨rfl, rfl⟩))
        go_ret
        first
          | exact ⟨by rw [← HR.out]; simp, HB.out⟩
          | exact ⟨by rw [← HR.out]; simp, bdrewN HB.out _⟩
      | true =>
        cases y with
        | false =>
          go_enter Try.func22, Try.ntmps22
          go_wp2_with (first | (go_at_call 31; (with_reducible refine (Hp.out _).mono ?_); rintro e w1 ⟨rfl, rfl⟩) | (go_at_call 31; (with_reducible refine (Hq.out _).mono ?_); rintro e w1 ⟨rfl, rfl⟩) | (go_at_call 31; (with_reducible refine (Hx.out _).mono ?_); rintro e w1 ⟨rfl, rfl⟩) | (go_at_call 31; (with_reducible refine (Hy.out _).mono ?_); rintro e w1 ⟨rfl, rfl⟩))
          go_ret
          first
            | exact ⟨by rw [← HR.out]; simp, HB.out⟩
            | exact ⟨by rw [← HR.out]; simp, bdrewN HB.out _⟩
        | true =>
          go_enter Try.func22, Try.ntmps22
          go_wp2_with (first | (go_at_call 31; (with_reducible refine (Hp.out _).mono ?_); rintro e w1 ⟨rfl, rfl⟩) | (go_at_call 31; (with_reducible refine (Hq.out _).mono ?_); rintro e w1 ⟨rfl, rfl⟩) | (go_at_call 31; (with_reducible refine (Hx.out _).mono ?_); rintro e w1 ⟨rfl, rfl⟩) | (go_at_call 31; (with_reducible refine (Hy.out _).mono ?_); rintro e w1 ⟨rfl, rfl⟩))
          go_ret
          first
            | exact ⟨by rw [← HR.out]; simp, HB.out⟩
            | exact ⟨by rw [← HR.out]; simp, bdrewN HB.out _⟩
set_option maxHeartbeats 3000000 in
theorem rightMACs_any (cs : Array Value) (c : Cfg) (a : Option Addr) (n cap : Nat) (w : World) (hc : CfA cs c a n cap) (hk : CfOk c) :
    Calls Try.prog 21 #[.agg cs] w fun e w' => e = .returned (.bool (macsB c)) ∧ Below w.heap.size w w' := by
  obtain ⟨r, hr⟩ : ∃ r, macsB c = r := ⟨_, rfl⟩
  rw [hr]
  obtain ⟨_, c0⟩ := Array.getElem?_eq_some_iff.1 hc.m0
  obtain ⟨_, c6⟩ := Array.getElem?_eq_some_iff.1 hc.m1
  obtain ⟨_, c12⟩ := Array.getElem?_eq_some_iff.1 hc.m2
  have hs := hc.size
  have HB := hide ((Below.refl w.heap.size w).alloc (Nat.le_refl _) (.cells cs 28))
  unfold macsB evenB at hr
  have e1 := or_even (c.m0 0).toNat (c.m1 0).toNat (c.m2 0).toNat (c.m0 0).toNat_lt (c.m1 0).toNat_lt (c.m2 0).toNat_lt
  rw [← e1] at hr
  obtain ⟨x, hx⟩ : ∃ x, (bits .and .u8 (bits .or .u8 (bits .or .u8 ((c.m0 0).toNat : Int) ((c.m1 0).toNat : Int)) ((c.m2 0).toNat : Int)) 1 == 0) = x := ⟨_, rfl⟩
  rw [hx] at hr
  have HR := hide hr
  clear hr e1
  clear hc hk
  cases x with
  | false =>
    go_enter Try.func21, Try.ntmps21
    go_wp2_with fail
    go_ret
    first
      | exact ⟨by rw [← HR.out]; simp, HB.out⟩
      | exact ⟨by rw [← HR.out]; simp, bdrewN HB.out _⟩
  | true =>
    go_enter Try.func21, Try.ntmps21
    go_wp2_with fail
    go_ret
    first
      | exact ⟨by rw [← HR.out]; simp, HB.out⟩
      | exact ⟨by rw [← HR.out]; simp, bdrewN HB.out _⟩
set_option maxHeartbeats 3000000 in
theorem rightDMZ_any (cs : Array Value) (c : Cfg) (a : Option Addr) (n cap : Nat) (w : World) (hc : CfA cs c a n cap) (hk : CfOk c) :
    Calls Try.prog 24 #[.agg cs] w fun e w' => e = .returned (.bool (dmzB c)) ∧ Below w.heap.size w w' := by
  obtain ⟨r, hr⟩ : ∃ r, dmzB c = r := ⟨_, rfl⟩
  rw [hr]
  obtain ⟨_, c26⟩ := Array.getElem?_eq_some_iff.1 hc.dmz
  have hs := hc.size
  have HB := hide ((Below.refl w.heap.size w).alloc (Nat.le_refl _) (.cells cs 28))
  unfold dmzB at hr
  have HSZ := hide hs
  have HH := hide (fun V => host_any cs c.lan c.nb c.dmz V hc.h hk.lan hk.dmz)
  obtain ⟨p, hp⟩ : ∃ x, hostB c.lan c.nb c.dmz = x := ⟨_, rfl⟩
  rw [hp] at HH hr
  have e1 : ((c.dmz : Int) == 0) = decide (c.dmz = 0) := int_beq2 c.dmz 0
  rw [← e1] at hr
  obtain ⟨x, hx⟩ : ∃ x, ((c.dmz : Int) == 0) = x := ⟨_, rfl⟩
  rw [hx] at hr
  have HR := hide hr
  have HH0 := hide (heap_alloc_new w (.cells cs 28))
  clear hr hp e1
  clear hc hk
  cases x with
  | false =>
    cases p with
    | false =>
      go_enter Try.func24, Try.ntmps24
      go_wp2_with (first | (refine ld_cfg (.tmp 1) rfl (by rfl) w.heap.size rfl cs HH0.out HSZ.out ?_; try simp only [Act.put, List.setIfInBounds_toArray, List.set_cons_zero, List.set_cons_succ]) | (go_at_call 14; refine (HH.out _).mono ?_; rintro e w1 ⟨rfl, b1⟩; have HB1 := hide (HB.out.trans (b1.mono HB.out.size)); clear b1))
      go_ret
      first
        | exact ⟨by rw [← HR.out]; simp, HB.out⟩
        | exact ⟨by rw [← HR.out]; simp, HB1.out⟩
    | true =>
      go_enter Try.func24, Try.ntmps24
      go_wp2_with (first | (refine ld_cfg (.tmp 1) rfl (by rfl) w.heap.size rfl cs HH0.out HSZ.out ?_; try simp only [Act.put, List.setIfInBounds_toArray, List.set_cons_zero, List.set_cons_succ]) | (go_at_call 14; refine (HH.out _).mono ?_; rintro e w1 ⟨rfl, b1⟩; have HB1 := hide (HB.out.trans (b1.mono HB.out.size)); clear b1))
      go_ret
      first
        | exact ⟨by rw [← HR.out]; simp, HB.out⟩
        | exact ⟨by rw [← HR.out]; simp, HB1.out⟩
  | true =>
    go_enter Try.func24, Try.ntmps24
    go_wp2_with (first | (refine ld_cfg (.tmp 1) rfl (by rfl) w.heap.size rfl cs HH0.out HSZ.out ?_; try simp only [Act.put, List.setIfInBounds_toArray, List.set_cons_zero, List.set_cons_succ]) | (go_at_call 14; refine (HH.out _).mono ?_; rintro e w1 ⟨rfl, b1⟩; have HB1 := hide (HB.out.trans (b1.mono HB.out.size)); clear b1))
    go_ret
    first
      | exact ⟨by rw [← HR.out]; simp, HB.out⟩
      | exact ⟨by rw [← HR.out]; simp, HB1.out⟩
end Go.Proofs.Ytogeggklfcabkaa
