/- Whether a configuration is right, part by part: the program's. -/
import Derived.Test.YtbibobjkclgogaaCOpen
import Derived.Test.YtbibobjkclgogaaCFindC
import Derived.Test.YtbibobjkclgogaaCUuidR
import Derived.Laws.BitsAllLaws
import Derived.Deep.RegionHeld3
import Derived.Deep.Cut
namespace Go.Proofs.Ytbibobjkclgogaa
open Go.RowKit
set_option linter.unusedVariables false
set_option linter.unusedSimpArgs false
set_option maxRecDepth 100000
/-- The cells of a configuration. -/
structure CfA (cs : Array Value) (c : Cfg) (a : Option Addr) (n cap : Nat) : Prop where
  size : cs.size = 28
  m0 : cs[0]? = some (.int .u8 ((c.m0 0).toNat : Int))
  m1 : cs[6]? = some (.int .u8 ((c.m1 0).toNat : Int))
  m2 : cs[12]? = some (.int .u8 ((c.m2 0).toNat : Int))
  lan : cs[18]? = some (.int .u32 (c.lan : Int))
  wan : cs[19]? = some (.int .u32 (c.wan : Int))
  nb : cs[20]? = some (.int .i64 c.nb)
  ms : cs[21]? = some (.int .i64 c.ms)
  mm : cs[22]? = some (.int .i64 c.mm)
  mc : cs[23]? = some (.int .i64 c.mc)
  mb : cs[24]? = some (.int .i64 c.mb)
  fw : cs[25]? = some (.slice a n cap)
  dmz : cs[26]? = some (.int .u32 (c.dmz : Int))
  uuid : cs[27]? = some (.string c.uuid)
theorem Cfg.cfA (c : Cfg) (a : Option Addr) (n cap : Nat) : CfA (c.cells a n cap) c a n cap := ⟨rfl, rfl, rfl, rfl, rfl, rfl, rfl, rfl, rfl, rfl, rfl, rfl, rfl, rfl⟩
theorem CfA.h {cs : Array Value} {c : Cfg} {a : Option Addr} {n cap : Nat} (h : CfA cs c a n cap) : CfH cs c.lan c.nb := ⟨h.size, h.lan, h.nb⟩
theorem CfA.f {cs : Array Value} {c : Cfg} {a : Option Addr} {n cap : Nat} (h : CfA cs c a n cap) : CfF cs a n cap := ⟨h.size, h.fw⟩
def btw (n lo hi : Int) : Bool := decide (lo ≤ n) && decide (n ≤ hi)
def addrsB (c : Cfg) : Bool := btw c.nb 8 30 && innerB c.lan c.nb && !decide (c.wan = 0) && !decide (c.wan = 4294967295) && !winB c.wan c.lan c.nb
def evenB (g : Nat → UInt8) : Bool := decide ((g 0).toNat % 2 = 0)
def macsB (c : Cfg) : Bool := evenB c.m0 && evenB c.m1 && evenB c.m2
def countsB (c : Cfg) : Bool := btw c.ms 1 4096 && btw c.mm 1 256 && btw c.mc 1 32 && btw c.mb 1 16
def fwdB (c : Cfg) (f : Fwd) : Bool := (decide (f.1 = 6) || decide (f.1 = 17)) && decide (0 < f.2.1) && decide (0 < f.2.2.1) && hostB c.lan c.nb f.2.2.2
def dmzB (c : Cfg) : Bool := decide (c.dmz = 0) || hostB c.lan c.nb c.dmz
theorem or_even (x y z : Nat) (hx : x < 256) (hy : y < 256) (hz : z < 256) : (bits .and .u8 (bits .or .u8 (bits .or .u8 (x : Int) (y : Int)) (z : Int)) 1 == 0) = (decide (x % 2 = 0) && decide (y % 2 = 0) && decide (z % 2 = 0)) := by
  have h1 : (x ||| y) < 256 := Nat.or_lt_two_pow (n := 8) hx hy
  have h2 : (x ||| y ||| z) < 256 := Nat.or_lt_two_pow (n := 8) h1 hz
  have hm : ∀ u v : Nat, (u ||| v) % 2 = 0 ↔ (u % 2 = 0 ∧ v % 2 = 0) := fun u v => by
    have := @Nat.or_mod_two_eq_one u v
    omega
  rw [u8_or_nat x y hx hy, u8_or_nat _ z h1 hz, show (1 : Int) = ((1 : Nat) : Int) from rfl, u8_and_nat _ 1 h2 (by omega), Nat.and_one_is_mod, show (0 : Int) = ((0 : Nat) : Int) from rfl, int_beq2, Bool.eq_iff_iff]
  simp only [Bool.and_eq_true, decide_eq_true_eq, hm]
end Go.Proofs.Ytbibobjkclgogaa

/- Whether a configuration is right, part by part: the program's. -/
namespace Go.Proofs.Ytbibobjkclgogaa
open Go.RowKit
set_option linter.unusedVariables false
set_option linter.unusedSimpArgs false
set_option maxRecDepth 100000
end Go.Proofs.Ytbibobjkclgogaa

/- Whether the forwards of a configuration are right: the program's. -/
namespace Go.Proofs.Ytbibobjkclgogaa
open Go.RowKit
set_option linter.unusedVariables false
set_option linter.unusedSimpArgs false
set_option maxRecDepth 100000
/-- Is the forward at a place right, and the first one of its port? -/
def okI (c : Cfg) (fs : List Fwd) (i : Nat) : Bool := match fs[i]? with
  | some f => !(findL (fs.take i) f.1 f.2.1).isSome && fwdB c f
  | none => true
def fwdsB (c : Cfg) (fs : List Fwd) : Bool := decide (fs.length ≤ 32) && (List.range fs.length).all (okI c fs)
theorem fwds_long {c : Cfg} {fs : List Fwd} (h : 32 < fs.length) : fwdsB c fs = false := by
  unfold fwdsB; rw [show decide (fs.length ≤ 32) = false by simp; omega]; rfl
theorem fwds_bad {c : Cfg} {fs : List Fwd} {i : Nat} (hi : i < fs.length) (h : okI c fs i = false) : fwdsB c fs = false := by
  unfold fwdsB
  have : (List.range fs.length).all (okI c fs) = false := by
    rw [List.all_eq_false]
    exact ⟨i, List.mem_range.2 hi, by rw [h]; decide⟩
  rw [this, Bool.and_false]
theorem fwds_yes {c : Cfg} {fs : List Fwd} (hl : fs.length ≤ 32) (h : ∀ i, i < fs.length → okI c fs i = true) : fwdsB c fs = true := by
  unfold fwdsB
  rw [show decide (fs.length ≤ 32) = true by simpa using hl, Bool.true_and, List.all_eq_true]
  exact fun i hi => h i (List.mem_range.1 hi)
theorem FwAt.take {w : World} {a : Option Addr} {fs : List Fwd} (h : FwAt w a fs) (j : Nat) : FwAt w a (fs.take j) := by
  intro hne
  obtain ⟨b, off, rfl, hlt, hc⟩ := h (by intro e; subst e; simp at hne)
  refine ⟨b, off, rfl, hlt, fun i f hi => hc i f ?_⟩
  rw [List.getElem?_take] at hi
  split at hi
  · exact hi
  · cases hi
/-- A forward, stored whole, in a region that draws its order. -/
theorem step_st_fwd {ops : Array Oper} {o : Oper} {a : Act} {w : World} {K : Act → World → Prop} {Q : Exit → Act → World → Prop} {E : Prop} (x y : Operand) (ho : o.op = .store 97 x y) (hw : Region.wanted o (yielded ops a.tmps) = true)
    (g : Nat) (hx : a.eval x = .pointer (some ⟨g, 0, none⟩)) (c cs : Array Value) (hy : a.eval y = .agg cs) (hg : w.heap[g]? = some (.cells c 97 (0, 0))) (hc : c.size = 4) (hs : cs.size = 4) (h1 : cs.all (·.oneCell') = true)
    {N : Nat} {w0 : World} (hB : Below N w0 w) (hN : N ≤ g)
    (h : ∀ w', w'.heap[g]? = some (.cells cs 97 (0, 0)) → Below N w0 w' → (∀ k, k ≠ g → w'.heap[k]? = w.heap[k]?) → w'.heap.size = w.heap.size → K (a.put o.dst undef) w') :
    if Region.wanted o (yielded ops a.tmps) = true then Oper.wp Try.prog o a w K Q else E := by
  rw [if_pos hw]
  unfold Oper.wp execOp
  simp only [ho, hx, hy, Instr.storeAt, Instr.sureAddr, Sem.run_bind, Sem.run_pure, Result.andThen_ok, run_storeVar_row w g 97 97 c cs hg (by rw [hs]; exact info_fwd) (by omega) h1]
  exact h _ (setRow_heap w g c cs _ _ hg) (below_setRow hB hN cs) (fun k hk => setRow_other w g k cs hk) (setRow_size w g cs)
theorem ok_more {c : Cfg} {fs : List Fwd} {j : Nat} (hb : ∀ i, i < j → okI c fs i = true) (hh : okI c fs j = true) : ∀ i, i < j + 1 → okI c fs i = true := fun i hi => by
  by_cases h : i = j
  · subst h; exact hh
  · exact hb i (by omega)
end Go.Proofs.Ytbibobjkclgogaa

/- Whether a configuration is right: the program's. -/
namespace Go.Proofs.Ytbibobjkclgogaa
open Go.RowKit
set_option linter.unusedVariables false
set_option linter.unusedSimpArgs false
set_option maxRecDepth 100000
def checkB (c : Cfg) (fs : List Fwd) : Bool := addrsB c && macsB c && countsB c && fwdsB c fs && dmzB c && uuidB c.uuid
def errB (b : Bool) : Int := if b then 0 else 40
end Go.Proofs.Ytbibobjkclgogaa
