/- neigh: Hear. -/
import Derived.Test.YtbibobjkclgogaaNLn
import Derived.Test.YtbibobjkclgogaaNBe
import Derived.Test.YtbibobjkclgogaaNPo
namespace Go.Proofs.Ytbibobjkclgogaa
open Go.RowKit Go.Deep
set_option linter.unusedVariables false
set_option linter.unusedSimpArgs false
set_option maxRecDepth 100000
/-- A box of another type turns. -/
theorem CAx.box {w w' : World} {K c tb n cap R : Nat} {T : TypeId} {a : Option Addr} {L : List D.KV} {H : List HV} (h : CAx w K c tb a n cap L H) (hO : OnlyS (fun k => k = R) w w') (hT : TyB w R T) (h1 : 72 ≠ T) (h2 : 100 ≠ T) (h3 : 84 ≠ T) (h4 : 111 ≠ T) (h5 : 5 ≠ T) : CAx w' K c tb a n cap L H :=
  ⟨hO.heap h.blk (fun e => h.tyC.ne hT h1 e), h.hc, h.ht, h.tab.keep (nk_only hO (fun k hk e => hk.ne hT h4 e)) (fun o ho => hO.heap ho (fun e => h.tyT.ne hT h2 e)), h.row.only hO (fun k hk e => (h.row.ty hk).1.ne hT h3 e), fun x hx => (h.bod x hx).only hO (fun k hk e => hk.ne hT h5 e)⟩
theorem PRow.ty {w : World} {K k : Nat} {v : Value} {H : List HV} (h : PRow w K v H) (hk : RB v k) : TyB w k 44 ∧ K ≤ k := by
  rcases h.2 with ⟨h1, _⟩ | ⟨g, cap, cur, h1, h2, h3, _⟩
  · rw [RB, h1] at hk; simp [Value.ownBlock] at hk
  · rw [RB, h1] at hk
    simp [Value.ownBlock] at hk
    subst hk
    exact ⟨⟨_, _, h3⟩, h2⟩
theorem GiveAns.box {K c R : Nat} {L : List D.KV} {H : List HV} {d : Int} {w w' V : World} {e : Ending} (h : GiveAns K c L H d w e w') (hO : OnlyS (fun k => k = R) w' V) (hT : TyB w' R 41) (hR : w.heap.size ≤ R) (hK : K ≤ w.heap.size) : GiveAns K c L H d w e V := by
  obtain ⟨a', n', c', h1, h2, h3, ⟨tb, a, n, cap, h4⟩, h5, h6, h7⟩ := h
  refine ⟨a', n', c', h1, h2, h3.only hO (fun k hk e => (h3.ty hk).1.ne hT (by decide) e), ⟨tb, a, n, cap, h4.box hO hT (by decide) (by decide) (by decide) (by decide) (by decide)⟩, fun x hx => (h5 x hx).only hO (fun k hk e => hk.ne hT (by decide) e), h6.trans (hO.below (K := K) (fun k e => by rw [e]; exact Nat.le_trans hK hR) (Nat.le_trans hK h6.size)), fun k cs T f ht hb => (hO.heap (h7 k cs T f ht hb) (fun e => ?_))⟩
  have := lt_of_block hb
  omega
/-- What of a configuration is asked for here. -/
structure CfN (cs : Array Value) (lan : Nat) (nb : Int) (g : Nat → Int) : Prop where
  h : CfH cs lan nb
  g0 : cs[0]? = some (.int .u8 (g 0))
  g1 : cs[1]? = some (.int .u8 (g 1))
  g2 : cs[2]? = some (.int .u8 (g 2))
  g3 : cs[3]? = some (.int .u8 (g 3))
  g4 : cs[4]? = some (.int .u8 (g 4))
  g5 : cs[5]? = some (.int .u8 (g 5))
def ARZ : Value := .agg #[.int .u16 0, .int .u8 0, .int .u8 0, .int .u8 0, .int .u8 0, .int .u8 0, .int .u8 0, .int .u8 0, .int .u8 0, .int .u8 0, .int .u8 0, .int .u8 0, .int .u8 0, .int .u32 0, .int .u32 0]
def ARN (g : Nat → Int) (lan : Nat) (x : AR) : Value := .agg #[.int .u16 2, .int .u8 (g 0), .int .u8 (g 1), .int .u8 (g 2), .int .u8 (g 3), .int .u8 (g 4), .int .u8 (g 5), .int .u8 (x.f0 : Int), .int .u8 x.f1, .int .u8 x.f2, .int .u8 x.f3, .int .u8 x.f4, .int .u8 x.f5, .int .u32 (lan : Int), .int .u32 (x.s : Int)]
def askB (lan : Nat) (x : AR) : Bool := x.op == 1 && (x.d : Int) == (lan : Int)
/-- What Hear leaves. -/
def HearAns (K c : Nat) (L L' : List D.KV) (H : List HV) (lan : Nat) (nb : Int) (g : Nat → Int) (x : AR) (w : World) (e : Ending) (w' : World) : Prop :=
  (belB lan nb x = false ∧ e = .returned (.tuple #[ARZ, .bool false, .slice none 0 0]) ∧ CAt w' K c L H ∧ Below K w w' ∧ KO w w') ∨
  (belB lan nb x = true ∧ ∃ a' n' c', e = .returned (.tuple #[if askB lan x then ARN g lan x else ARZ, .bool (askB lan x), .slice a' n' c']) ∧ GiveAns K c L' H (x.s : Int) w (.returned (.slice a' n' c')) w')
end Go.Proofs.Ytbibobjkclgogaa
