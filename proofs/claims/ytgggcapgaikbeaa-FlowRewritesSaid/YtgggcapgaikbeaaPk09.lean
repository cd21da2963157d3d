/- That the three readers and the document's three answer alike, each pair as one fact. -/
import Derived.Test.YtgggcapgaikbeaaPk06
import Derived.Test.YtgggcapgaikbeaaPk08
import Derived.Test.YtgggcapgaikbeaaPk01
import Derived.Test.YtgggcapgaikbeaaProg
import Derived.IntWalk
import Derived.Below
import Derived.OneCell
import Derived.Laws.Rows
import Derived.Deep.RegionHeld3
import Derived.Deep.Cut
namespace Go.Proofs.Ytgggcapgaikbeaa
open Go.RowKit
set_option linter.unusedVariables false
set_option linter.unusedSimpArgs false
set_option maxRecDepth 100000
def TcpAns (p q u v f g h code : Int) (os ds : List Int) (m k : Nat) (w : World) (e : Ending) (w' : World) : Prop :=
  ∃ a1 c1 a2 c2, e = .returned (.tuple #[.agg #[.int .u16 p, .int .u16 q, .int .u32 u, .int .u32 v, .int .u8 f, .int .u16 g, .int .u16 h, .slice a1 m c1, .slice a2 k c2], .int .i64 code]) ∧ w'.ownsRow w.heap.size 5 1 (.slice a1 m c1) m (os.map (Value.int .u8)) ∧ w'.ownsRow w.heap.size 5 1 (.slice a2 k c2) k (ds.map (Value.int .u8)) ∧ Below w.heap.size w w'
def UdpAns (p q : Int) (pl : Bool) (code : Int) (ds : List Int) (m : Nat) (w : World) (e : Ending) (w' : World) : Prop :=
  ∃ a1 c1, e = .returned (.tuple #[.agg #[.int .u16 p, .int .u16 q, .bool pl, .slice a1 m c1], .int .i64 code]) ∧ w'.ownsRow w.heap.size 5 1 (.slice a1 m c1) m (ds.map (Value.int .u8)) ∧ Below w.heap.size w w'
def IcmpAns (p q r code : Int) (ds : List Int) (m : Nat) (w : World) (e : Ending) (w' : World) : Prop :=
  ∃ a1 c1, e = .returned (.tuple #[.agg #[.int .u8 p, .int .u8 q, .int .u32 r, .slice a1 m c1], .int .i64 code]) ∧ w'.ownsRow w.heap.size 5 1 (.slice a1 m c1) m (ds.map (Value.int .u8)) ∧ Below w.heap.size w w'
/-- Where the bytes lie. -/
structure Lies (w : World) (a : Option Addr) (xs : List Int) (n cap : Nat) : Prop where
  row : Row .u8 w a xs
  no : a = none → cap = 0
  le : n ≤ cap
  max : cap ≤ 9223372036854775807
theorem nil_own (w : World) (b : Nat) : w.ownsRow b 5 1 (.slice none 0 0) 0 (([] : List Int).map (Value.int .u8)) := World.ownsRow_nil w b _ 1
end Go.Proofs.Ytgggcapgaikbeaa

/- Flows: plain facts. No program is named. -/
namespace Go.Proofs.Ytgggcapgaikbeaa
open Go.RowKit
set_option linter.unusedVariables false
structure Fl where
  p : Nat
  s : Nat
  d : Nat
  f : Nat
  t : Nat
def Fl.v (x : Fl) : Value := .agg #[.int .u8 (x.p : Int), .int .u32 (x.s : Int), .int .u32 (x.d : Int), .int .u16 (x.f : Int), .int .u16 (x.t : Int)]
def Fl.turn (x : Fl) : Fl := ⟨x.p, x.d, x.s, x.t, x.f⟩
structure Fl.Ok (x : Fl) : Prop where
  p : x.p ≤ 255
  s : x.s ≤ 4294967295
  d : x.d ≤ 4294967295
  f : x.f ≤ 65535
  t : x.t ≤ 65535
theorem Fl.Ok.turn {x : Fl} (h : x.Ok) : x.turn.Ok := ⟨h.p, h.d, h.s, h.t, h.f⟩
def Fl.l (x : Fl) : List Int := [x.p, x.s, x.f, x.d, x.t]
def ordI (a b : Int) : Int := if a < b then -1 else if b < a then 1 else 0
def nzF : List Int → Int
  | [] => 0
  | x :: xs => if x ≠ 0 then x else nzF xs
def orderF (a b : Fl) : Int := nzF [ordI a.p b.p, ordI a.s b.s, ordI a.f b.f, ordI a.d b.d, ordI a.t b.t]
def lessL : List Int → List Int → Bool
  | x :: xs, y :: ys => if x ≠ y then decide (x < y) else lessL xs ys
  | _, _ => false
end Go.Proofs.Ytgggcapgaikbeaa

/- Flows: turned about, and their order: the program's and the document's. -/
namespace Go.Proofs.Ytgggcapgaikbeaa
open Go.RowKit
set_option linter.unusedVariables false
set_option linter.unusedSimpArgs false
set_option maxRecDepth 100000
theorem turnP_any (x : Fl) (w : World) :
    Calls Try.prog 17 #[x.v] w fun e w' => e = .returned x.turn.v ∧ Below w.heap.size w w' := by
  obtain ⟨p, s, d, f, t⟩ := x
  unfold Fl.turn Fl.v
  dsimp only
  obtain ⟨V, hV⟩ : ∃ V, Value.agg #[.int .u8 (p : Int), .int .u32 (d : Int), .int .u32 (s : Int), .int .u16 (t : Int), .int .u16 (f : Int)] = V := ⟨_, rfl⟩
  rw [hV]
  have HV := hide hV
  clear hV
  go_enter Try.func17, Try.ntmps17
  go_wp2_with fail
  refine bodyPost_ret (v := V) (by rw [← HV.out]; simp [results, Try.results17, go_sem]) rfl ⟨rfl, ?_⟩
  repeat (first | exact Below.refl _ _ | refine Below.setCell ?_ (Nat.le_refl _) _ | refine Below.setCell ?_ (by simp; omega) _ | refine Below.alloc ?_ (by first | (simp; done) | (simp; omega)) _)
theorem turnR_any (x : Fl) (w : World) :
    Calls Try.prog 38 #[x.v] w fun e w' => e = .returned x.turn.v ∧ Below w.heap.size w w' := by
  obtain ⟨p, s, d, f, t⟩ := x
  unfold Fl.turn Fl.v
  dsimp only
  obtain ⟨V, hV⟩ : ∃ V, Value.agg #[.int .u8 (p : Int), .int .u32 (d : Int), .int .u32 (s : Int), .int .u16 (t : Int), .int .u16 (f : Int)] = V := ⟨_, rfl⟩
  rw [hV]
  have HV := hide hV
  clear hV
  go_enter Try.func38, Try.ntmps38
  go_wp2_with fail
  refine bodyPost_ret (v := V) (by rw [← HV.out]; simp [results, Try.results38, go_sem]) rfl ⟨rfl, ?_⟩
  repeat (first | exact Below.refl _ _ | refine Below.setCell ?_ (Nat.le_refl _) _ | refine Below.setCell ?_ (by simp; omega) _ | refine Below.alloc ?_ (by first | (simp; done) | (simp; omega)) _)
end Go.Proofs.Ytgggcapgaikbeaa

/- Flows: their order, the program's and the document's. -/
namespace Go.Proofs.Ytgggcapgaikbeaa
open Go.RowKit
set_option linter.unusedVariables false
set_option linter.unusedSimpArgs false
set_option maxRecDepth 100000
theorem five_cells {w : World} {R : Nat} {t : TypeId} {v0 v1 v2 v3 v4 : Value} (h : w.heap[R]? = some (.cells #[v0, v1, v2, v3, v4] t (0, 0))) : w.cell? ⟨R, 0, none⟩ = some v0 ∧ w.cell? ⟨R, 1, none⟩ = some v1 ∧ w.cell? ⟨R, 2, none⟩ = some v2 ∧ w.cell? ⟨R, 3, none⟩ = some v3 ∧ w.cell? ⟨R, 4, none⟩ = some v4 ∧ ∀ i, w.frozen? ⟨R, i, none⟩ = false := by
  refine ⟨?_, ?_, ?_, ?_, ?_, fun i => ?_⟩ <;> simp [World.cell?, World.frozen?, h]
end Go.Proofs.Ytgggcapgaikbeaa
