/- How long connections last: plain facts on flags and on what was seen. No program is named. -/
import Derived.Test.YtggnbhihajealaaPlain
namespace Go.Proofs.Ytggnbhihajealaa
open Go.RowKit
set_option linter.unusedVariables false
def kB (f i : Nat) : Bool := decide (f / 2 ^ i % 2 = 1)
def begB (f : Nat) : Bool := kB f 1 && !kB f 4 && !kB f 2
structure St5 where
  a : Bool
  b : Bool
  c : Bool
  d : Bool
  e : Bool
def St5.v (s : St5) : Value := .agg #[.bool s.a, .bool s.b, .bool s.c, .bool s.d, .bool s.e]
def overB (s : St5) : Bool := s.e || (s.c && s.d)
def openB (s : St5) : Bool := s.a && s.b
def nx (s : St5) (f : Nat) (out : Bool) : St5 :=
  if out && begB f && overB s then ⟨true, false, false, false, false⟩
  else ⟨s.a || (kB f 1 && out), s.b || (kB f 1 && !out), s.c || (kB f 0 && out), s.d || (kB f 0 && !out), s.e || kB f 2⟩
def lim (p : Nat) (s : St5) : Nat := if p = 1 then 60 else if p = 17 then 300 else if p = 6 then (if openB s && !overB s then 7440 else 240) else 0
theorem beg_and : ∀ f : Nat, f < 256 → (bits .and .u8 (f : Int) 22 == 2) = begB f := by decide +kernel
theorem syn_and : ∀ f : Nat, f < 256 → (bits .and .u8 (f : Int) 2 != 0) = kB f 1 := by decide +kernel
theorem fin_and : ∀ f : Nat, f < 256 → (bits .and .u8 (f : Int) 1 != 0) = kB f 0 := by decide +kernel
theorem rst_and : ∀ f : Nat, f < 256 → (bits .and .u8 (f : Int) 4 != 0) = kB f 2 := by decide +kernel
theorem and22 : ∀ f : Nat, f < 256 → ∃ g : Nat, g < 256 ∧ bits .and .u8 (f : Int) 22 = (g : Int) ∧ begB g = begB f := by decide +kernel
end Go.Proofs.Ytggnbhihajealaa
