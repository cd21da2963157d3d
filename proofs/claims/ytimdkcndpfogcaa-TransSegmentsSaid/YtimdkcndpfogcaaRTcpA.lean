/- What the document's WriteTCP answers. -/
import Derived.Test.YtimdkcndpfogcaaRUdp
import Derived.Test.YtimdkcndpfogcaaTcpW
import Derived.Test.YtimdkcndpfogcaaTcpR
namespace Go.Proofs.Ytimdkcndpfogcaa
open Go.RowKit
set_option linter.unusedVariables false
set_option linter.unusedSimpArgs false
set_option maxRecDepth 100000
theorem owns_keep {V w' : World} {base : Nat} {x : Value} {n : Nat} {xs : List Value} {v : Value} (h : V.ownsRow base 5 1 x n xs) (hk : ∀ (L : Nat) (o : Obj), V.heap[L]? = some o → v.ownBlock ≠ some L → w'.heap[L]? = some o) (hne : ∀ L, base ≤ L → v.ownBlock ≠ some L) : w'.ownsRow base 5 1 x n xs := by
  refine ⟨h.1, ?_⟩
  rcases h.2 with h | ⟨g, cap, cur, hv, hg, hh, r⟩
  · exact .inl h
  · exact .inr ⟨g, cap, cur, hv, hg, hk _ _ hh (hne g hg), r⟩

set_option maxHeartbeats 800000 in
theorem rwtcp_arg1 (w : World) (s d : Int) (p q u v f g h : Int) (oa : Option Addr) (m oc : Nat) (da : Option Addr) (n dc : Nat) (h1 : 40 < m) (h2 : m < 9223372036854775808) :
    Calls Try.prog 11 #[.int .u32 s, .int .u32 d, .agg #[.int .u16 p, .int .u16 q, .int .u32 u, .int .u32 v, .int .u8 f, .int .u16 g, .int .u16 h, .slice oa m oc, .slice da n dc]] w fun e w' => ∃ g, e = .returned (.tuple #[.slice (some ⟨g, 0, none⟩) 0 0, .int .i64 1]) ∧ Below w.heap.size w w' := by
  go_enter Try.func11, Try.ntmps11
  go_wp2
  go_ret2
  have hb : ∀ (o o' : Obj), Below w.heap.size w ((w.alloc o).alloc o') := fun o o' => ((Below.refl _ _).alloc (Nat.le_refl _) _).alloc (by simp) _
  first
    | exact ⟨_, rfl, hb _ _⟩
    | exact ⟨⟨_, rfl⟩, hb _ _⟩
    | exact ⟨rfl, hb _ _⟩

set_option maxHeartbeats 800000 in
theorem rwtcp_arg2 (w : World) (s d : Int) (p q u v f g h : Int) (oa : Option Addr) (m oc : Nat) (da : Option Addr) (n dc : Nat) (h1 : m ≤ 40) (h2 : m % 4 ≠ 0) :
    Calls Try.prog 11 #[.int .u32 s, .int .u32 d, .agg #[.int .u16 p, .int .u16 q, .int .u32 u, .int .u32 v, .int .u8 f, .int .u16 g, .int .u16 h, .slice oa m oc, .slice da n dc]] w fun e w' => ∃ g, e = .returned (.tuple #[.slice (some ⟨g, 0, none⟩) 0 0, .int .i64 1]) ∧ Below w.heap.size w w' := by
  have hd : decide ((0 : Int) < (m : Int) % 4) = true := by simp; omega
  have hd2 : decide ((40 : Int) < (m : Int)) = false := by simp; omega
  go_enter Try.func11, Try.ntmps11
  go_wp2
  go_ret2
  have hb : ∀ (o o' : Obj), Below w.heap.size w ((w.alloc o).alloc o') := fun o o' => ((Below.refl _ _).alloc (Nat.le_refl _) _).alloc (by simp) _
  first
    | exact ⟨_, rfl, hb _ _⟩
    | exact ⟨⟨_, rfl⟩, hb _ _⟩
    | exact ⟨rfl, hb _ _⟩

set_option maxHeartbeats 800000 in
theorem rwtcp_long (w : World) (s d : Int) (p q u v f g h : Int) (oa : Option Addr) (m oc : Nat) (da : Option Addr) (n dc : Nat) (h1 : m ≤ 40) (h2 : m % 4 = 0) (h3 : 1460 - m < n) :
    Calls Try.prog 11 #[.int .u32 s, .int .u32 d, .agg #[.int .u16 p, .int .u16 q, .int .u32 u, .int .u32 v, .int .u8 f, .int .u16 g, .int .u16 h, .slice oa m oc, .slice da n dc]] w fun e w' => ∃ g, e = .returned (.tuple #[.slice (some ⟨g, 0, none⟩) 0 0, .int .i64 14]) ∧ Below w.heap.size w w' := by
  have hd : decide ((0 : Int) < (m : Int) % 4) = false := by simp; omega
  have hd2 : decide ((40 : Int) < (m : Int)) = false := by simp; omega
  have hd3 : (1460 : Int) - (m : Int) < (n : Int) := by omega
  clear h2
  go_enter Try.func11, Try.ntmps11
  go_wp2
  go_ret2
  have hb : ∀ (o o' : Obj), Below w.heap.size w ((w.alloc o).alloc o') := fun o o' => ((Below.refl _ _).alloc (Nat.le_refl _) _).alloc (by simp) _
  first
    | exact ⟨_, rfl, hb _ _⟩
    | exact ⟨⟨_, rfl⟩, hb _ _⟩
    | exact ⟨rfl, hb _ _⟩
end Go.Proofs.Ytimdkcndpfogcaa
