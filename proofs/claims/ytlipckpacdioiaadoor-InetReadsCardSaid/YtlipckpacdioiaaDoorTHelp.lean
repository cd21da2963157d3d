/- Join, Sum and Right over the slice that a call's own operands make; the small functions of trans: pseudo, lay, half, fit, told. -/
import Derived.Test.YtlipckpacdioiaaDoorSplRun
import Derived.Test.YtlipckpacdioiaaDoorEye
import Derived.Test.YtlipckpacdioiaaDoorSumMore
import Derived.Deep.RegionHeld3
namespace Go.Proofs.YtlipckpacdioiaaDoor
open Go.RowKit
set_option linter.unusedVariables false
set_option linter.unusedSimpArgs false
set_option maxRecDepth 100000

theorem bcell {B : Nat} {W w1 : World} (hb : Below B W w1) : ∀ b o, b < B → w1.cell? ⟨b, o, none⟩ = W.cell? ⟨b, o, none⟩ := fun b o h => hb.cell (p := ⟨b, o, none⟩) h
/-- The rows of the operands. -/
def Rows (w : World) (L : List Part) : Prop := ∀ p ∈ L, Row .u8 w p.1 p.2.1 ∧ (p.1 = none → p.2.2 = 0)
theorem rows_nil (w : World) : Rows w [] := by intro p hp; simp at hp
theorem rows_cons {w : World} {a : Option Addr} {xs : List Int} {c : Nat} {L : List Part} (h : Row .u8 w a xs) (hn : a = none → c = 0) (hL : Rows w L) : Rows w ((a, xs, c) :: L) := by
  intro p hp
  simp only [List.mem_cons] at hp
  rcases hp with rfl | hp
  · exact ⟨h, hn⟩
  · exact hL p hp
theorem rows_some {w : World} {a : Addr} {xs : List Int} {c : Nat} {L : List Part} (h : Row .u8 w (some a) xs) (hL : Rows w L) : Rows w ((some a, xs, c) :: L) := rows_cons h (fun h => by cases h) hL
theorem parts_new (w1 : World) (L : List Part) (cells : Array Value) (T : TypeId) (hc : cells = (L.map Part.v).toArray) (hrows : Rows w1 L) :
    Parts (w1.alloc (.cells cells T)) (some ⟨w1.heap.size, 0, none⟩) L := by
  subst hc
  have hb : Below w1.heap.size w1 (w1.alloc (.cells (L.map Part.v).toArray T)) := (Below.refl _ _).alloc (Nat.le_refl _) _
  refine ⟨fun _ => ⟨_, 0, rfl, by simp, fun i p hi => ?_⟩, fun p hp => ⟨(hrows p hp).1.below hb (Nat.le_refl _), (hrows p hp).2⟩⟩
  rw [World.cell?_alloc_at _ _ _ _ rfl]
  simp [hi]
theorem joinL (w1 : World) (L : List Part) (cells : Array Value) (k n H : Nat) (hH : w1.heap.size = H) (hk : L.length = k) (hc : cells = (L.map Part.v).toArray) (hrows : Rows w1 L) (hn : (flat L).length = n) (hlen : n ≤ 1099511627776) (hk2 : k ≤ 100) :
    Calls Tryd.prog 20 #[.slice (some ⟨H, 0, none⟩) k k] (w1.alloc (.cells cells 25)) fun e w' => ∃ a' c', e = .returned (.slice a' n c') ∧
      w'.ownsRow w1.heap.size 5 1 (.slice a' n c') n ((flat L).map (Value.int .u8)) ∧ Below w1.heap.size w1 w' := by
  subst hH; subst hk; subst hn
  have hb : Below w1.heap.size w1 (w1.alloc (.cells cells 25)) := (Below.refl _ _).alloc (Nat.le_refl _) _
  refine (join_any (some ⟨w1.heap.size, 0, none⟩) L L.length _ (parts_new w1 L cells _ hc hrows) hlen (by omega)).mono ?_
  rintro e w' ⟨a', c', rfl, hown, hbel⟩
  exact ⟨a', c', rfl, owns_mono hown hb.size, hb.trans (hbel.mono hb.size)⟩
theorem sumL (w1 : World) (L : List Part) (cells : Array Value) (k H : Nat) (hH : w1.heap.size = H) (hk : L.length = k) (hc : cells = (L.map Part.v).toArray) (hrows : Rows w1 L) (hlen : (flat L).length < 1000000000) (hb : ∀ x ∈ flat L, 0 ≤ x ∧ x ≤ 255) (hk2 : k ≤ 100) :
    Calls Tryd.prog 22 #[.slice (some ⟨H, 0, none⟩) k k] (w1.alloc (.cells cells 25)) fun e w' => e = .returned (.int .u16 (csum (flat L))) ∧ Below w1.heap.size w1 w' := by
  subst hH; subst hk
  have hbb : Below w1.heap.size w1 (w1.alloc (.cells cells 25)) := (Below.refl _ _).alloc (Nat.le_refl _) _
  refine (sum_any (some ⟨w1.heap.size, 0, none⟩) L L.length _ (parts_new w1 L cells _ hc hrows) hlen (by omega) hb).mono ?_
  rintro e w' ⟨rfl, hbel⟩
  exact ⟨rfl, hbb.trans (hbel.mono hbb.size)⟩
theorem rightL (w1 : World) (L : List Part) (cells : Array Value) (k H : Nat) (hH : w1.heap.size = H) (hk : L.length = k) (hc : cells = (L.map Part.v).toArray) (hrows : Rows w1 L) (hlen : (flat L).length < 1000000000) (hb : ∀ x ∈ flat L, 0 ≤ x ∧ x ≤ 255) (hk2 : k ≤ 100) :
    Calls Tryd.prog 42 #[.slice (some ⟨H, 0, none⟩) k k] (w1.alloc (.cells cells 25)) fun e w' => e = .returned (.bool (csum (flat L) == 0)) ∧ Below w1.heap.size w1 w' := by
  subst hH; subst hk
  have hbb : Below w1.heap.size w1 (w1.alloc (.cells cells 25)) := (Below.refl _ _).alloc (Nat.le_refl _) _
  refine (right_any (some ⟨w1.heap.size, 0, none⟩) L L.length _ (parts_new w1 L cells _ hc hrows) hlen (by omega) hb).mono ?_
  rintro e w' ⟨rfl, hbel⟩
  exact ⟨rfl, hbb.trans (hbel.mono hbb.size)⟩
theorem num2_any (n : Nat) (w : World) (hn : n < 18446744073709551616) :
    Calls Tryd.prog 21 #[.int .i64 2, .int .u64 n] w fun e w' => e = .returned (.slice (some ⟨w.heap.size, 0, none⟩) 2 2) ∧
      w'.ownsRow w.heap.size 5 1 (.slice (some ⟨w.heap.size, 0, none⟩) 2 2) 2 ((numB 2 n).map (Value.int .u8)) ∧ Below w.heap.size w w' := num_any 2 n w hn
theorem num4_any (n : Nat) (w : World) (hn : n < 18446744073709551616) :
    Calls Tryd.prog 21 #[.int .i64 4, .int .u64 n] w fun e w' => e = .returned (.slice (some ⟨w.heap.size, 0, none⟩) 4 4) ∧
      w'.ownsRow w.heap.size 5 1 (.slice (some ⟨w.heap.size, 0, none⟩) 4 4) 4 ((numB 4 n).map (Value.int .u8)) ∧ Below w.heap.size w w' := num_any 4 n w hn

/-- The pseudo head. -/
def psB (src dst proto size : Nat) : List Int := numB 4 src ++ (numB 4 dst ++ ([0, (proto : Int)] ++ numB 2 size))
theorem psB_len (s d p n : Nat) : (psB s d p n).length = 12 := by simp [psB, numB_len]
theorem psB_rng (s d p n : Nat) (hp : p ≤ 255) : ∀ x ∈ psB s d p n, 0 ≤ x ∧ x ≤ 255 := by
  intro x hx
  simp only [psB, List.mem_append, List.mem_cons, List.not_mem_nil, or_false] at hx
  rcases hx with h | h | (h | h) | h
  · exact numB_rng _ _ x h
  · exact numB_rng _ _ x h
  · omega
  · omega
  · exact numB_rng _ _ x h

theorem eyeNum_ok (E B : Nat) (rest : List Int) (k : Nat) (w : World) (h : EyeAt w E B rest false) (hb : ∀ x ∈ rest, 0 ≤ x ∧ x ≤ 255) (hl : rest.length ≤ 1099511627776) (hk : k ≤ 8) (hk2 : k ≤ rest.length) :
    Calls Tryd.prog 27 #[.pointer (some ⟨E, 0, none⟩), .int .i64 k] w fun e w' => e = .returned (.int .u64 (valB (rest.take k))) ∧ EyeAt w' E B (rest.drop k) false ∧ w.grownBy w' (some E) := by
  have h1 := eyeNum_any E B rest false k w h hb hl
  have hs : sz (k : Int) = k := by unfold sz; omega
  rw [hs, if_pos hk2, if_pos hk2, show decide (rest.length < k) = false by simp; omega] at h1
  exact h1
end Go.Proofs.YtlipckpacdioiaaDoor
