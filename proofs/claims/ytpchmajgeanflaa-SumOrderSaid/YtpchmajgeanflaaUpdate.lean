/- What sum.Update answers: a check sum, changed change by change. -/
import Derived.Test.YtpchmajgeanflaaSumMore
namespace Go.Proofs.Ytpchmajgeanflaa
open Go.RowKit
set_option linter.unusedVariables false
set_option linter.unusedSimpArgs false
/-- A slice of changes that can be read. -/
def Chg (w : World) (a : Option Addr) (cs : List (Int × Int)) : Prop :=
  cs ≠ [] → ∃ b off, a = some ⟨b, off, none⟩ ∧ b < w.heap.size ∧ ∀ i p, cs[i]? = some p → w.cell? ⟨b, off + i * 2, none⟩ = some (.int .u16 p.1) ∧ w.cell? ⟨b, off + i * 2 + 1, none⟩ = some (.int .u16 p.2)
theorem Chg.below {w w' : World} {a : Option Addr} {cs : List (Int × Int)} {B : Nat} (h : Chg w a cs) (hb : Below B w w') (hB : w.heap.size ≤ B) : Chg w' a cs := by
  intro hne
  obtain ⟨b, off, rfl, hlt, hc⟩ := h hne
  exact ⟨b, off, rfl, Nat.lt_of_lt_of_le hlt hb.size, fun i p hi => ⟨(hb.cell (p := ⟨b, off + i * 2, none⟩) (show b < B by omega)).trans (hc i p hi).1, (hb.cell (p := ⟨b, off + i * 2 + 1, none⟩) (show b < B by omega)).trans (hc i p hi).2⟩⟩
def upd (s : Int) (p : Int × Int) : Int := 65535 - f16 (65535 - s + (65535 - p.1) + p.2)
theorem upd_rng (s : Int) (p : Int × Int) : 0 ≤ upd s p ∧ upd s p ≤ 65535 := by have := f16_rng (65535 - s + (65535 - p.1) + p.2); unfold upd; omega
def updL (s : Int) (cs : List (Int × Int)) : Int := cs.foldl upd s
theorem updL_snoc (s : Int) (cs : List (Int × Int)) (k : Nat) (p : Int × Int) (h : cs[k]? = some p) : updL s (cs.take (k + 1)) = upd (updL s (cs.take k)) p := by
  rw [List.take_add_one, h, updL, List.foldl_append]
  simp [updL]
theorem updL_rng (s : Int) (h1 : 0 ≤ s) (h2 : s ≤ 65535) (cs : List (Int × Int)) : 0 ≤ updL s cs ∧ updL s cs ≤ 65535 := by
  unfold updL
  induction cs generalizing s with
  | nil => exact ⟨h1, h2⟩
  | cons p r ih => exact ih (upd s p) (upd_rng s p).1 (upd_rng s p).2

set_option maxHeartbeats 1600000 in
theorem update_any (s : Int) (a : Option Addr) (cs : List (Int × Int)) (cap : Nat) (w : World) (h1 : 0 ≤ s) (h2 : s ≤ 65535) (hc : Chg w a cs) (hb : ∀ p ∈ cs, (0 ≤ p.1 ∧ p.1 ≤ 65535) ∧ 0 ≤ p.2 ∧ p.2 ≤ 65535) (hl : cs.length ≤ 1099511627776) :
    Calls Try.prog 32 #[.int .u16 s, .slice a cs.length cap] w fun e w' => e = .returned (.int .u16 (updL s cs)) ∧ Below w.heap.size w w' := by
  have HC := hide hc
  have HB := hide hb
  clear hc hb
  go_enter Try.func32, Try.ntmps32
  go_wp2
  go_loopw [0, 11] (fun v i wr => ∃ (k : Nat) (t : Int), k ≤ cs.length ∧ i = .int .i64 k ∧ v = .int .u16 t ∧ 0 ≤ t ∧ t ≤ 65535 ∧ t = updL s (cs.take k) ∧ Below w.heap.size w wr) (fun _ i _ => cs.length - (intOf i).toNat)
  case atStart => exact ⟨0, s, Nat.zero_le _, rfl, rfl, h1, h2, rfl, Below.refl _ _⟩
  case round =>
    obtain ⟨k, t, hk, rfl, rfl, ht1, ht2, hte, hbel⟩ := hrel
    have HT := hide hte
    clear hte
    by_cases hlt : k < cs.length
    · obtain ⟨p, hpk⟩ : ∃ p, cs[k]? = some p := ⟨_, List.getElem?_eq_getElem hlt⟩
      obtain ⟨b, off, rfl, hbl, hcc⟩ := HC.out.below hbel (Nat.le_refl _) (by intro e; rw [e] at hlt; simp at hlt)
      obtain ⟨e1, e2⟩ := hcc k p hpk
      obtain ⟨⟨p1, p2⟩, p3, p4⟩ := HB.out p (List.mem_of_getElem? hpk)
      have hst := updL_snoc s cs k p hpk
      have hf := f16_rng (65535 - t + (65535 - p.1) + p.2)
      have hu : upd t p = 65535 - f16 (65535 - t + (65535 - p.1) + p.2) := rfl
      rw [← HT.out, hu] at hst
      obtain ⟨x, y⟩ := p
      simp only at e1 e2 p1 p2 p3 p4 hst hf
      have x1 := xor16 t ht1 ht2
      have x2 := xor16 x p1 p2
      have HST := hide hst
      clear hst hu hcc hpk
      have hb0 := hbel.alloc hbel.size (.cells #[.int .u16 x, .int .u16 y] 53)
      have hf1 := hf.1
      have hf2 := hf.2
      clear hf
      go_wp2_with fail
      go_quiet (fail)
      have y1 : IntKind.u64.wrap (65535 - t) = 65535 - t := wraps_u64 _ (by omega) (by omega)
      have y2 : IntKind.u64.wrap (65535 - x) = 65535 - x := wraps_u64 _ (by omega) (by omega)
      have y3 : IntKind.u64.wrap (65535 - t + (65535 - x)) = 65535 - t + (65535 - x) := wraps_u64 _ (by omega) (by omega)
      have y4 : IntKind.u64.wrap (65535 - t + (65535 - x) + y) = 65535 - t + (65535 - x) + y := wraps_u64 _ (by omega) (by omega)
      go_wp2_with fail
      refine (fold_any (65535 - t + (65535 - x) + y) _ (by omega) (by omega)).mono ?_
      rintro e w2 ⟨rfl, rfl⟩
      have x3 := xor16 (f16 (65535 - t + (65535 - x) + y)) hf1 hf2
      go_wp2
      go_roundw
      case rel => exact ⟨k + 1, _, by omega, by go_num, rfl, by omega, by omega, HST.out.symm, bdrewN hb0 _⟩
      case measure => simp [intOf]; omega
    · have hkn : k = cs.length := by omega
      go_wp2
      go_ret
      exact ⟨by rw [HT.out, hkn, List.take_length]; rfl, hbel⟩
end Go.Proofs.Ytpchmajgeanflaa
