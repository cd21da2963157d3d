/- What trans.lay does: it puts a number of two bytes into its place. -/
import Derived.Test.YtbacodogklbiaaaTHelp
namespace Go.Proofs.Ytbacodogklbiaaa
open Go.RowKit
set_option linter.unusedVariables false
set_option linter.unusedSimpArgs false
set_option maxRecDepth 100000

theorem below_of_drew {B : Nat} {w w' : World} (h : Below B w.drew w') : Below B w w' := ((Below.refl _ w).drew).trans h
set_option maxHeartbeats 800000 in
theorem lay_any (base n c at' : Nat) (a : Option Addr) (xs : List Int) (v : Nat) (w : World) (hown : w.ownsRow base 5 1 (.slice a n c) n (xs.map (Value.int .u8))) (hbs : base ≤ w.heap.size) (hat : at' + 2 ≤ n) (hn : n ≤ 1000000) (hv : v ≤ 65535) :
    Calls Try.prog 82 #[.slice a n c, .int .i64 at', .int .u16 v] w fun e w' => e = .returned (.tuple #[]) ∧
      w'.ownsRow base 5 1 (.slice a n c) n ((spl xs at' (numB 2 v)).map (Value.int .u8)) ∧ Below base w w' := by
  obtain ⟨g, rfl, hgb, hgc, hcm⟩ : ∃ g, a = some ⟨g, 0, none⟩ ∧ base ≤ g ∧ n ≤ c ∧ c ≤ 9223372036854775807 := by
    rcases hown.2 with ⟨_, h0⟩ | ⟨g, c', cur, hv, hg, _, h3, h4, _⟩
    · omega
    · obtain ⟨rfl, rfl⟩ : a = some ⟨g, 0, none⟩ ∧ c = c' := by simpa using hv
      exact ⟨g, rfl, hg, h3, by unfold maxLen at h4; omega⟩
  have hsl := slice_tail_run g n c at' (at' : Int) rfl (by omega) (by omega)
  have hcw : IntKind.u64.wrap (v : Int) = (v : Int) := wraps_u64 _ (by omega) (by omega)
  have hcopy : ∀ (w3 : World), Below w.heap.size w w3 → Row .u8 w3 (some ⟨w.heap.size, 0, none⟩) (numB 2 v) → ∃ w', (Builtin.copy_ #[25, 25] 3 #[.slice (some ⟨g, at', none⟩) (n - at') (c - at'), .slice (some ⟨w.heap.size, 0, none⟩) 2 2]).run Try.prog w3 = .ok (.int .i64 2) w' ∧
      Hid (w'.ownsRow base 5 1 (.slice (some ⟨g, 0, none⟩) n c) n ((spl xs at' (numB 2 v)).map (Value.int .u8)) ∧ Below base w w') := fun w3 hb hr => by
    obtain ⟨w4, h1, h2, h3⟩ := copy2_run w3 base g n c at' (n - at') (c - at') xs (numB 2 v) ⟨w.heap.size, 0, none⟩ 2 3 (owns_below hown hb (Nat.le_refl _)) hr (numB_len _ _) (by omega) (by omega)
    exact ⟨w4, h1, h2, (hb.mono hbs).grown h3 (Nat.le_trans hbs hb.size) (fun k e => by cases e; exact hgb)⟩
  have HCP := hide hcopy
  have HN := hide (num2_any v w.drew (by omega))
  clear hcopy hown
  go_enter Try.func82, Try.ntmps82
  go_wp2_with fail
  go_region_law (first | (refine step_copy_run rfl (.tmp 8) (.tmp 11) 25 25 rfl _ _ rfl rfl _ _ hrn.out ?_) | (go_simp; go_at_call 81; (with_reducible refine HN.out.mono ?_); rintro e w3 ⟨rfl, o3, hbel3⟩; have hbx : Below w.heap.size w w3 := below_of_drew hbel3; have hrx : Row .u8 w3 (some ⟨w.heap.size, 0, none⟩) (numB 2 v) := Row.of_owns o3; obtain ⟨w4, hrun, H4⟩ := HCP.out w3 hbx hrx; clear hrx; clear hbx; have hrn := hide hrun; clear o3 hbel3 hrun))
  all_goals
    go_end0
    exact ⟨rfl, H4.out.1, H4.out.2⟩
end Go.Proofs.Ytbacodogklbiaaa
