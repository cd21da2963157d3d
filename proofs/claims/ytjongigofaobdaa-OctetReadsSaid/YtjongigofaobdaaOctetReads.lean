/- The law that what an Eye reads is what the document's Eye reads: all cases together. -/
import Derived.Test.YtjongigofaobdaaReadsMain
import Derived.Test.YtjongigofaobdaaFrame
namespace Go.Proofs.Ytjongigofaobdaa
open Go.RowKit
set_option linter.unusedVariables false

theorem IsRow.row3 {k : IntKind} {w : World} {a : Option Addr} {len cap : Nat} {zs : List Int} (h : IsRow k w a len cap zs) : len ≤ cap ∧ cap ≤ 9223372036854775807 ∧ (a = none → cap = 0) := by
  rcases h with ⟨rfl, rfl, rfl, rfl⟩ | ⟨x, rfl, h1, h2, h3, h4, h5⟩
  · exact ⟨Nat.le_refl _, by omega, fun _ => rfl⟩
  · exact ⟨h1, by unfold maxLen at h2; omega, fun h => (by cases h)⟩

set_option maxHeartbeats 1600000 in
theorem octetReads_any (a : Option Addr) (xs : List Int) (n cap : Nat) (sa : Option Addr) (ss : List Int) (scap : Nat) (w : World) (hr : Row .u8 w a xs) (hxn : xs.length = n) (hb : ∀ x ∈ xs, 0 ≤ x ∧ x ≤ 255) (hnc : n ≤ cap) (hcm : cap ≤ 9223372036854775807) (hnil : a = none → cap = 0)
    (hs : Row .i64 w sa ss) (hsb : ∀ s ∈ ss, -9223372036854775808 ≤ s ∧ s ≤ 9223372036854775807) :
    Calls Try.prog 4 #[.slice a n cap, .slice sa ss.length scap] w fun e w' => e = .returned (.bool true) ∧ Below w.heap.size w w' := by
  by_cases hn : n ≤ 5000
  · by_cases hl : ss.length ≤ 200
    · rcases ha : a with _ | A
      · have hc0 := hnil ha
        exact octetReads_nil none xs n cap sa ss scap w (ha ▸ hr) hxn hb hnc hcm (fun _ => hc0) hs hsb hn hl rfl (by omega) hc0
      · exact octetReads_main (some A) xs n cap sa ss scap w (ha ▸ hr) hxn hb hnc hcm (fun h => by cases h) hs hsb hn hl A rfl
    · clear hr hb hs hsb
      go_enter Try.func4, Try.ntmps4
      go_wp2_with (go_at_call 13; refine (speaks1_any _).mono ?_; rintro e w1 ⟨rfl, hbel⟩)
      go_ret
      exact ⟨rfl, hbel⟩
  · clear hr hb hs hsb
    go_enter Try.func4, Try.ntmps4
    go_wp2_with (go_at_call 13; refine (speaks1_any _).mono ?_; rintro e w1 ⟨rfl, hbel⟩)
    go_ret
    exact ⟨rfl, hbel⟩
end Go.Proofs.Ytjongigofaobdaa
