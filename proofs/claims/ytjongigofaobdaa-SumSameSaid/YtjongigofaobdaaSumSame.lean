/- The law that a check sum is changed as its bytes are, for every text. -/
import Derived.Test.YtjongigofaobdaaSameMain
namespace Go.Proofs.Ytjongigofaobdaa
open Go.RowKit
set_option linter.unusedVariables false
set_option linter.unusedSimpArgs false
set_option maxHeartbeats 800000 in
theorem sumSame_any (a : Option Addr) (xs : List Int) (cap : Nat) (pos : Int) (next : Nat) (w : World) (hr : Row .u8 w a xs) (hn : a = none → cap = 0) (hb : ∀ x ∈ xs, 0 ≤ x ∧ x ≤ 255) (ht : next ≤ 65535) (hcap : xs.length < 9223372036854775808) :
    Calls Try.prog 10 #[.slice a xs.length cap, .int .i64 pos, .int .u16 next] w fun e w' => e = .returned (.bool true) ∧ Below w.heap.size w w' := by
  by_cases h2 : xs.length < 2
  · go_enter Try.func10, Try.ntmps10
    go_wp2_with (go_at_call 27; refine (speaks2_any _).mono ?_; rintro e w1 ⟨rfl, hbel⟩)
    go_ret
    exact ⟨rfl, hbel⟩
  · by_cases hl : 3000 < xs.length
    · go_enter Try.func10, Try.ntmps10
      go_wp2_with (go_at_call 27; refine (speaks2_any _).mono ?_; rintro e w1 ⟨rfl, hbel⟩)
      go_ret
      exact ⟨rfl, hbel⟩
    · have hand := and_one xs.length hcap
      by_cases hodd : xs.length % 2 = 1
      · rw [hodd] at hand
        clear hodd
        go_enter Try.func10, Try.ntmps10
        go_wp2_with (go_at_call 27; refine (speaks2_any _).mono ?_; rintro e w1 ⟨rfl, hbel⟩)
        go_ret
        exact ⟨rfl, hbel⟩
      · obtain ⟨h, hh⟩ : ∃ h, xs.length = 2 * h := ⟨xs.length / 2, by omega⟩
        rw [hh]
        exact sumSame_main a xs h cap pos next w hr hn hb ht hh (by omega) (by omega)
end Go.Proofs.Ytjongigofaobdaa
