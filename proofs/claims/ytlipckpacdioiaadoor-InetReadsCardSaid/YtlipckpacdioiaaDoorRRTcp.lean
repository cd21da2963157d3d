/- What the document's ReadTCP answers of bytes that are no segment; its Eye at a place. -/
import Derived.Test.YtlipckpacdioiaaDoorREye
import Derived.Test.YtlipckpacdioiaaDoorTRef
import Derived.Test.YtlipckpacdioiaaDoorTcpR
namespace Go.Proofs.YtlipckpacdioiaaDoor
open Go.RowKit
set_option linter.unusedVariables false
set_option linter.unusedSimpArgs false
set_option maxRecDepth 100000
theorem rEye_at (E K k : Nat) (a : Option Addr) (xs : List Int) (n cap : Nat) (w : World) (h : REye w E a n cap K false) (hr : Row .u8 w a xs) (hb : ∀ x ∈ xs, 0 ≤ x ∧ x ≤ 255) (hxn : xs.length = n) (hnc : n ≤ cap) (hcm : cap ≤ 9223372036854775807) (hnil : a = none → cap = 0) (hn : n ≤ 5000) (hk : k ≤ 8) (hk2 : K + k ≤ n) :
    Calls Tryd.prog 30 #[.pointer (some ⟨E, 0, none⟩), .int .i64 k] w fun e w' => e = .returned (.int .u64 (fld xs K k)) ∧ REye w' E a n cap (K + k) false ∧ w.grownBy w' (some E) := by
  have h1 := refEyeNum_any E a xs n cap K false k w h hr hb hxn hnc hcm hnil (by omega) hn
  have hs : sz (k : Int) = k := by unfold sz; omega
  rw [hs, if_pos (by omega), if_pos (by omega), show decide (n - K < k) = false by simp; omega, fld_eq xs K k hb] at h1
  exact h1
theorem fld_one (xs : List Int) (K : Nat) (hb : ∀ x ∈ xs, 0 ≤ x ∧ x ≤ 255) (hK : K < xs.length) : xs[K]?.getD 0 = (fld xs K 1 : Int) := by
  rw [← fld_eq xs K 1 hb, List.drop_eq_getElem_cons hK, List.getElem?_eq_getElem hK]
  show xs[K] = 256 * 0 + xs[K]
  omega

end Go.Proofs.YtlipckpacdioiaaDoor
