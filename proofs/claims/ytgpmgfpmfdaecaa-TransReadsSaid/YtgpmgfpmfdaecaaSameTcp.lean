/- What the document's SameTCP answers of segments that are one. -/
import Derived.Test.YtgpmgfpmfdaecaaTcpR
import Derived.Test.YtgpmgfpmfdaecaaConv
namespace Go.Proofs.Ytgpmgfpmfdaecaa
open Go.RowKit
set_option linter.unusedVariables false
set_option linter.unusedSimpArgs false
set_option maxRecDepth 100000
set_option maxHeartbeats 1600000 in
theorem sameTcp_any (w : World) (p q u v f g h : Int) (o1 o2 a1 a2 : Option Addr) (os xs : List Int) (m n e1 e2 c1 c2 : Nat) (g1 : Row .u8 w o1 os) (g2 : Row .u8 w o2 os) (hlo : os.length = m) (h1 : Row .u8 w a1 xs) (h2 : Row .u8 w a2 xs) (hl : xs.length = n) :
    Calls Try.prog 22 #[.agg #[.int .u16 p, .int .u16 q, .int .u32 u, .int .u32 v, .int .u8 f, .int .u16 g, .int .u16 h, .slice o1 m e1, .slice a1 n c1], .agg #[.int .u16 p, .int .u16 q, .int .u32 u, .int .u32 v, .int .u8 f, .int .u16 g, .int .u16 h, .slice o2 m e2, .slice a2 n c2]] w fun e w' => e = .returned (.bool true) ∧ Below w.heap.size w w' := by
  have hb1 : Below w.heap.size w (w.alloc (.cells #[.int .u16 p, .int .u16 q, .int .u32 u, .int .u32 v, .int .u8 f, .int .u16 g, .int .u16 h, .slice o1 m e1, .slice a1 n c1] 51)) := (Below.refl _ _).alloc (Nat.le_refl _) _
  have hb2 := hb1.alloc hb1.size (.cells #[.int .u16 p, .int .u16 q, .int .u32 u, .int .u32 v, .int .u8 f, .int .u16 g, .int .u16 h, .slice o2 m e2, .slice a2 n c2] 51)
  have hc1 := conv_any a1 xs c1 _ (h1.below hb2 (Nat.le_refl _))
  have hc2 := conv_any a2 xs c2 _ (h2.below hb2 (Nat.le_refl _))
  have hd1 := conv_any o1 os e1 _ (g1.below hb2 (Nat.le_refl _))
  have hd2 := conv_any o2 os e2 _ (g2.below hb2 (Nat.le_refl _))
  rw [hl] at hc1 hc2
  rw [hlo] at hd1 hd2
  have HB2 := hide hb2
  clear hb1 hb2 h1 h2 hl g1 g2 hlo
  go_enter Try.func22, Try.ntmps22
  go_wp2
  go_ret
  exact ⟨rfl, HB2.out⟩
end Go.Proofs.Ytgpmgfpmfdaecaa
