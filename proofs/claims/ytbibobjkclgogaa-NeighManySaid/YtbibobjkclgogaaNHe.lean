/- neigh: Hear, its cases. -/
import Derived.Test.YtbibobjkclgogaaNHc
import Derived.Test.YtbibobjkclgogaaNHd
import Derived.Test.YtbibobjkclgogaaNHf
import Derived.Test.YtbibobjkclgogaaNHg
namespace Go.Proofs.Ytbibobjkclgogaa
open Go.RowKit Go.Deep
set_option linter.unusedVariables false
set_option linter.unusedSimpArgs false
set_option maxRecDepth 100000
set_option maxHeartbeats 4000000 in
theorem hear_any (K c : Nat) (L L' : List D.KV) (H : List HV) (cs : Array Value) (lan : Nat) (nb : Int) (g : Nat → Int) (x : AR) (now : Int) (w : World) (h : CAt w K c L H) (hK : K ≤ w.heap.size) (hc : CfN cs lan nb g) (hl : lan ≤ 4294967295) (hx : AROk x)
    (hln : ∀ V, CAt V K c L H → K ≤ V.heap.size → Calls Try.prog 14 #[.pointer (some ⟨c, 0, none⟩), .int .u32 (x.s : Int), .agg #[.int .u8 (x.f0 : Int), .int .u8 x.f1, .int .u8 x.f2, .int .u8 x.f3, .int .u8 x.f4, .int .u8 x.f5], .int .u64 now] V (GiveAns K c L' H (x.s : Int) V)) :
    Calls Try.prog 16 #[.pointer (some ⟨c, 0, none⟩), .agg cs, .agg #[.int .u16 x.op, .int .u8 (x.f0 : Int), .int .u8 x.f1, .int .u8 x.f2, .int .u8 x.f3, .int .u8 x.f4, .int .u8 x.f5, .int .u8 x.t0, .int .u8 x.t1, .int .u8 x.t2, .int .u8 x.t3, .int .u8 x.t4, .int .u8 x.t5, .int .u32 (x.s : Int), .int .u32 (x.d : Int)], .int .u64 now] w (HearAns K c L L' H lan nb g x w) := by
  cases hb : belB lan nb x with
  | false => exact hear_no K c L L' H cs lan nb g x now w h hK hc hl hx hln hb
  | true =>
    cases hp : (x.op == 1) with
    | false => exact hear_nn K c L L' H cs lan nb g x now w h hK hc hl hx hln hb hp
    | true =>
      cases hq : ((x.d : Int) == (lan : Int)) with
      | false => exact hear_yf K c L L' H cs lan nb g x now w h hK hc hl hx hln hb hp hq
      | true => exact hear_yt K c L L' H cs lan nb g x now w h hK hc hl hx hln hb hp hq
end Go.Proofs.Ytbibobjkclgogaa
