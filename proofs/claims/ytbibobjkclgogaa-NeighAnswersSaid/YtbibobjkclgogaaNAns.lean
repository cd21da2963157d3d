/- neigh: NeighAnswers, its cases. -/
import Derived.Test.YtbibobjkclgogaaNAa
import Derived.Test.YtbibobjkclgogaaNAn
import Derived.Test.YtbibobjkclgogaaNAo
import Derived.Test.YtbibobjkclgogaaNAf
import Derived.Test.YtbibobjkclgogaaNAg
import Derived.Test.YtbibobjkclgogaaNAh
namespace Go.Proofs.Ytbibobjkclgogaa
open Go.RowKit Go.Deep
set_option linter.unusedVariables false
set_option linter.unusedSimpArgs false
set_option maxRecDepth 100000
set_option maxHeartbeats 4000000 in
theorem neighAnswers_any (cs : Array Value) (c : Cfg) (a : Option Addr) (n cap : Nat) (fs : List Fwd) (g : Nat → Int) (x : AR) (w : World) (hca : CfA cs c a n cap) (hcn : CfN cs c.lan c.nb g) (hco : CfOk c) (hfw : FwAt w a fs) (hfl : fs.length = n) (hff : ∀ f ∈ fs, FwOk f) (hfn : n ≤ 9223372036854775807) (hfm : n ≤ cap) (hx : AROk x) :
    Calls Try.prog 5 #[.agg cs, .agg #[.int .u16 x.op, .int .u8 (x.f0 : Int), .int .u8 x.f1, .int .u8 x.f2, .int .u8 x.f3, .int .u8 x.f4, .int .u8 x.f5, .int .u8 x.t0, .int .u8 x.t1, .int .u8 x.t2, .int .u8 x.t3, .int .u8 x.t4, .int .u8 x.t5, .int .u32 (x.s : Int), .int .u32 (x.d : Int)]] w fun e w' => e = .returned (.bool true) ∧ Below w.heap.size w w' := by
  by_cases hb : 40 < n
  · exact na_big cs c a n cap fs g x w hca hcn hco hfw hfl hff hfn hfm hx hb
  · have hb2 : n ≤ 40 := by omega
    cases hck : checkB c fs with
    | false => exact na_bad cs c a n cap fs g x w hca hcn hco hfw hfl hff hfn hfm hx hb2 hck
    | true =>
      cases hbel : belB c.lan c.nb x with
      | false =>
        cases hho : hostB c.lan c.nb x.s with
        | false => exact na_n1 cs c a n cap fs g x w hca hcn hco hfw hfl hff hfn hfm hx hb2 hck hbel hho
        | true => exact na_n2 cs c a n cap fs g x w hca hcn hco hfw hfl hff hfn hfm hx hb2 hck hbel hho
      | true =>
        cases hp : (x.op == 1) with
        | false => exact na_nn cs c a n cap fs g x w hca hcn hco hfw hfl hff hfn hfm hx hb2 hck hbel hp
        | true =>
          cases hq : ((x.d : Int) == (c.lan : Int)) with
          | false => exact na_yf cs c a n cap fs g x w hca hcn hco hfw hfl hff hfn hfm hx hb2 hck hbel hp hq
          | true => exact na_yt cs c a n cap fs g x w hca hcn hco hfw hfl hff hfn hfm hx hb2 hck hbel hp hq
end Go.Proofs.Ytbibobjkclgogaa
