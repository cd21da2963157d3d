/- That the three readers and the document's three answer alike, each pair as one fact. -/
import Derived.Test.YtbacodogklbiaaaRRIcmpO
import Derived.Test.YtbacodogklbiaaaRRUdpO
import Derived.Test.YtbacodogklbiaaaRRUdpP
import Derived.Test.YtbacodogklbiaaaTcpRO
import Derived.Test.YtbacodogklbiaaaSameTcp
namespace Go.Proofs.Ytbacodogklbiaaa
open Go.RowKit
set_option linter.unusedVariables false
set_option linter.unusedSimpArgs false
set_option maxRecDepth 100000
def TcpAns (p q u v f g h code : Int) (os ds : List Int) (m k : Nat) (w : World) (e : Ending) (w' : World) : Prop :=
  ∃ a1 c1 a2 c2, e = .returned (.tuple #[.agg #[.int .u16 p, .int .u16 q, .int .u32 u, .int .u32 v, .int .u8 f, .int .u16 g, .int .u16 h, .slice a1 m c1, .slice a2 k c2], .int .i64 code]) ∧ w'.ownsRow w.heap.size 5 1 (.slice a1 m c1) m (os.map (Value.int .u8)) ∧ w'.ownsRow w.heap.size 5 1 (.slice a2 k c2) k (ds.map (Value.int .u8)) ∧ Below w.heap.size w w'
def UdpAns (p q : Int) (pl : Bool) (code : Int) (ds : List Int) (m : Nat) (w : World) (e : Ending) (w' : World) : Prop :=
  ∃ a1 c1, e = .returned (.tuple #[.agg #[.int .u16 p, .int .u16 q, .bool pl, .slice a1 m c1], .int .i64 code]) ∧ w'.ownsRow w.heap.size 5 1 (.slice a1 m c1) m (ds.map (Value.int .u8)) ∧ Below w.heap.size w w'
def IcmpAns (p q r code : Int) (ds : List Int) (m : Nat) (w : World) (e : Ending) (w' : World) : Prop :=
  ∃ a1 c1, e = .returned (.tuple #[.agg #[.int .u8 p, .int .u8 q, .int .u32 r, .slice a1 m c1], .int .i64 code]) ∧ w'.ownsRow w.heap.size 5 1 (.slice a1 m c1) m (ds.map (Value.int .u8)) ∧ Below w.heap.size w w'
/-- Where the bytes lie. -/
structure Lies (w : World) (a : Option Addr) (xs : List Int) (n cap : Nat) : Prop where
  row : Row .u8 w a xs
  no : a = none → cap = 0
  le : n ≤ cap
  max : cap ≤ 9223372036854775807
theorem nil_own (w : World) (b : Nat) : w.ownsRow b 5 1 (.slice none 0 0) 0 (([] : List Int).map (Value.int .u8)) := World.ownsRow_nil w b _ 1
theorem tcp_pair (src dst : Nat) (xs : List Int) (n : Nat) (hl : xs.length = n) (hb : ∀ x ∈ xs, 0 ≤ x ∧ x ≤ 255) (hs : src ≤ 4294967295) (hd : dst ≤ 4294967295) :
    ∃ (p q u v f g h code : Int) (os ds : List Int) (m k : Nat), os.length = m ∧ ds.length = k ∧
      (∀ w a cap, Lies w a xs n cap → Calls Try.prog 39 #[.int .u32 src, .int .u32 dst, .slice a n cap] w (TcpAns p q u v f g h code os ds m k w)) ∧
      (∀ w a cap, Lies w a xs n cap → Calls Try.prog 23 #[.int .u32 src, .int .u32 dst, .slice a n cap] w (TcpAns p q u v f g h code os ds m k w)) := by
  have hz : ∀ (code : Int) (w : World) (e : Ending) (w' : World), e = .returned (.tuple #[.agg #[.int .u16 0, .int .u16 0, .int .u32 0, .int .u32 0, .int .u8 0, .int .u16 0, .int .u16 0, .slice none 0 0, .slice none 0 0], .int .i64 code]) ∧ Below w.heap.size w w' → TcpAns 0 0 0 0 0 0 0 code [] [] 0 0 w e w' :=
    fun code w e w' ⟨h1, h2⟩ => ⟨none, 0, none, 0, h1, nil_own _ _, nil_own _ _, h2⟩
  by_cases h1 : n < 20
  · exact ⟨0, 0, 0, 0, 0, 0, 0, 10, [], [], 0, 0, rfl, rfl, fun w a cap _ => (rtcp_short w _ _ a n cap h1).mono (hz 10 w), fun w a cap _ => (rrtcp_short w _ _ a n cap h1).mono (hz 10 w)⟩
  by_cases h2 : 1480 < n
  · exact ⟨0, 0, 0, 0, 0, 0, 0, 14, [], [], 0, 0, rfl, rfl, fun w a cap _ => (rtcp_long w _ _ a n cap h2).mono (hz 14 w), fun w a cap _ => (rrtcp_long w _ _ a n cap h2).mono (hz 14 w)⟩
  have g1 : 20 ≤ n := by omega
  have g2 : n ≤ 1480 := by omega
  by_cases h3 : 4 * (fld xs 12 1 / 16) < 20 ∨ n < 4 * (fld xs 12 1 / 16)
  · exact ⟨0, 0, 0, 0, 0, 0, 0, 11, [], [], 0, 0, rfl, rfl,
      fun w a cap hL => (rtcp_form w src dst a xs n cap _ _ _ _ _ _ _ _ _ _ hL.row hL.no hl hb g1 g2 (hide rfl) (hide rfl) (hide rfl) (hide rfl) (hide rfl) (hide rfl) (hide rfl) (hide rfl) (hide rfl) (hide rfl) h3).mono (hz 11 w),
      fun w a cap hL => (rrtcp_form w src dst a xs n cap _ _ hL.row hL.no hl hb g1 g2 (hide rfl) (hide rfl) h3).mono (hz 11 w)⟩
  have g3 : 20 ≤ 4 * (fld xs 12 1 / 16) := by omega
  have g4 : 4 * (fld xs 12 1 / 16) ≤ n := by omega
  by_cases h4 : csum (psB src dst 6 n ++ xs) = 0
  · refine ⟨_, _, _, _, _, _, _, 0, _, _, _, _, ?_, ?_,
      fun w a cap hL => (rtcp_ok w src dst a xs n cap _ _ _ _ _ _ _ _ _ _ hL.row hL.no hl hb g1 g2 (hide rfl) (hide rfl) (hide rfl) (hide rfl) (hide rfl) (hide rfl) (hide rfl) (hide rfl) (hide rfl) (hide rfl) g3 g4 hs hd (hide (by simpa using h4))).mono fun e w' ⟨a1, c1, a2, c2, k1, k2, k3, k4⟩ => ⟨a1, c1, a2, c2, k1, k2, k3, k4⟩,
      fun w a cap hL => (rrtcp_ok w src dst a xs n cap _ _ _ _ _ _ _ _ _ hL.row hL.no hl hb g1 g2 hL.le hL.max (hide rfl) (hide rfl) (hide rfl) (hide rfl) (hide rfl) (hide rfl) (hide rfl) (hide rfl) (hide rfl) g3 g4 hs hd (hide h4)).mono fun e w' ⟨a1, c1, a2, c2, k1, k2, k3, k4⟩ => ⟨a1, c1, a2, c2, k1, k2, k3, k4⟩⟩
    · rw [List.length_take, List.length_drop]; omega
    · rw [List.length_drop]; omega
  · exact ⟨0, 0, 0, 0, 0, 0, 0, 12, [], [], 0, 0, rfl, rfl,
      fun w a cap hL => (rtcp_bad w src dst a xs n cap _ _ _ _ _ _ _ _ _ _ hL.row hL.no hl hb g1 g2 (hide rfl) (hide rfl) (hide rfl) (hide rfl) (hide rfl) (hide rfl) (hide rfl) (hide rfl) (hide rfl) (hide rfl) g3 g4 hs hd (hide (by simpa using h4))).mono (hz 12 w),
      fun w a cap hL => (rrtcp_bad w src dst a xs n cap _ _ hL.row hL.no hl hb g1 g2 (hide rfl) (hide rfl) g3 g4 hs hd (hide h4)).mono (hz 12 w)⟩
theorem udp_pair (src dst : Nat) (xs : List Int) (n : Nat) (hl : xs.length = n) (hb : ∀ x ∈ xs, 0 ≤ x ∧ x ≤ 255) (hs : src ≤ 4294967295) (hd : dst ≤ 4294967295) :
    ∃ (p q : Int) (pl : Bool) (code : Int) (ds : List Int) (m : Nat), ds.length = m ∧
      (∀ w a cap, Lies w a xs n cap → Calls Try.prog 40 #[.int .u32 src, .int .u32 dst, .slice a n cap] w (UdpAns p q pl code ds m w)) ∧
      (∀ w a cap, Lies w a xs n cap → Calls Try.prog 24 #[.int .u32 src, .int .u32 dst, .slice a n cap] w (UdpAns p q pl code ds m w)) := by
  have hz : ∀ (code : Int) (w : World) (e : Ending) (w' : World), e = .returned (.tuple #[.agg #[.int .u16 0, .int .u16 0, .bool false, .slice none 0 0], .int .i64 code]) ∧ Below w.heap.size w w' → UdpAns 0 0 false code [] 0 w e w' :=
    fun code w e w' ⟨h1, h2⟩ => ⟨none, 0, h1, nil_own _ _, h2⟩
  by_cases h1 : n < 8
  · exact ⟨0, 0, false, 10, [], 0, rfl, fun w a cap _ => (rudp_short w _ _ a n cap h1).mono (hz 10 w), fun w a cap _ => (rrudp_short w _ _ a n cap h1).mono (hz 10 w)⟩
  by_cases h2 : 1480 < n
  · exact ⟨0, 0, false, 14, [], 0, rfl, fun w a cap _ => (rudp_long w _ _ a n cap h2).mono (hz 14 w), fun w a cap _ => (rrudp_long w _ _ a n cap h2).mono (hz 14 w)⟩
  have g1 : 8 ≤ n := by omega
  have g2 : n ≤ 1480 := by omega
  have e0 : fld xs 0 2 = 256 * fld xs 0 1 + fld xs 1 1 := fld_pair xs 0 hb (by omega)
  have e2 : fld xs 2 2 = 256 * fld xs 2 1 + fld xs 3 1 := fld_pair xs 2 hb (by omega)
  have e4 : fld xs 4 2 = 256 * fld xs 4 1 + fld xs 5 1 := fld_pair xs 4 hb (by omega)
  have e6 : fld xs 6 2 = 256 * fld xs 6 1 + fld xs 7 1 := fld_pair xs 6 hb (by omega)
  by_cases h3 : fld xs 4 2 < 8 ∨ n < fld xs 4 2
  · exact ⟨0, 0, false, 11, [], 0, rfl,
      fun w a cap hL => (rudp_form w src dst a xs n cap _ _ _ _ hL.row hl hL.le hL.max hb g1 g2 (hide rfl) (hide rfl) (hide rfl) (hide rfl) h3).mono (hz 11 w),
      fun w a cap hL => (rrudp_form w src dst a xs n cap _ _ _ hL.row hL.no hl hb g1 g2 (hide rfl) (hide rfl) (hide e4.symm) h3).mono (hz 11 w)⟩
  have g3 : 8 ≤ fld xs 4 2 := by omega
  have g4 : fld xs 4 2 ≤ n := by omega
  have hlen : ((xs.drop 8).take (fld xs 4 2 - 8)).length = fld xs 4 2 - 8 := by rw [List.length_take, List.length_drop]; omega
  by_cases h5 : fld xs 6 2 = 0
  · exact ⟨_, _, true, 0, _, _, hlen,
      fun w a cap hL => (rudp_plain w src dst a xs n cap _ _ _ _ hL.row hl hL.le hL.max hb g1 g2 (hide rfl) (hide rfl) (hide rfl) (hide rfl) g3 g4 h5).mono fun e w' ⟨a1, c1, k1, k2, k3⟩ => ⟨a1, c1, k1, k2, k3⟩,
      fun w a cap hL => (rrudp_plain w src dst a xs n cap _ _ _ _ _ _ _ _ _ _ _ hL.row hL.no hl hb g1 g2 (hide rfl) (hide rfl) (hide rfl) (hide rfl) (hide rfl) (hide rfl) (hide e0.symm) (hide e2.symm) (hide e4.symm) hL.le (hide rfl) (hide rfl) g3 g4 hL.max (by omega)).mono fun e w' ⟨a1, c1, k1, k2, k3⟩ => ⟨a1, c1, k1, k2, k3⟩⟩
  have h6 : ¬ (fld xs 6 1 = 0 ∧ fld xs 7 1 = 0) := by omega
  by_cases h4 : csum (psB src dst 17 (fld xs 4 2) ++ xs.take (fld xs 4 2)) = 0
  · exact ⟨_, _, false, 0, _, _, hlen,
      fun w a cap hL => (rudp_ok w src dst a xs n cap _ _ _ _ hL.row hl hL.le hL.max hb g1 g2 (hide rfl) (hide rfl) (hide rfl) (hide rfl) g3 g4 h5 hs hd (hide (by simpa using h4))).mono fun e w' ⟨a1, c1, k1, k2, k3⟩ => ⟨a1, c1, k1, k2, k3⟩,
      fun w a cap hL => (rrudp_ok w src dst a xs n cap _ _ _ _ _ _ _ _ _ _ _ hL.row hL.no hl hb g1 g2 (hide rfl) (hide rfl) (hide rfl) (hide rfl) (hide rfl) (hide rfl) (hide e0.symm) (hide e2.symm) (hide e4.symm) hL.le (hide rfl) (hide rfl) g3 g4 hL.max h6 hs hd (hide h4)).mono fun e w' ⟨a1, c1, k1, k2, k3⟩ => ⟨a1, c1, k1, k2, k3⟩⟩
  · exact ⟨0, 0, false, 12, [], 0, rfl,
      fun w a cap hL => (rudp_bad w src dst a xs n cap _ _ _ _ hL.row hl hL.le hL.max hb g1 g2 (hide rfl) (hide rfl) (hide rfl) (hide rfl) g3 g4 h5 hs hd (hide (by simpa using h4))).mono (hz 12 w),
      fun w a cap hL => (rrudp_bad w src dst a xs n cap _ _ _ _ _ hL.row hL.no hl hb g1 g2 (hide rfl) (hide rfl) (hide e4.symm) hL.le (hide rfl) (hide rfl) g3 g4 h6 hs hd (hide h4)).mono (hz 12 w)⟩
theorem icmp_pair (xs : List Int) (n : Nat) (hl : xs.length = n) (hb : ∀ x ∈ xs, 0 ≤ x ∧ x ≤ 255) :
    ∃ (p q r code : Int) (ds : List Int) (m : Nat), ds.length = m ∧
      (∀ w a cap, Lies w a xs n cap → Calls Try.prog 41 #[.slice a n cap] w (IcmpAns p q r code ds m w)) ∧
      (∀ w a cap, Lies w a xs n cap → Calls Try.prog 25 #[.slice a n cap] w (IcmpAns p q r code ds m w)) := by
  have hz : ∀ (code : Int) (w : World) (e : Ending) (w' : World), e = .returned (.tuple #[.agg #[.int .u8 0, .int .u8 0, .int .u32 0, .slice none 0 0], .int .i64 code]) ∧ Below w.heap.size w w' → IcmpAns 0 0 0 code [] 0 w e w' :=
    fun code w e w' ⟨h1, h2⟩ => ⟨none, 0, h1, nil_own _ _, h2⟩
  by_cases h1 : n < 8
  · exact ⟨0, 0, 0, 10, [], 0, rfl, fun w a cap _ => (ricmp_short w a n cap h1).mono (hz 10 w), fun w a cap _ => (rricmp_short w a n cap h1).mono (hz 10 w)⟩
  by_cases h2 : 1480 < n
  · exact ⟨0, 0, 0, 14, [], 0, rfl, fun w a cap _ => (ricmp_long w a n cap h2).mono (hz 14 w), fun w a cap _ => (rricmp_long w a n cap h2).mono (hz 14 w)⟩
  have g1 : 8 ≤ n := by omega
  have g2 : n ≤ 1480 := by omega
  by_cases h4 : csum xs = 0
  · exact ⟨_, _, _, 0, _, _, (by rw [List.length_drop, hl] : (xs.drop 8).length = n - 8),
      fun w a cap hL => (ricmp_ok w a xs n cap _ _ _ _ hL.row hL.no hl hb g1 g2 (hide rfl) (hide rfl) (hide rfl) (hide rfl) (hide (by simpa using h4))).mono fun e w' ⟨a1, c1, k1, k2, k3⟩ => ⟨a1, c1, k1, k2, k3⟩,
      fun w a cap hL => (rricmp_ok w a xs n cap _ _ _ hL.row hL.no hl hb g1 g2 hL.le hL.max (hide rfl) (hide rfl) (hide rfl) (hide h4)).mono fun e w' ⟨a1, c1, k1, k2, k3⟩ => ⟨a1, c1, k1, k2, k3⟩⟩
  · exact ⟨0, 0, 0, 12, [], 0, rfl,
      fun w a cap hL => (ricmp_bad w a xs n cap 0 0 0 0 hL.row hL.no hl hb g1 g2 (hide (by simpa using h4))).mono (hz 12 w),
      fun w a cap hL => (rricmp_bad w a xs n cap hL.row hL.no hl hb g1 g2 (hide h4)).mono (hz 12 w)⟩
end Go.Proofs.Ytbacodogklbiaaa
