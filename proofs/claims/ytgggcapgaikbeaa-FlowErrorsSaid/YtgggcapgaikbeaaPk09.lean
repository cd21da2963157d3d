/- That the three readers and the document's three answer alike, each pair as one fact. -/
import Derived.Test.YtgggcapgaikbeaaPk06
import Derived.Test.YtgggcapgaikbeaaPk08
import Derived.Test.YtgggcapgaikbeaaPk01
import Derived.Test.YtgggcapgaikbeaaProg
import Derived.IntWalk
import Derived.Below
import Derived.OneCell
import Derived.Laws.Rows
import Derived.Deep.RegionHeld3
import Derived.Deep.Cut
namespace Go.Proofs.Ytgggcapgaikbeaa
open Go.RowKit
set_option linter.unusedVariables false
set_option linter.unusedSimpArgs false
set_option maxRecDepth 100000
def TcpAns (p q u v f g h code : Int) (os ds : List Int) (m k : Nat) (w : World) (e : Ending) (w' : World) : Prop :=
  ∃ a1 c1 a2 c2, e = .returned (.tuple #[.agg #[.int .u16 p, .int .u16 q, .int .u32 u, .int .u32 v, .int .u8 f, .int .u16 g, .int .u16 h, .slice a1 m c1, .slice a2 k c2], .int .i64 code]) ∧ w'.ownsRow w.heap.size 5 1 (.slice a1 m c1) m (os.map (Value.int .u8)) ∧ w'.ownsRow w.heap.size 5 1 (.slice a2 k c2) k (ds.map (Value.int .u8)) ∧ Below w.heap.size w w'
def UdpAns (p q : Int) (pl : Bool) (code : Int) (ds : List Int) (m : Nat) (w : World) (e : Ending) (w' : World) : Prop :=
  ∃ a1 c1, e = .returned (.tuple #[.agg #[.int .u16 p, .int .u16 q, .bool pl, .slice a1 m c1], .int .i64 code]) ∧ w'.ownsRow w.heap.size 5 1 (.slice a1 m c1) m (ds.map (Value.int .u8)) ∧ Below w.heap.size w w'
def IcmpAns (p q r code : Int) (ds : List Int) (m : Nat) (w : World) (e : Ending) (w' : World) : Prop :=
  ∃ a1 c1, e = .returned (.tuple #[.agg #[.int .u8 p, .int .u8 q, .int .u32 r, .slice a1 m c1], .int .i64 code]) ∧ w'.ownsRow w.heap.size 5 1 (.slice a1 m c1) m (ds.map (Value.int .u8)) ∧ Below w.heap.size w w'
/-- Where the bytes lie. -/
structure Lies (w : World) (a : Option Addr) (xs : List Int) (n cap : Nat) : Prop where
  row : Row .u8 w a xs
  no : a = none → cap = 0
  le : n ≤ cap
  max : cap ≤ 9223372036854775807
theorem nil_own (w : World) (b : Nat) : w.ownsRow b 5 1 (.slice none 0 0) 0 (([] : List Int).map (Value.int .u8)) := World.ownsRow_nil w b _ 1
theorem tcp_pair (src dst : Nat) (xs : List Int) (n : Nat) (hl : xs.length = n) (hb : ∀ x ∈ xs, 0 ≤ x ∧ x ≤ 255) (hs : src ≤ 4294967295) (hd : dst ≤ 4294967295) :
    ∃ (p q u v f g h code : Int) (os ds : List Int) (m k : Nat), os.length = m ∧ ds.length = k ∧
      (∀ w a cap, Lies w a xs n cap → Calls Try.prog 52 #[.int .u32 src, .int .u32 dst, .slice a n cap] w (TcpAns p q u v f g h code os ds m k w)) ∧
      (∀ w a cap, Lies w a xs n cap → Calls Try.prog 33 #[.int .u32 src, .int .u32 dst, .slice a n cap] w (TcpAns p q u v f g h code os ds m k w)) := by
  have hz : ∀ (code : Int) (w : World) (e : Ending) (w' : World), e = .returned (.tuple #[.agg #[.int .u16 0, .int .u16 0, .int .u32 0, .int .u32 0, .int .u8 0, .int .u16 0, .int .u16 0, .slice none 0 0, .slice none 0 0], .int .i64 code]) ∧ Below w.heap.size w w' → TcpAns 0 0 0 0 0 0 0 code [] [] 0 0 w e w' :=
    fun code w e w' ⟨h1, h2⟩ => ⟨none, 0, none, 0, h1, nil_own _ _, nil_own _ _, h2⟩
  by_cases h1 : n < 20
  · exact ⟨0, 0, 0, 0, 0, 0, 0, 10, [], [], 0, 0, rfl, rfl, fun w a cap _ => (rtcp_short w _ _ a n cap h1).mono (hz 10 w), fun w a cap _ => (rrtcp_short w _ _ a n cap h1).mono (hz 10 w)⟩
  by_cases h2 : 1480 < n
  · exact ⟨0, 0, 0, 0, 0, 0, 0, 14, [], [], 0, 0, rfl, rfl, fun w a cap _ => (rtcp_long w _ _ a n cap h2).mono (hz 14 w), fun w a cap _ => (rrtcp_long w _ _ a n cap h2).mono (hz 14 w)⟩
  have g1 : 20 ≤ n := by omega
  have g2 : n ≤ 1480 := by omega
  by_cases h3 : 4 * (fld xs 12 1 / 16) < 20 ∨ n < 4 * (fld xs 12 1 / 16)
  · exact ⟨0, 0, 0, 0, 0, 0, 0, 11, [], [], 0, 0, rfl, rfl,
      fun w a cap hL => (rtcp_form w src dst a xs n cap _ _ _ _ _ _ _ _ _ _ hL.row hL.no hl hb g1 g2 (hide rfl) (hide rfl) (hide rfl) (hide rfl) (hide rfl) (hide rfl) (hide rfl) (hide rfl) (hide rfl) (hide rfl) h3).mono (hz 11 w),
      fun w a cap hL => (rrtcp_form w src dst a xs n cap _ _ hL.row hL.no hl hb g1 g2 (hide rfl) (hide rfl) h3).mono (hz 11 w)⟩
  have g3 : 20 ≤ 4 * (fld xs 12 1 / 16) := by omega
  have g4 : 4 * (fld xs 12 1 / 16) ≤ n := by omega
  by_cases h4 : csum (psB src dst 6 n ++ xs) = 0
  · refine ⟨_, _, _, _, _, _, _, 0, _, _, _, _, ?_, ?_,
      fun w a cap hL => (rtcp_ok w src dst a xs n cap _ _ _ _ _ _ _ _ _ _ hL.row hL.no hl hb g1 g2 (hide rfl) (hide rfl) (hide rfl) (hide rfl) (hide rfl) (hide rfl) (hide rfl) (hide rfl) (hide rfl) (hide rfl) g3 g4 hs hd (hide (by simpa using h4))).mono fun e w' ⟨a1, c1, a2, c2, k1, k2, k3, k4⟩ => ⟨a1, c1, a2, c2, k1, k2, k3, k4⟩,
      fun w a cap hL => (rrtcp_ok w src dst a xs n cap _ _ _ _ _ _ _ _ _ hL.row hL.no hl hb g1 g2 hL.le hL.max (hide rfl) (hide rfl) (hide rfl) (hide rfl) (hide rfl) (hide rfl) (hide rfl) (hide rfl) (hide rfl) g3 g4 hs hd (hide h4)).mono fun e w' ⟨a1, c1, a2, c2, k1, k2, k3, k4⟩ => ⟨a1, c1, a2, c2, k1, k2, k3, k4⟩⟩
    · rw [List.length_take, List.length_drop]; omega
    · rw [List.length_drop]; omega
  · exact ⟨0, 0, 0, 0, 0, 0, 0, 12, [], [], 0, 0, rfl, rfl,
      fun w a cap hL => (rtcp_bad w src dst a xs n cap _ _ _ _ _ _ _ _ _ _ hL.row hL.no hl hb g1 g2 (hide rfl) (hide rfl) (hide rfl) (hide rfl) (hide rfl) (hide rfl) (hide rfl) (hide rfl) (hide rfl) (hide rfl) g3 g4 hs hd (hide (by simpa using h4))).mono (hz 12 w),
      fun w a cap hL => (rrtcp_bad w src dst a xs n cap _ _ hL.row hL.no hl hb g1 g2 (hide rfl) (hide rfl) g3 g4 hs hd (hide h4)).mono (hz 12 w)⟩
theorem udp_pair (src dst : Nat) (xs : List Int) (n : Nat) (hl : xs.length = n) (hb : ∀ x ∈ xs, 0 ≤ x ∧ x ≤ 255) (hs : src ≤ 4294967295) (hd : dst ≤ 4294967295) :
    ∃ (p q : Int) (pl : Bool) (code : Int) (ds : List Int) (m : Nat), ds.length = m ∧
      (∀ w a cap, Lies w a xs n cap → Calls Try.prog 53 #[.int .u32 src, .int .u32 dst, .slice a n cap] w (UdpAns p q pl code ds m w)) ∧
      (∀ w a cap, Lies w a xs n cap → Calls Try.prog 35 #[.int .u32 src, .int .u32 dst, .slice a n cap] w (UdpAns p q pl code ds m w)) := by
  have hz : ∀ (code : Int) (w : World) (e : Ending) (w' : World), e = .returned (.tuple #[.agg #[.int .u16 0, .int .u16 0, .bool false, .slice none 0 0], .int .i64 code]) ∧ Below w.heap.size w w' → UdpAns 0 0 false code [] 0 w e w' :=
    fun code w e w' ⟨h1, h2⟩ => ⟨none, 0, h1, nil_own _ _, h2⟩
  by_cases h1 : n < 8
  · exact ⟨0, 0, false, 10, [], 0, rfl, fun w a cap _ => (rudp_short w _ _ a n cap h1).mono (hz 10 w), fun w a cap _ => (rrudp_short w _ _ a n cap h1).mono (hz 10 w)⟩
  by_cases h2 : 1480 < n
  · exact ⟨0, 0, false, 14, [], 0, rfl, fun w a cap _ => (rudp_long w _ _ a n cap h2).mono (hz 14 w), fun w a cap _ => (rrudp_long w _ _ a n cap h2).mono (hz 14 w)⟩
  have g1 : 8 ≤ n := by omega
  have g2 : n ≤ 1480 := by omega
  have e0 : fld xs 0 2 = 256 * fld xs 0 1 + fld xs 1 1 := fld_pair xs 0 hb (by omega)
  have e2 : fld xs 2 2 = 256 * fld xs 2 1 + fld xs 3 1 := fld_pair xs 2 hb (by omega)
  have e4 : fld xs 4 2 = 256 * fld xs 4 1 + fld xs 5 1 := fld_pair xs 4 hb (by omega)
  have e6 : fld xs 6 2 = 256 * fld xs 6 1 + fld xs 7 1 := fld_pair xs 6 hb (by omega)
  by_cases h3 : fld xs 4 2 < 8 ∨ n < fld xs 4 2
  · exact ⟨0, 0, false, 11, [], 0, rfl,
      fun w a cap hL => (rudp_form w src dst a xs n cap _ _ _ _ hL.row hl hL.le hL.max hb g1 g2 (hide rfl) (hide rfl) (hide rfl) (hide rfl) h3).mono (hz 11 w),
      fun w a cap hL => (rrudp_form w src dst a xs n cap _ _ _ hL.row hL.no hl hb g1 g2 (hide rfl) (hide rfl) (hide e4.symm) h3).mono (hz 11 w)⟩
  have g3 : 8 ≤ fld xs 4 2 := by omega
  have g4 : fld xs 4 2 ≤ n := by omega
  have hlen : ((xs.drop 8).take (fld xs 4 2 - 8)).length = fld xs 4 2 - 8 := by rw [List.length_take, List.length_drop]; omega
  by_cases h5 : fld xs 6 2 = 0
  · exact ⟨_, _, true, 0, _, _, hlen,
      fun w a cap hL => (rudp_plain w src dst a xs n cap _ _ _ _ hL.row hl hL.le hL.max hb g1 g2 (hide rfl) (hide rfl) (hide rfl) (hide rfl) g3 g4 h5).mono fun e w' ⟨a1, c1, k1, k2, k3⟩ => ⟨a1, c1, k1, k2, k3⟩,
      fun w a cap hL => (rrudp_plain w src dst a xs n cap _ _ _ _ _ _ _ _ _ _ _ hL.row hL.no hl hb g1 g2 (hide rfl) (hide rfl) (hide rfl) (hide rfl) (hide rfl) (hide rfl) (hide e0.symm) (hide e2.symm) (hide e4.symm) hL.le (hide rfl) (hide rfl) g3 g4 hL.max (by omega)).mono fun e w' ⟨a1, c1, k1, k2, k3⟩ => ⟨a1, c1, k1, k2, k3⟩⟩
  have h6 : ¬ (fld xs 6 1 = 0 ∧ fld xs 7 1 = 0) := by omega
  by_cases h4 : csum (psB src dst 17 (fld xs 4 2) ++ xs.take (fld xs 4 2)) = 0
  · exact ⟨_, _, false, 0, _, _, hlen,
      fun w a cap hL => (rudp_ok w src dst a xs n cap _ _ _ _ hL.row hl hL.le hL.max hb g1 g2 (hide rfl) (hide rfl) (hide rfl) (hide rfl) g3 g4 h5 hs hd (hide (by simpa using h4))).mono fun e w' ⟨a1, c1, k1, k2, k3⟩ => ⟨a1, c1, k1, k2, k3⟩,
      fun w a cap hL => (rrudp_ok w src dst a xs n cap _ _ _ _ _ _ _ _ _ _ _ hL.row hL.no hl hb g1 g2 (hide rfl) (hide rfl) (hide rfl) (hide rfl) (hide rfl) (hide rfl) (hide e0.symm) (hide e2.symm) (hide e4.symm) hL.le (hide rfl) (hide rfl) g3 g4 hL.max h6 hs hd (hide h4)).mono fun e w' ⟨a1, c1, k1, k2, k3⟩ => ⟨a1, c1, k1, k2, k3⟩⟩
  · exact ⟨0, 0, false, 12, [], 0, rfl,
      fun w a cap hL => (rudp_bad w src dst a xs n cap _ _ _ _ hL.row hl hL.le hL.max hb g1 g2 (hide rfl) (hide rfl) (hide rfl) (hide rfl) g3 g4 h5 hs hd (hide (by simpa using h4))).mono (hz 12 w),
      fun w a cap hL => (rrudp_bad w src dst a xs n cap _ _ _ _ _ hL.row hL.no hl hb g1 g2 (hide rfl) (hide rfl) (hide e4.symm) hL.le (hide rfl) (hide rfl) g3 g4 h6 hs hd (hide h4)).mono (hz 12 w)⟩
theorem icmp_pair (xs : List Int) (n : Nat) (hl : xs.length = n) (hb : ∀ x ∈ xs, 0 ≤ x ∧ x ≤ 255) :
    ∃ (p q r code : Int) (ds : List Int) (m : Nat), ds.length = m ∧
      (∀ w a cap, Lies w a xs n cap → Calls Try.prog 42 #[.slice a n cap] w (IcmpAns p q r code ds m w)) ∧
      (∀ w a cap, Lies w a xs n cap → Calls Try.prog 27 #[.slice a n cap] w (IcmpAns p q r code ds m w)) := by
  have hz : ∀ (code : Int) (w : World) (e : Ending) (w' : World), e = .returned (.tuple #[.agg #[.int .u8 0, .int .u8 0, .int .u32 0, .slice none 0 0], .int .i64 code]) ∧ Below w.heap.size w w' → IcmpAns 0 0 0 code [] 0 w e w' :=
    fun code w e w' ⟨h1, h2⟩ => ⟨none, 0, h1, nil_own _ _, h2⟩
  by_cases h1 : n < 8
  · exact ⟨0, 0, 0, 10, [], 0, rfl, fun w a cap _ => (ricmp_short w a n cap h1).mono (hz 10 w), fun w a cap _ => (rricmp_short w a n cap h1).mono (hz 10 w)⟩
  by_cases h2 : 1480 < n
  · exact ⟨0, 0, 0, 14, [], 0, rfl, fun w a cap _ => (ricmp_long w a n cap h2).mono (hz 14 w), fun w a cap _ => (rricmp_long w a n cap h2).mono (hz 14 w)⟩
  have g1 : 8 ≤ n := by omega
  have g2 : n ≤ 1480 := by omega
  by_cases h4 : csum xs = 0
  · exact ⟨_, _, _, 0, _, _, (by rw [List.length_drop, hl] : (xs.drop 8).length = n - 8),
      fun w a cap hL => (ricmp_ok w a xs n cap _ _ _ _ hL.row hL.no hl hb g1 g2 (hide rfl) (hide rfl) (hide rfl) (hide rfl) (hide (by simpa using h4))).mono fun e w' ⟨a1, c1, k1, k2, k3⟩ => ⟨a1, c1, k1, k2, k3⟩,
      fun w a cap hL => (rricmp_ok w a xs n cap _ _ _ hL.row hL.no hl hb g1 g2 hL.le hL.max (hide rfl) (hide rfl) (hide rfl) (hide h4)).mono fun e w' ⟨a1, c1, k1, k2, k3⟩ => ⟨a1, c1, k1, k2, k3⟩⟩
  · exact ⟨0, 0, 0, 12, [], 0, rfl,
      fun w a cap hL => (ricmp_bad w a xs n cap 0 0 0 0 hL.row hL.no hl hb g1 g2 (hide (by simpa using h4))).mono (hz 12 w),
      fun w a cap hL => (rricmp_bad w a xs n cap hL.row hL.no hl hb g1 g2 (hide h4)).mono (hz 12 w)⟩
end Go.Proofs.Ytgggcapgaikbeaa

/- Flows: plain facts. No program is named. -/
namespace Go.Proofs.Ytgggcapgaikbeaa
open Go.RowKit
set_option linter.unusedVariables false
structure Fl where
  p : Nat
  s : Nat
  d : Nat
  f : Nat
  t : Nat
def Fl.v (x : Fl) : Value := .agg #[.int .u8 (x.p : Int), .int .u32 (x.s : Int), .int .u32 (x.d : Int), .int .u16 (x.f : Int), .int .u16 (x.t : Int)]
def Fl.turn (x : Fl) : Fl := ⟨x.p, x.d, x.s, x.t, x.f⟩
structure Fl.Ok (x : Fl) : Prop where
  p : x.p ≤ 255
  s : x.s ≤ 4294967295
  d : x.d ≤ 4294967295
  f : x.f ≤ 65535
  t : x.t ≤ 65535
theorem Fl.Ok.turn {x : Fl} (h : x.Ok) : x.turn.Ok := ⟨h.p, h.d, h.s, h.t, h.f⟩
def Fl.l (x : Fl) : List Int := [x.p, x.s, x.f, x.d, x.t]
def ordI (a b : Int) : Int := if a < b then -1 else if b < a then 1 else 0
def nzF : List Int → Int
  | [] => 0
  | x :: xs => if x ≠ 0 then x else nzF xs
def orderF (a b : Fl) : Int := nzF [ordI a.p b.p, ordI a.s b.s, ordI a.f b.f, ordI a.d b.d, ordI a.t b.t]
def lessL : List Int → List Int → Bool
  | x :: xs, y :: ys => if x ≠ y then decide (x < y) else lessL xs ys
  | _, _ => false
theorem ordI_rng (a b : Int) : -1 ≤ ordI a b ∧ ordI a b ≤ 1 := by unfold ordI; split; omega; split <;> omega
theorem nz_all : ∀ (xs : List Int), (∀ x ∈ xs, x = 0) → nzF xs = 0
  | [], _ => rfl
  | x :: xs, h => by
    unfold nzF
    rw [if_neg (by have := h x (by simp); omega)]
    exact nz_all xs fun y hy => h y (by simp [hy])
theorem nz_at : ∀ (xs : List Int) (j : Nat), j < xs.length → (∀ k, k < j → xs[k]?.getD 0 = 0) → xs[j]?.getD 0 ≠ 0 → nzF xs = xs[j]?.getD 0
  | [], _, h, _, _ => by simp at h
  | x :: xs, 0, _, _, h => by unfold nzF; simp at h; rw [if_pos h]; simp
  | x :: xs, j + 1, hj, h0, h => by
    unfold nzF
    have hx := h0 0 (by omega)
    simp at hx
    rw [if_neg (by omega)]
    simp at h hj ⊢
    exact nz_at xs j (by omega) (fun k hk => by have := h0 (k + 1) (by omega); simpa using this) h
theorem less_at : ∀ (xs ys : List Int) (j : Nat), j < xs.length → xs.length = ys.length → (∀ k, k < j → xs[k]?.getD 0 = ys[k]?.getD 0) → xs[j]?.getD 0 ≠ ys[j]?.getD 0 → lessL xs ys = decide (xs[j]?.getD 0 < ys[j]?.getD 0)
  | [], _, _, h, _, _, _ => by simp at h
  | _ :: _, [], _, _, h, _, _ => by simp at h
  | x :: xs, y :: ys, 0, _, _, _, h => by unfold lessL; simp at h; rw [if_pos h]; simp
  | x :: xs, y :: ys, j + 1, hj, hl, h0, h => by
    unfold lessL
    have hx := h0 0 (by omega)
    simp at hx
    rw [if_neg (by omega)]
    simp at h hj hl ⊢
    have := less_at xs ys j (by omega) hl (fun k hk => by have := h0 (k + 1) (by omega); simpa using this) h
    simpa using this
theorem less_all : ∀ (xs ys : List Int), xs.length = ys.length → (∀ k, k < xs.length → xs[k]?.getD 0 = ys[k]?.getD 0) → lessL xs ys = false
  | [], _, _, _ => by unfold lessL; rfl
  | _ :: _, [], h, _ => by simp at h
  | x :: xs, y :: ys, hl, h0 => by
    unfold lessL
    have hx := h0 0 (by simp)
    simp at hx
    rw [if_neg (by omega)]
    exact less_all xs ys (by simpa using hl) (fun k hk => by have := h0 (k + 1) (by simp; omega); simpa using this)
theorem order_less (a b : Fl) : decide (orderF a b < 0) = lessL a.l b.l := by
  unfold orderF Fl.l nzF nzF nzF nzF nzF nzF lessL lessL lessL lessL lessL lessL ordI
  simp only [ne_eq]
  by_cases h1 : (a.p : Int) < b.p
  · simp [h1]; omega
  by_cases h1' : (b.p : Int) < a.p
  · simp [h1, h1']; omega
  have e1 : (a.p : Int) = b.p := by omega
  by_cases h2 : (a.s : Int) < b.s
  · simp [e1, h2]; omega
  by_cases h2' : (b.s : Int) < a.s
  · simp [e1, h2, h2']; omega
  have e2 : (a.s : Int) = b.s := by omega
  by_cases h3 : (a.f : Int) < b.f
  · simp [e1, e2, h3]; omega
  by_cases h3' : (b.f : Int) < a.f
  · simp [e1, e2, h3, h3']; omega
  have e3 : (a.f : Int) = b.f := by omega
  by_cases h4 : (a.d : Int) < b.d
  · simp [e1, e2, e3, h4]; omega
  by_cases h4' : (b.d : Int) < a.d
  · simp [e1, e2, e3, h4, h4']; omega
  have e4 : (a.d : Int) = b.d := by omega
  by_cases h5 : (a.t : Int) < b.t
  · simp [e1, e2, e3, e4, h5] <;> omega
  by_cases h5' : (b.t : Int) < a.t
  · simp [e1, e2, e3, e4, h5, h5'] <;> omega
  have e5 : (a.t : Int) = b.t := by omega
  simp [e1, e2, e3, e4, e5]
end Go.Proofs.Ytgggcapgaikbeaa

/- Flows: turned about, and their order: the program's and the document's. -/
namespace Go.Proofs.Ytgggcapgaikbeaa
open Go.RowKit
set_option linter.unusedVariables false
set_option linter.unusedSimpArgs false
set_option maxRecDepth 100000
theorem turnP_any (x : Fl) (w : World) :
    Calls Try.prog 17 #[x.v] w fun e w' => e = .returned x.turn.v ∧ Below w.heap.size w w' := by
  obtain ⟨p, s, d, f, t⟩ := x
  unfold Fl.turn Fl.v
  dsimp only
  obtain ⟨V, hV⟩ : ∃ V, Value.agg #[.int .u8 (p : Int), .int .u32 (d : Int), .int .u32 (s : Int), .int .u16 (t : Int), .int .u16 (f : Int)] = V := ⟨_, rfl⟩
  rw [hV]
  have HV := hide hV
  clear hV
  go_enter Try.func17, Try.ntmps17
  go_wp2_with fail
  refine bodyPost_ret (v := V) (by rw [← HV.out]; simp [results, Try.results17, go_sem]) rfl ⟨rfl, ?_⟩
  repeat (first | exact Below.refl _ _ | refine Below.setCell ?_ (Nat.le_refl _) _ | refine Below.setCell ?_ (by simp; omega) _ | refine Below.alloc ?_ (by first | (simp; done) | (simp; omega)) _)
theorem turnR_any (x : Fl) (w : World) :
    Calls Try.prog 38 #[x.v] w fun e w' => e = .returned x.turn.v ∧ Below w.heap.size w w' := by
  obtain ⟨p, s, d, f, t⟩ := x
  unfold Fl.turn Fl.v
  dsimp only
  obtain ⟨V, hV⟩ : ∃ V, Value.agg #[.int .u8 (p : Int), .int .u32 (d : Int), .int .u32 (s : Int), .int .u16 (t : Int), .int .u16 (f : Int)] = V := ⟨_, rfl⟩
  rw [hV]
  have HV := hide hV
  clear hV
  go_enter Try.func38, Try.ntmps38
  go_wp2_with fail
  refine bodyPost_ret (v := V) (by rw [← HV.out]; simp [results, Try.results38, go_sem]) rfl ⟨rfl, ?_⟩
  repeat (first | exact Below.refl _ _ | refine Below.setCell ?_ (Nat.le_refl _) _ | refine Below.setCell ?_ (by simp; omega) _ | refine Below.alloc ?_ (by first | (simp; done) | (simp; omega)) _)
end Go.Proofs.Ytgggcapgaikbeaa

/- Flows: their order, the program's and the document's. -/
namespace Go.Proofs.Ytgggcapgaikbeaa
open Go.RowKit
set_option linter.unusedVariables false
set_option linter.unusedSimpArgs false
set_option maxRecDepth 100000
theorem five_cells {w : World} {R : Nat} {t : TypeId} {v0 v1 v2 v3 v4 : Value} (h : w.heap[R]? = some (.cells #[v0, v1, v2, v3, v4] t (0, 0))) : w.cell? ⟨R, 0, none⟩ = some v0 ∧ w.cell? ⟨R, 1, none⟩ = some v1 ∧ w.cell? ⟨R, 2, none⟩ = some v2 ∧ w.cell? ⟨R, 3, none⟩ = some v3 ∧ w.cell? ⟨R, 4, none⟩ = some v4 ∧ ∀ i, w.frozen? ⟨R, i, none⟩ = false := by
  refine ⟨?_, ?_, ?_, ?_, ?_, fun i => ?_⟩ <;> simp [World.cell?, World.frozen?, h]
theorem two_flows {w W : World} {v0 v1 v2 v3 v4 u0 u1 u2 u3 u4 : Value} (hW : (w.alloc (.cells #[v0, v1, v2, v3, v4] 29)).alloc (.cells #[u0, u1, u2, u3, u4] 29) = W) :
    W.heap[w.heap.size]? = some (.cells #[v0, v1, v2, v3, v4] 29 (0, 0)) ∧ W.heap[w.heap.size + 1]? = some (.cells #[u0, u1, u2, u3, u4] 29 (0, 0)) ∧ Below w.heap.size w W ∧ W.heap.size = w.heap.size + 1 + 1 := by
  subst hW
  have h0 := heap_alloc_new w (.cells #[v0, v1, v2, v3, v4] 29)
  have h1 := heap_alloc_new (w.alloc (.cells #[v0, v1, v2, v3, v4] 29)) (.cells #[u0, u1, u2, u3, u4] 29)
  refine ⟨below_block ((Below.refl _ _).alloc (Nat.le_refl _) _) h0 (Nat.le_refl _), ?_, ((Below.refl _ _).alloc (Nat.le_refl _) _).alloc (by simp) _, by simp⟩
  have hz : (w.alloc (.cells #[v0, v1, v2, v3, v4] 29)).heap.size = w.heap.size + 1 := by simp
  rw [hz] at h1
  exact h1
theorem getl (a b c d e : Int) (B : Nat) (w : World) (h : w.heap[B]? = some (.cells #[.int .u64 a, .int .u64 b, .int .u64 c, .int .u64 d, .int .u64 e] 88 (0, 0))) (i : Nat) (hi : i < 5) : w.cell? ⟨B, i, none⟩ = some (.int .u64 ([a, b, c, d, e][i]?.getD 0)) := by
  obtain ⟨c0, c1, c2, c3, c4, _⟩ := five_cells h
  match i, hi with
  | 0, _ => exact c0
  | 1, _ => exact c1
  | 2, _ => exact c2
  | 3, _ => exact c3
  | 4, _ => exact c4
end Go.Proofs.Ytgggcapgaikbeaa
