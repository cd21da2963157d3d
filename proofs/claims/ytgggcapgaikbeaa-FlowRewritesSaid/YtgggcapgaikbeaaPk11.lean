/- What the three readers answer, as plain functions of the bytes. -/
import Derived.Test.YtgggcapgaikbeaaPk09
import Derived.Test.YtgggcapgaikbeaaPk10
import Derived.Deep.WholeRow
import Derived.Deep.MidRow
namespace Go.Proofs.Ytgggcapgaikbeaa
open Go.RowKit
set_option linter.unusedVariables false
set_option linter.unusedSimpArgs false
set_option maxRecDepth 100000
structure Seg where
  p : Nat
  q : Nat
  u : Nat
  v : Nat
  f : Nat
  g : Nat
  h : Nat
  os : List Int
  ds : List Int
structure Dgm where
  p : Nat
  q : Nat
  pl : Bool
  ds : List Int
structure Msg where
  p : Nat
  q : Nat
  r : Nat
  ds : List Int
def segHL (xs : List Int) : Nat := 4 * (fld xs 12 1 / 16)
def segCode (src dst : Nat) (xs : List Int) : Nat :=
  if xs.length < 20 then 10 else if 1480 < xs.length then 14 else if segHL xs < 20 ∨ xs.length < segHL xs then 11 else if csum (psB src dst 6 xs.length ++ xs) = 0 then 0 else 12
def segOf (src dst : Nat) (xs : List Int) : Seg :=
  if segCode src dst xs = 0 then ⟨fld xs 0 2, fld xs 2 2, fld xs 4 4, fld xs 8 4, fld xs 13 1, fld xs 14 2, fld xs 18 2, (xs.drop 20).take (segHL xs - 20), xs.drop (segHL xs)⟩ else ⟨0, 0, 0, 0, 0, 0, 0, [], []⟩
def dgmCode (src dst : Nat) (xs : List Int) : Nat :=
  if xs.length < 8 then 10 else if 1480 < xs.length then 14 else if fld xs 4 2 < 8 ∨ xs.length < fld xs 4 2 then 11 else if fld xs 6 2 = 0 then 0 else if csum (psB src dst 17 (fld xs 4 2) ++ xs.take (fld xs 4 2)) = 0 then 0 else 12
def dgmOf (src dst : Nat) (xs : List Int) : Dgm :=
  if dgmCode src dst xs = 0 then ⟨fld xs 0 2, fld xs 2 2, decide (fld xs 6 2 = 0), (xs.drop 8).take (fld xs 4 2 - 8)⟩ else ⟨0, 0, false, []⟩
def msgCode (xs : List Int) : Nat := if xs.length < 8 then 10 else if 1480 < xs.length then 14 else if csum xs = 0 then 0 else 12
def msgOf (xs : List Int) : Msg := if msgCode xs = 0 then ⟨fld xs 0 1, fld xs 1 1, fld xs 4 4, xs.drop 8⟩ else ⟨0, 0, 0, []⟩
def SegAns (s : Seg) (code : Nat) (w : World) : Ending → World → Prop := TcpAns s.p s.q s.u s.v s.f s.g s.h code s.os s.ds s.os.length s.ds.length w
def DgmAns (s : Dgm) (code : Nat) (w : World) : Ending → World → Prop := UdpAns s.p s.q s.pl code s.ds s.ds.length w
def MsgAns (s : Msg) (code : Nat) (w : World) : Ending → World → Prop := IcmpAns s.p s.q s.r code s.ds s.ds.length w
theorem readTCP_both (src dst : Nat) (xs : List Int) (n : Nat) (hl : xs.length = n) (hb : ∀ x ∈ xs, 0 ≤ x ∧ x ≤ 255) (hs : src ≤ 4294967295) (hd : dst ≤ 4294967295) :
    (∀ w a cap, Lies w a xs n cap → Calls Try.prog 52 #[.int .u32 src, .int .u32 dst, .slice a n cap] w (SegAns (segOf src dst xs) (segCode src dst xs) w)) ∧
    (∀ w a cap, Lies w a xs n cap → Calls Try.prog 33 #[.int .u32 src, .int .u32 dst, .slice a n cap] w (SegAns (segOf src dst xs) (segCode src dst xs) w)) := by
  have hz : ∀ (code : Nat) (w : World) (e : Ending) (w' : World), e = .returned (.tuple #[.agg #[.int .u16 0, .int .u16 0, .int .u32 0, .int .u32 0, .int .u8 0, .int .u16 0, .int .u16 0, .slice none 0 0, .slice none 0 0], .int .i64 code]) ∧ Below w.heap.size w w' → SegAns ⟨0, 0, 0, 0, 0, 0, 0, [], []⟩ code w e w' :=
    fun code w e w' ⟨h1, h2⟩ => ⟨none, 0, none, 0, h1, nil_own _ _, nil_own _ _, h2⟩
  unfold segOf
  by_cases h1 : n < 20
  · have hc : segCode src dst xs = 10 := by unfold segCode; rw [if_pos (by omega)]
    rw [hc, if_neg (by decide)]
    exact ⟨fun w a cap _ => (rtcp_short w _ _ a n cap h1).mono (hz 10 w), fun w a cap _ => (rrtcp_short w _ _ a n cap h1).mono (hz 10 w)⟩
  by_cases h2 : 1480 < n
  · have hc : segCode src dst xs = 14 := by unfold segCode; rw [if_neg (by omega), if_pos (by omega)]
    rw [hc, if_neg (by decide)]
    exact ⟨fun w a cap _ => (rtcp_long w _ _ a n cap h2).mono (hz 14 w), fun w a cap _ => (rrtcp_long w _ _ a n cap h2).mono (hz 14 w)⟩
  have g1 : 20 ≤ n := by omega
  have g2 : n ≤ 1480 := by omega
  by_cases h3 : segHL xs < 20 ∨ n < segHL xs
  · have hc : segCode src dst xs = 11 := by unfold segCode; rw [if_neg (by omega), if_neg (by omega), if_pos (by omega)]
    rw [hc, if_neg (by decide)]
    unfold segHL at h3
    exact ⟨fun w a cap hL => (rtcp_form w src dst a xs n cap _ _ _ _ _ _ _ _ _ _ hL.row hL.no hl hb g1 g2 (hide rfl) (hide rfl) (hide rfl) (hide rfl) (hide rfl) (hide rfl) (hide rfl) (hide rfl) (hide rfl) (hide rfl) h3).mono (hz 11 w),
      fun w a cap hL => (rrtcp_form w src dst a xs n cap _ _ hL.row hL.no hl hb g1 g2 (hide rfl) (hide rfl) h3).mono (hz 11 w)⟩
  have g3 : 20 ≤ segHL xs := by omega
  have g4 : segHL xs ≤ n := by omega
  by_cases h4 : csum (psB src dst 6 n ++ xs) = 0
  · have hc : segCode src dst xs = 0 := by unfold segCode; rw [if_neg (by omega), if_neg (by omega), if_neg (by omega), hl, if_pos h4]
    rw [hc, if_pos rfl]
    have e1 : ((xs.drop 20).take (segHL xs - 20)).length = segHL xs - 20 := by rw [List.length_take, List.length_drop]; omega
    have e2 : (xs.drop (segHL xs)).length = n - segHL xs := by rw [List.length_drop]; omega
    unfold SegAns
    dsimp only
    rw [e1, e2]
    exact ⟨fun w a cap hL => (rtcp_ok w src dst a xs n cap _ _ _ _ _ _ _ _ _ _ hL.row hL.no hl hb g1 g2 (hide rfl) (hide rfl) (hide rfl) (hide rfl) (hide rfl) (hide rfl) (hide rfl) (hide rfl) (hide rfl) (hide rfl) g3 g4 hs hd (hide (by simpa using h4))).mono fun e w' ⟨a1, c1, a2, c2, k1, k2, k3, k4⟩ => ⟨a1, c1, a2, c2, k1, k2, k3, k4⟩,
      fun w a cap hL => (rrtcp_ok w src dst a xs n cap _ _ _ _ _ _ _ _ _ hL.row hL.no hl hb g1 g2 hL.le hL.max (hide rfl) (hide rfl) (hide rfl) (hide rfl) (hide rfl) (hide rfl) (hide rfl) (hide rfl) (hide rfl) g3 g4 hs hd (hide h4)).mono fun e w' ⟨a1, c1, a2, c2, k1, k2, k3, k4⟩ => ⟨a1, c1, a2, c2, k1, k2, k3, k4⟩⟩
  · have hc : segCode src dst xs = 12 := by unfold segCode; rw [if_neg (by omega), if_neg (by omega), if_neg (by omega), hl, if_neg h4]
    rw [hc, if_neg (by decide)]
    exact ⟨fun w a cap hL => (rtcp_bad w src dst a xs n cap _ _ _ _ _ _ _ _ _ _ hL.row hL.no hl hb g1 g2 (hide rfl) (hide rfl) (hide rfl) (hide rfl) (hide rfl) (hide rfl) (hide rfl) (hide rfl) (hide rfl) (hide rfl) g3 g4 hs hd (hide (by simpa using h4))).mono (hz 12 w),
      fun w a cap hL => (rrtcp_bad w src dst a xs n cap _ _ hL.row hL.no hl hb g1 g2 (hide rfl) (hide rfl) g3 g4 hs hd (hide h4)).mono (hz 12 w)⟩
theorem readUDP_both (src dst : Nat) (xs : List Int) (n : Nat) (hl : xs.length = n) (hb : ∀ x ∈ xs, 0 ≤ x ∧ x ≤ 255) (hs : src ≤ 4294967295) (hd : dst ≤ 4294967295) :
    (∀ w a cap, Lies w a xs n cap → Calls Try.prog 53 #[.int .u32 src, .int .u32 dst, .slice a n cap] w (DgmAns (dgmOf src dst xs) (dgmCode src dst xs) w)) ∧
    (∀ w a cap, Lies w a xs n cap → Calls Try.prog 35 #[.int .u32 src, .int .u32 dst, .slice a n cap] w (DgmAns (dgmOf src dst xs) (dgmCode src dst xs) w)) := by
  have hz : ∀ (code : Nat) (w : World) (e : Ending) (w' : World), e = .returned (.tuple #[.agg #[.int .u16 0, .int .u16 0, .bool false, .slice none 0 0], .int .i64 code]) ∧ Below w.heap.size w w' → DgmAns ⟨0, 0, false, []⟩ code w e w' :=
    fun code w e w' ⟨h1, h2⟩ => ⟨none, 0, h1, nil_own _ _, h2⟩
  unfold dgmOf
  by_cases h1 : n < 8
  · have hc : dgmCode src dst xs = 10 := by unfold dgmCode; rw [if_pos (by omega)]
    rw [hc, if_neg (by decide)]
    exact ⟨fun w a cap _ => (rudp_short w _ _ a n cap h1).mono (hz 10 w), fun w a cap _ => (rrudp_short w _ _ a n cap h1).mono (hz 10 w)⟩
  by_cases h2 : 1480 < n
  · have hc : dgmCode src dst xs = 14 := by unfold dgmCode; rw [if_neg (by omega), if_pos (by omega)]
    rw [hc, if_neg (by decide)]
    exact ⟨fun w a cap _ => (rudp_long w _ _ a n cap h2).mono (hz 14 w), fun w a cap _ => (rrudp_long w _ _ a n cap h2).mono (hz 14 w)⟩
  have g1 : 8 ≤ n := by omega
  have g2 : n ≤ 1480 := by omega
  have e0 : fld xs 0 2 = 256 * fld xs 0 1 + fld xs 1 1 := fld_pair xs 0 hb (by omega)
  have e2 : fld xs 2 2 = 256 * fld xs 2 1 + fld xs 3 1 := fld_pair xs 2 hb (by omega)
  have e4 : fld xs 4 2 = 256 * fld xs 4 1 + fld xs 5 1 := fld_pair xs 4 hb (by omega)
  have e6 : fld xs 6 2 = 256 * fld xs 6 1 + fld xs 7 1 := fld_pair xs 6 hb (by omega)
  by_cases h3 : fld xs 4 2 < 8 ∨ n < fld xs 4 2
  · have hc : dgmCode src dst xs = 11 := by unfold dgmCode; rw [if_neg (by omega), if_neg (by omega), if_pos (by omega)]
    rw [hc, if_neg (by decide)]
    exact ⟨fun w a cap hL => (rudp_form w src dst a xs n cap _ _ _ _ hL.row hl hL.le hL.max hb g1 g2 (hide rfl) (hide rfl) (hide rfl) (hide rfl) h3).mono (hz 11 w),
      fun w a cap hL => (rrudp_form w src dst a xs n cap _ _ _ hL.row hL.no hl hb g1 g2 (hide rfl) (hide rfl) (hide e4.symm) h3).mono (hz 11 w)⟩
  have g3 : 8 ≤ fld xs 4 2 := by omega
  have g4 : fld xs 4 2 ≤ n := by omega
  have hlen : ((xs.drop 8).take (fld xs 4 2 - 8)).length = fld xs 4 2 - 8 := by rw [List.length_take, List.length_drop]; omega
  by_cases h5 : fld xs 6 2 = 0
  · have hc : dgmCode src dst xs = 0 := by unfold dgmCode; rw [if_neg (by omega), if_neg (by omega), if_neg (by omega), if_pos h5]
    rw [hc, if_pos rfl]
    unfold DgmAns
    dsimp only
    rw [hlen, show decide (fld xs 6 2 = 0) = true by simpa using h5]
    exact ⟨fun w a cap hL => (rudp_plain w src dst a xs n cap _ _ _ _ hL.row hl hL.le hL.max hb g1 g2 (hide rfl) (hide rfl) (hide rfl) (hide rfl) g3 g4 h5).mono fun e w' ⟨a1, c1, k1, k2, k3⟩ => ⟨a1, c1, k1, k2, k3⟩,
      fun w a cap hL => (rrudp_plain w src dst a xs n cap _ _ _ _ _ _ _ _ _ _ _ hL.row hL.no hl hb g1 g2 (hide rfl) (hide rfl) (hide rfl) (hide rfl) (hide rfl) (hide rfl) (hide e0.symm) (hide e2.symm) (hide e4.symm) hL.le (hide rfl) (hide rfl) g3 g4 hL.max (by omega)).mono fun e w' ⟨a1, c1, k1, k2, k3⟩ => ⟨a1, c1, k1, k2, k3⟩⟩
  have h6 : ¬ (fld xs 6 1 = 0 ∧ fld xs 7 1 = 0) := by omega
  by_cases h4 : csum (psB src dst 17 (fld xs 4 2) ++ xs.take (fld xs 4 2)) = 0
  · have hc : dgmCode src dst xs = 0 := by unfold dgmCode; rw [if_neg (by omega), if_neg (by omega), if_neg (by omega), if_neg h5, if_pos h4]
    rw [hc, if_pos rfl]
    unfold DgmAns
    dsimp only
    rw [hlen, show decide (fld xs 6 2 = 0) = false by simpa using h5]
    exact ⟨fun w a cap hL => (rudp_ok w src dst a xs n cap _ _ _ _ hL.row hl hL.le hL.max hb g1 g2 (hide rfl) (hide rfl) (hide rfl) (hide rfl) g3 g4 h5 hs hd (hide (by simpa using h4))).mono fun e w' ⟨a1, c1, k1, k2, k3⟩ => ⟨a1, c1, k1, k2, k3⟩,
      fun w a cap hL => (rrudp_ok w src dst a xs n cap _ _ _ _ _ _ _ _ _ _ _ hL.row hL.no hl hb g1 g2 (hide rfl) (hide rfl) (hide rfl) (hide rfl) (hide rfl) (hide rfl) (hide e0.symm) (hide e2.symm) (hide e4.symm) hL.le (hide rfl) (hide rfl) g3 g4 hL.max h6 hs hd (hide h4)).mono fun e w' ⟨a1, c1, k1, k2, k3⟩ => ⟨a1, c1, k1, k2, k3⟩⟩
  · have hc : dgmCode src dst xs = 12 := by unfold dgmCode; rw [if_neg (by omega), if_neg (by omega), if_neg (by omega), if_neg h5, if_neg h4]
    rw [hc, if_neg (by decide)]
    exact ⟨fun w a cap hL => (rudp_bad w src dst a xs n cap _ _ _ _ hL.row hl hL.le hL.max hb g1 g2 (hide rfl) (hide rfl) (hide rfl) (hide rfl) g3 g4 h5 hs hd (hide (by simpa using h4))).mono (hz 12 w),
      fun w a cap hL => (rrudp_bad w src dst a xs n cap _ _ _ _ _ hL.row hL.no hl hb g1 g2 (hide rfl) (hide rfl) (hide e4.symm) hL.le (hide rfl) (hide rfl) g3 g4 h6 hs hd (hide h4)).mono (hz 12 w)⟩
theorem readICMP_both (xs : List Int) (n : Nat) (hl : xs.length = n) (hb : ∀ x ∈ xs, 0 ≤ x ∧ x ≤ 255) :
    (∀ w a cap, Lies w a xs n cap → Calls Try.prog 42 #[.slice a n cap] w (MsgAns (msgOf xs) (msgCode xs) w)) ∧
    (∀ w a cap, Lies w a xs n cap → Calls Try.prog 27 #[.slice a n cap] w (MsgAns (msgOf xs) (msgCode xs) w)) := by
  have hz : ∀ (code : Nat) (w : World) (e : Ending) (w' : World), e = .returned (.tuple #[.agg #[.int .u8 0, .int .u8 0, .int .u32 0, .slice none 0 0], .int .i64 code]) ∧ Below w.heap.size w w' → MsgAns ⟨0, 0, 0, []⟩ code w e w' :=
    fun code w e w' ⟨h1, h2⟩ => ⟨none, 0, h1, nil_own _ _, h2⟩
  unfold msgOf
  by_cases h1 : n < 8
  · have hc : msgCode xs = 10 := by unfold msgCode; rw [if_pos (by omega)]
    rw [hc, if_neg (by decide)]
    exact ⟨fun w a cap _ => (ricmp_short w a n cap h1).mono (hz 10 w), fun w a cap _ => (rricmp_short w a n cap h1).mono (hz 10 w)⟩
  by_cases h2 : 1480 < n
  · have hc : msgCode xs = 14 := by unfold msgCode; rw [if_neg (by omega), if_pos (by omega)]
    rw [hc, if_neg (by decide)]
    exact ⟨fun w a cap _ => (ricmp_long w a n cap h2).mono (hz 14 w), fun w a cap _ => (rricmp_long w a n cap h2).mono (hz 14 w)⟩
  have g1 : 8 ≤ n := by omega
  have g2 : n ≤ 1480 := by omega
  by_cases h4 : csum xs = 0
  · have hc : msgCode xs = 0 := by unfold msgCode; rw [if_neg (by omega), if_neg (by omega), if_pos h4]
    rw [hc, if_pos rfl]
    have e1 : (xs.drop 8).length = n - 8 := by rw [List.length_drop, hl]
    unfold MsgAns
    dsimp only
    rw [e1]
    exact ⟨fun w a cap hL => (ricmp_ok w a xs n cap _ _ _ _ hL.row hL.no hl hb g1 g2 (hide rfl) (hide rfl) (hide rfl) (hide rfl) (hide (by simpa using h4))).mono fun e w' ⟨a1, c1, k1, k2, k3⟩ => ⟨a1, c1, k1, k2, k3⟩,
      fun w a cap hL => (rricmp_ok w a xs n cap _ _ _ hL.row hL.no hl hb g1 g2 hL.le hL.max (hide rfl) (hide rfl) (hide rfl) (hide h4)).mono fun e w' ⟨a1, c1, k1, k2, k3⟩ => ⟨a1, c1, k1, k2, k3⟩⟩
  · have hc : msgCode xs = 12 := by unfold msgCode; rw [if_neg (by omega), if_neg (by omega), if_neg h4]
    rw [hc, if_neg (by decide)]
    exact ⟨fun w a cap hL => (ricmp_bad w a xs n cap 0 0 0 0 hL.row hL.no hl hb g1 g2 (hide (by simpa using h4))).mono (hz 12 w),
      fun w a cap hL => (rricmp_bad w a xs n cap hL.row hL.no hl hb g1 g2 (hide h4)).mono (hz 12 w)⟩
end Go.Proofs.Ytgggcapgaikbeaa

/- A struct in a block, loaded and stored whole, or a part of it. -/
namespace Go.Proofs.Ytgggcapgaikbeaa
open Go.RowKit
set_option linter.unusedVariables false
set_option linter.unusedSimpArgs false
set_option maxRecDepth 100000
/-- A part of an array, anew. -/
def upd (cs : Array Value) : Nat → List Value → Array Value
  | _, [] => cs
  | o, v :: vs => upd (cs.setIfInBounds o v) (o + 1) vs
theorem upd_get : ∀ (vs : List Value) (cs : Array Value) (o i : Nat), o + vs.length ≤ cs.size → (upd cs o vs)[i]? = if o ≤ i ∧ i < o + vs.length then vs[i - o]? else cs[i]?
  | [], cs, o, i, _ => by unfold upd; rw [if_neg (by simp only [List.length_nil]; omega)]
  | v :: vs, cs, o, i, h => by
    unfold upd
    simp only [List.length_cons] at h ⊢
    rw [upd_get vs _ (o + 1) i (by simp; omega)]
    by_cases h1 : o + 1 ≤ i ∧ i < o + 1 + vs.length
    · rw [if_pos h1, if_pos (by omega), show i - o = (i - (o + 1)) + 1 by omega, List.getElem?_cons_succ]
    · rw [if_neg h1]
      by_cases h2 : i = o
      · subst h2
        rw [if_pos (by omega), Nat.sub_self, List.getElem?_cons_zero, Array.getElem?_setIfInBounds_self_of_lt (by omega)]
      · rw [if_neg (by omega), Array.getElem?_setIfInBounds_ne (by omega)]
theorem upd_whole {c cs : Array Value} (h : c.size = cs.size) : upd c 0 cs.toList = cs := by
  apply Array.ext_getElem?
  intro i
  rw [upd_get _ _ _ _ (by simp; omega)]
  split
  · simp
  · rename_i hn
    rw [Array.getElem?_eq_none (by simp at hn; omega), Array.getElem?_eq_none (by simp at hn; omega)]
theorem heap_setCells (g : Nat) (t : TypeId) : ∀ (vs : List Value) (o : Nat) (w : World) (cs : Array Value), w.heap[g]? = some (.cells cs t (0, 0)) → (w.setCells g o vs).heap[g]? = some (.cells (upd cs o vs) t (0, 0))
  | [], _, _, _, h => h
  | v :: vs, o, w, cs, h => heap_setCells g t vs (o + 1) _ _ (heap_setCell_same w g o _ _ v h)
theorem setCells_other (g : Nat) : ∀ (vs : List Value) (o : Nat) (w : World) (k : Nat), k ≠ g → (w.setCells g o vs).heap[k]? = w.heap[k]?
  | [], _, _, _, _ => rfl
  | v :: vs, o, w, k, h => (setCells_other g vs (o + 1) _ k h).trans (heap_setCell_other _ _ _ _ h)
theorem below_setCells (g : Nat) {N : Nat} {w0 : World} (hN : N ≤ g) : ∀ (vs : List Value) (o : Nat) (w : World), Below N w0 w → Below N w0 (w.setCells g o vs)
  | [], _, _, h => h
  | v :: vs, o, w, h => below_setCells g hN vs (o + 1) _ (h.setCell (p := ⟨g, o, none⟩) hN v)
theorem setCells_size (g : Nat) : ∀ (vs : List Value) (o : Nat) (w : World), (w.setCells g o vs).heap.size = w.heap.size
  | [], _, _ => rfl
  | v :: vs, o, w => (setCells_size g vs (o + 1) _).trans (by simp)
theorem there_of {w : World} {g : Nat} {t : TypeId} {cs : Array Value} (h : w.heap[g]? = some (.cells cs t (0, 0))) {o n : Nat} (hn : o + n ≤ cs.size) : w.there g o n := fun j hj => by
  have : o + j < cs.size := by omega
  refine ⟨?_, ?_⟩
  · simp [World.cell?, h, this]
  · simp [World.frozen?, h]
/-- A struct of a block is stored, at a place within it. -/
theorem st_part {ops : Array Oper} {rest : List Oper} {o : Oper} {a : Act} {w : World} {Q : Exit → Act → World → Prop} (T : TypeId) (x y : Operand) (ho : o.op = .store T x y) (hw : Region.wanted o (yielded ops a.tmps) = true)
    (g i : Nat) (hx : a.eval x = .pointer (some ⟨g, i, none⟩)) (c : Array Value) (t : TypeId) (cs : Array Value) (hy : a.eval y = .agg cs) (hg : w.heap[g]? = some (.cells c t (0, 0))) (hc : Nat.ble (i + cs.size) c.size = true) (hi : (Try.prog.info? T).map (·.size) = some cs.size) (h1 : cs.all (·.oneCell') = true)
    {N : Nat} {w0 : World} (hB : Below N w0 w) (hN : N ≤ g)
    (h : ∀ w', w'.heap[g]? = some (.cells (upd c i cs.toList) t (0, 0)) → Below N w0 w' → (∀ k, k ≠ g → w'.heap[k]? = w.heap[k]?) → w'.heap.size = w.heap.size → wpList Try.prog ops Q rest (a.put o.dst undef) w') : wpList Try.prog ops Q (o :: rest) a w := by
  refine BigFrame.wpList_want hw fun K hK => ?_
  refine wp_store_mid T x y ho g i cs hx hy (there_of hg (Nat.le_of_ble_eq_true hc)) hi h1 ?_
  exact hK _ _ (h _ (heap_setCells g t cs.toList i w c hg) (below_setCells g hN _ _ _ hB) (fun k hk => setCells_other g _ _ _ k hk) (setCells_size g _ _ _))
/-- A struct of a block is loaded whole. -/
theorem ld_whole {ops : Array Oper} {rest : List Oper} {o : Oper} {a : Act} {w : World} {Q : Exit → Act → World → Prop} (T : TypeId) (x : Operand) (ho : o.op = .load T x) (hw : Region.wanted o (yielded ops a.tmps) = true)
    (g : Nat) (hx : a.eval x = .pointer (some ⟨g, 0, none⟩)) (cs : Array Value) (t : TypeId) (hg : w.heap[g]? = some (.cells cs t (0, 0))) {fs : Array Field} (hu : Try.prog.underlying T = some (.struct fs)) (hi : (Try.prog.info? T).map (·.size) = some cs.size)
    (h : wpList Try.prog ops Q rest (a.put o.dst (.agg cs)) w) : wpList Try.prog ops Q (o :: rest) a w :=
  BigFrame.wpList_want hw fun K hK => wp_load_row T x ho g hx _ cs (0, 0) _ hg hu rfl hi (hK _ _ h)
/-- The results of a function: a variable's struct, and a temporary. -/
theorem results_cell_tmp {P : Program} {fn : Func} {p q : Tmp} {ty : TypeId} (h : fn.results = #[.cell p ty, .tmp q]) (tmps : Array Value) (w : World) (g : Nat) (t : TypeId) (cs : Array Value) (fr : Nat × Nat) (d : TypeDesc)
    (hp : tmps.getD p undef = .pointer (some ⟨g, 0, none⟩)) (hg : w.heap[g]? = some (.cells cs t fr))
    (hu : P.underlying ty = some d) (hd : (match d with | .struct _ | .array _ _ => true | _ => false) = true) (hi : (P.info? ty).map (·.size) = some cs.size) (v : Value) (hv : tmps.getD q undef = v) :
    (results fn tmps).run P w = .ok (.tuple #[.agg cs, v]) w := by
  have hp' : tmps[p]?.getD undef = .pointer (some ⟨g, 0, none⟩) := by simpa using hp
  have hv' : tmps[q]?.getD undef = v := by simpa using hv
  simp [results, h, hp', hv', asAddr, run_loadVar_row w g t ty cs fr d hg hu hd hi]
theorem cell_at {w : World} {g : Nat} {t : TypeId} {cs : Array Value} (h : w.heap[g]? = some (.cells cs t (0, 0))) (i : Nat) {v : Value} (hv : cs[i]? = some v) : w.cell? ⟨g, i, none⟩ = some v := by simp [World.cell?, h, hv]
theorem free_at {w : World} {g : Nat} {t : TypeId} {cs : Array Value} (h : w.heap[g]? = some (.cells cs t (0, 0))) : ∀ i, w.frozen? ⟨g, i, none⟩ = false := fun i => by simp [World.frozen?, h]
end Go.Proofs.Ytgggcapgaikbeaa

/- What a message carries: the program's reading. -/
namespace Go.Proofs.Ytgggcapgaikbeaa
open Go.RowKit
set_option linter.unusedVariables false
set_option linter.unusedSimpArgs false
set_option maxRecDepth 100000
/-- What a packet carries, as it lies in memory. -/
abbrev ldC (p s d f t k : Int) (x6 x7 x8 x9 x10 x11 x12 x13 x14 x15 x16 x17 x18 : Value) (mt mc mr : Int) (a : Option Addr) (m c : Nat) : Array Value := #[.int .u8 p, .int .u32 s, .int .u32 d, .int .u16 f, .int .u16 t, .int .i64 k, x6, x7, x8, x9, x10, x11, x12, x13, x14, x15, x16, x17, x18, .int .u8 mt, .int .u8 mc, .int .u32 mr, .slice a m c]
def isErr (mt : Nat) : Bool := decide (mt = 3) || decide (mt = 11) || decide (mt = 12)
def msgFl (x : Fl) (mt mc mr : Nat) (ds : List Int) : Fl := if isErr mt then (tfl ds ds.length).turn else ⟨x.p, x.s, x.d, qfrom mt mc (mr / 65536), qto mt mc (mr / 65536)⟩
def msgKind (mt : Nat) : Int := if isErr mt then 3 else 2
def msgOk (mt mc : Nat) (ds : List Int) : Bool := if isErr mt then tok ds ds.length else qok mt mc
theorem told10_any (w : World) (a : Option Addr) (xs : List Int) (n cap : Nat) (hL : Lies w a xs n cap) (hl : xs.length = n) (hb : ∀ x ∈ xs, 0 ≤ x ∧ x ≤ 255) (hn : n ≤ 5000) :
    Calls Try.prog 82 #[.slice a n cap] w fun e w' => e = .returned (.tuple #[(tfl xs n).v, .bool (tok xs n)]) ∧ Below w.heap.size w w' := by
  unfold tok
  by_cases h : thead xs n = true
  · rw [h, Bool.true_and]; exact told_good w a xs n cap hL hl hb hn h
  · have h' : thead xs n = false := by simpa using h
    rw [h', Bool.false_and]
    unfold tfl
    rw [if_neg h]
    exact told_head w a xs n cap hL hl hb hn h'
theorem four_of {w : World} {R : Nat} {t : TypeId} {v0 v1 v2 v3 : Value} (h : w.heap[R]? = some (.cells #[v0, v1, v2, v3] t (0, 0))) : w.cell? ⟨R, 0, none⟩ = some v0 ∧ w.cell? ⟨R, 1, none⟩ = some v1 ∧ w.cell? ⟨R, 2, none⟩ = some v2 ∧ w.cell? ⟨R, 3, none⟩ = some v3 := by
  refine ⟨?_, ?_, ?_, ?_⟩ <;> simp [World.cell?, h]
theorem lies_gb {w w' : World} {a : Option Addr} {xs : List Int} {n cap E : Nat} (h : Lies w a xs n cap) (hg : w.grownBy w' (some E)) (hE : ∀ b, a = some b → b.block ≠ E) : Lies w' a xs n cap := ⟨row_gb h.row hg hE, h.no, h.le, h.max⟩
theorem gb_put {w w1 : World} {R : Nat} (h : w.grownBy w1 (some R)) (g i : Nat) (v : Value) (hg : g = R) : w.grownBy (w1.setCell ⟨g, i, none⟩ v) (some R) :=
  ⟨h.os, h.tape, h.output, by simpa using h.size, fun k hk hne => (heap_setCell_other _ _ _ _ (by rintro rfl; exact hne (by rw [hg]))).trans (h.block k hk hne)⟩
set_option maxHeartbeats 2000000 in
theorem readMsg_any (w : World) (LB : Nat) (x : Fl) (k : Int) (x6 x7 x8 x9 x10 x11 x12 x13 x14 x15 x16 x17 x18 : Value) (mt mc mr : Nat) (a : Option Addr) (ds : List Int) (m c : Nat)
    (h : w.heap[LB]? = some (.cells (ldC x.p x.s x.d x.f x.t k x6 x7 x8 x9 x10 x11 x12 x13 x14 x15 x16 x17 x18 mt mc mr a m c) 65 (0, 0))) (hL : Lies w a ds m c) (hl : ds.length = m) (hb : ∀ y ∈ ds, 0 ≤ y ∧ y ≤ 255) (hm : m ≤ 5000) (hmr : mr ≤ 4294967295) (hap : ∀ b, a = some b → b.block ≠ LB) {N : Nat} {w0 : World} (hB : Below N w0 w) (hN : N ≤ LB) :
    Calls Try.prog 54 #[.pointer (some ⟨LB, 0, none⟩)] w fun e w' => e = .returned (.bool (msgOk mt mc ds)) ∧
      w'.heap[LB]? = some (.cells (ldC (msgFl x mt mc mr ds).p (msgFl x mt mc mr ds).s (msgFl x mt mc mr ds).d (msgFl x mt mc mr ds).f (msgFl x mt mc mr ds).t (msgKind mt) x6 x7 x8 x9 x10 x11 x12 x13 x14 x15 x16 x17 x18 mt mc mr a m c) 65 (0, 0)) ∧ Below N w0 w' ∧ w.grownBy w' (some LB) := by
  have hLBl := lt_of_block h
  have HLN := hide hl
  have c19 : w.cell? ⟨LB, 19, none⟩ = some (.int .u8 (mt : Int)) := cell_at h 19 rfl
  have c20 : w.cell? ⟨LB, 20, none⟩ = some (.int .u8 (mc : Int)) := cell_at h 20 rfl
  have c21 : w.cell? ⟨LB, 21, none⟩ = some (.int .u32 (mr : Int)) := cell_at h 21 rfl
  have c22 : w.cell? ⟨LB, 22, none⟩ = some (.slice a m c) := cell_at h 22 rfl
  have hfr := free_at h
  have HT := hide (fun (W : World) (hW : w.grownBy W (some LB)) => told10_any W a ds m c (lies_gb hL hW hap) hl hb hm)
  obtain ⟨w1, hw1, HB1, hM, H1⟩ : ∃ w1, w.alloc (.cells #[.int .u8 (mt : Int), .int .u8 (mc : Int), .int .u32 (mr : Int), .slice a m c] 55) = w1 ∧ Below w.heap.size w w1 ∧ w1.heap[w.heap.size]? = some (.cells #[.int .u8 (mt : Int), .int .u8 (mc : Int), .int .u32 (mr : Int), .slice a m c] 55 (0, 0)) ∧ w1.heap.size = w.heap.size + 1 := ⟨_, rfl, (Below.refl _ _).alloc (Nat.le_refl _) _, heap_alloc_new _ _, by simp⟩
  obtain ⟨M, hMM⟩ : ∃ M, w.heap.size = M := ⟨_, rfl⟩
  have hlb1 := below_block HB1 h (Nat.le_refl _)
  have HB1' := hide HB1
  have HBN := hide (hB.trans (HB1.mono (by omega)))
  have HLB := hide hlb1
  have HM := hide (hMM ▸ hM : w1.heap[M]? = _)
  have hMLB : M ≠ LB := by omega
  have hLBM : LB ≠ M := by omega
  have HE := hide (And.intro hw1 hMM)
  clear hL hl hb h hw1 HB1 hM H1 hlb1 hMM hB
  by_cases he : isErr mt = true
  · have e1 : ((mt : Int) == 3) = true ∨ (((mt : Int) == 3) = false ∧ ((mt : Int) == 11) = true) ∨ (((mt : Int) == 3) = false ∧ ((mt : Int) == 11) = false ∧ ((mt : Int) == 12) = true) := by
      unfold isErr at he
      simp at he
      by_cases h3 : mt = 3
      · left; simp [h3]
      · by_cases h11 : mt = 11
        · right; left; simp [h11]
        · right; right; have h12 : mt = 12 := by omega
          simp [h12]
    have HK := hide (show msgOk mt mc ds = tok ds ds.length ∧ msgKind mt = 3 ∧ msgFl x mt mc mr ds = (tfl ds ds.length).turn by
      unfold msgOk msgKind msgFl; rw [if_pos he, if_pos he, if_pos he]; exact ⟨rfl, rfl, rfl⟩)
    clear he
    rw [HK.out.1, HK.out.2.1, HK.out.2.2]
    have htt := HT
    rw [HLN.out] at *
    obtain ⟨y, hy⟩ : ∃ y, tfl ds m = y := ⟨_, rfl⟩
    obtain ⟨O, hO⟩ : ∃ y, tok ds m = y := ⟨_, rfl⟩
    rw [hy, hO] at HT ⊢
    obtain ⟨yp, ys, yd, yf, yt⟩ := y
    obtain ⟨xp, xs, xd, xf, xt⟩ := x
    have HTU := hide (fun V : World => turnP_any ⟨yp, ys, yd, yf, yt⟩ V)
    unfold Fl.turn at *
    unfold Fl.v at *
    dsimp only at *
    clear hy hO htt HK
    rcases e1 with e3 | ⟨e3, e11⟩ | ⟨e3, e11, e12⟩
    all_goals
      go_enter Try.func54, Try.ntmps54
      go_upto_region 2 with (fail)
      rw [HE.out.1, HE.out.2]
      clear HE c19 c20 c21 c22 hfr
      obtain ⟨m0, m1, m2, m3⟩ := four_of HM.out
      have b5 : w1.cell? ⟨LB, 5, none⟩ = some (.int .i64 k) := cell_at HLB.out 5 rfl
      have bf := free_at HLB.out
      obtain ⟨w2, hw2, HL2, HM2, HB2, HG2⟩ : ∃ wt, w1.setCell ⟨LB, 5, none⟩ (.int .i64 3) = wt ∧ Hid (wt.heap[LB]? = some (.cells (ldC xp xs xd xf xt 3 x6 x7 x8 x9 x10 x11 x12 x13 x14 x15 x16 x17 x18 mt mc mr a m c) 65 (0, 0))) ∧ Hid (wt.heap[M]? = some (.cells #[.int .u8 (mt : Int), .int .u8 (mc : Int), .int .u32 (mr : Int), .slice a m c] 55 (0, 0))) ∧ Hid (Below N w0 wt) ∧ Hid (w.grownBy wt (some LB)) :=
        ⟨_, rfl, hide (heap_setCell_same w1 LB 5 _ _ _ HLB.out), hide ((heap_setCell_other _ _ _ _ hMLB).trans HM.out), hide (HBN.out.setCell (p := ⟨LB, 5, none⟩) hN _), hide (gb_put (gb_of_below HB1'.out) LB 5 _ rfl)⟩
      go_upto_region 9 with (fail)
      try rw [hw2]
      clear hw2 m0 m1 m2 m3 b5 bf
      obtain ⟨m0, m1, m2, m3⟩ := four_of HM2.out
      go_wp2_with fail
      refine (HT.out _ HG2.out).mono ?_
      rintro e w3 ⟨rfl, b3⟩
      have hs3 := b3.size
      have HL3 := hide (below_block b3 HL2.out (Nat.le_refl _))
      have HM3 := hide (below_block b3 HM2.out (Nat.le_refl _))
      have hN2 : N ≤ w2.heap.size := by have := lt_of_block HL2.out; omega
      have HB3 := hide (HB2.out.trans (b3.mono hN2))
      have HG3 := hide (gb_trans HG2.out (gb_of_below b3))
      clear b3 HL2 HM2 HB2 HG2 m0 m1 m2 m3
      have q0 : w3.cell? ⟨LB, 0, none⟩ = some (.int .u8 (xp : Int)) := cell_at HL3.out 0 rfl
      have q1 : w3.cell? ⟨LB, 1, none⟩ = some (.int .u32 (xs : Int)) := cell_at HL3.out 1 rfl
      have q2 : w3.cell? ⟨LB, 2, none⟩ = some (.int .u32 (xd : Int)) := cell_at HL3.out 2 rfl
      have q3 : w3.cell? ⟨LB, 3, none⟩ = some (.int .u16 (xf : Int)) := cell_at HL3.out 3 rfl
      have q4 : w3.cell? ⟨LB, 4, none⟩ = some (.int .u16 (xt : Int)) := cell_at HL3.out 4 rfl
      have qf := free_at HL3.out
      have hs0 := heap_setCell_same w3 LB 0 _ _ (.int .u8 (yp : Int)) HL3.out
      have hs1 := heap_setCell_same _ LB 1 _ _ (.int .u32 (ys : Int)) hs0
      have hs2 := heap_setCell_same _ LB 2 _ _ (.int .u32 (yd : Int)) hs1
      have hs3' := heap_setCell_same _ LB 3 _ _ (.int .u16 (yf : Int)) hs2
      have hs4 := heap_setCell_same _ LB 4 _ _ (.int .u16 (yt : Int)) hs3'
      obtain ⟨w4, hw4, HL4, HB4, HG4⟩ : ∃ wt, ((((w3.setCell ⟨LB, 0, none⟩ (.int .u8 (yp : Int))).setCell ⟨LB, 1, none⟩ (.int .u32 (ys : Int))).setCell ⟨LB, 2, none⟩ (.int .u32 (yd : Int))).setCell ⟨LB, 3, none⟩ (.int .u16 (yf : Int))).setCell ⟨LB, 4, none⟩ (.int .u16 (yt : Int)) = wt ∧ Hid (wt.heap[LB]? = some (.cells (ldC yp ys yd yf yt 3 x6 x7 x8 x9 x10 x11 x12 x13 x14 x15 x16 x17 x18 mt mc mr a m c) 65 (0, 0))) ∧ Hid (Below N w0 wt) ∧ Hid (w.grownBy wt (some LB)) :=
        ⟨_, rfl, hide hs4, hide (below5 HB3.out hN _ _ _ _ _), hide (gb_put (gb_put (gb_put (gb_put (gb_put HG3.out LB 0 _ rfl) LB 1 _ rfl) LB 2 _ rfl) LB 3 _ rfl) LB 4 _ rfl)⟩
      clear hs0 hs1 hs2 hs3' hs4
      go_upto_region 10 with (fail)
      try rw [hw4]
      clear hw4 q0 q1 q2 q3 q4 qf HL3 HB3 HG3 HM3 hs3
      have q0 : w4.cell? ⟨LB, 0, none⟩ = some (.int .u8 (yp : Int)) := cell_at HL4.out 0 rfl
      have q1 : w4.cell? ⟨LB, 1, none⟩ = some (.int .u32 (ys : Int)) := cell_at HL4.out 1 rfl
      have q2 : w4.cell? ⟨LB, 2, none⟩ = some (.int .u32 (yd : Int)) := cell_at HL4.out 2 rfl
      have q3 : w4.cell? ⟨LB, 3, none⟩ = some (.int .u16 (yf : Int)) := cell_at HL4.out 3 rfl
      have q4 : w4.cell? ⟨LB, 4, none⟩ = some (.int .u16 (yt : Int)) := cell_at HL4.out 4 rfl
      go_wp2_with fail
      refine (HTU.out _).mono ?_
      rintro e w5 ⟨rfl, b5⟩
      have HL5 := hide (below_block b5 HL4.out (Nat.le_refl _))
      have hN4 : N ≤ w4.heap.size := by have := lt_of_block HL4.out; omega
      have HB5 := hide (HB4.out.trans (b5.mono hN4))
      have HG5 := hide (gb_trans HG4.out (gb_of_below b5))
      clear b5 HL4 HB4 HG4 q0 q1 q2 q3 q4
      have q0 : w5.cell? ⟨LB, 0, none⟩ = some (.int .u8 (yp : Int)) := cell_at HL5.out 0 rfl
      have q1 : w5.cell? ⟨LB, 1, none⟩ = some (.int .u32 (ys : Int)) := cell_at HL5.out 1 rfl
      have q2 : w5.cell? ⟨LB, 2, none⟩ = some (.int .u32 (yd : Int)) := cell_at HL5.out 2 rfl
      have q3 : w5.cell? ⟨LB, 3, none⟩ = some (.int .u16 (yf : Int)) := cell_at HL5.out 3 rfl
      have q4 : w5.cell? ⟨LB, 4, none⟩ = some (.int .u16 (yt : Int)) := cell_at HL5.out 4 rfl
      have qf := free_at HL5.out
      have hs0 := heap_setCell_same w5 LB 0 _ _ (.int .u8 (yp : Int)) HL5.out
      have hs1 := heap_setCell_same _ LB 1 _ _ (.int .u32 (yd : Int)) hs0
      have hs2 := heap_setCell_same _ LB 2 _ _ (.int .u32 (ys : Int)) hs1
      have hs3' := heap_setCell_same _ LB 3 _ _ (.int .u16 (yt : Int)) hs2
      have hs4 := heap_setCell_same _ LB 4 _ _ (.int .u16 (yf : Int)) hs3'
      have HEND := hide (And.intro hs4 (And.intro (below5 HB5.out hN (.int .u8 (yp : Int)) (.int .u32 (yd : Int)) (.int .u32 (ys : Int)) (.int .u16 (yt : Int)) (.int .u16 (yf : Int))) (gb_put (gb_put (gb_put (gb_put (gb_put HG5.out LB 0 (.int .u8 (yp : Int)) rfl) LB 1 (.int .u32 (yd : Int)) rfl) LB 2 (.int .u32 (ys : Int)) rfl) LB 3 (.int .u16 (yt : Int)) rfl) LB 4 (.int .u16 (yf : Int)) rfl)))
      clear hs0 hs1 hs2 hs3' hs4 HL5 HB5 HG5
      go_wp2_with fail
      go_ret
      exact ⟨rfl, HEND.out.1, HEND.out.2.1, HEND.out.2.2⟩
  · have e3 : ((mt : Int) == 3) = false ∧ ((mt : Int) == 11) = false ∧ ((mt : Int) == 12) = false := by
      unfold isErr at he
      simp at he
      refine ⟨by simp; omega, by simp; omega, by simp; omega⟩
    obtain ⟨e3, e11, e12⟩ := e3
    have HK := hide (show msgOk mt mc ds = qok mt mc ∧ msgKind mt = 2 ∧ msgFl x mt mc mr ds = ⟨x.p, x.s, x.d, qfrom mt mc (mr / 65536), qto mt mc (mr / 65536)⟩ by
      unfold msgOk msgKind msgFl; rw [if_neg he, if_neg he, if_neg he]; exact ⟨rfl, rfl, rfl⟩)
    clear he
    rw [HK.out.1, HK.out.2.1, HK.out.2.2]
    obtain ⟨id, hid⟩ : ∃ id, mr / 65536 = id := ⟨_, rfl⟩
    have hid2 : (mr : Int) / 65536 = (id : Int) := by omega
    have hidl : id ≤ 65535 := by omega
    rw [hid]
    obtain ⟨xp, xs, xd, xf, xt⟩ := x
    dsimp only at *
    have HQ := hide (fun V : World => query_any mt mc id V)
    obtain ⟨F, hF⟩ : ∃ v, qfrom mt mc id = v := ⟨_, rfl⟩
    obtain ⟨T, hT⟩ : ∃ v, qto mt mc id = v := ⟨_, rfl⟩
    obtain ⟨O, hO⟩ : ∃ v, qok mt mc = v := ⟨_, rfl⟩
    rw [hF, hT, hO] at HQ ⊢
    clear HK hid hF hT hO HT
    go_enter Try.func54, Try.ntmps54
    go_upto_region 2 with (fail)
    rw [HE.out.1, HE.out.2]
    clear HE c19 c20 c21 c22 hfr
    obtain ⟨m0, m1, m2, m3⟩ := four_of HM.out
    have b5 : w1.cell? ⟨LB, 5, none⟩ = some (.int .i64 k) := cell_at HLB.out 5 rfl
    have bf := free_at HLB.out
    obtain ⟨w2, hw2, HL2, HM2, HB2, HG2⟩ : ∃ wt, w1.setCell ⟨LB, 5, none⟩ (.int .i64 2) = wt ∧ Hid (wt.heap[LB]? = some (.cells (ldC xp xs xd xf xt 2 x6 x7 x8 x9 x10 x11 x12 x13 x14 x15 x16 x17 x18 mt mc mr a m c) 65 (0, 0))) ∧ Hid (wt.heap[M]? = some (.cells #[.int .u8 (mt : Int), .int .u8 (mc : Int), .int .u32 (mr : Int), .slice a m c] 55 (0, 0))) ∧ Hid (Below N w0 wt) ∧ Hid (w.grownBy wt (some LB)) :=
      ⟨_, rfl, hide (heap_setCell_same w1 LB 5 _ _ _ HLB.out), hide ((heap_setCell_other _ _ _ _ hMLB).trans HM.out), hide (HBN.out.setCell (p := ⟨LB, 5, none⟩) hN _), hide (gb_put (gb_of_below HB1'.out) LB 5 _ rfl)⟩
    go_upto_region 4 with (fail)
    try rw [hw2]
    clear hw2 m0 m1 m2 m3 b5 bf
    obtain ⟨m0, m1, m2, m3⟩ := four_of HM2.out
    have q3 : w2.cell? ⟨LB, 3, none⟩ = some (.int .u16 (xf : Int)) := cell_at HL2.out 3 rfl
    have q4 : w2.cell? ⟨LB, 4, none⟩ = some (.int .u16 (xt : Int)) := cell_at HL2.out 4 rfl
    have qf := free_at HL2.out
    have hs3 := heap_setCell_same w2 LB 3 _ _ (.int .u16 (F : Int)) HL2.out
    have hs4 := heap_setCell_same _ LB 4 _ _ (.int .u16 (T : Int)) hs3
    have HEND := hide (And.intro hs4 (And.intro ((HB2.out.setCell (p := ⟨LB, 3, none⟩) hN (.int .u16 (F : Int))).setCell (p := ⟨LB, 4, none⟩) hN (.int .u16 (T : Int))) (gb_put (gb_put HG2.out LB 3 (.int .u16 (F : Int)) rfl) LB 4 (.int .u16 (T : Int)) rfl)))
    clear hs3 hs4 HL2 HB2 HG2 HM2
    go_wp2_with fail
    refine (HQ.out _).mono ?_
    rintro e w5 ⟨rfl, rfl⟩
    go_wp2_with fail
    go_ret
    exact ⟨rfl, HEND.out.1, HEND.out.2.1, HEND.out.2.2⟩
end Go.Proofs.Ytgggcapgaikbeaa
