/- Join, Sum and Right over the slice that a call's own operands make; the small functions of trans: pseudo, lay, half, fit, told. -/
import Derived.Test.YtgggcapgaikbeaaPk02
import Derived.Test.YtgggcapgaikbeaaPk01
import Derived.Deep.RegionHeld3
namespace Go.Proofs.Ytgggcapgaikbeaa
open Go.RowKit
set_option linter.unusedVariables false
set_option linter.unusedSimpArgs false
set_option maxRecDepth 100000

theorem bcell {B : Nat} {W w1 : World} (hb : Below B W w1) : ∀ b o, b < B → w1.cell? ⟨b, o, none⟩ = W.cell? ⟨b, o, none⟩ := fun b o h => hb.cell (p := ⟨b, o, none⟩) h
/-- The rows of the operands. -/
def Rows (w : World) (L : List Part) : Prop := ∀ p ∈ L, Row .u8 w p.1 p.2.1 ∧ (p.1 = none → p.2.2 = 0)
theorem rows_nil (w : World) : Rows w [] := by intro p hp; simp at hp
theorem rows_cons {w : World} {a : Option Addr} {xs : List Int} {c : Nat} {L : List Part} (h : Row .u8 w a xs) (hn : a = none → c = 0) (hL : Rows w L) : Rows w ((a, xs, c) :: L) := by
  intro p hp
  simp only [List.mem_cons] at hp
  rcases hp with rfl | hp
  · exact ⟨h, hn⟩
  · exact hL p hp
theorem rows_some {w : World} {a : Addr} {xs : List Int} {c : Nat} {L : List Part} (h : Row .u8 w (some a) xs) (hL : Rows w L) : Rows w ((some a, xs, c) :: L) := rows_cons h (fun h => by cases h) hL
theorem parts_new (w1 : World) (L : List Part) (cells : Array Value) (T : TypeId) (hc : cells = (L.map Part.v).toArray) (hrows : Rows w1 L) :
    Parts (w1.alloc (.cells cells T)) (some ⟨w1.heap.size, 0, none⟩) L := by
  subst hc
  have hb : Below w1.heap.size w1 (w1.alloc (.cells (L.map Part.v).toArray T)) := (Below.refl _ _).alloc (Nat.le_refl _) _
  refine ⟨fun _ => ⟨_, 0, rfl, by simp, fun i p hi => ?_⟩, fun p hp => ⟨(hrows p hp).1.below hb (Nat.le_refl _), (hrows p hp).2⟩⟩
  rw [World.cell?_alloc_at _ _ _ _ rfl]
  simp [hi]
theorem joinL (w1 : World) (L : List Part) (cells : Array Value) (k n H : Nat) (hH : w1.heap.size = H) (hk : L.length = k) (hc : cells = (L.map Part.v).toArray) (hrows : Rows w1 L) (hn : (flat L).length = n) (hlen : n ≤ 1099511627776) (hk2 : k ≤ 100) :
    Calls Try.prog 73 #[.slice (some ⟨H, 0, none⟩) k k] (w1.alloc (.cells cells 25)) fun e w' => ∃ a' c', e = .returned (.slice a' n c') ∧
      w'.ownsRow w1.heap.size 5 1 (.slice a' n c') n ((flat L).map (Value.int .u8)) ∧ Below w1.heap.size w1 w' := by
  subst hH; subst hk; subst hn
  have hb : Below w1.heap.size w1 (w1.alloc (.cells cells 25)) := (Below.refl _ _).alloc (Nat.le_refl _) _
  refine (join_any (some ⟨w1.heap.size, 0, none⟩) L L.length _ (parts_new w1 L cells _ hc hrows) hlen (by omega)).mono ?_
  rintro e w' ⟨a', c', rfl, hown, hbel⟩
  exact ⟨a', c', rfl, owns_mono hown hb.size, hb.trans (hbel.mono hb.size)⟩
theorem sumL (w1 : World) (L : List Part) (cells : Array Value) (k H : Nat) (hH : w1.heap.size = H) (hk : L.length = k) (hc : cells = (L.map Part.v).toArray) (hrows : Rows w1 L) (hlen : (flat L).length < 1000000000) (hb : ∀ x ∈ flat L, 0 ≤ x ∧ x ≤ 255) (hk2 : k ≤ 100) :
    Calls Try.prog 75 #[.slice (some ⟨H, 0, none⟩) k k] (w1.alloc (.cells cells 25)) fun e w' => e = .returned (.int .u16 (csum (flat L))) ∧ Below w1.heap.size w1 w' := by
  subst hH; subst hk
  have hbb : Below w1.heap.size w1 (w1.alloc (.cells cells 25)) := (Below.refl _ _).alloc (Nat.le_refl _) _
  refine (sum_any (some ⟨w1.heap.size, 0, none⟩) L L.length _ (parts_new w1 L cells _ hc hrows) hlen (by omega) hb).mono ?_
  rintro e w' ⟨rfl, hbel⟩
  exact ⟨rfl, hbb.trans (hbel.mono hbb.size)⟩
theorem rightL (w1 : World) (L : List Part) (cells : Array Value) (k H : Nat) (hH : w1.heap.size = H) (hk : L.length = k) (hc : cells = (L.map Part.v).toArray) (hrows : Rows w1 L) (hlen : (flat L).length < 1000000000) (hb : ∀ x ∈ flat L, 0 ≤ x ∧ x ≤ 255) (hk2 : k ≤ 100) :
    Calls Try.prog 67 #[.slice (some ⟨H, 0, none⟩) k k] (w1.alloc (.cells cells 25)) fun e w' => e = .returned (.bool (csum (flat L) == 0)) ∧ Below w1.heap.size w1 w' := by
  subst hH; subst hk
  have hbb : Below w1.heap.size w1 (w1.alloc (.cells cells 25)) := (Below.refl _ _).alloc (Nat.le_refl _) _
  refine (right_any (some ⟨w1.heap.size, 0, none⟩) L L.length _ (parts_new w1 L cells _ hc hrows) hlen (by omega) hb).mono ?_
  rintro e w' ⟨rfl, hbel⟩
  exact ⟨rfl, hbb.trans (hbel.mono hbb.size)⟩
theorem num2_any (n : Nat) (w : World) (hn : n < 18446744073709551616) :
    Calls Try.prog 74 #[.int .i64 2, .int .u64 n] w fun e w' => e = .returned (.slice (some ⟨w.heap.size, 0, none⟩) 2 2) ∧
      w'.ownsRow w.heap.size 5 1 (.slice (some ⟨w.heap.size, 0, none⟩) 2 2) 2 ((numB 2 n).map (Value.int .u8)) ∧ Below w.heap.size w w' := num_any 2 n w hn
theorem num4_any (n : Nat) (w : World) (hn : n < 18446744073709551616) :
    Calls Try.prog 74 #[.int .i64 4, .int .u64 n] w fun e w' => e = .returned (.slice (some ⟨w.heap.size, 0, none⟩) 4 4) ∧
      w'.ownsRow w.heap.size 5 1 (.slice (some ⟨w.heap.size, 0, none⟩) 4 4) 4 ((numB 4 n).map (Value.int .u8)) ∧ Below w.heap.size w w' := num_any 4 n w hn

/-- The pseudo head. -/
def psB (src dst proto size : Nat) : List Int := numB 4 src ++ (numB 4 dst ++ ([0, (proto : Int)] ++ numB 2 size))
theorem psB_len (s d p n : Nat) : (psB s d p n).length = 12 := by simp [psB, numB_len]
theorem psB_rng (s d p n : Nat) (hp : p ≤ 255) : ∀ x ∈ psB s d p n, 0 ≤ x ∧ x ≤ 255 := by
  intro x hx
  simp only [psB, List.mem_append, List.mem_cons, List.not_mem_nil, or_false] at hx
  rcases hx with h | h | (h | h) | h
  · exact numB_rng _ _ x h
  · exact numB_rng _ _ x h
  · omega
  · omega
  · exact numB_rng _ _ x h

set_option maxHeartbeats 800000 in
theorem pseudo_any (src dst proto size : Nat) (w : World) (h1 : src ≤ 4294967295) (h2 : dst ≤ 4294967295) (h3 : proto ≤ 255) (h4 : size ≤ 1000000) :
    Calls Try.prog 81 #[.int .u32 src, .int .u32 dst, .int .u8 proto, .int .i64 size] w fun e w' => ∃ a c, e = .returned (.slice a 12 c) ∧
      w'.ownsRow w.heap.size 5 1 (.slice a 12 c) 12 ((psB src dst proto size).map (Value.int .u8)) ∧ Below w.heap.size w w' := by
  have hc1 : IntKind.u64.wrap (src : Int) = (src : Int) := wraps_u64 _ (by omega) (by omega)
  have hc2 : IntKind.u64.wrap (dst : Int) = (dst : Int) := wraps_u64 _ (by omega) (by omega)
  have hc3 : IntKind.u64.wrap (size : Int) = (size : Int) := wraps_u64 _ (by omega) (by omega)
  go_enter Try.func81, Try.ntmps81
  go_wp2_with fail
  refine (num4_any src w (by omega)).mono ?_
  rintro e w1 ⟨rfl, o1, b1⟩
  have O1 := hide (Row.of_owns o1); clear o1
  go_wp2_with fail
  refine (num4_any dst w1 (by omega)).mono ?_
  rintro e w2 ⟨rfl, o2, b2⟩
  have O1' := hide (O1.out.below b2 (Nat.le_refl _))
  have O2 := hide (Row.of_owns o2); clear o2
  have B2 := hide (b1.trans (b2.mono b1.size))
  clear b1 b2
  go_wp2_with fail
  obtain ⟨wq, hq, hbq, O3⟩ : ∃ wq, w2.alloc (.cells #[.int .u8 0, .int .u8 (proto : Int)] 5) = wq ∧ Below w2.heap.size w2 wq ∧ Hid (Row .u8 wq (some ⟨w2.heap.size, 0, none⟩) [0, (proto : Int)]) :=
    ⟨_, rfl, (Below.refl _ _).alloc (Nat.le_refl _) _, hide (Row.of_owns (base := w2.heap.size) (e := 5) (n := 2) (cap := 2) (World.ownsRow_lit w2 #[.int .u8 0, .int .u8 (proto : Int)] 2 (Nat.le_refl _) (by unfold maxLen; omega) rfl))⟩
  rw [hq]
  clear hq
  have O1q := hide (O1'.out.below hbq (Nat.le_refl _))
  have O2q := hide (O2.out.below hbq (Nat.le_refl _))
  have BQ := hide (B2.out.trans (hbq.mono B2.out.size))
  clear hbq
  refine (num2_any size wq (by omega)).mono ?_
  rintro e w3 ⟨rfl, o4, b4⟩
  have O4 := hide (Row.of_owns o4); clear o4
  have O1z := hide (O1q.out.below b4 (Nat.le_refl _))
  have O2z := hide (O2q.out.below b4 (Nat.le_refl _))
  have O3z := hide (O3.out.below b4 (Nat.le_refl _))
  have B4 := hide (BQ.out.trans (b4.mono BQ.out.size))
  clear b4
  go_wp2_with fail
  with_reducible refine (joinL w3 [(some ⟨w.heap.size, 0, none⟩, numB 4 src, 4), (some ⟨w1.heap.size, 0, none⟩, numB 4 dst, 4), (some ⟨w2.heap.size, 0, none⟩, [0, (proto : Int)], 2), (some ⟨wq.heap.size, 0, none⟩, numB 2 size, 2)] _ 4 12 _ ?_ ?_ ?_ ?_ ?_ ?_ ?_).mono ?_
  · rfl
  · rfl
  · simp [Part.v, numB_len]
  · exact rows_some O1z.out (rows_some O2z.out (rows_some O3z.out (rows_some O4.out (rows_nil _))))
  · simp [flat, numB_len]
  · omega
  · omega
  rintro e w4 ⟨a, c, rfl, o5, b5⟩
  have B5 := hide (B4.out.trans (b5.mono B4.out.size))
  have O5 := hide (owns_mono o5 B4.out.size)
  clear b5 o5
  go_wp2
  go_ret
  have hO := O5.out
  rw [show flat [(some ⟨w.heap.size, 0, none⟩, numB 4 src, 4), (some ⟨w1.heap.size, 0, none⟩, numB 4 dst, 4), (some ⟨w2.heap.size, 0, none⟩, [0, (proto : Int)], 2), (some ⟨wq.heap.size, 0, none⟩, numB 2 size, 2)] = psB src dst proto size by simp [flat, psB]] at hO
  exact ⟨a, c, rfl, hO, B5.out⟩

theorem fit_short (n h : Nat) (w : World) (h1 : n < h) : Calls Try.prog 66 #[.int .i64 n, .int .i64 h] w fun e w' => e = .returned (.int .i64 10) ∧ w = w' := by
  go_enter Try.func66, Try.ntmps66
  go_wp2
  go_ret
  exact ⟨rfl, rfl⟩
theorem fit_long (n h : Nat) (w : World) (h1 : h ≤ n) (h2 : 1480 < n) : Calls Try.prog 66 #[.int .i64 n, .int .i64 h] w fun e w' => e = .returned (.int .i64 14) ∧ w = w' := by
  go_enter Try.func66, Try.ntmps66
  go_wp2
  go_ret
  exact ⟨rfl, rfl⟩
theorem fit_ok (n h : Nat) (w : World) (h1 : h ≤ n) (h2 : n ≤ 1480) : Calls Try.prog 66 #[.int .i64 n, .int .i64 h] w fun e w' => e = .returned (.int .i64 0) ∧ w = w' := by
  go_enter Try.func66, Try.ntmps66
  go_wp2
  go_ret
  exact ⟨rfl, rfl⟩
/-- A datagram's check sum as it is told. -/
def toldI (n : Int) : Int := if n = 0 then 65535 else n
theorem told_any (n : Int) (w : World) (h0 : 0 ≤ n) (h1 : n ≤ 65535) : Calls Try.prog 90 #[.int .u16 n] w fun e w' => e = .returned (.int .u16 (toldI n)) ∧ w = w' := by
  by_cases h : n = 0
  · subst h
    go_enter Try.func90, Try.ntmps90
    go_wp2
    go_ret
    exact ⟨rfl, rfl⟩
  · have hb : (n == 0) = false := by simpa using h
    have H := hide h
    clear h
    go_enter Try.func90, Try.ntmps90
    go_wp2
    go_ret
    exact ⟨by rw [toldI, if_neg H.out]; rfl, rfl⟩

theorem eyeNum_ok (E B : Nat) (rest : List Int) (k : Nat) (w : World) (h : EyeAt w E B rest false) (hb : ∀ x ∈ rest, 0 ≤ x ∧ x ≤ 255) (hl : rest.length ≤ 1099511627776) (hk : k ≤ 8) (hk2 : k ≤ rest.length) :
    Calls Try.prog 69 #[.pointer (some ⟨E, 0, none⟩), .int .i64 k] w fun e w' => e = .returned (.int .u64 (valB (rest.take k))) ∧ EyeAt w' E B (rest.drop k) false ∧ w.grownBy w' (some E) := by
  have h1 := eyeNum_any E B rest false k w h hb hl
  have hs : sz (k : Int) = k := by unfold sz; omega
  rw [hs, if_pos hk2, if_pos hk2, show decide (rest.length < k) = false by simp; omega] at h1
  exact h1
theorem half_any (E B : Nat) (rest : List Int) (w : World) (h : EyeAt w E B rest false) (hb : ∀ x ∈ rest, 0 ≤ x ∧ x ≤ 255) (hl : rest.length ≤ 1099511627776) (h2 : 2 ≤ rest.length) :
    Calls Try.prog 70 #[.pointer (some ⟨E, 0, none⟩)] w fun e w' => e = .returned (.int .u16 (valB (rest.take 2))) ∧ EyeAt w' E B (rest.drop 2) false ∧ w.grownBy w' (some E) := by
  have h1 := eyeNum_ok E B rest 2 w h hb hl (by omega) h2
  have hr := valB_rng rest hb 2
  generalize valB (rest.take 2) = v at *
  have hv0 := hr.1
  have hv1 : v ≤ 65535 := by have := hr.2; omega
  have hw : IntKind.u16.wrap v = v := wraps_u16 _ (by omega) (by omega)
  have H1 := hide h1
  clear h1 h hb hr
  go_enter Try.func70, Try.ntmps70
  go_wp2_with fail
  refine H1.out.mono ?_
  rintro e w1 ⟨rfl, he, hg⟩
  have HE := hide he
  have HG := hide hg
  clear he hg
  go_wp2
  go_ret
  exact ⟨rfl, HE.out, HG.out⟩
end Go.Proofs.Ytgggcapgaikbeaa

/- What trans.lay does: it puts a number of two bytes into its place. -/
namespace Go.Proofs.Ytgggcapgaikbeaa
open Go.RowKit
set_option linter.unusedVariables false
set_option linter.unusedSimpArgs false
set_option maxRecDepth 100000

theorem below_of_drew {B : Nat} {w w' : World} (h : Below B w.drew w') : Below B w w' := ((Below.refl _ w).drew).trans h
set_option maxHeartbeats 800000 in
theorem lay_any (base n c at' : Nat) (a : Option Addr) (xs : List Int) (v : Nat) (w : World) (hown : w.ownsRow base 5 1 (.slice a n c) n (xs.map (Value.int .u8))) (hbs : base ≤ w.heap.size) (hat : at' + 2 ≤ n) (hn : n ≤ 1000000) (hv : v ≤ 65535) :
    Calls Try.prog 89 #[.slice a n c, .int .i64 at', .int .u16 v] w fun e w' => e = .returned (.tuple #[]) ∧
      w'.ownsRow base 5 1 (.slice a n c) n ((spl xs at' (numB 2 v)).map (Value.int .u8)) ∧ Below base w w' := by
  obtain ⟨g, rfl, hgb, hgc, hcm⟩ : ∃ g, a = some ⟨g, 0, none⟩ ∧ base ≤ g ∧ n ≤ c ∧ c ≤ 9223372036854775807 := by
    rcases hown.2 with ⟨_, h0⟩ | ⟨g, c', cur, hv, hg, _, h3, h4, _⟩
    · omega
    · obtain ⟨rfl, rfl⟩ : a = some ⟨g, 0, none⟩ ∧ c = c' := by simpa using hv
      exact ⟨g, rfl, hg, h3, by unfold maxLen at h4; omega⟩
  have hsl := slice_tail_run g n c at' (at' : Int) rfl (by omega) (by omega)
  have hcw : IntKind.u64.wrap (v : Int) = (v : Int) := wraps_u64 _ (by omega) (by omega)
  have hcopy : ∀ (w3 : World), Below w.heap.size w w3 → Row .u8 w3 (some ⟨w.heap.size, 0, none⟩) (numB 2 v) → ∃ w', (Builtin.copy_ #[25, 25] 3 #[.slice (some ⟨g, at', none⟩) (n - at') (c - at'), .slice (some ⟨w.heap.size, 0, none⟩) 2 2]).run Try.prog w3 = .ok (.int .i64 2) w' ∧
      Hid (w'.ownsRow base 5 1 (.slice (some ⟨g, 0, none⟩) n c) n ((spl xs at' (numB 2 v)).map (Value.int .u8)) ∧ Below base w w') := fun w3 hb hr => by
    obtain ⟨w4, h1, h2, h3⟩ := copy2_run w3 base g n c at' (n - at') (c - at') xs (numB 2 v) ⟨w.heap.size, 0, none⟩ 2 3 (owns_below hown hb (Nat.le_refl _)) hr (numB_len _ _) (by omega) (by omega)
    exact ⟨w4, h1, h2, (hb.mono hbs).grown h3 (Nat.le_trans hbs hb.size) (fun k e => by cases e; exact hgb)⟩
  have HCP := hide hcopy
  have HN := hide (num2_any v w.drew (by omega))
  clear hcopy hown
  go_enter Try.func89, Try.ntmps89
  go_wp2_with fail
  go_region_law (first | (refine step_copy_run rfl (.tmp 8) (.tmp 11) 25 25 rfl _ _ rfl rfl _ _ hrn.out ?_) | (go_simp; go_at_call 74; (with_reducible refine HN.out.mono ?_); rintro e w3 ⟨rfl, o3, hbel3⟩; have hbx : Below w.heap.size w w3 := below_of_drew hbel3; have hrx : Row .u8 w3 (some ⟨w.heap.size, 0, none⟩) (numB 2 v) := Row.of_owns o3; obtain ⟨w4, hrun, H4⟩ := HCP.out w3 hbx hrx; clear hrx; clear hbx; have hrn := hide hrun; clear o3 hbel3 hrun))
  all_goals
    go_end0
    exact ⟨rfl, H4.out.1, H4.out.2⟩
end Go.Proofs.Ytgggcapgaikbeaa
