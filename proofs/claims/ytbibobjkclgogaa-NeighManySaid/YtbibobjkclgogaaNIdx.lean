/- The first packet of which a test says so. -/
import Derived.Test.YtbibobjkclgogaaNHld
import Derived.Shelf.Abstract
import Derived.Deep.LoopGhost
namespace Go.Proofs.Ytbibobjkclgogaa
open Go.RowKit Go.Deep Go.Shelf
set_option linter.unusedVariables false
set_option linter.unusedSimpArgs false
set_option maxRecDepth 100000
def hv (x : HV) : Value := .agg #[.int .u8 x.t, .int .u8 x.p, .int .u16 x.i, .int .u32 x.s, .int .u32 x.d, .slice x.a x.n x.c, .int .u64 x.e]
def idxH (p : HV → Bool) (H : List HV) : Int := match H.findIdx? p with
  | some k => (k : Int)
  | none => -1
theorem idxH_hit {p : HV → Bool} {H : List HV} {k : Nat} (hk : k < H.length) (h : p H[k] = true) (hb : ∀ j (hj : j < H.length), j < k → p H[j] = false) : idxH p H = (k : Int) := by
  have : H.findIdx? p = some k := List.findIdx?_eq_some_iff_getElem.2 ⟨hk, h, fun j hj => by rw [hb j (by omega) hj]; decide⟩
  unfold idxH; rw [this]
theorem idxH_miss {p : HV → Bool} {H : List HV} (hb : ∀ j (hj : j < H.length), p H[j] = false) : idxH p H = -1 := by
  have : H.findIdx? p = none := List.findIdx?_eq_none_iff.2 fun x hx => by
    obtain ⟨i, hi, rfl⟩ := List.mem_iff_getElem.1 hx
    exact hb i hi
  unfold idxH; rw [this]
theorem idxH_cases (p : HV → Bool) (H : List HV) : (idxH p H = -1 ∧ ∀ j (hj : j < H.length), p H[j] = false) ∨ ∃ k, ∃ hk : k < H.length, idxH p H = (k : Int) ∧ p H[k] = true ∧ ∀ j (hj : j < H.length), j < k → p H[j] = false := by
  cases h : H.findIdx? p with
  | none =>
    refine .inl ⟨by unfold idxH; rw [h], fun j hj => List.findIdx?_eq_none_iff.1 h _ (List.getElem_mem hj)⟩
  | some k =>
    obtain ⟨hk, h1, h2⟩ := List.findIdx?_eq_some_iff_getElem.1 h
    exact .inr ⟨k, hk, by unfold idxH; rw [h], h1, fun j hj hjk => by have := h2 j hjk; simpa using this⟩
/-- What is asked of a test: in each world that all of w stands in it tells what p says. -/
def Tst (g : Nat) (cb : Array Value) (p : HV → Bool) (w : World) : Prop := ∀ (W : World) (x : HV), Below w.heap.size w W → Calls Try.prog g (#[hv x] ++ cb) W fun e w' => e = .returned (.bool (p x)) ∧ Below W.heap.size W w'
set_option maxHeartbeats 1600000 in
theorem index_any (g : Nat) (cb : Array Value) (p : HV → Bool) (eg : ∀ args w, (callFunc g args).run Try.prog w = .ok (.enter g args) w) (base b n cap : Nat) (H : List HV) (w : World) (hr : HRow w base (.slice (some ⟨b, 0, none⟩) n cap) H) (hp : Tst g cb p w) (hl : H.length ≤ 1000000) :
    Calls Try.prog 52 #[.slice (some ⟨b, 0, none⟩) n cap, .func (.func g) #[] cb] w fun e w' => e = .returned (.int .i64 (idxH p H)) ∧ Below w.heap.size w w' := by
  have hn := hr.live.1
  have hb := hr.live.2.2.1
  have HR := hide hr
  have HP := hide hp
  have HN := hide hn
  have hnl : n ≤ 1000000 := by omega
  clear hr hp hn
  obtain ⟨r, hre⟩ : ∃ r, idxH p H = r := ⟨_, rfl⟩
  have HI := hide hre
  rw [hre]
  clear hre
  go_enter Try.func52, Try.ntmps52
  go_wp2
  go_loopg [5, 8] n (fun gg _ s8 wr => ∃ kk : Nat, kk ≤ n ∧ n - kk ≤ gg ∧ s8 = .int .i64 kk ∧ Hid (Below w.heap.size w wr) ∧ Hid (∀ j (hj : j < H.length), j < kk → p H[j] = false))
  case atStart => exact ⟨0, Nat.zero_le _, by omega, rfl, hide (Below.refl _ w), hide (fun j hj h => absurd h (Nat.not_lt_zero _))⟩
  case round =>
    obtain ⟨kk, hkk, hg, rfl, BW, A⟩ := hrel
    by_cases hlt : kk < n
    · have hltz : (kk : Int) < (n : Int) := by omega
      have hlH : kk < H.length := by have := HN.out; omega
      obtain ⟨c0, c1, c2, c3, c4, c5, c6⟩ := (HR.out.below BW.out).cells hlH
      have hcall := HP.out wr H[kk] BW.out
      unfold hv at hcall
      generalize hy : H[kk] = y at c0 c1 c2 c3 c4 c5 c6 hcall
      have B := hide hy
      clear hy
      cases hq : p y with
      | true =>
        rw [hq] at hcall
        go_wp2_with (go_at_fn g; refine hcall.mono ?_; rintro e w' ⟨rfl, hb'⟩)
        go_ret
        refine ⟨?_, BW.out.trans (hb'.mono BW.out.size)⟩
        rw [← HI.out, idxH_hit hlH (by rw [B.out]; exact hq) A.out]; rfl
      | false =>
        rw [hq] at hcall
        go_wp2_with (go_at_fn g; refine hcall.mono ?_; rintro e w' ⟨rfl, hb'⟩)
        go_roundg (n - (kk + 1))
        case measure => omega
        case rel =>
          refine ⟨kk + 1, by omega, by omega, by go_num, hide (BW.out.trans (hb'.mono BW.out.size)), hide fun j hj h => ?_⟩
          by_cases e : j = kk
          · subst e
            rw [B.out]; exact hq
          · exact A.out j hj (by omega)
    · have hltz : ¬ (kk : Int) < (n : Int) := by omega
      have : kk = n := by omega
      subst this
      go_wp2
      go_ret
      refine ⟨?_, BW.out⟩
      rw [← HI.out, idxH_miss (fun j hj => A.out j hj (by have := HN.out; omega))]; rfl
theorem index_nil (g : Nat) (cb : Array Value) (w : World) :
    Calls Try.prog 52 #[.slice none 0 0, .func (.func g) #[] cb] w fun e w' => e = .returned (.int .i64 (-1)) ∧ Below w.heap.size w w' := by
  go_enter Try.func52, Try.ntmps52
  go_wp2
  go_loopg [5, 8] 0 (fun gg _ s8 wr => s8 = .int .i64 0 ∧ wr = w)
  case atStart => exact ⟨rfl, rfl⟩
  case round =>
    obtain ⟨rfl, rfl⟩ := hrel
    go_wp2
    go_ret
    exact ⟨rfl, Below.refl _ _⟩
/-- Whatever waits: the first one's place, or -1. -/
theorem index_row (g : Nat) (cb : Array Value) (p : HV → Bool) (eg : ∀ args w, (callFunc g args).run Try.prog w = .ok (.enter g args) w) (base : Nat) (a : Option Addr) (n cap : Nat) (H : List HV) (w : World) (hr : HRow w base (.slice a n cap) H) (hp : Tst g cb p w) (hl : H.length ≤ 1000000) :
    Calls Try.prog 52 #[.slice a n cap, .func (.func g) #[] cb] w fun e w' => e = .returned (.int .i64 (idxH p H)) ∧ Below w.heap.size w w' := by
  rcases hr.form with ⟨h1, rfl⟩ | ⟨b, cap', h1, _⟩
  · simp at h1
    obtain ⟨rfl, rfl, rfl⟩ := h1
    exact index_nil g cb w
  · simp at h1
    obtain ⟨rfl, rfl, rfl⟩ := h1
    exact index_any g cb p eg base b _ _ H w hr hp hl
/-- Is there one? -/
theorem contains_row (g : Nat) (cb : Array Value) (p : HV → Bool) (eg : ∀ args w, (callFunc g args).run Try.prog w = .ok (.enter g args) w) (base : Nat) (a : Option Addr) (n cap : Nat) (H : List HV) (w : World) (hr : HRow w base (.slice a n cap) H) (hp : Tst g cb p w) (hl : H.length ≤ 1000000) :
    Calls Try.prog 31 #[.slice a n cap, .func (.func g) #[] cb] w fun e w' => e = .returned (.bool (H.any p)) ∧ Below w.heap.size w w' := by
  have HI := hide (index_row g cb p eg base a n cap H w hr hp hl)
  have hc := idxH_cases p H
  obtain ⟨r, hre⟩ : ∃ r, idxH p H = r := ⟨_, rfl⟩
  rw [hre] at HI hc
  obtain ⟨v, hv⟩ : ∃ v, H.any p = v := ⟨_, rfl⟩
  rw [hv]
  have hd : decide (r ≥ 0) = v := by
    rcases hc with ⟨h1, h2⟩ | ⟨k, hk, h1, h2, _⟩
    · rw [← hv, h1]
      symm
      rw [List.any_eq_false.2 (fun x hx => by obtain ⟨i, hi, rfl⟩ := List.mem_iff_getElem.1 hx; rw [h2 i hi]; decide)]
      decide
    · rw [← hv, h1]
      symm
      rw [List.any_eq_true.2 ⟨_, List.getElem_mem hk, h2⟩]
      simp
  clear hc hre hr hp hv
  go_enter Try.func31, Try.ntmps31
  go_wp2_with fail
  refine HI.out.mono ?_
  rintro e w1 ⟨rfl, b1⟩
  have HB := hide b1
  clear b1 HI
  go_wp2_with fail
  go_ret
  exact ⟨by simp, HB.out⟩
end Go.Proofs.Ytbibobjkclgogaa
