/- Flows: plain facts. No program is named. -/
import Derived.Test.YtbacodogklbiaaaPlain
import Derived.Test.YtbacodogklbiaaaProg
import Derived.IntWalk
import Derived.Below
import Derived.OneCell
import Derived.Laws.Rows
import Derived.Deep.RegionHeld3
import Derived.Deep.Cut
namespace Go.Proofs.Ytbacodogklbiaaa
open Go.RowKit
set_option linter.unusedVariables false
structure Fl where
  p : Nat
  s : Nat
  d : Nat
  f : Nat
  t : Nat
def Fl.v (x : Fl) : Value := .agg #[.int .u8 (x.p : Int), .int .u32 (x.s : Int), .int .u32 (x.d : Int), .int .u16 (x.f : Int), .int .u16 (x.t : Int)]
def Fl.turn (x : Fl) : Fl := ⟨x.p, x.d, x.s, x.t, x.f⟩
structure Fl.Ok (x : Fl) : Prop where
  p : x.p ≤ 255
  s : x.s ≤ 4294967295
  d : x.d ≤ 4294967295
  f : x.f ≤ 65535
  t : x.t ≤ 65535
theorem Fl.Ok.turn {x : Fl} (h : x.Ok) : x.turn.Ok := ⟨h.p, h.d, h.s, h.t, h.f⟩
def Fl.l (x : Fl) : List Int := [x.p, x.s, x.f, x.d, x.t]
def ordI (a b : Int) : Int := if a < b then -1 else if b < a then 1 else 0
def nzF : List Int → Int
  | [] => 0
  | x :: xs => if x ≠ 0 then x else nzF xs
def orderF (a b : Fl) : Int := nzF [ordI a.p b.p, ordI a.s b.s, ordI a.f b.f, ordI a.d b.d, ordI a.t b.t]
def lessL : List Int → List Int → Bool
  | x :: xs, y :: ys => if x ≠ y then decide (x < y) else lessL xs ys
  | _, _ => false
theorem ordI_rng (a b : Int) : -1 ≤ ordI a b ∧ ordI a b ≤ 1 := by unfold ordI; split; omega; split <;> omega
theorem nz_all : ∀ (xs : List Int), (∀ x ∈ xs, x = 0) → nzF xs = 0
  | [], _ => rfl
  | x :: xs, h => by
    unfold nzF
    rw [if_neg (by have := h x (by simp); omega)]
    exact nz_all xs fun y hy => h y (by simp [hy])
theorem nz_at : ∀ (xs : List Int) (j : Nat), j < xs.length → (∀ k, k < j → xs[k]?.getD 0 = 0) → xs[j]?.getD 0 ≠ 0 → nzF xs = xs[j]?.getD 0
  | [], _, h, _, _ => by simp at h
  | x :: xs, 0, _, _, h => by unfold nzF; simp at h; rw [if_pos h]; simp
  | x :: xs, j + 1, hj, h0, h => by
    unfold nzF
    have hx := h0 0 (by omega)
    simp at hx
    rw [if_neg (by omega)]
    simp at h hj ⊢
    exact nz_at xs j (by omega) (fun k hk => by have := h0 (k + 1) (by omega); simpa using this) h
theorem less_at : ∀ (xs ys : List Int) (j : Nat), j < xs.length → xs.length = ys.length → (∀ k, k < j → xs[k]?.getD 0 = ys[k]?.getD 0) → xs[j]?.getD 0 ≠ ys[j]?.getD 0 → lessL xs ys = decide (xs[j]?.getD 0 < ys[j]?.getD 0)
  | [], _, _, h, _, _, _ => by simp at h
  | _ :: _, [], _, _, h, _, _ => by simp at h
  | x :: xs, y :: ys, 0, _, _, _, h => by unfold lessL; simp at h; rw [if_pos h]; simp
  | x :: xs, y :: ys, j + 1, hj, hl, h0, h => by
    unfold lessL
    have hx := h0 0 (by omega)
    simp at hx
    rw [if_neg (by omega)]
    simp at h hj hl ⊢
    have := less_at xs ys j (by omega) hl (fun k hk => by have := h0 (k + 1) (by omega); simpa using this) h
    simpa using this
theorem less_all : ∀ (xs ys : List Int), xs.length = ys.length → (∀ k, k < xs.length → xs[k]?.getD 0 = ys[k]?.getD 0) → lessL xs ys = false
  | [], _, _, _ => by unfold lessL; rfl
  | _ :: _, [], h, _ => by simp at h
  | x :: xs, y :: ys, hl, h0 => by
    unfold lessL
    have hx := h0 0 (by simp)
    simp at hx
    rw [if_neg (by omega)]
    exact less_all xs ys (by simpa using hl) (fun k hk => by have := h0 (k + 1) (by simp; omega); simpa using this)
theorem order_less (a b : Fl) : decide (orderF a b < 0) = lessL a.l b.l := by
  unfold orderF Fl.l nzF nzF nzF nzF nzF nzF lessL lessL lessL lessL lessL lessL ordI
  simp only [ne_eq]
  by_cases h1 : (a.p : Int) < b.p
  · simp [h1]; omega
  by_cases h1' : (b.p : Int) < a.p
  · simp [h1, h1']; omega
  have e1 : (a.p : Int) = b.p := by omega
  by_cases h2 : (a.s : Int) < b.s
  · simp [e1, h2]; omega
  by_cases h2' : (b.s : Int) < a.s
  · simp [e1, h2, h2']; omega
  have e2 : (a.s : Int) = b.s := by omega
  by_cases h3 : (a.f : Int) < b.f
  · simp [e1, e2, h3]; omega
  by_cases h3' : (b.f : Int) < a.f
  · simp [e1, e2, h3, h3']; omega
  have e3 : (a.f : Int) = b.f := by omega
  by_cases h4 : (a.d : Int) < b.d
  · simp [e1, e2, e3, h4]; omega
  by_cases h4' : (b.d : Int) < a.d
  · simp [e1, e2, e3, h4, h4']; omega
  have e4 : (a.d : Int) = b.d := by omega
  by_cases h5 : (a.t : Int) < b.t
  · simp [e1, e2, e3, e4, h5] <;> omega
  by_cases h5' : (b.t : Int) < a.t
  · simp [e1, e2, e3, e4, h5, h5'] <;> omega
  have e5 : (a.t : Int) = b.t := by omega
  simp [e1, e2, e3, e4, e5]
end Go.Proofs.Ytbacodogklbiaaa

/- Flows: turned about, and their order: the program's and the document's. -/
namespace Go.Proofs.Ytbacodogklbiaaa
open Go.RowKit
set_option linter.unusedVariables false
set_option linter.unusedSimpArgs false
set_option maxRecDepth 100000
theorem turnP_any (x : Fl) (w : World) :
    Calls Try.prog 13 #[x.v] w fun e w' => e = .returned x.turn.v ∧ Below w.heap.size w w' := by
  obtain ⟨p, s, d, f, t⟩ := x
  unfold Fl.turn Fl.v
  dsimp only
  obtain ⟨V, hV⟩ : ∃ V, Value.agg #[.int .u8 (p : Int), .int .u32 (d : Int), .int .u32 (s : Int), .int .u16 (t : Int), .int .u16 (f : Int)] = V := ⟨_, rfl⟩
  rw [hV]
  have HV := hide hV
  clear hV
  go_enter Try.func13, Try.ntmps13
  go_wp2_with fail
  refine bodyPost_ret (v := V) (by rw [← HV.out]; simp [results, Try.results13, go_sem]) rfl ⟨rfl, ?_⟩
  repeat (first | exact Below.refl _ _ | refine Below.setCell ?_ (Nat.le_refl _) _ | refine Below.setCell ?_ (by simp; omega) _ | refine Below.alloc ?_ (by first | (simp; done) | (simp; omega)) _)
theorem turnR_any (x : Fl) (w : World) :
    Calls Try.prog 14 #[x.v] w fun e w' => e = .returned x.turn.v ∧ Below w.heap.size w w' := by
  obtain ⟨p, s, d, f, t⟩ := x
  unfold Fl.turn Fl.v
  dsimp only
  obtain ⟨V, hV⟩ : ∃ V, Value.agg #[.int .u8 (p : Int), .int .u32 (d : Int), .int .u32 (s : Int), .int .u16 (t : Int), .int .u16 (f : Int)] = V := ⟨_, rfl⟩
  rw [hV]
  have HV := hide hV
  clear hV
  go_enter Try.func14, Try.ntmps14
  go_wp2_with fail
  refine bodyPost_ret (v := V) (by rw [← HV.out]; simp [results, Try.results14, go_sem]) rfl ⟨rfl, ?_⟩
  repeat (first | exact Below.refl _ _ | refine Below.setCell ?_ (Nat.le_refl _) _ | refine Below.setCell ?_ (by simp; omega) _ | refine Below.alloc ?_ (by first | (simp; done) | (simp; omega)) _)
theorem cmpB_anyN (a : Int) (w : World) : Calls Try.prog 58 #[.int .u8 a] w fun e w' => e = .returned (.bool false) ∧ w' = w := by
  go_enter Try.func58, Try.ntmps58
  go_wp2_with fail
  go_ret
  exact ⟨by simp, rfl⟩
theorem cmpB_any (a b : Int) (w : World) : Calls Try.prog 36 #[.int .u8 a, .int .u8 b] w fun e w' => e = .returned (.int .i64 (ordI a b)) ∧ w' = w := by
  obtain ⟨r, hr⟩ : ∃ r, ordI a b = r := ⟨_, rfl⟩
  rw [hr]
  unfold ordI at hr
  by_cases h1 : a < b
  · have d1 : decide (a < b) = true := by simpa using h1
    have HR := hide (show r = -1 by rw [← hr, if_pos h1])
    clear hr h1
    go_enter Try.func36, Try.ntmps36
    go_wp2_with ((with_reducible refine (cmpB_anyN _ _).mono ?_); rintro _ w1 ⟨rfl, rfl⟩)
    go_ret
    exact ⟨by rw [HR.out]; rfl, rfl⟩
  · have d1 : decide (a < b) = false := by simpa using h1
    by_cases h2 : b < a
    · have d2 : decide (b < a) = true := by simpa using h2
      have HR := hide (show r = 1 by rw [← hr, if_neg h1, if_pos h2])
      clear hr h1 h2
      go_enter Try.func36, Try.ntmps36
      go_wp2_with ((with_reducible refine (cmpB_anyN _ _).mono ?_); rintro _ w1 ⟨rfl, rfl⟩)
      go_ret
      exact ⟨by rw [HR.out]; rfl, rfl⟩
    · have d2 : decide (b < a) = false := by simpa using h2
      have HR := hide (show r = 0 by rw [← hr, if_neg h1, if_neg h2])
      clear hr h1 h2
      go_enter Try.func36, Try.ntmps36
      go_wp2_with ((with_reducible refine (cmpB_anyN _ _).mono ?_); rintro _ w1 ⟨rfl, rfl⟩)
      go_ret
      exact ⟨by rw [HR.out]; rfl, rfl⟩
theorem cmpA_anyN (a : Int) (w : World) : Calls Try.prog 59 #[.int .u32 a] w fun e w' => e = .returned (.bool false) ∧ w' = w := by
  go_enter Try.func59, Try.ntmps59
  go_wp2_with fail
  go_ret
  exact ⟨by simp, rfl⟩
theorem cmpA_any (a b : Int) (w : World) : Calls Try.prog 37 #[.int .u32 a, .int .u32 b] w fun e w' => e = .returned (.int .i64 (ordI a b)) ∧ w' = w := by
  obtain ⟨r, hr⟩ : ∃ r, ordI a b = r := ⟨_, rfl⟩
  rw [hr]
  unfold ordI at hr
  by_cases h1 : a < b
  · have d1 : decide (a < b) = true := by simpa using h1
    have HR := hide (show r = -1 by rw [← hr, if_pos h1])
    clear hr h1
    go_enter Try.func37, Try.ntmps37
    go_wp2_with ((with_reducible refine (cmpA_anyN _ _).mono ?_); rintro _ w1 ⟨rfl, rfl⟩)
    go_ret
    exact ⟨by rw [HR.out]; rfl, rfl⟩
  · have d1 : decide (a < b) = false := by simpa using h1
    by_cases h2 : b < a
    · have d2 : decide (b < a) = true := by simpa using h2
      have HR := hide (show r = 1 by rw [← hr, if_neg h1, if_pos h2])
      clear hr h1 h2
      go_enter Try.func37, Try.ntmps37
      go_wp2_with ((with_reducible refine (cmpA_anyN _ _).mono ?_); rintro _ w1 ⟨rfl, rfl⟩)
      go_ret
      exact ⟨by rw [HR.out]; rfl, rfl⟩
    · have d2 : decide (b < a) = false := by simpa using h2
      have HR := hide (show r = 0 by rw [← hr, if_neg h1, if_neg h2])
      clear hr h1 h2
      go_enter Try.func37, Try.ntmps37
      go_wp2_with ((with_reducible refine (cmpA_anyN _ _).mono ?_); rintro _ w1 ⟨rfl, rfl⟩)
      go_ret
      exact ⟨by rw [HR.out]; rfl, rfl⟩
theorem cmpH_anyN (a : Int) (w : World) : Calls Try.prog 60 #[.int .u16 a] w fun e w' => e = .returned (.bool false) ∧ w' = w := by
  go_enter Try.func60, Try.ntmps60
  go_wp2_with fail
  go_ret
  exact ⟨by simp, rfl⟩
theorem cmpH_any (a b : Int) (w : World) : Calls Try.prog 38 #[.int .u16 a, .int .u16 b] w fun e w' => e = .returned (.int .i64 (ordI a b)) ∧ w' = w := by
  obtain ⟨r, hr⟩ : ∃ r, ordI a b = r := ⟨_, rfl⟩
  rw [hr]
  unfold ordI at hr
  by_cases h1 : a < b
  · have d1 : decide (a < b) = true := by simpa using h1
    have HR := hide (show r = -1 by rw [← hr, if_pos h1])
    clear hr h1
    go_enter Try.func38, Try.ntmps38
    go_wp2_with ((with_reducible refine (cmpH_anyN _ _).mono ?_); rintro _ w1 ⟨rfl, rfl⟩)
    go_ret
    exact ⟨by rw [HR.out]; rfl, rfl⟩
  · have d1 : decide (a < b) = false := by simpa using h1
    by_cases h2 : b < a
    · have d2 : decide (b < a) = true := by simpa using h2
      have HR := hide (show r = 1 by rw [← hr, if_neg h1, if_pos h2])
      clear hr h1 h2
      go_enter Try.func38, Try.ntmps38
      go_wp2_with ((with_reducible refine (cmpH_anyN _ _).mono ?_); rintro _ w1 ⟨rfl, rfl⟩)
      go_ret
      exact ⟨by rw [HR.out]; rfl, rfl⟩
    · have d2 : decide (b < a) = false := by simpa using h2
      have HR := hide (show r = 0 by rw [← hr, if_neg h1, if_neg h2])
      clear hr h1 h2
      go_enter Try.func38, Try.ntmps38
      go_wp2_with ((with_reducible refine (cmpH_anyN _ _).mono ?_); rintro _ w1 ⟨rfl, rfl⟩)
      go_ret
      exact ⟨by rw [HR.out]; rfl, rfl⟩
set_option maxHeartbeats 400000 in
theorem or_any (xs : List Int) (w : World) (B c : Nat) (hc : ∀ i, i < xs.length → w.cell? ⟨B, i, none⟩ = some (.int .i64 (xs[i]?.getD 0))) (hl : xs.length ≤ 9223372036854775807) :
    Calls Try.prog 35 #[.slice (some ⟨B, 0, none⟩) xs.length c] w fun e w' => e = .returned (.int .i64 (nzF xs)) ∧ w' = w := by
  obtain ⟨n, hn⟩ : ∃ n, xs.length = n := ⟨_, rfl⟩
  rw [hn] at hc hl ⊢
  have HC := hide hc
  have HN := hide hn
  obtain ⟨r, hr⟩ : ∃ r, nzF xs = r := ⟨_, rfl⟩
  rw [hr]
  have HR := hide hr
  clear hc hn hr
  go_enter Try.func35, Try.ntmps35
  go_wp2_with fail
  go_loop [8] (fun i => ∃ j : Nat, j ≤ n ∧ i = .int .i64 j ∧ Hid (∀ k, k < j → xs[k]?.getD 0 = 0)) (fun i => n - (intOf i).toNat)
  case atStart => exact ⟨0, Nat.zero_le _, rfl, hide (fun k hk => absurd hk (by omega))⟩
  case round =>
    obtain ⟨j, hj, rfl, HZ⟩ := hrel
    by_cases hlt : j < n
    · have c0 := HC.out j hlt
      obtain ⟨x, hx⟩ : ∃ x, xs[j]?.getD 0 = x := ⟨_, rfl⟩
      rw [hx] at c0
      by_cases hz : x = 0
      · subst hz
        have HZ2 := hide (show ∀ k, k < j + 1 → xs[k]?.getD 0 = 0 by
          intro k hk
          rcases Nat.lt_or_ge k j with h | h
          · exact HZ.out k h
          · have : k = j := by omega
            rw [this]; exact hx)
        clear hx
        go_wp2_with fail
        go_round
        case rel => exact ⟨j + 1, by omega, by go_num, HZ2⟩
        case measure => simp [intOf]; omega
      · have hd : (x != 0) = true := by simpa using hz
        have HX := hide (show r = x by rw [← HR.out, nz_at xs j (by rw [HN.out]; exact hlt) HZ.out (by rw [hx]; exact hz), hx])
        clear hz hx
        go_wp2_with fail
        go_ret
        exact ⟨by rw [HX.out]; rfl, rfl⟩
    · have HX := hide (show r = 0 by
        rw [← HR.out]
        refine nz_all xs fun x hx => ?_
        obtain ⟨k, hk, rfl⟩ := List.getElem_of_mem hx
        have := HZ.out k (by have := HN.out; omega)
        rw [List.getElem?_eq_getElem hk] at this
        exact this)
      go_wp2_with fail
      go_ret
      exact ⟨by rw [HX.out]; rfl, rfl⟩
end Go.Proofs.Ytbacodogklbiaaa
