/- The document's table: all its keys, rising. -/
import Derived.Test.YtcgkblmhfgjoaaaKRefN
import Derived.Lib.AppendZeros
namespace Go.Proofs.Ytcgkblmhfgjoaaa
open Go.RowKit Go.Deep
set_option linter.unusedVariables false
set_option linter.unusedSimpArgs false
set_option maxRecDepth 100000
def hdB : List Int → Int × Bool
  | [] => (0, false)
  | x :: _ => (x, true)
def InvN (all : Bool) (above : Int) (pre : List Int) (s : Int × Bool) : Prop :=
  (s = (0, false) ∧ ∀ x ∈ pre, ¬ (all = true ∨ above < x)) ∨ ∃ b, s = (b, true) ∧ b ∈ pre ∧ (all = true ∨ above < b) ∧ ∀ y ∈ pre, (all = true ∨ above < y) → b ≤ y
theorem invN_step {all : Bool} {above : Int} {pre : List Int} {s : Int × Bool} (x : Int) (h : InvN all above pre s) : InvN all above (pre ++ [x]) (stepN all above s x) := by
  unfold stepN
  by_cases hC : all = true ∨ above < x
  · rcases h with ⟨rfl, h2⟩ | ⟨b, rfl, h3, h4, h5⟩
    · rw [if_pos ⟨hC, .inl rfl⟩]
      refine .inr ⟨x, rfl, by simp, hC, fun y hy hCy => ?_⟩
      rcases List.mem_append.1 hy with g | g
      · exact absurd hCy (h2 y g)
      · have := List.mem_singleton.1 g; omega
    · by_cases hlt : x < b
      · rw [if_pos ⟨hC, .inr hlt⟩]
        refine .inr ⟨x, rfl, by simp, hC, fun y hy hCy => ?_⟩
        rcases List.mem_append.1 hy with g | g
        · have := h5 y g hCy; omega
        · have := List.mem_singleton.1 g; omega
      · rw [if_neg (by rintro ⟨_, g | g⟩; exact absurd g (by simp); exact hlt g)]
        refine .inr ⟨b, rfl, by simp [h3], h4, fun y hy hCy => ?_⟩
        rcases List.mem_append.1 hy with g | g
        · exact h5 y g hCy
        · have := List.mem_singleton.1 g; omega
  · rw [if_neg (fun g => hC g.1)]
    rcases h with ⟨rfl, h2⟩ | ⟨b, rfl, h3, h4, h5⟩
    · refine .inl ⟨rfl, fun y hy => ?_⟩
      rcases List.mem_append.1 hy with g | g
      · exact h2 y g
      · rw [List.mem_singleton.1 g]; exact hC
    · refine .inr ⟨b, rfl, by simp [h3], h4, fun y hy hCy => ?_⟩
      rcases List.mem_append.1 hy with g | g
      · exact h5 y g hCy
      · rw [List.mem_singleton.1 g] at hCy; exact absurd hCy hC
theorem invN_fold (all : Bool) (above : Int) : ∀ (ks pre : List Int) (s : Int × Bool), InvN all above pre s → InvN all above (pre ++ ks) (ks.foldl (stepN all above) s)
  | [], pre, s, h => by simpa using h
  | x :: ks, pre, s, h => by
    have := invN_fold all above ks (pre ++ [x]) _ (invN_step x h)
    rw [List.append_assoc] at this
    exact this
theorem nextL_inv (all : Bool) (above : Int) (ks : List Int) : InvN all above ks (nextL all above ks) := by
  have := invN_fold all above ks [] (0, false) (.inl ⟨rfl, by simp⟩)
  unfold nextL
  simpa using this
theorem next_hd {all : Bool} {above : Int} {ks S r : List Int} (hm : ∀ k, k ∈ S ↔ k ∈ ks) (hr : r.Pairwise (· < ·)) (hsub : ∀ y ∈ r, y ∈ S) (hC : ∀ y ∈ S, (all = true ∨ above < y) ↔ y ∈ r) : nextL all above ks = hdB r := by
  rcases nextL_inv all above ks with ⟨h1, h2⟩ | ⟨b, h1, h2, h3, h4⟩
  · rw [h1]
    cases r with
    | nil => rfl
    | cons x r =>
      have hx := hsub x (by simp)
      exact absurd ((hC x hx).2 (by simp)) (h2 x ((hm x).1 hx))
  · rw [h1]
    have hbS := (hm b).2 h2
    have hb := (hC b hbS).1 h3
    cases r with
    | nil => cases hb
    | cons x r =>
      have hx := hsub x (by simp)
      have h5 := h4 x ((hm x).1 hx) ((hC x hx).2 (by simp))
      rw [List.pairwise_cons] at hr
      rcases List.mem_cons.1 hb with e | e
      · rw [e]; rfl
      · have := hr.1 b e; omega
theorem next_first {ks S : List Int} (hm : ∀ k, k ∈ S ↔ k ∈ ks) (hS : S.Pairwise (· < ·)) : nextL true 0 ks = hdB S :=
  next_hd hm hS (fun y h => h) (fun y h => by simp [h])
theorem next_more {ks S d r : List Int} {x : Int} (hm : ∀ k, k ∈ S ↔ k ∈ ks) (hS : S.Pairwise (· < ·)) (h : S = d ++ x :: r) : nextL false x ks = hdB r := by
  subst h
  have hp := List.pairwise_append.1 hS
  have hq := List.pairwise_cons.1 hp.2.1
  refine next_hd hm hq.2 (fun y hy => by simp [hy]) (fun y hy => ?_)
  constructor
  · rintro (e | e)
    · cases e
    · rcases List.mem_append.1 hy with g | g
      · have := hp.2.2 y g x (by simp); omega
      · rcases List.mem_cons.1 g with g | g
        · omega
        · exact g
  · intro g; exact .inr (hq.1 y g)
def slen : Value → Nat
  | .slice _ n _ => n
  | _ => 0
theorem owns_slice {w : World} {base n : Nat} {e : TypeId} {v : Value} {xs : List Value} (h : w.ownsRow base e 1 v n xs) : ∃ a c, v = .slice a n c := by
  rcases h.2 with ⟨h1, h2⟩ | ⟨g, c', cur, hv, _⟩
  · have := h.1; subst h2; exact ⟨none, 0, h1⟩
  · exact ⟨_, _, hv⟩
theorem info_int : (Try.prog.info? 3).map (fun i => (i.zero, i.size, i.bytes)) = some (some (.int .i64 0), 1, 8) := by kernel_rfl
/-- An append of one number onto a row of one's own. -/
theorem app_int (V : World) (base : Nat) (v : Value) (n : Nat) (xs : List Int) (hV : V.ownsRow base 3 1 v n (xs.map (Value.int .i64))) (g : Nat) (y : Int) (hc : V.heap[g]? = some (.cells #[.int .i64 y] 3 (0, 0))) (hs : n ≤ 1000000) (hb : base ≤ V.heap.size) :
    ∃ v' w', (Builtin.append_ #[37, 37] 37 #[v, .slice (some ⟨g, 0, none⟩) 1 1]).run Try.prog V = .ok v' w' ∧ (∃ a c, v' = .slice a (n + 1) c) ∧ w'.ownsRow base 3 1 v' (n + 1) ((xs ++ [y]).map (Value.int .i64)) ∧ V.grownBy w' v.ownBlock := by
  obtain ⟨i0, hi, hz0, hz1, hz2⟩ := info_parts info_int
  obtain ⟨v', w', h1, h2, h3, _⟩ := run_append_own (P := Try.prog) V base 37 37 3 i0 (.int .i64 0) 1 8 Try.underlying37 hi hz0 hz1 hz2 rfl (by decide) v n (xs.map (Value.int .i64)) hV ⟨g, 0, none⟩ 1 1 [.int .i64 y] rfl (fun j u hj => by
    cases j with
    | zero => cases hj; show V.cell? ⟨g, 0, none⟩ = _; simp [World.cell?, hc]
    | succ j => simp at hj) (by intro u hu; rw [List.mem_singleton.1 hu]; rfl) (by unfold maxLen; omega) (by omega) hb
  refine ⟨v', w', h1, owns_slice h2, ?_, h3⟩
  rw [List.map_append]
  exact h2
theorem owns_nil_int {w : World} {L base : Nat} (h : w.heap[L]? = some (.cells #[] 3 (0, 0))) (hb : base ≤ L) : w.ownsRow base 3 1 (.slice (some ⟨L, 0, none⟩) 0 0) 0 (([] : List Int).map (Value.int .i64)) :=
  ⟨by simp, .inr ⟨L, 0, #[], rfl, hb, h, Nat.le_refl _, by unfold maxLen; omega, rfl, rfl⟩⟩
set_option maxHeartbeats 3000000 in
theorem keysR_any (w : World) (p : Nat) (most : Int) (ks vs : List Int) (ka : Option Addr) (kc : Nat) (va : Option Addr) (vc : Nat) (h : RTr w p most ks vs ka kc va vc) (hn : ks.length ≤ 1000000) (S : List Int) (hS : S.Pairwise (· < ·)) (hm : ∀ k, k ∈ S ↔ k ∈ ks) (hl : S.length ≤ 1000000) :
    Calls Try.prog 19 #[.pointer (some ⟨p, 0, none⟩)] w fun e w' => ∃ a c, e = .returned (.slice a S.length c) ∧ w'.ownsRow w.heap.size 3 1 (.slice a S.length c) S.length (S.map (Value.int .i64)) ∧ Below w.heap.size w w' := by
  have hb1 : Below w.heap.size w (w.alloc (.cells #[] 3)) := (Below.refl _ _).alloc (Nat.le_refl _) _
  have HN1 := hide (nextR_any _ p most ks vs ka kc va vc 0 true (h.below hb1 (Nat.le_refl _)) hn)
  have HO1 := hide (owns_nil_int (heap_alloc_new w (.cells #[] 3)) (Nat.le_refl _))
  have H := hide h
  have HF := hide (next_first hm hS)
  have HM := hide (fun d x r => next_more (d := d) (x := x) (r := r) hm hS)
  obtain ⟨w1, hw1⟩ : ∃ wt, w.alloc (.cells #[] 3) = wt := ⟨_, rfl⟩
  rw [hw1] at hb1 HN1 HO1
  have HW1 := hide hw1
  have HB1 := hide hb1
  obtain ⟨sz, hsz⟩ : ∃ z, w.heap.size = z := ⟨_, rfl⟩
  rw [hsz] at HO1 HB1
  have HSZ := hide hsz
  rw [HF.out] at HN1
  obtain ⟨⟨k0, b0⟩, h0⟩ : ∃ q, hdB S = q := ⟨_, rfl⟩
  rw [h0] at HN1
  have HH0 := hide h0
  clear h0
  dsimp only at HN1
  clear h hS hm hw1 hb1 hsz HF
  go_enter Try.func19, Try.ntmps19
  go_wp2_with fail
  try rw [HW1.out]
  refine HN1.out.mono ?_
  rintro e w2 ⟨rfl, rfl⟩
  clear HN1 HW1
  go_wp2
  go_loopw [3, 4, 5] (fun o k b wz => ∃ (d r : List Int) (a : Option Addr) (c : Nat), Hid (S = d ++ r) ∧ Hid (o = .slice a d.length c) ∧ k = .int .i64 (hdB r).1 ∧ b = .bool (hdB r).2 ∧ Hid (wz.ownsRow sz 3 1 o d.length (d.map (Value.int .i64))) ∧ Below sz w wz) (fun o _ _ _ => S.length - slen o)
  case atStart => exact ⟨[], S, _, _, hide rfl, hide (by first | rfl | (rw [HSZ.out]; rfl)), by rw [HH0.out], by rw [HH0.out], hide (by rw [HSZ.out]; exact HO1.out), HB1.out⟩
  case round =>
    clear HO1 HB1
    obtain ⟨d, r, a, c, HD, HV, rfl, rfl, HO, hbz⟩ := hrel
    obtain ⟨dn, hdn⟩ : ∃ z, d.length = z := ⟨_, rfl⟩
    rw [hdn] at HO HV
    have HBZ := hide hbz
    have HDN := hide hdn
    clear hbz hdn
    cases r with
    | nil =>
      have HR := hide (show d = S by rw [HD.out]; simp)
      dsimp only [hdB]
      go_wp2
      go_ret
      refine ⟨a, c, ?_, ?_, ?_⟩
      · rw [← HR.out, HDN.out, ← HV.out]; rfl
      · rw [← HR.out, HDN.out, HSZ.out, ← HV.out]; exact HO.out
      · rw [HSZ.out]; exact HBZ.out
    | cons x r =>
      dsimp only [hdB]
      obtain ⟨wa, hwa⟩ : ∃ wt, wr.alloc (.cells #[.int .i64 x] 3) = wt := ⟨_, rfl⟩
      have hnew : wa.heap[wr.heap.size]? = some (.cells #[.int .i64 x] 3 (0, 0)) := by rw [← hwa]; exact heap_alloc_new _ _
      have hla : dn + r.length + 1 = S.length := by have := congrArg List.length HD.out; rw [List.length_append, HDN.out] at this; simp at this; omega
      have hszr : sz ≤ wr.heap.size := by rw [← HSZ.out]; exact HBZ.out.size
      have hba : Below sz w wa := by rw [← hwa]; exact HBZ.out.alloc hszr _
      have hsza : sz ≤ wa.heap.size := by rw [← HSZ.out]; exact hba.size
      obtain ⟨v', w5, hrun, ⟨a', c', rfl⟩, ho5, hg5⟩ := app_int wa sz u3 dn d (by rw [← hwa]; exact HO.out.alloc _) wr.heap.size x hnew (by omega) hsza
      have hb5 : Below sz w w5 := hba.grown hg5 hsza (fun k e => (HO.out.lt k e).1)
      have HRUN := hide (show (Builtin.append_ #[37, 37] 37 #[u3, .slice (some ⟨wr.heap.size, 0, none⟩) 1 1]).run Try.prog (wr.alloc (.cells #[.int .i64 x] 3)) = .ok (.slice a' (dn + 1) c') w5 by rw [hwa]; exact hrun)
      have hnx := nextR_any w5 p most ks vs ka kc va vc x false (H.out.below hb5 (by rw [HSZ.out]; exact Nat.le_refl _)) hn
      rw [HM.out d x r HD.out] at hnx
      obtain ⟨⟨k1, b1⟩, h1⟩ : ∃ q, hdB r = q := ⟨_, rfl⟩
      rw [h1] at hnx
      dsimp only at hnx
      have HH1 := hide h1
      clear h1
      have HNX := hide hnx
      have HO5 := hide ho5
      have HB5 := hide hb5
      have HD5 := hide (show S = (d ++ [x]) ++ r by rw [HD.out]; simp)
      have HL5 := hide (show (d ++ [x]).length = dn + 1 by rw [List.length_append, HDN.out]; rfl)
      clear hwa hnew hba hsza hszr hrun ho5 hg5 hb5 hnx
      go_wp2_with (at_builtin; go_loud (refine Lib.wpList_append_run (o := ⟨some 16, _, _, _, _, _⟩) _ rfl _ _ _ _ rfl _ _ rfl rfl _ _ HRUN.out ?_))
      refine HNX.out.mono ?_
      rintro e w6 ⟨rfl, rfl⟩
      clear HRUN HNX
      go_wp2
      go_roundw
      case rel => exact ⟨d ++ [x], r, a', c', HD5, hide (by rw [HL5.out]), by show _ = Value.int .i64 (hdB r).1; rw [HH1.out], by show _ = Value.bool (hdB r).2; rw [HH1.out], hide (by rw [HL5.out]; exact HO5.out), HB5.out⟩
      case measure =>
        show S.length - slen (.slice a' (dn + 1) c') < S.length - slen u3
        rw [HV.out]; simp only [slen]; omega
end Go.Proofs.Ytcgkblmhfgjoaaa
