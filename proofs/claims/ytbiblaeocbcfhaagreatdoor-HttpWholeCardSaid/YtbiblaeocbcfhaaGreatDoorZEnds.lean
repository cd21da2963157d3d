/- http: a dead reader tells nothing more. -/
import Derived.Test.YtbiblaeocbcfhaaGreatDoorZSpk
import Derived.Test.YtbiblaeocbcfhaaGreatDoorZIdle
namespace Go.Proofs.YtbiblaeocbcfhaaGreatDoor
open Go.RowKit Go.Deep
set_option linter.unusedVariables false
set_option linter.unusedSimpArgs false
set_option maxRecDepth 100000
def LiesB (w : World) (a : Option Addr) (l : List UInt8) : Prop := l ≠ [] → ∃ g off, a = some ⟨g, off, none⟩ ∧ g < w.heap.size ∧ ∀ i c, l[i]? = some c → w.cell? ⟨g, off + i, none⟩ = some (.int .u8 (c.toNat : Int))
theorem LiesB.to {W w : World} {a : Option Addr} {l : List UInt8} {X : Nat → Prop} (h : LiesB W a l) (hb : Below W.heap.size W w) (hX : ∀ k, X k → W.heap.size ≤ k) : Lies w a l X := fun hne => by
  obtain ⟨g, off, e, hg, hc⟩ := h hne
  refine ⟨g, off, e, by have := hb.size; omega, fun hx => (by have := hX g hx; omega), fun i c hi => ?_⟩
  rw [World.cell?_of_block (hb.block g hg)]
  exact hc i c hi
theorem step_len (p : PM) (c : UInt8) : (stepM p c).2.length ≤ 1 := by
  unfold stepM
  split
  · exact Nat.zero_le _
  · split
    · exact Nat.zero_le _
    · exact Nat.le_refl _
theorem told_len : ∀ (l : List UInt8) (p : PM), (feedM p l).2.length ≤ l.length
  | [], _ => Nat.le_refl _
  | c :: r, p => by
    have h1 := step_len p c
    have h2 := told_len r (stepM p c).1
    rw [feedM]
    simp only [List.length_append, List.length_cons]
    omega
theorem last_map {r : List TRow} {x : TRow} : ((r ++ [x]).map (·.1)).getLast? = some x.1 := by simp
/-- What the fed reader leaves, as the law asks it. -/
structure Lft (W : World) (B : Nat) (q : PM) (tv fv bv : Value) (w : World) : Prop where
  at' : At w B q tv fv bv
  env : Env w
  lo : Lo B tv bv
  bd : Bd q
  bel : Below W.heap.size W w
  own : ∀ k, Own B tv bv k → W.heap.size ≤ k
theorem St.lft {W w2 w3 : World} {B : Nat} {p q : PM} {tv fv bv tv' fv' bv' v : Value} {rows : List TRow} (h : Lft W B p tv fv bv w2) (hS : St w2 B tv fv bv w3 q v rows tv' fv' bv') (hq : Bd q) : Lft W B q tv' fv' bv' w3 :=
  ⟨hS.at', h.env.only hS.only h.lo.own, h.lo.fresh hS.ft hS.fb h.env.two, hq, h.bel.trans (hS.only.below h.own h.bel.size), fun k hk => by
    rcases hk with e | e | e
    · exact h.own k (.inl e)
    · rcases hS.ft k e with e1 | e1
      · exact h.own k (.inr (.inl e1))
      · have := h.bel.size; omega
    · rcases hS.fb k e with e1 | e1
      · exact h.own k (.inr (.inr e1))
      · have := h.bel.size; omega⟩
theorem Lft.feed {W w : World} {B : Nat} {q : PM} {tv fv bv : Value} (h : Lft W B q tv fv bv w) (l : List UInt8) (a : Option Addr) (n cap : Nat) (hn : l.length = n) (hn2 : n ≤ 20000) (hl : LiesB W a l) :
    Calls Tryz.prog 7 #[.pointer (some ⟨B, 0, none⟩), .slice a n cap] w (FedTo B q tv fv bv l w) :=
  feed_any B q tv fv bv l a n cap w h.at' h.env h.lo h.bd hn hn2 (hl.to h.bel h.own)
theorem Lft.new {W w1 w2 : World} (hE : Env W) (hb : Below W.heap.size W w1) (hA : At w2 w1.heap.size pm0 (.slice none 0 0) (.slice none 0 0) (.slice none 0 0)) (b2 : Below w1.heap.size w1 w2) : Lft W w1.heap.size pm0 (.slice none 0 0) (.slice none 0 0) (.slice none 0 0) w2 :=
  have hb2 := hb.trans (b2.mono hb.size)
  ⟨hA, hE.below hb2 (Nat.le_refl _), ⟨by have := hE.two; have := hb.size; omega, fun _ h => (by cases h), fun _ h => (by cases h)⟩, pm_bd 0 (.inl rfl), hb2, fun k hk => by rcases hk with e | e | e; (have := hb.size; omega); cases e; cases e⟩
set_option maxHeartbeats 2000000 in
theorem httpEnds_any (W : World) (l0 l1 : List UInt8) (a0 a1 : Option Addr) (n0 n1 c0 c1 : Nat) (hn0 : l0.length = n0) (hn1 : l1.length = n1) (h0 : LiesB W a0 l0) (h1 : LiesB W a1 l1) (hE : Env W) :
    Calls Tryz.prog 4 #[.slice a0 n0 c0, .slice a1 n1 c1] W fun e w' => e = .returned (.bool true) ∧ Below W.heap.size W w' := by
  have HS := hide (speaks_any W hE)
  have HC := hide (And.intro hE (And.intro hn0 (And.intro hn1 (And.intro h0 h1))))
  clear hE hn0 hn1 h0 h1
  by_cases b0 : n0 ≤ 6000
  rotate_left
  · have d0 : decide (6000 < n0) = true := by simp; omega
    have d0' : decide ((n0 : Int) > 6000) = true := by simp; omega
    have d0'' : (6000 : Int) < (n0 : Int) := by omega
    clear b0
    go_enter Tryz.func4, Tryz.ntmps4
    go_wp2_with fail
    refine HS.out.mono ?_
    rintro e w1 ⟨rfl, b1⟩
    clear HS
    go_wp2_with fail
    go_ret
    exact ⟨rfl, b1⟩
  have d0 : decide (6000 < n0) = false := by simp; omega
  have d0' : decide ((n0 : Int) > 6000) = false := by simp; omega
  have d0'' : ¬ (6000 : Int) < (n0 : Int) := by omega
  by_cases b1 : n1 ≤ 6000
  rotate_left
  · have d1 : decide (6000 < n1) = true := by simp; omega
    have d1' : decide ((n1 : Int) > 6000) = true := by simp; omega
    have d1'' : (6000 : Int) < (n1 : Int) := by omega
    clear b0 b1
    go_enter Tryz.func4, Tryz.ntmps4
    go_wp2_with fail
    refine HS.out.mono ?_
    rintro e w1 ⟨rfl, b1⟩
    clear HS
    go_wp2_with fail
    go_ret
    exact ⟨rfl, b1⟩
  have d1 : decide (6000 < n1) = false := by simp; omega
  have d1' : decide ((n1 : Int) > 6000) = false := by simp; omega
  have d1'' : ¬ (6000 : Int) < (n1 : Int) := by omega
  have HB := hide (And.intro b0 b1)
  clear b0 b1
  go_enter Tryz.func4, Tryz.ntmps4
  go_wp2_with fail
  refine HS.out.mono ?_
  rintro e w1 ⟨rfl, b1⟩
  have HB1 := hide b1
  have HN := hide (new_any w1)
  clear HS b1
  go_wp2_with fail
  refine HN.out.mono ?_
  rintro e w2 ⟨rfl, hA, b2⟩
  have hL := Lft.new HC.out.1 HB1.out hA b2
  have HL := hide hL
  have HF := hide (hL.feed l0 a0 n0 c0 HC.out.2.1 (by have := HB.out; omega) HC.out.2.2.2.1)
  clear HN hA b2 hL HB1
  generalize w1.heap.size = B at HL HF ⊢
  go_wp2_with fail
  refine HF.out.mono ?_
  rintro e w3 ⟨a, c, rows, tv', fv', bv', rfl, hf, hS⟩
  have HL3 := hide (St.lft HL.out hS (feed_bd l0 pm0 HL.out.bd))
  have hend := ended l0 pm0 HL.out.bd (by show (0 : Nat) ≤ 6; omega)
  have hlen := told_len l0 pm0
  rw [hf, List.length_map, HC.out.2.1] at hlen
  rw [hf] at hend
  generalize hq : (feedM pm0 l0).1 = q at HL3 hend hS
  have hrow := hS.outs.row
  clear hf hS HF HL hq
  rcases List.eq_nil_or_concat rows with rfl | ⟨r, x, hrx⟩
  · have EV : (q.waits == 7) = false := hend
    clear hend hrow hlen
    simp only [List.length_nil]
    have HD := hide (show Calls Tryz.prog _ _ w3 fun e w' => e = .returned (.bool false) ∧ w' = w3 from by have h := dead_any B q tv' fv' bv' w3 HL3.out.at'; rw [EV] at h; exact h)
    clear EV
    go_wp2_with fail
    refine HD.out.mono ?_
    rintro e w4 ⟨rfl, rfl⟩
    go_wp2_with fail
    refine HD.out.mono ?_
    rintro e w5 ⟨rfl, rfl⟩
    go_wp2_with fail
    go_ret
    exact ⟨rfl, HL3.out.bel⟩
  · rw [List.concat_eq_append] at hrx
    subst hrx
    rw [last_map] at hend
    obtain ⟨k, hk⟩ : ∃ k, r.length = k := ⟨_, rfl⟩
    have hm : (r ++ [x]).length = k + 1 := by rw [List.length_append, hk]; rfl
    rw [hm] at hrow hlen ⊢
    have hk4 : (0 : Int) ≤ (k : Int) := by omega
    have hk5 : (k : Int) ≤ 6000 := by have := HB.out; omega
    obtain ⟨g, rfl, hg, hc⟩ := row_cell hrow hm k x (by rw [← hk]; simp)
    have z0 : w3.cell? ⟨g, k * 7, none⟩ = some (.int .i64 (x.1.status : Int)) := hc 0 (by omega)
    have z6 : w3.cell? ⟨g, k * 7 + 6, none⟩ = some (.bool x.1.rq.keep) := hc 6 (by omega)
    have p1 : ((k + 1 : Nat) : Int) - 1 = (k : Int) := by omega
    have p2 : decide (0 < k + 1) = true := by simp
    have p3 : ((k + 1 : Nat) : Int) > 0 := by omega
    obtain ⟨s, hs⟩ : ∃ s, x.1.status = s := ⟨_, rfl⟩
    obtain ⟨kp, hkp⟩ : ∃ kp, x.1.rq.keep = kp := ⟨_, rfl⟩
    have hend2 : (q.waits == 7) = (s != 0 || !kp) := by rw [hend, ← hs, ← hkp]; rfl
    rw [hs] at z0
    rw [hkp] at z6
    clear hend hc hrow hg hm hs hkp hk hlen
    by_cases h0 : s = 0
    · subst h0
      cases kp with
      | true =>
        have EV : (q.waits == 7) = false := hend2
        clear hend2
        have HD := hide (show Calls Tryz.prog _ _ w3 fun e w' => e = .returned (.bool false) ∧ w' = w3 from by have h := dead_any B q tv' fv' bv' w3 HL3.out.at'; rw [EV] at h; exact h)
        clear EV
        go_wp2_with fail
        refine HD.out.mono ?_
        rintro e w4 ⟨rfl, rfl⟩
        go_wp2_with fail
        refine HD.out.mono ?_
        rintro e w5 ⟨rfl, rfl⟩
        go_wp2_with fail
        go_ret
        exact ⟨rfl, HL3.out.bel⟩
      | false =>
        have EV : (q.waits == 7) = true := hend2
        clear hend2
        have e7 : q.waits = 7 := by simpa using EV
        have HD := hide (show Calls Tryz.prog _ _ w3 fun e w' => e = .returned (.bool true) ∧ w' = w3 from by have h := dead_any B q tv' fv' bv' w3 HL3.out.at'; rw [EV] at h; exact h)
        have hF2 := HL3.out.feed l1 a1 n1 c1 HC.out.2.2.1 (by have := HB.out; omega) HC.out.2.2.2.2
        have HF2 := hide hF2
        have HE7 := hide (And.intro e7 EV)
        clear EV e7 hF2
        go_wp2_with fail
        refine HD.out.mono ?_
        rintro e w4 ⟨rfl, rfl⟩
        go_wp2_with fail
        refine HD.out.mono ?_
        rintro e w5 ⟨rfl, rfl⟩
        clear HD
        go_wp2_with fail
        refine HF2.out.mono ?_
        rintro e w6 ⟨a3, c3, rows3, tv3, fv3, bv3, rfl, hf3, hS3⟩
        rw [feed_dead l1 q HE7.out.1] at hf3 hS3
        have hr3 : rows3 = [] := by simpa using hf3.symm
        subst hr3
        have hL6 := St.lft HL3.out hS3 HL3.out.bd
        have hD6 := dead_any B q tv3 fv3 bv3 w6 hL6.at'
        have hI6 := idle_any B q tv3 fv3 bv3 w6 hL6.at'
        rw [HE7.out.2] at hD6
        rw [show idleM q = true by unfold idleM; rw [HE7.out.2]; rfl] at hI6
        have HD6 := hide hD6
        have HI6 := hide hI6
        have HL6 := hide hL6
        clear hD6 hI6 hL6 hS3 hf3 HF2
        simp only [List.length_nil]
        go_wp2_with fail
        refine HD6.out.mono ?_
        rintro e w7 ⟨rfl, rfl⟩
        go_wp2_with fail
        refine HI6.out.mono ?_
        rintro e w8 ⟨rfl, rfl⟩
        go_wp2_with fail
        go_ret
        exact ⟨rfl, HL6.out.bel⟩
    · have e1 : ((s : Int) != 0) = true := by simp; omega
      have EV : (q.waits == 7) = true := by rw [hend2]; simp [h0]
      clear hend2 h0 z6
      have e7 : q.waits = 7 := by simpa using EV
      have HD := hide (show Calls Tryz.prog _ _ w3 fun e w' => e = .returned (.bool true) ∧ w' = w3 from by have h := dead_any B q tv' fv' bv' w3 HL3.out.at'; rw [EV] at h; exact h)
      have hF2 := HL3.out.feed l1 a1 n1 c1 HC.out.2.2.1 (by have := HB.out; omega) HC.out.2.2.2.2
      have HF2 := hide hF2
      have HE7 := hide (And.intro e7 EV)
      clear EV e7 hF2
      go_wp2_with fail
      refine HD.out.mono ?_
      rintro e w4 ⟨rfl, rfl⟩
      go_wp2_with fail
      refine HD.out.mono ?_
      rintro e w5 ⟨rfl, rfl⟩
      clear HD
      go_wp2_with fail
      refine HF2.out.mono ?_
      rintro e w6 ⟨a3, c3, rows3, tv3, fv3, bv3, rfl, hf3, hS3⟩
      rw [feed_dead l1 q HE7.out.1] at hf3 hS3
      have hr3 : rows3 = [] := by simpa using hf3.symm
      subst hr3
      have hL6 := St.lft HL3.out hS3 HL3.out.bd
      have hD6 := dead_any B q tv3 fv3 bv3 w6 hL6.at'
      have hI6 := idle_any B q tv3 fv3 bv3 w6 hL6.at'
      rw [HE7.out.2] at hD6
      rw [show idleM q = true by unfold idleM; rw [HE7.out.2]; rfl] at hI6
      have HD6 := hide hD6
      have HI6 := hide hI6
      have HL6 := hide hL6
      clear hD6 hI6 hL6 hS3 hf3 HF2
      simp only [List.length_nil]
      go_wp2_with fail
      refine HD6.out.mono ?_
      rintro e w7 ⟨rfl, rfl⟩
      go_wp2_with fail
      refine HI6.out.mono ?_
      rintro e w8 ⟨rfl, rfl⟩
      go_wp2_with fail
      go_ret
      exact ⟨rfl, HL6.out.bel⟩
end Go.Proofs.YtbiblaeocbcfhaaGreatDoor
