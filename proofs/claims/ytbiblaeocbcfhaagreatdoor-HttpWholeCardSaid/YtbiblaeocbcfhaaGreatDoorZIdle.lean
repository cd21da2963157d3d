/- http: the idle reader; how a stream ends. -/
import Derived.Test.YtbiblaeocbcfhaaGreatDoorZFd
namespace Go.Proofs.YtbiblaeocbcfhaaGreatDoor
open Go.RowKit Go.Deep
set_option linter.unusedVariables false
set_option linter.unusedSimpArgs false
set_option maxRecDepth 100000
def idleM (p : PM) : Bool := p.waits == 7 || (p.waits == 0 && p.text.length == 0)
set_option maxHeartbeats 1000000 in
theorem idle_any (B : Nat) (p : PM) (tv fv bv : Value) (w : World) (hA : At w B p tv fv bv) :
    Calls Tryz.prog 9 #[.pointer (some ⟨B, 0, none⟩)] w fun e w' => e = .returned (.bool (idleM p)) ∧ w' = w := by
  have zf := free_at hA.blk
  have hD := dead_any B p tv fv bv w hA
  have z0 : w.cell? ⟨B, 0, none⟩ = some (.int .i64 (p.waits : Int)) := cell_at hA.blk 0 rfl
  have z1 : w.cell? ⟨B, 1, none⟩ = some tv := cell_at hA.blk 1 rfl
  obtain ⟨a, c, htv⟩ := hA.tx.form
  rw [htv] at z1
  obtain ⟨n, hn⟩ : ∃ n, p.text.length = n := ⟨_, rfl⟩
  obtain ⟨x, hx⟩ : ∃ x, p.waits = x := ⟨_, rfl⟩
  have hI : idleM p = (x == 7 || (x == 0 && n == 0)) := by unfold idleM; rw [hx, hn]
  rw [hI]
  rw [hx] at hD z0
  rw [hn] at z1
  clear hA hx hn htv hI
  by_cases h7 : x = 7
  · subst h7
    have HD := hide hD
    clear hD
    go_enter Tryz.func9, Tryz.ntmps9
    go_wp2_with fail
    refine HD.out.mono ?_
    rintro e w1 ⟨rfl, rfl⟩
    clear HD
    go_wp2_with fail
    go_ret
    exact ⟨rfl, rfl⟩
  · have e7 : (x == 7) = false := by simp [h7]
    rw [e7] at hD ⊢
    have HD := hide hD
    clear hD e7
    by_cases h0 : x = 0
    · subst h0
      by_cases hn : n = 0
      · subst hn
        go_enter Tryz.func9, Tryz.ntmps9
        go_wp2_with fail
        refine HD.out.mono ?_
        rintro e w1 ⟨rfl, rfl⟩
        clear HD
        go_wp2_with fail
        go_ret
        exact ⟨rfl, rfl⟩
      · have e1 : ((n : Int) == 0) = false := by simp; omega
        have e2 : (n == 0) = false := by simp; omega
        have HN := hide e2
        clear hn e2
        go_enter Tryz.func9, Tryz.ntmps9
        go_wp2_with fail
        refine HD.out.mono ?_
        rintro e w1 ⟨rfl, rfl⟩
        clear HD
        go_wp2_with fail
        go_ret
        exact ⟨by rw [HN.out]; rfl, rfl⟩
    · have e1 : ((x : Int) == 0) = false := by simp; omega
      have e2 : (x == 0) = false := by simp; omega
      have HN := hide e2
      clear h0 h7 e2
      go_enter Tryz.func9, Tryz.ntmps9
      go_wp2_with fail
      refine HD.out.mono ?_
      rintro e w1 ⟨rfl, rfl⟩
      clear HD
      go_wp2_with fail
      go_ret
      exact ⟨by rw [HN.out]; rfl, rfl⟩
def endT : Option Told → Bool
  | none => false
  | some t => t.status != 0 || !t.rq.keep
theorem tell_end (p : PM) (s : Nat) : endT (some (tellM p s).2) = !(tellM p s).2.rq.keep ∧ (tellM p s).1.waits = if (tellM p s).2.rq.keep then 0 else 7 := by
  unfold tellM
  by_cases h : s = 0
  · subst h
    rw [if_pos rfl]
    refine ⟨?_, rfl⟩
    show ((0 : Nat) != 0 || !p.now.keep) = !p.now.keep
    simp
  · rw [if_neg h]
    refine ⟨?_, rfl⟩
    show (s != 0 || !false) = !false
    simp
theorem getLast_append {α : Type} (x : α) : ∀ l : List α, ([x] ++ l).getLast? = if l = [] then some x else l.getLast?
  | [] => by simp
  | y :: l => by simp [List.getLast?_cons]
theorem ended : ∀ (l : List UInt8) (p : PM), Bd p → p.waits ≤ 6 → ((feedM p l).1.waits == 7) = endT (feedM p l).2.getLast?
  | [], p, _, h => by
    show (p.waits == 7) = false
    simp; omega
  | c :: r, p, hB, h6 => by
    have h7 : p.waits ≠ 7 := by omega
    obtain ⟨q, o, ho⟩ : ∃ q o, takeM p c = (q, o) := ⟨_, _, rfl⟩
    cases o with
    | none =>
      have ht := take_bd p c hB h6 (by rw [ho])
      rw [ho] at ht
      rw [feedM, step_none h7 ho, List.nil_append]
      exact ended r q ht.1 ht.2
    | some s =>
      rw [feedM, step_some h7 ho]
      have he := tell_end q s
      obtain ⟨t, htt⟩ : ∃ t, (tellM q s).2 = t := ⟨_, rfl⟩
      have hb := tell_bd q s
      obtain ⟨p2, hp2⟩ : ∃ p2, (tellM q s).1 = p2 := ⟨_, rfl⟩
      rw [htt, hp2] at he
      rw [hp2] at hb
      simp only [htt, hp2]
      cases hk : t.rq.keep with
      | true =>
        rw [hk] at he
        have hw : p2.waits = 0 := he.2
        rw [ended r p2 hb (by omega), getLast_append]
        split
        · rename_i hn
          rw [hn, he.1]; rfl
        · rfl
      | false =>
        rw [hk] at he
        have hw : p2.waits = 7 := he.2
        rw [feed_dead r p2 hw, hw]
        show true = endT (some t)
        rw [he.1]; rfl
end Go.Proofs.YtbiblaeocbcfhaaGreatDoor
