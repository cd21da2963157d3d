/- http: bytes are fed, the walk. -/
import Derived.Test.YtbiblaeocbcfhaaGreatDoorZFeed
namespace Go.Proofs.YtbiblaeocbcfhaaGreatDoor
open Go.RowKit Go.Deep
set_option linter.unusedVariables false
set_option linter.unusedSimpArgs false
set_option maxRecDepth 100000
/-- Where the bytes lie. -/
def Lies (w : World) (a : Option Addr) (l : List UInt8) (X : Nat → Prop) : Prop := l ≠ [] → ∃ g off, a = some ⟨g, off, none⟩ ∧ g < w.heap.size ∧ ¬ X g ∧ ∀ i c, l[i]? = some c → w.cell? ⟨g, off + i, none⟩ = some (.int .u8 (c.toNat : Int))
/-- What feeding leaves. -/
def FedTo (B : Nat) (p : PM) (tv fv bv : Value) (l : List UInt8) (w : World) (e : Ending) (w' : World) : Prop :=
  ∃ a c rows tv' fv' bv', e = .returned (.slice a rows.length c) ∧ (feedM p l).2 = rows.map (·.1) ∧ St w B tv fv bv w' (feedM p l).1 (.slice a rows.length c) rows tv' fv' bv'
theorem step_none {q p1 : PM} {c : UInt8} (h7 : q.waits ≠ 7) (h : takeM q c = (p1, none)) : stepM q c = (p1, []) := by unfold stepM; rw [if_neg h7, h]
theorem step_some {q p1 : PM} {c : UInt8} {s : Nat} (h7 : q.waits ≠ 7) (h : takeM q c = (p1, some s)) : stepM q c = ((tellM p1 s).1, [(tellM p1 s).2]) := by unfold stepM; rw [if_neg h7, h]
set_option maxHeartbeats 400000 in
theorem feed_any (B : Nat) (p : PM) (tv fv bv : Value) (l : List UInt8) (a : Option Addr) (n cap : Nat) (w : World) (hA : At w B p tv fv bv) (hE : Env w) (hL : Lo B tv bv) (hB : Bd p) (hn : l.length = n) (hn2 : n ≤ 20000) (hl : Lies w a l (Own B tv bv)) :
    Calls Tryz.prog 7 #[.pointer (some ⟨B, 0, none⟩), .slice a n cap] w (FedTo B p tv fv bv l w) := by
  have HC := hide (And.intro hE (And.intro hL (And.intro hB (And.intro hn (And.intro hn2 hl)))))
  have HI := hide (show (feedM p (l.take 0)).2 = ([] : List TRow).map (·.1) ∧ St w B tv fv bv w (feedM p (l.take 0)).1 (.slice none 0 0) [] tv fv bv from
    ⟨rfl, ⟨Outs.nil _, hA, OnlyS.refl _ _, Fresh.refl _ _, Fresh.refl _ _, Fresh.refl _ _, fun k h => (by rcases h with h | ⟨x, h, _⟩; cases h; simp at h), fun k h => (by cases h), fun k h => (by rcases h with h | ⟨x, h, _⟩; cases h; simp at h)⟩⟩)
  clear hE hL hB hn hl hA
  go_enter Tryz.func7, Tryz.ntmps7
  go_wp2_with fail
  go_loopw [5, 12] (fun ov i wz => ∃ (j m : Nat) (oa : Option Addr) (oc : Nat) (rows : List TRow) (tv' fv' bv' : Value), j ≤ n ∧ m ≤ j ∧ rows.length = m ∧ i = .int .i64 j ∧ ov = .slice oa m oc ∧ Hid ((feedM p (l.take j)).2 = rows.map (·.1) ∧ St w B tv fv bv wz (feedM p (l.take j)).1 (.slice oa m oc) rows tv' fv' bv')) (fun _ i _ => n - (Lib.intOf i).toNat)
  case atStart => exact ⟨0, 0, none, 0, [], tv, fv, bv, Nat.zero_le _, Nat.le_refl _, rfl, rfl, rfl, HI⟩
  case round =>
    clear HI
    obtain ⟨j, m, oa, oc, rows, tv', fv', bv', hj, hmj, hm, rfl, rfl, HI⟩ := hrel
    have hj4 : (0 : Int) ≤ (j : Int) := by omega
    have hj5 : (j : Int) ≤ 20000 := by omega
    by_cases hlt : j < n
    · have d1 : decide (j < n) = true := by simp; omega
      have hln := HC.out.2.2.2.1
      obtain ⟨c, hcj⟩ : ∃ c, l[j]? = some c := ⟨_, List.getElem?_eq_getElem (by omega)⟩
      obtain ⟨g, off, rfl, hg, hgo, hcells⟩ := HC.out.2.2.2.2.2 (by rintro rfl; simp at hln; omega)
      have hS := HI.out.2
      have hz : wr.cell? ⟨g, off + j, none⟩ = some (.int .u8 (c.toNat : Int)) := (hS.only.cell (p := ⟨g, off + j, none⟩) hg hgo).trans (hcells j c hcj)
      obtain ⟨q, hq⟩ : ∃ q, (feedM p (l.take j)).1 = q := ⟨_, rfl⟩
      rw [hq] at hS
      have hD := dead_any B q tv' fv' bv' wr hS.at'
      have hbd : Bd q := by rw [← hq]; exact feed_bd _ p HC.out.2.2.1
      have hsn : feedM p (l.take (j + 1)) = ((stepM q c).1, (feedM p (l.take j)).2 ++ (stepM q c).2) := by
        rw [List.take_add_one, hcj, Option.toList_some, feed_snoc, hq]
      by_cases h7 : q.waits = 7
      · have e7 : (q.waits == 7) = true := by simp [h7]
        rw [e7] at hD
        have HD := hide hD
        have HF := hide (show (feedM p l).2 = rows.map (·.1) ∧ St w B tv fv bv wr (feedM p l).1 (.slice oa m oc) rows tv' fv' bv' from by
          have e := feed_app (l.take j) (l.drop j) p
          rw [List.take_append_drop, hq, feed_dead _ _ h7] at e
          rw [e]
          exact ⟨by rw [List.append_nil]; exact HI.out.1, hS⟩)
        clear hD hbd hsn hS hcells hcj hq h7 e7 HI hln
        generalize hx : ((c.toNat : Nat) : Int) = x at hz
        go_wp2_with fail
        refine HD.out.mono ?_
        rintro e w1 ⟨rfl, rfl⟩
        clear HD
        go_wp2_with fail
        go_ret
        subst hm
        exact ⟨oa, oc, rows, tv', fv', bv', rfl, HF.out.1, HF.out.2⟩
      · have e7 : (q.waits == 7) = false := by simp [h7]
        rw [e7] at hD
        have HD := hide hD
        have hEw : Env wr := HC.out.1.only hS.only HC.out.2.1.own
        have hLo : Lo B tv' bv' := HC.out.2.1.fresh hS.ft hS.fb HC.out.1.two
        have hT := take_any B q tv' fv' bv' c wr hS.at' hEw hLo hbd (by have := hbd.waits; omega)
        obtain ⟨p1, o, hpo⟩ : ∃ p1 o, takeM q c = (p1, o) := ⟨_, _, rfl⟩
        rw [hpo] at hT
        have HT := hide hT
        have HS := hide hS
        have HR := hide HI.out.1
        cases o with
        | none =>
          have hst := step_none h7 hpo
          rw [hst] at hsn
          have HN := hide hsn
          generalize hx : ((c.toNat : Nat) : Int) = x at hz HT
          unfold resV at HT
          clear hD hT hEw hLo hbd hS hcells hcj hq h7 e7 HI hln hpo hst hsn hx
          go_wp2_with fail
          refine HD.out.mono ?_
          rintro e w1 ⟨rfl, rfl⟩
          clear HD
          go_wp2_with fail
          refine HT.out.mono ?_
          rintro e w1 ⟨rfl, hleft⟩
          obtain ⟨tv1, fv1, bv1, hS1⟩ := HS.out.left hleft
          have HG := hide (show (feedM p (l.take (j + 1))).2 = rows.map (·.1) ∧ St w B tv fv bv w1 (feedM p (l.take (j + 1))).1 (.slice oa m oc) rows tv1 fv1 bv1 from by
            rw [HN.out]; exact ⟨by rw [List.append_nil]; exact HR.out, hS1⟩)
          clear hleft hS1 HT
          go_wp2_with fail
          exact ⟨⟨j + 1, m, oa, oc, rows, tv1, fv1, bv1, by omega, by omega, hm, by go_num, rfl, HG⟩, by simp [Lib.intOf]; omega⟩
        | some s =>
          have hst := step_some h7 hpo
          rw [hst] at hsn
          have HN := hide hsn
          generalize hx : ((c.toNat : Nat) : Int) = x at hz HT
          unfold resV at HT
          clear hD hT hEw hLo hbd hS hcells hcj hq h7 e7 HI hln hpo hst hsn hx
          go_wp2_with fail
          refine HD.out.mono ?_
          rintro e w1 ⟨rfl, rfl⟩
          clear HD
          go_wp2_with fail
          refine HT.out.mono ?_
          rintro e w1 ⟨rfl, hleft⟩
          obtain ⟨tv1, fv1, bv1, hS1⟩ := HS.out.left hleft
          have HS1 := hide hS1
          have HTL := hide (tell_any B p1 tv1 fv1 bv1 s w1 hS1.at')
          clear hleft hS1 HT
          go_wp2_with fail
          refine HTL.out.mono ?_
          rintro e w2 ⟨tf, tb, rfl, hA2, ho2, hF2, hU2, hx2⟩
          generalize hy : (tellM p1 s).2 = y at hF2 hU2 HN ⊢
          obtain ⟨tfa, tfc, htf, -⟩ := id hF2
          obtain ⟨tba, tbc, htb⟩ := hU2.form
          generalize hnf : y.rq.fs.length = nf at htf
          generalize hnb : y.rq.body.length = nb at htb
          subst htf htb
          have hown : OwnTd w2 (.slice oa m oc) rows := ho2.owns HS1.out.outs.row (fun k hk e => (HS1.out.dis k (.inl hk)).1 e)
          obtain ⟨a', c', w5, hrun, o5, b5, f5⟩ := pushT w2 oa m oc rows hown hm (y, Value.slice tfa nf tfc, Value.slice tba nb tbc) rfl rfl (by omega)
          have hS5 := HS1.out.tell (tf := .slice none 0 0) (tb := .slice none 0 0) (x := (y, Value.slice tfa nf tfc, Value.slice tba nb tbc)) hA2 ho2 hF2 hU2 hx2 o5 b5 f5
          have HRUN := hide hrun
          have HG := hide (show (feedM p (l.take (j + 1))).2 = (rows ++ [(y, Value.slice tfa nf tfc, Value.slice tba nb tbc)]).map (·.1) ∧ St w B tv fv bv w5 (feedM p (l.take (j + 1))).1 (.slice a' (m + 1) c') (rows ++ [(y, Value.slice tfa nf tfc, Value.slice tba nb tbc)]) (.slice none 0 0) (.slice none 0 0) (.slice none 0 0) from by
            rw [HN.out]; exact ⟨by rw [List.map_append, ← HR.out]; rfl, hS5⟩)
          have hm2 : (rows ++ [(y, Value.slice tfa nf tfc, Value.slice tba nb tbc)]).length = m + 1 := by rw [List.length_append, hm]; rfl
          have HM := hide hm2
          clear hA2 ho2 hF2 hU2 hx2 hown hrun o5 b5 f5 hS5 HTL hy hm2 hnf hnb
          unfold tcells at HRUN ⊢
          go_wp2_with (at_builtin; refine Lib.wpList_append_run _ rfl _ _ _ _ rfl _ _ rfl rfl _ _ HRUN.out ?_)
          exact ⟨⟨j + 1, m + 1, a', c', _, _, _, _, by omega, by omega, HM.out, by go_num, rfl, HG⟩, by simp [Lib.intOf]; omega⟩
    · have d1 : decide (j < n) = false := by simp; omega
      have h := HI.out
      rw [List.take_of_length_le (by have := HC.out.2.2.2.1; omega)] at h
      have HF := hide h
      clear h HI hlt hj
      go_wp2_with fail
      go_ret
      subst hm
      exact ⟨oa, oc, rows, tv', fv', bv', rfl, HF.out.1, HF.out.2⟩
end Go.Proofs.YtbiblaeocbcfhaaGreatDoor
