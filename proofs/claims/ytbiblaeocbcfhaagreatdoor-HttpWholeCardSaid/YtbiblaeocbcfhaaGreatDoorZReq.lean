/- http: a whole head is taken. -/
import Derived.Test.YtbiblaeocbcfhaaGreatDoorZHead
namespace Go.Proofs.YtbiblaeocbcfhaaGreatDoor
open Go.RowKit Go.Deep
set_option linter.unusedVariables false
set_option linter.unusedSimpArgs false
set_option maxRecDepth 100000
def resV : Option Nat → Value
  | none => .tuple #[.int .i64 0, .bool false]
  | some s => .tuple #[.int .i64 (s : Int), .bool true]
def six (w : World) (B : Nat) (r : Rq) (fv : Value) : World := (((((w.setCell ⟨B, 5, none⟩ (.string (bs r.me))).setCell ⟨B, 6, none⟩ (.string (bs r.ta))).setCell ⟨B, 7, none⟩ (.int .i64 (r.minor : Int))).setCell ⟨B, 8, none⟩ fv).setCell ⟨B, 9, none⟩ (.slice none 0 0)).setCell ⟨B, 10, none⟩ (.bool r.keep)
theorem At.rq {w : World} {B : Nat} {p : PM} {tv fv bv : Value} (h : At w B p tv fv bv) (r : Rq) (fvr : Value) (hF : FV w fvr r.fs) (hb : r.body = []) (hk : ∀ k, fvr.ownBlock = some k → k ≠ B ∧ tv.ownBlock ≠ some k ∧ k < w.heap.size) :
    At (six w B r fvr) B { p with now := r } tv fvr (.slice none 0 0) ∧ OnlyS (fun k => k = B) w (six w B r fvr) := by
  have ho : OnlyS (fun k => k = B) w (six w B r fvr) := (((((((OnlyS.refl (fun k => k = B) w).setCell B 5 _ (.inl rfl)).setCell B 6 _ (.inl rfl)).setCell B 7 _ (.inl rfl)).setCell B 8 _ (.inl rfl)).setCell B 9 _ (.inl rfl)).setCell B 10 _ (.inl rfl))
  refine ⟨⟨set_block (set_block (set_block (set_block (set_block (set_block h.blk 5 _) 6 _) 7 _) 8 _) 9 _) 10 _, h.tx.only ho (fun k hk' e => h.tB (e ▸ hk')), by show U8 _ _ r.body; rw [hb]; exact U8.nil _, hF.only ho (fun k hk' e => (hk k hk').1 e), h.tB, fun e => (by cases e), fun e => (hk B e).1 rfl, fun k _ e => (by cases e), fun k hk' e => (hk k e).2.1 hk', fun k e => (by cases e), fun k e => Nat.lt_of_lt_of_le (hk k e).2.2 ho.size⟩, ho⟩
theorem headR_body (l : List UInt8) : (headR l).1.body = [] := by
  unfold headR
  split
  · rfl
  · split
    rename_i r s
    split
    · rfl
    · split
      · rfl
      · split
        · rfl
        · split <;> rfl
theorem headR_fs (l : List UInt8) (hl : l.length ≤ 5000) : (headR l).1.fs.length ≤ 200 ∧ Small (headR l).1.fs := by
  have h0 : (rq0.fs.length ≤ 200 ∧ Small rq0.fs) := ⟨by decide, fun f hf => by simp [rq0] at hf⟩
  unfold headR
  split
  · exact h0
  · split
    rename_i r s
    split
    · exact h0
    · split
      · exact h0
      · rename_i fs hfs
        split
        · exact h0
        · split
          · exact h0
          · refine ⟨by show fs.length ≤ 200; omega, fields_small _ _ hfs (fun x hx => ?_)⟩
            exact texts_small l hl x (List.drop_subset _ _ (List.dropLast_subset _ hx))
set_option maxHeartbeats 4000000 in
theorem request_any (B : Nat) (p : PM) (tv fv bv : Value) (l : List UInt8) (w : World) (hA : At w B p tv fv bv) (hE : Env w) (hl : l.length ≤ 5000) (h2 : 2 ≤ (piecesR l).length) :
    Calls Tryz.prog 19 #[.pointer (some ⟨B, 0, none⟩), .string (bs l)] w fun e w' => e = .returned (resV (requestM p l).2) ∧ Left B tv fv bv w (requestM p l).1 w' := by
  have HH := hide (readHead_any l w hE hl h2)
  have hbody := headR_body l
  have hfs := headR_fs l hl
  have hM : requestM p l = if (headR l).2 ≠ 0 then (p, some (headR l).2) else
      if (frameR (headR l).1).2.2 ≠ 0 ∨ ((frameR (headR l).1).1 = false ∧ (frameR (headR l).1).2.1 = 0) then ({ p with now := (headR l).1 }, some (frameR (headR l).1).2.2)
      else if (frameR (headR l).1).1 then ({ p with now := (headR l).1, waits := 2 }, none) else ({ p with now := (headR l).1, waits := 1, left := (frameR (headR l).1).2.1 }, none) := by
    unfold requestM
    rcases headR l with ⟨r, s⟩
    show (if s ≠ 0 then _ else _) = _
    rcases h : frameR r with ⟨a, b, c⟩
    simp only [h]
  obtain ⟨L, hL⟩ : ∃ L, bs l = L := ⟨_, rfl⟩
  have HH : Hid (Calls Tryz.prog 23 #[.string L] w (HeadTo l w)) := by rw [← hL]; exact HH
  rw [hL]
  unfold HeadTo at HH
  obtain ⟨r, hr⟩ : ∃ r, (headR l).1 = r := ⟨_, rfl⟩
  obtain ⟨s, hs⟩ : ∃ r, (headR l).2 = r := ⟨_, rfl⟩
  rw [hr] at hbody hfs
  rw [hr, hs] at hM
  simp only [hr, hs] at HH
  obtain ⟨pc, hpc⟩ : ∃ x, (frameR r).1 = x := ⟨_, rfl⟩
  obtain ⟨sz, hsz⟩ : ∃ x, (frameR r).2.1 = x := ⟨_, rfl⟩
  obtain ⟨s2, hs2⟩ : ∃ x, (frameR r).2.2 = x := ⟨_, rfl⟩
  rw [hpc, hsz, hs2] at hM
  have hFR := fun (v : Value) (V : World) (hV : Env V) (hF : FV V v r.fs) => frame_any r v (.slice none 0 0) V hV hF hfs.1 hfs.2
  rw [hpc, hsz, hs2] at hFR
  have HFR := hide hFR
  obtain ⟨Q, hQ⟩ : ∃ Q, requestM p l = Q := ⟨_, rfl⟩
  rw [hQ] at hM ⊢
  have HM := hide hM
  have HA := hide hA
  have HE := hide hE
  have HB0 := hide hbody
  clear hbody hfs hM hL hr hs hpc hsz hs2 hFR hQ hA hE hl h2
  obtain ⟨me, hme⟩ : ∃ x, bs r.me = x := ⟨_, rfl⟩
  obtain ⟨ta, hta⟩ : ∃ x, bs r.ta = x := ⟨_, rfl⟩
  obtain ⟨mi, hmi⟩ : ∃ x : Int, (r.minor : Int) = x := ⟨_, rfl⟩
  obtain ⟨kp, hkp⟩ : ∃ x, r.keep = x := ⟨_, rfl⟩
  have hrq : ∀ v, rqc r v (.slice none 0 0) = #[.string me, .string ta, .int .i64 mi, v, .slice none 0 0, .bool kp] := fun v => by unfold rqc; rw [hme, hta, hmi, hkp]
  simp only [hrq] at HH HFR
  have HRQ := hide (And.intro hme (And.intro hta (And.intro hmi hkp)))
  clear hme hta hmi hkp hrq
  go_enter Tryz.func19, Tryz.ntmps19
  go_wp2_with fail
  refine HH.out.mono ?_
  rintro e w1 ⟨fvr, rfl, hfv, hfk, b1⟩
  have hfv' := hfv
  obtain ⟨fa, fc, rfl, -⟩ := hfv'
  have HFV := hide (And.intro hfv (And.intro hfk b1))
  obtain ⟨nf, hnf⟩ : ∃ n, r.fs.length = n := ⟨_, rfl⟩
  simp only [hnf] at HFV hfv hfk ⊢
  clear hnf
  have ha1 := (Below.refl w1.heap.size w1).alloc (Nat.le_refl _) (.cells #[.string me, .string ta, .int .i64 mi, .slice fa nf fc, .slice none 0 0, .bool kp] 31)
  have HN := hide (heap_alloc_new w1 (.cells #[.string me, .string ta, .int .i64 mi, .slice fa nf fc, .slice none 0 0, .bool kp] 31))
  have HB1 := hide (b1.alloc b1.size (.cells #[.string me, .string ta, .int .i64 mi, .slice fa nf fc, .slice none 0 0, .bool kp] 31))
  have HA1 := hide ha1
  clear HH hfv hfk b1 ha1
  by_cases h0 : s = 0
  rotate_left
  · have e0 : ((s : Int) != 0) = true := by simp; omega
    have HQ := hide (show Q = (p, some s) by rw [HM.out, if_pos h0])
    clear h0
    go_wp2_with fail
    go_ret2
    exact ⟨by rw [HQ.out]; rfl, by rw [HQ.out]; exact ⟨tv, fv, bv, HA.out.below HB1.out, OnlyS.of HB1.out, Fresh.refl _ _, Fresh.refl _ _, Fresh.refl _ _⟩⟩
  have e0 : ((s : Int) != 0) = false := by simp; omega
  have hM2 := HM.out
  rw [if_neg (by simpa using h0)] at hM2
  have HM2 := hide hM2
  have HFR2 := hide (HFR.out (.slice fa nf fc) _ (HE.out.below HB1.out (Nat.le_refl _)) (HFV.out.1.only (X := fun _ => False) (OnlyS.of HA1.out) (fun _ _ h => h)))
  clear hM2 HM h0
  go_wp2_with (refine ld_whole (o := ⟨some 18, _, _, _, _, _⟩) 31 (.tmp 6) rfl (by rfl) w1.heap.size rfl #[.string me, .string ta, .int .i64 mi, .slice fa nf fc, .slice none 0 0, .bool kp] 31 HN.out Tryz.underlying31 (by kernel_rfl) ?_; try simp only [Act.put, List.setIfInBounds_toArray, List.set_cons_zero, List.set_cons_succ])
  refine HFR2.out.mono ?_
  rintro e w2 ⟨rfl, b2⟩
  have HB2 := hide (HB1.out.trans (b2.mono HB1.out.size))
  have HN2 := hide (below_block b2 HN.out (Nat.le_refl _))
  have hA2 := HA.out.below HB2.out
  have hfk2 : ∀ k, (Value.slice fa nf fc).ownBlock = some k → k ≠ B ∧ tv.ownBlock ≠ some k ∧ k < w2.heap.size := fun k hk => by
    have h1 := (HFV.out.2.1 k hk)
    have h2 := HA.out.blk
    have h3 := lt_of_block h2
    have h4 := HB2.out.size
    have h5 := HA1.out.size
    have h6 := b2.size
    refine ⟨by omega, fun e => ?_, by omega⟩
    have := HA.out.tx.lt k e
    omega
  have hfv2 : FV w2 (.slice fa nf fc) r.fs := (HFV.out.1.only (X := fun _ => False) (OnlyS.of HA1.out) (fun _ _ h => h)).only (X := fun _ => False) (OnlyS.of b2) (fun _ _ h => h)
  obtain ⟨hA3, hO3⟩ := hA2.rq r (.slice fa nf fc) hfv2 HB0.out hfk2
  have x5 := cell_at hA2.blk 5 rfl
  have x6 := cell_at hA2.blk 6 rfl
  have x7 := cell_at hA2.blk 7 rfl
  have x8 := cell_at hA2.blk 8 rfl
  have x9 := cell_at hA2.blk 9 rfl
  have x10 := cell_at hA2.blk 10 rfl
  have xf := free_at hA2.blk
  unfold six at hA3 hO3
  rw [HRQ.out.1, HRQ.out.2.1, HRQ.out.2.2.1, HRQ.out.2.2.2] at hA3 hO3
  have HA3 := hide hA3
  have HO3 := hide ((OnlyS.of (X := Own B tv bv) HB2.out).trans (hO3.mono (Y := Own B tv bv) (fun k _ e => .inl e)) (fun _ _ h => h))
  have HFF := hide (show Fresh w fv (.slice fa nf fc) ∧ Fresh w bv (.slice none 0 0) from ⟨fun k hk => .inr (HFV.out.2.1 k hk).1, Fresh.nil _ _⟩)
  have hy0 := cell_at hA3.blk 0 rfl
  have hy4 := cell_at hA3.blk 4 rfl
  have hyf := free_at hA3.blk
  have HZ1 := hide (hA3.set (p' := { p with now := r, waits := 2 }) 0 (.int .i64 2) rfl rfl rfl rfl)
  have hz2 := hA3.set (p' := { p with now := r, waits := 1 }) 0 (.int .i64 1) rfl rfl rfl rfl
  have HZ2 := hide (hz2.set (p' := { p with now := r, waits := 1, left := sz }) 4 (.int .i64 (sz : Int)) rfl rfl rfl rfl)
  have hz24 := cell_at hz2.blk 4 rfl
  have hzf := free_at hz2.blk
  obtain ⟨t1, ht1⟩ : ∃ t, ((s2 : Int) != 0) = t := ⟨_, rfl⟩
  obtain ⟨t2, ht2⟩ : ∃ t, ((sz : Int) == 0) = t := ⟨_, rfl⟩
  have e1' : t1 = decide (s2 ≠ 0) := by
    rw [← ht1]
    by_cases h : s2 = 0
    · subst h; rfl
    · rw [decide_eq_true h]; simp; omega
  have e2' : t2 = decide (sz = 0) := by
    rw [← ht2]
    by_cases h : sz = 0
    · subst h; rfl
    · rw [decide_eq_false h, beq_eq_false_iff_ne]; omega
  have HQ1 := hide (show (t1 || (!pc && t2)) = true → Q = ({ p with now := r }, some s2) from fun h => by
    rw [HM2.out, if_pos]
    rw [e1', e2'] at h
    simpa using h)
  have HQ2 := hide (show (t1 || (!pc && t2)) = false → Q = if pc then ({ p with now := r, waits := 2 }, none) else ({ p with now := r, waits := 1, left := sz }, none) from fun h => by
    rw [HM2.out, if_neg]
    rw [e1', e2'] at h
    simpa using h)
  clear HFR HFR2 b2 hA2 hfk2 hfv2 hA3 hO3 hz2 e1' e2' HM2
  cases t1 with
  | true =>
    have HQ := hide (HQ1.out (by first | rfl | simp))
    go_wp2_with (refine ld_whole (o := ⟨some 24, _, _, _, _, _⟩) 31 (.tmp 6) rfl (by rfl) w1.heap.size rfl #[.string me, .string ta, .int .i64 mi, .slice fa nf fc, .slice none 0 0, .bool kp] 31 HN2.out Tryz.underlying31 (by kernel_rfl) ?_; try simp only [Act.put, List.setIfInBounds_toArray, List.set_cons_zero, List.set_cons_succ])
    go_ret2
    exact ⟨by rw [HQ.out]; rfl, by rw [HQ.out]; exact ⟨tv, (.slice fa nf fc), .slice none 0 0, HA3.out, HO3.out, Fresh.refl _ _, HFF.out.1, HFF.out.2⟩⟩
  | false =>
    cases pc with
    | true =>
      have HQ := hide (HQ2.out (by first | rfl | simp))
      go_wp2_with (refine ld_whole (o := ⟨some 24, _, _, _, _, _⟩) 31 (.tmp 6) rfl (by rfl) w1.heap.size rfl #[.string me, .string ta, .int .i64 mi, .slice fa nf fc, .slice none 0 0, .bool kp] 31 HN2.out Tryz.underlying31 (by kernel_rfl) ?_; try simp only [Act.put, List.setIfInBounds_toArray, List.set_cons_zero, List.set_cons_succ])
      go_ret2
      exact ⟨by rw [HQ.out]; rfl, by rw [HQ.out]; exact ⟨tv, (.slice fa nf fc), .slice none 0 0, HZ1.out, HO3.out.setCell B 0 _ (.inl (.inl rfl)), Fresh.refl _ _, HFF.out.1, HFF.out.2⟩⟩
    | false =>
      cases t2 with
      | true =>
        have HQ := hide (HQ1.out (by first | rfl | simp))
        go_wp2_with (refine ld_whole (o := ⟨some 24, _, _, _, _, _⟩) 31 (.tmp 6) rfl (by rfl) w1.heap.size rfl #[.string me, .string ta, .int .i64 mi, .slice fa nf fc, .slice none 0 0, .bool kp] 31 HN2.out Tryz.underlying31 (by kernel_rfl) ?_; try simp only [Act.put, List.setIfInBounds_toArray, List.set_cons_zero, List.set_cons_succ])
        go_ret2
        exact ⟨by rw [HQ.out]; rfl, by rw [HQ.out]; exact ⟨tv, (.slice fa nf fc), .slice none 0 0, HA3.out, HO3.out, Fresh.refl _ _, HFF.out.1, HFF.out.2⟩⟩
      | false =>
        have HQ := hide (HQ2.out (by first | rfl | simp))
        go_wp2_with (refine ld_whole (o := ⟨some 24, _, _, _, _, _⟩) 31 (.tmp 6) rfl (by rfl) w1.heap.size rfl #[.string me, .string ta, .int .i64 mi, .slice fa nf fc, .slice none 0 0, .bool kp] 31 HN2.out Tryz.underlying31 (by kernel_rfl) ?_; try simp only [Act.put, List.setIfInBounds_toArray, List.set_cons_zero, List.set_cons_succ])
        go_ret2
        exact ⟨by rw [HQ.out]; rfl, by rw [HQ.out]; exact ⟨tv, (.slice fa nf fc), .slice none 0 0, HZ2.out, (HO3.out.setCell B 0 _ (.inl (.inl rfl))).setCell B 4 _ (.inl (.inl rfl)), Fresh.refl _ _, HFF.out.1, HFF.out.2⟩⟩
end Go.Proofs.YtbiblaeocbcfhaaGreatDoor
