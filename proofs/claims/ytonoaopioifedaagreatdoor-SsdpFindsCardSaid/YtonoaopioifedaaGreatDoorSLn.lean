/- Ssdp: the document's lines. -/
import Derived.Test.YtonoaopioifedaaGreatDoorSRf
import Derived.Test.YtonoaopioifedaaGreatDoorHRst
namespace Go.Proofs.YtonoaopioifedaaGreatDoor
open Go.RowKit Go.Shelf Go.Deep
set_option linter.unusedVariables false
set_option linter.unusedSimpArgs false
set_option maxRecDepth 100000
theorem rlF_cons (b : UInt8) (r : List UInt8) (o : List (List UInt8)) (c : List UInt8) : rlF (b :: r) o c = if b = 10 ∧ c.getLast? = some 13 then (if c.dropLast = [] then (o ++ [[]], r.isEmpty) else rlF r (o ++ [c.dropLast]) []) else rlF r o (c ++ [b]) := rfl
/-- What is under way. -/
def curL (l : List UInt8) (f i : Nat) : List UInt8 := (l.drop f).take (i - f)
theorem curL_last (l : List UInt8) (f i : Nat) (hf : f ≤ i) (hi : i ≤ l.length) : (curL l f i).getLast? = if f < i then l[i - 1]? else none := by
  unfold curL
  rw [List.getLast?_eq_getElem?, List.length_take, List.length_drop]
  by_cases h : f < i
  · rw [if_pos h, Nat.min_eq_left (by omega), List.getElem?_take_of_lt (by omega), List.getElem?_drop]
    congr 1; omega
  · rw [if_neg h]
    have : i - f = 0 := by omega
    rw [this]; simp
theorem curL_step (l : List UInt8) (f i : Nat) (b : UInt8) (hf : f ≤ i) (hb : l[i]? = some b) : curL l f (i + 1) = curL l f i ++ [b] := by
  unfold curL
  rw [show i + 1 - f = (i - f) + 1 by omega, List.take_add_one, List.getElem?_drop, show f + (i - f) = i by omega, hb]; rfl
theorem curL_pop (l : List UInt8) (f i : Nat) (hf : f < i) (hi : i ≤ l.length) : (curL l f i).dropLast = (l.drop f).take (i - 1 - f) := by
  unfold curL
  rw [List.dropLast_eq_take, List.length_take, List.length_drop, List.take_take]
  congr 1; omega
theorem curL_nil (l : List UInt8) (f : Nat) : curL l f f = [] := by unfold curL; simp
/-- The lines so far lie in a row; what is left gives the rest. -/
structure RLI (w : World) (l : List UInt8) (wz : World) (f i : Nat) (a : Option Addr) (k c : Nat) (out : List (List UInt8)) : Prop where
  own : H.OwnS wz w.heap.size a k c (out.map bt)
  below : Below w.heap.size w wz
  hf : f ≤ i
  hi : i ≤ l.length
  len : out.length = k
  le : k ≤ f
  rest : rlF (l.drop i) out (curL l f i) = rlF l [] []
theorem RLI.step {w wz : World} {l : List UInt8} {f i : Nat} {a : Option Addr} {k c : Nat} {out : List (List UInt8)} (h : RLI w l wz f i a k c out) (hlt : i < l.length) {b : UInt8} (hb : l[i]? = some b) (hm : ¬ (b = 10 ∧ f < i ∧ l[i - 1]? = some 13)) : RLI w l wz f (i + 1) a k c out := by
  refine ⟨h.own, h.below, by have := h.hf; omega, by omega, h.len, h.le, ?_⟩
  have hr := h.rest
  obtain ⟨hi2, e⟩ := List.getElem?_eq_some_iff.1 hb
  rw [List.drop_eq_getElem_cons hi2, e, rlF_cons] at hr
  have hl := curL_last l f i h.hf h.hi
  rw [if_neg (fun hh => by
    refine hm ⟨hh.1, ?_⟩
    have h2 := hh.2
    rw [hl] at h2
    split at h2
    · exact ⟨by assumption, h2⟩
    · cases h2)] at hr
  rw [curL_step l f i b h.hf hb]
  exact hr
theorem RLI.hit {w wz : World} {l : List UInt8} {f i : Nat} {a : Option Addr} {k c : Nat} {out : List (List UInt8)} (h : RLI w l wz f i a k c out) (hb : l[i]? = some 10) (hf : f < i) (h13 : l[i - 1]? = some 13) :
    rlF l [] [] = if (l.drop f).take (i - 1 - f) = [] then (out ++ [[]], (l.drop (i + 1)).isEmpty) else rlF (l.drop (i + 1)) (out ++ [(l.drop f).take (i - 1 - f)]) [] := by
  rw [← h.rest]
  obtain ⟨hi2, e⟩ := List.getElem?_eq_some_iff.1 hb
  rw [List.drop_eq_getElem_cons hi2, e, rlF_cons]
  have hl := curL_last l f i h.hf h.hi
  rw [if_pos hf] at hl
  rw [if_pos ⟨rfl, hl.trans h13⟩, curL_pop l f i hf h.hi]
def LinesTo (w : World) (l : List UInt8) (e : Ending) (w' : World) : Prop := ∃ a c k, e = .returned (.tuple #[.slice a k c, .bool (rlF l [] []).2]) ∧ RowS w' a k (rlF l [] []).1 ∧ (∀ p, a = some p → w.heap.size ≤ p.block) ∧ k ≤ 4001 ∧ Below w.heap.size w w'
theorem owns_ge {w : World} {K : Nat} {a : Option Addr} {n c : Nat} {ls : List ByteArray} (h : H.OwnS w K a n c ls) : ∀ p, a = some p → K ≤ p.block := fun p hp => by
  subst hp
  exact (World.ownsRow.lt h p.block (by rfl)).1
set_option maxHeartbeats 8000000 in
theorem rlines_any (l : List UInt8) (w : World) (hl : l.length ≤ 4000) : Calls Tryz.prog 25 #[.string (bt l)] w (LinesTo w l) := by
  obtain ⟨s, hs⟩ : ∃ s, bt l = s := ⟨_, rfl⟩
  obtain ⟨n, hn⟩ : ∃ n, s.size = n := ⟨_, rfl⟩
  have hsl : s.data.toList = l := by rw [← hs]
  have hln : l.length = n := by rw [← hsl, ← hn]; simp
  rw [hs]
  obtain ⟨W1, hW1⟩ : ∃ V, w.alloc (.cells #[] 9) = V := ⟨_, rfl⟩
  obtain ⟨r, hr⟩ : ∃ k, w.heap.size = k := ⟨_, rfl⟩
  have hI : RLI w l W1 0 0 (some ⟨r, 0, none⟩) 0 0 [] := ⟨by rw [← hW1, ← hr]; exact World.ownsRow_lit (base := w.heap.size) (e := 9) (size := 1) w #[] 0 (Nat.le_refl _) (by unfold maxLen; omega) rfl, by rw [← hW1]; exact (Below.refl _ _).alloc (Nat.le_refl _) _, Nat.le_refl _, Nat.zero_le _, rfl, Nat.le_refl _, rfl⟩
  have HI := hide hI
  have HE := hide (And.intro hW1 hr)
  have HN := hide (And.intro hln (And.intro hl hsl))
  have HS := hide hs
  have hn9 : (n : Int) ≤ 4000 := by omega
  have hn4 : (0 : Int) ≤ (n : Int) := by omega
  clear hs hsl hln hI hW1 hr hl
  go_enter Tryz.func25, Tryz.ntmps25
  go_upto_region 2 with (fail)
  rw [HE.out.1]
  rw [HE.out.2]
  clear HE
  go_wp2_with fail
  go_loopw [4, 5, 6] (fun ov fv iv wz => ∃ (i f : Nat) (a : Option Addr) (k c : Nat) (out : List (List UInt8)), i ≤ n ∧ iv = .int .i64 (i : Int) ∧ fv = .int .i64 (f : Int) ∧ ov = .slice a k c ∧ Hid (RLI w l wz f i a k c out)) (fun _ _ iv _ => n - (intOf iv).toNat)
  case atStart => exact ⟨0, 0, _, _, _, [], Nat.zero_le _, rfl, rfl, rfl, HI⟩
  case round =>
    clear HI
    obtain ⟨i, f, a, k, c, out, hi, rfl, rfl, rfl, HI⟩ := hrel
    have hi4 : (0 : Int) ≤ (i : Int) := by omega
    have hi5 : (i : Int) ≤ 4000 := by omega
    have hfi := HI.out.hf
    have hf4 : (0 : Int) ≤ (f : Int) := by omega
    have hf5 : (f : Int) ≤ 4000 := by omega
    by_cases hlt : i < n
    · have d1 : decide (i < n) = true := by simp; omega
      have hlt2 : i < l.length := by rw [HN.out.1]; exact hlt
      have his : i < s.size := by omega
      obtain ⟨b, hb⟩ : ∃ b, s[i]'his = b := ⟨_, rfl⟩
      have hlb : l[i]? = some b := by rw [← HN.out.2.2, Lib.data_getElem? s i his, hb]
      obtain ⟨y, hy⟩ : ∃ y, b.toNat = y := ⟨_, rfl⟩
      have hcy : (((s[i]'his).toNat : Nat) : Int) = (y : Int) := by rw [hb, hy]
      have HL := hide hlb
      have HY := hide hy
      clear hb hy hlb
      by_cases h10 : y = 10
      · have d2 : ((y : Int) != 10) = false := by simp; omega
        have hb10 : b = 10 := H.byte_is b 10 (by decide) (by rw [HY.out]; exact h10)
        have HB10 := hide (show l[i]? = some 10 from by rw [HL.out, hb10])
        clear h10
        by_cases hi0 : i = 0
        · have e1 : ((i : Int) == 0) = true := by rw [beq_iff_eq]; omega
          have HF := hide (show RLI w l wr f (i + 1) a k c out from HI.out.step hlt2 HL.out (fun hh => by have := hh.2.1; omega))
          clear HI HL hb10 hi0
          go_wp2_with fail
          exact ⟨⟨i + 1, f, a, k, c, out, by omega, by go_num, rfl, rfl, HF⟩, by simp [intOf]; omega⟩
        · have e1 : ((i : Int) == 0) = false := by rw [beq_eq_false_iff_ne]; omega
          have e2 : (0 : Int) ≤ (i : Int) - 1 := by omega
          have e3 : ((i : Int) - 1).toNat = i - 1 := by omega
          have e4 : (i : Int) - 1 < (n : Int) := by omega
          have hi1 : i - 1 < s.size := by omega
          obtain ⟨b2, hb2⟩ : ∃ b, s[i - 1]'hi1 = b := ⟨_, rfl⟩
          have hlb2 : l[i - 1]? = some b2 := by rw [← HN.out.2.2, Lib.data_getElem? s (i - 1) hi1, hb2]
          obtain ⟨z, hz⟩ : ∃ y, b2.toNat = y := ⟨_, rfl⟩
          have hcz : (((s[i - 1]'hi1).toNat : Nat) : Int) = (z : Int) := by rw [hb2, hz]
          have e5 : (1 : Int) ≤ (i : Int) := by omega
          have HL2 := hide (And.intro hlb2 hz)
          clear hb2 hz hlb2
          by_cases h13 : z = 13
          · have d3 : ((z : Int) != 13) = false := by simp; omega
            have hb13 : b2 = 13 := H.byte_is b2 13 (by decide) (by rw [HL2.out.2]; exact h13)
            by_cases hif : i - 1 < f
            · have e6 : decide ((i : Int) - 1 < (f : Int)) = true := by simp; omega
              clear h13
              have HF := hide (show RLI w l wr f (i + 1) a k c out from HI.out.step hlt2 HL.out (fun hh => by have := hh.2.1; omega))
              clear HI HL hb10 hb13 hi0 HL2
              go_wp2_with fail
              exact ⟨⟨i + 1, f, a, k, c, out, by omega, by go_num, rfl, rfl, HF⟩, by simp [intOf]; omega⟩
            · have e6 : decide ((i : Int) - 1 < (f : Int)) = false := by simp; omega
              have HIT := hide (HI.out.hit HB10.out (by omega) (by rw [HL2.out.1, hb13]))
              have hff : f < i := by omega
              have e7 : (f : Int) ≤ (i : Int) - 1 := by omega
              have e8 : (i : Int) - 1 ≤ (n : Int) := by omega
              obtain ⟨P, hP⟩ : ∃ P, (l.drop f).take (i - 1 - f) = P := ⟨_, rfl⟩
              have hext : s.extract f (i - 1) = bt P := by rw [Lib.extract_eq, HN.out.2.2, hP]
              rw [hP] at HIT
              have hPl : P.length = i - 1 - f := by rw [← hP, List.length_take, List.length_drop, HN.out.1]; omega
              obtain ⟨a5, c5, w5, hrun, o5, b5⟩ := H.pushS wr w.heap.size a k c _ HI.out.own (bt P) (by have := HI.out.le; omega) HI.out.below.size
              have HRUN := hide hrun
              have HO5 := hide (show H.OwnS w5 w.heap.size a5 (k + 1) c5 ((out ++ [P]).map bt) ∧ Below w.heap.size w w5 ∧ (out ++ [P]).length = k + 1 ∧ k + 1 ≤ i from ⟨by rw [List.map_append, List.map_singleton]; exact o5, HI.out.below.trans b5, by rw [List.length_append, HI.out.len]; rfl, by have := HI.out.le; omega⟩)
              clear hrun o5 b5 HI hb13 h13 hP
              generalize bt P = BP at *
              by_cases hemp : i - 1 = f
              · have e9 : ((i : Int) - 1 == (f : Int)) = true := by rw [beq_iff_eq]; omega
                have hP0 : P = [] := List.length_eq_zero_iff.1 (by omega)
                obtain ⟨q, hq⟩ : ∃ q, ((i : Int) == (n : Int) - 1) = q := ⟨_, rfl⟩
                have e10 : (0 : Int) ≤ (n : Int) - 1 := by omega
                have HF := hide (show rlF l [] [] = (out ++ [P], q) from by
                  rw [HIT.out, if_pos hP0, hP0, ← hq]
                  congr 1
                  by_cases hl : i + 1 = n
                  · rw [List.drop_eq_nil_of_le (by rw [HN.out.1]; omega)]
                    have : ((i : Int) == (n : Int) - 1) = true := by rw [beq_iff_eq]; omega
                    rw [this]; rfl
                  · have : ((i : Int) == (n : Int) - 1) = false := by rw [beq_eq_false_iff_ne]; omega
                    rw [this]
                    have h2 : 0 < (l.drop (i + 1)).length := by rw [List.length_drop, HN.out.1]; omega
                    cases hd : l.drop (i + 1) with
                    | nil => rw [hd] at h2; simp at h2
                    | cons x r => rfl)
                clear HIT hP0 hPl hemp
                go_wp2_with (at_builtin; refine Lib.wpList_append_run _ rfl _ _ _ _ rfl _ _ rfl rfl _ _ HRUN.out ?_)
                go_ret2
                exact ⟨_, _, _, by rw [HF.out]; rfl, by rw [HF.out]; exact rowS_of HO5.out.1, owns_ge HO5.out.1, by have := HO5.out.2.2.2; omega, HO5.out.2.1⟩
              · have e9 : ((i : Int) - 1 == (f : Int)) = false := by rw [beq_eq_false_iff_ne]; omega
                have hP0 : P ≠ [] := fun e => by rw [e] at hPl; simp at hPl; omega
                have HF := hide (show RLI w l w5 (i + 1) (i + 1) a5 (k + 1) c5 (out ++ [P]) from ⟨HO5.out.1, HO5.out.2.1, Nat.le_refl _, hlt2, HO5.out.2.2.1, by have := HO5.out.2.2.2; omega, by rw [HIT.out, if_neg hP0, curL_nil]⟩)
                clear HIT hP0 hPl hemp HO5
                go_wp2_with (at_builtin; refine Lib.wpList_append_run _ rfl _ _ _ _ rfl _ _ rfl rfl _ _ HRUN.out ?_)
                exact ⟨⟨i + 1, i + 1, a5, k + 1, c5, out ++ [P], by omega, by go_num, by go_num, rfl, HF⟩, by simp [intOf]; omega⟩
          · have d3 : ((z : Int) != 13) = true := by simp; omega
            have HF := hide (show RLI w l wr f (i + 1) a k c out from HI.out.step hlt2 HL.out (fun hh => by have h2 := hh.2.2; rw [HL2.out.1] at h2; injection h2 with h2; rw [h2] at HL2; exact h13 (HL2.out.2.symm.trans (by decide))))
            clear HI HL hb10 hi0 HL2 h13
            go_wp2_with fail
            exact ⟨⟨i + 1, f, a, k, c, out, by omega, by go_num, rfl, rfl, HF⟩, by simp [intOf]; omega⟩
      · have d2 : ((y : Int) != 10) = true := by simp; omega
        have HF := hide (show RLI w l wr f (i + 1) a k c out from HI.out.step hlt2 HL.out (fun hh => h10 (by rw [← HY.out, hh.1]; decide)))
        clear HI HL h10 HY
        go_wp2_with fail
        exact ⟨⟨i + 1, f, a, k, c, out, by omega, by go_num, rfl, rfl, HF⟩, by simp [intOf]; omega⟩
    · have d1 : decide (i < n) = false := by simp; omega
      have HF := hide (show rlF l [] [] = (out, false) ∧ H.OwnS wr w.heap.size a k c (out.map bt) ∧ Below w.heap.size w wr ∧ k ≤ 4001 from ⟨by
        have h := HI.out.rest
        rw [List.drop_eq_nil_of_le (by rw [HN.out.1]; omega)] at h
        rw [← h]; rfl, HI.out.own, HI.out.below, by have := HI.out.le; omega⟩)
      clear HI hlt
      go_wp2_with fail
      go_ret2
      exact ⟨_, _, _, by rw [HF.out.1]; rfl, by rw [HF.out.1]; exact rowS_of HF.out.2.1, owns_ge HF.out.2.1, HF.out.2.2.2, HF.out.2.2.1⟩
end Go.Proofs.YtonoaopioifedaaGreatDoor
