/- http: a head. -/
import Derived.Test.YtbiblaeocbcfhaaGreatDoorZTail
import Derived.Test.YtbiblaeocbcfhaaGreatDoorZFrame
namespace Go.Proofs.YtbiblaeocbcfhaaGreatDoor
open Go.RowKit Go.Deep
set_option linter.unusedVariables false
set_option linter.unusedSimpArgs false
set_option maxRecDepth 100000
theorem line_small (x : List UInt8) (f) (h : lineL x = some f) : f.1.length ≤ x.length ∧ f.2.length ≤ x.length := by
  unfold lineL at h
  split at h
  · cases h
    have h1 := cut_len x 58
    have h2 := trim_len (Lib.cut x [58]).2.1 bl
    refine ⟨?_, Nat.le_trans h2 h1.2⟩
    show (lowL _).length ≤ _
    unfold lowL
    rw [List.length_map]
    exact h1.1
  · cases h
theorem fields_small : ∀ (xs : List (List UInt8)) (fs), fieldsL xs = some fs → (∀ x ∈ xs, x.length ≤ 5000) → Small fs
  | [], fs, h, _ => by cases h; intro f hf; simp at hf
  | x :: r, fs, h, hs => by
    rw [fieldsL] at h
    cases hx : lineL x with
    | none => rw [hx] at h; cases h
    | some f =>
      rw [hx, Option.bind_some] at h
      cases hr : fieldsL r with
      | none => rw [hr] at h; cases h
      | some t =>
        rw [hr] at h; cases h
        intro g hg
        rcases List.mem_cons.1 hg with e | e
        · subst e
          have := line_small x g hx
          have := hs x (by simp)
          omega
        · exact fields_small r t hr (fun y hy => hs y (by simp [hy])) g e
abbrev z6 : Array Value := #[.string ⟨#[]⟩, .string ⟨#[]⟩, .int .i64 0, .slice none 0 0, .slice none 0 0, .bool false]
/-- What a head's reading answers. -/
def HeadTo (l : List UInt8) (w : World) (e : Ending) (w' : World) : Prop := ∃ fv, e = .returned (.tuple #[.agg (rqc (headR l).1 fv (.slice none 0 0)), .int .i64 ((headR l).2 : Int)]) ∧ FV w' fv (headR l).1.fs ∧ (∀ k, fv.ownBlock = some k → w.heap.size ≤ k ∧ k < w'.heap.size) ∧ Below w.heap.size w w'
theorem HeadTo.bad {l : List UInt8} {w w' : World} {st : Nat} (h : headR l = (rq0, st)) (hb : Below w.heap.size w w') : HeadTo l w (.returned (.tuple #[.agg z6, .int .i64 (st : Int)])) w' :=
  ⟨.slice none 0 0, by rw [h]; rfl, by rw [h]; exact FV.nil _, fun k hk => (by cases hk), hb⟩
set_option maxHeartbeats 8000000 in
theorem readHead_any (l : List UInt8) (w : World) (hE : Env w) (hl : l.length ≤ 5000) (h2 : 2 ≤ (piecesR l).length) :
    Calls Tryz.prog 23 #[.string (bs l)] w (HeadTo l w) := by
  have hal := (Below.refl w.heap.size w).alloc (Nat.le_refl _) (.cells z6 31)
  have hnew := heap_alloc_new w (.cells z6 31)
  obtain ⟨S, hS⟩ : ∃ S, w.heap.size = S := ⟨_, rfl⟩
  obtain ⟨W, hW⟩ : ∃ W, w.alloc (.cells z6 31) = W := ⟨_, rfl⟩
  rw [hW] at hal hnew
  rw [hS] at hnew
  have hE1 := hE.below hal (Nat.le_refl _)
  have hT := texts_any l W hE1 hl
  have hlen := texts_len l
  have hfew := pieces_few l
  obtain ⟨k, hk⟩ : ∃ k, (piecesR l).length = k + 2 := ⟨(piecesR l).length - 2, by omega⟩
  rw [hk] at hT hlen hfew
  have hsm := texts_small l hl
  obtain ⟨x0, hx0⟩ : ∃ x, (textsL l)[0]? = some x := ⟨_, List.getElem?_eq_getElem (by omega)⟩
  have hhd : (textsL l).headD [] = x0 := by
    cases h : textsL l with
    | nil => rw [h] at hx0; cases hx0
    | cons y r => rw [h] at hx0; cases hx0; rfl
  have hx0l := hsm x0 (List.mem_of_getElem? hx0)
  obtain ⟨xs, hxs⟩ : ∃ xs, ((textsL l).drop 1).dropLast = xs := ⟨_, rfl⟩
  have hxl : xs.length = k := by rw [← hxs, List.length_dropLast, List.length_drop, hlen]; rfl
  have hxat : ∀ i x, xs[i]? = some x → (textsL l)[1 + i]? = some x := fun i x h => by
    rw [← hxs, List.dropLast_eq_take, List.getElem?_take] at h
    split at h
    · rw [List.getElem?_drop] at h; exact h
    · cases h
  have hxm : ∀ x ∈ xs, x.length ≤ 5000 := fun x hx => by
    obtain ⟨i, hi⟩ := List.mem_iff_getElem?.1 hx
    exact hsm x (List.mem_of_getElem? (hxat i x hi))
  have hF := fun (V : World) (R : Nat) (hV : Env V) (hR : V.heap[R]? = some (.cells (strs ((piecesR l).map cutR)) 9 (0, 0))) =>
    fields_any xs R 1 k (k + 1) V hV (fun i x hx => texts_cell hR (1 + i) x (hxat i x hx)) (lt_of_block hR) hxl (by omega) hxm
  have hS0 := fun (V : World) (hV : Env V) => readStart_any x0 V hV hx0l
  have hH : headR l = if wholeL l = false then (rq0, 400) else if (startR x0).2 ≠ 0 then (rq0, (startR x0).2) else
      match fieldsL xs with
      | none => (rq0, 400)
      | some fs => if 40 < fs.length then (rq0, 431)
        else if 1 < (getP fs hostN).length ∨ ((getP fs hostN).length = 0 ∧ (startR x0).1.minor = 1) then (rq0, 400)
        else (⟨(startR x0).1.me, (startR x0).1.ta, (startR x0).1.minor, fs, [], keepsP (startR x0).1.minor fs⟩, 0) := by
    unfold headR
    rw [hhd, hxs]
    cases startR x0
    rfl
  obtain ⟨L, hL⟩ : ∃ L, bs l = L := ⟨_, rfl⟩
  rw [hL] at hT ⊢
  obtain ⟨wb, hwb⟩ : ∃ b, wholeL l = b := ⟨_, rfl⟩
  rw [hwb] at hT hH
  have HT := hide hT
  have HF := hide hF
  have HS0 := hide hS0
  have HH := hide hH
  have HE := hide hE1
  have HW := hide (And.intro hW (And.intro hS (And.intro hal hnew)))
  have HX := hide (And.intro hxl (And.intro hx0 (And.intro hxm (show k ≤ 5000 by omega))))
  have hk5 : (k : Int) ≤ 5000 := by omega
  have hk4 : (0 : Int) ≤ (k : Int) := by omega
  clear hal hnew hS hW hE1 hT hlen hfew hk hsm hx0 hhd hx0l hxs hxl hxat hxm hF hS0 hH hL hwb hE hl h2
  cases wb with
  | false =>
    go_enter Tryz.func23, Tryz.ntmps23
    go_wp2_with fail
    rw [HW.out.1, HW.out.2.1]
    refine HT.out.mono ?_
    rintro e w1 ⟨R, rfl, hR0, hR, b1⟩
    have hs2 := below_block b1 HW.out.2.2.2 (Nat.le_refl _)
    have k0 := cell_at hs2 0 rfl
    have k1 := cell_at hs2 1 rfl
    have k2 := cell_at hs2 2 rfl
    have k3 := cell_at hs2 3 rfl
    have k4 := cell_at hs2 4 rfl
    have k5 := cell_at hs2 5 rfl
    have kf := free_at hs2
    have HFIN := hide (six_set hs2 (.string ⟨#[]⟩) (.string ⟨#[]⟩) (.int .i64 0) (.slice none 0 0) (.slice none 0 0) (.bool false) (HW.out.2.2.1.trans (b1.mono HW.out.2.2.1.size)) (by have := HW.out.2.1; omega))
    clear hs2 b1 HT hR hR0
    go_wp2_with fail
    exact bodyPost_ret (v := .tuple #[.agg z6, .int .i64 ((400 : Nat) : Int)]) (results_cell_tmp Tryz.results23 _ _ S 31 _ (0, 0) _ rfl HFIN.out.1 Tryz.underlying31 rfl (by kernel_rfl) _ rfl) rfl (HeadTo.bad (by rw [HH.out]; exact if_pos (by simp)) HFIN.out.2)
  | true =>
    have hH := HH.out
    rw [if_neg (by decide)] at hH
    obtain ⟨X0, hX0⟩ : ∃ X, bs x0 = X := ⟨_, rfl⟩
    obtain ⟨r0, hr0⟩ : ∃ r, (startR x0).1 = r := ⟨_, rfl⟩
    obtain ⟨st, hst⟩ : ∃ r, (startR x0).2 = r := ⟨_, rfl⟩
    have hS1 := HS0.out
    rw [hr0, hst, hX0] at hS1
    rw [hr0, hst] at hH
    obtain ⟨M, hM⟩ : ∃ M, bs r0.me = M := ⟨_, rfl⟩
    obtain ⟨T, hT⟩ : ∃ M, bs r0.ta = M := ⟨_, rfl⟩
    obtain ⟨mi, hmi⟩ : ∃ M : Int, (r0.minor : Int) = M := ⟨_, rfl⟩
    obtain ⟨kp, hkp⟩ : ∃ M, r0.keep = M := ⟨_, rfl⟩
    have hS2 : ∀ V, Env V → Calls Tryz.prog 30 #[.string X0] V fun e w' => e = .returned (.tuple #[.agg #[.string M, .string T, .int .i64 mi, .slice none 0 0, .slice none 0 0, .bool kp], .int .i64 (st : Int)]) ∧ Below V.heap.size V w' := by rw [← hM, ← hT, ← hmi, ← hkp]; exact hS1
    have HS1 := hide hS2
    have HH2 := hide hH
    have HL := hide (And.intro hM (And.intro hT (And.intro hmi (And.intro hkp hX0))))
    clear HS0 hS1 hS2 HH hH hr0 hst hM hT hmi hkp hX0
    go_enter Tryz.func23, Tryz.ntmps23
    go_wp2_with fail
    rw [HW.out.1, HW.out.2.1]
    refine HT.out.mono ?_
    rintro e w1 ⟨R, rfl, hR0, hR, b1⟩
    have hc0 : w1.cell? ⟨R, 0, none⟩ = some (.string X0) := by rw [← HL.out.2.2.2.2]; exact texts_cell hR 0 x0 HX.out.2.1
    have hk2 : (0 : Int) < (k : Int) + 2 := by omega
    have HR := hide hR
    have HB1 := hide b1
    have HE1 := hide (HE.out.below b1 (Nat.le_refl _))
    clear HT hR b1 hR0
    go_wp2_with fail
    refine (HS1.out _ HE1.out).mono ?_
    rintro e w2 ⟨rfl, b2⟩
    have HB2 := hide (HB1.out.trans (b2.mono HB1.out.size))
    have ha2 := (Below.refl w2.heap.size w2).alloc (Nat.le_refl _) (.cells #[.string M, .string T, .int .i64 mi, .slice none 0 0, .slice none 0 0, .bool kp] 31)
    have HA2 := hide ha2
    have HB3 := hide (HB2.out.alloc HB2.out.size (.cells #[.string M, .string T, .int .i64 mi, .slice none 0 0, .slice none 0 0, .bool kp] 31))
    have HE3 := hide (HE.out.below HB3.out (Nat.le_refl _))
    have HN6 := hide (heap_alloc_new w2 (.cells #[.string M, .string T, .int .i64 mi, .slice none 0 0, .slice none 0 0, .bool kp] 31))
    have HR3 := hide (below_block ha2 (below_block b2 HR.out (Nat.le_refl _)) (Nat.le_refl _))
    have HS3 := hide (below_block HB3.out HW.out.2.2.2 (Nat.le_refl _))
    clear HS1 b2 ha2
    by_cases h0 : st = 0
    rotate_left
    · have e0 : ((st : Int) != 0) = true := by simp; omega
      have HV := hide (show headR l = (rq0, st) by rw [HH2.out, if_pos h0])
      have hs2 := HS3.out
      have k0 := cell_at hs2 0 rfl
      have k1 := cell_at hs2 1 rfl
      have k2 := cell_at hs2 2 rfl
      have k3 := cell_at hs2 3 rfl
      have k4 := cell_at hs2 4 rfl
      have k5 := cell_at hs2 5 rfl
      have kf := free_at hs2
      have HFIN := hide (six_set hs2 (.string ⟨#[]⟩) (.string ⟨#[]⟩) (.int .i64 0) (.slice none 0 0) (.slice none 0 0) (.bool false) (HW.out.2.2.1.trans (HB3.out.mono HW.out.2.2.1.size)) (by have := HW.out.2.1; omega))
      clear hs2 h0
      go_wp2_with fail
      exact bodyPost_ret (v := .tuple #[.agg z6, .int .i64 ((st : Nat) : Int)]) (results_cell_tmp Tryz.results23 _ _ S 31 _ (0, 0) _ rfl HFIN.out.1 Tryz.underlying31 rfl (by kernel_rfl) _ rfl) rfl (HeadTo.bad (HV.out) HFIN.out.2)
    have e0 : ((st : Int) != 0) = false := by simp; omega
    have hH3 := HH2.out
    rw [if_neg (by simpa using h0)] at hH3
    have HH3 := hide hH3
    have HF2 := hide (HF.out _ R HE3.out HR3.out)
    clear HF HH2 hH3 h0
    go_wp2_with fail
    refine HF2.out.mono ?_
    rintro e w3 ⟨fv, rfl, hfv, hfk, b3⟩
    have HB4 := hide (HB3.out.trans (b3.mono HB3.out.size))
    have HFV := hide (And.intro hfv hfk)
    have HN4 := hide (below_block b3 HN6.out (Nat.le_refl _))
    have HS4 := hide (below_block b3 HS3.out (Nat.le_refl _))
    clear HF2 hfv hfk b3
    cases hfs : fieldsL xs with
    | none =>
      rw [hfs] at HH3
      have HV := hide (show headR l = (rq0, 400) from HH3.out)
      have hs2 := HS4.out
      have k0 := cell_at hs2 0 rfl
      have k1 := cell_at hs2 1 rfl
      have k2 := cell_at hs2 2 rfl
      have k3 := cell_at hs2 3 rfl
      have k4 := cell_at hs2 4 rfl
      have k5 := cell_at hs2 5 rfl
      have kf := free_at hs2
      have HFIN := hide (six_set hs2 (.string ⟨#[]⟩) (.string ⟨#[]⟩) (.int .i64 0) (.slice none 0 0) (.slice none 0 0) (.bool false) (HW.out.2.2.1.trans (HB4.out.mono HW.out.2.2.1.size)) (by have := HW.out.2.1; omega))
      clear hs2 hfs
      go_wp2_with fail
      exact bodyPost_ret (v := .tuple #[.agg z6, .int .i64 ((400 : Nat) : Int)]) (results_cell_tmp Tryz.results23 _ _ S 31 _ (0, 0) _ rfl HFIN.out.1 Tryz.underlying31 rfl (by kernel_rfl) _ rfl) rfl (HeadTo.bad (HV.out) HFIN.out.2)
    | some fs =>
      rw [hfs] at HH3 HFV
      have hfl := fields_len xs fs hfs
      rw [HX.out.1] at hfl
      have HSM := hide (fields_small xs fs hfs HX.out.2.2.1)
      have hfvform := HFV.out.1
      obtain ⟨fa, fc, hfe, _⟩ := hfvform
      rw [show (Option.getD (some fs) []) = fs from rfl, hfl] at hfe
      have HH4 := hide (show headR l = if 40 < fs.length then (rq0, 431) else if 1 < (getP fs hostN).length ∨ ((getP fs hostN).length = 0 ∧ r0.minor = 1) then (rq0, 400) else (⟨r0.me, r0.ta, r0.minor, fs, [], keepsP r0.minor fs⟩, 0) from HH3.out)
      have HFL := hide hfl
      have HFV2 := hide (show FV w3 fv fs ∧ ∀ k, fv.ownBlock = some k → (w2.alloc (.cells #[.string M, .string T, .int .i64 mi, .slice none 0 0, .slice none 0 0, .bool kp] 31)).heap.size ≤ k ∧ k < w3.heap.size from HFV.out)
      have HFE := hide hfe
      subst hfe
      clear HH3 HFV hfs hfl
      by_cases h40 : 40 < k
      · have e1 : decide ((40 : Int) < (k : Int)) = true := by simp; omega
        have HV := hide (show headR l = (rq0, 431) by rw [HH4.out, if_pos (by have := HFL.out; omega)])
        have hs2 := HS4.out
        have k0 := cell_at hs2 0 rfl
        have k1 := cell_at hs2 1 rfl
        have k2 := cell_at hs2 2 rfl
        have k3 := cell_at hs2 3 rfl
        have k4 := cell_at hs2 4 rfl
        have k5 := cell_at hs2 5 rfl
        have kf := free_at hs2
        have HFIN := hide (six_set hs2 (.string ⟨#[]⟩) (.string ⟨#[]⟩) (.int .i64 0) (.slice none 0 0) (.slice none 0 0) (.bool false) (HW.out.2.2.1.trans (HB4.out.mono HW.out.2.2.1.size)) (by have := HW.out.2.1; omega))
        clear hs2 h40
        go_wp2_with fail
        exact bodyPost_ret (v := .tuple #[.agg z6, .int .i64 ((431 : Nat) : Int)]) (results_cell_tmp Tryz.results23 _ _ S 31 _ (0, 0) _ rfl HFIN.out.1 Tryz.underlying31 rfl (by kernel_rfl) _ rfl) rfl (HeadTo.bad (HV.out) HFIN.out.2)
      · have e1 : decide ((40 : Int) < (k : Int)) = false := by simp; omega
        have H40 := hide (show k ≤ 40 by omega)
        have hn4 := HN4.out
        have y2 := cell_at hn4 2 rfl
        have y3 := cell_at hn4 3 rfl
        have yf := free_at hn4
        have hSlt : S < w2.heap.size := by have := HB2.out.size; have := lt_of_block HW.out.2.2.2; omega
        have HLT := hide hSlt
        have HNE := hide (show S ≠ w2.heap.size by omega)
        have HSZ2 := hide (show w2.heap.size < (w2.alloc (.cells #[.string M, .string T, .int .i64 mi, .slice none 0 0, .slice none 0 0, .bool kp] 31)).heap.size by simp)
        have hO4 := (OnlyS.refl (fun j => j = w2.heap.size ∨ j = S) w3).setCell w2.heap.size 3 (.slice fa k fc) (.inl (.inl rfl))
        have hnX : ∀ j, (Value.slice fa k fc).ownBlock = some j → ¬ (j = w2.heap.size ∨ j = S) := fun j hj hx => by
          have h1 := (HFV2.out.2 j hj).1
          have h3 := HSZ2.out
          rcases hx with e | e <;> omega
        have hfv4 := HFV2.out.1.only hO4 hnX
        have hG := get_txt _ (.slice fa k fc) fs hostN hfv4 (by have := HFL.out; have := H40.out; omega)
        rw [lit_hostN] at hG
        have HG := hide hG
        have hn4' : (w3.setCell ⟨w2.heap.size, 3, none⟩ (.slice fa k fc)).heap[w2.heap.size]? = some (.cells #[.string M, .string T, .int .i64 mi, .slice fa k fc, .slice none 0 0, .bool kp] 31 (0, 0)) := set_block hn4 3 (.slice fa k fc)
        have hs4' : (w3.setCell ⟨w2.heap.size, 3, none⟩ (.slice fa k fc)).heap[S]? = some (.cells z6 31 (0, 0)) := (heap_setCell_other _ _ _ _ (by intro e; have e2 : S = w2.heap.size := e; omega)).trans HS4.out
        have HN4' := hide hn4'
        have HS4' := hide hs4'
        have HO4 := hide hO4
        have HFV4 := hide (And.intro hfv4 hnX)
        have HB5 := hide (HB4.out.setCell (p := ⟨w2.heap.size, 3, none⟩) HB2.out.size (.slice fa k fc))
        clear hn4 hSlt hO4 hnX hfv4 hG hn4' hs4' h40
        go_wp2_with fail
        refine HG.out.mono ?_
        rintro e w5 ⟨ha, hc, rfl, _, _, b5⟩
        have HN5 := hide (below_block b5 HN4'.out (Nat.le_refl _))
        have HS5 := hide (below_block b5 HS4'.out (Nat.le_refl _))
        have HB6 := hide (HB5.out.trans (b5.mono HB5.out.size))
        have HO5 := hide (HO4.out.then b5)
        have hfv5 := HFV4.out.1.only (X := fun _ => False) (OnlyS.of b5) (fun _ _ h => h)
        have hK := keeps_any ⟨r0.me, r0.ta, r0.minor, fs, [], r0.keep⟩ (.slice fa k fc) (.slice none 0 0) w5 hfv5 (by have := HFL.out; have := H40.out; show fs.length ≤ 200; omega) HSM.out
        obtain ⟨kb, hkb⟩ : ∃ b, keepsP r0.minor fs = b := ⟨_, rfl⟩
        have hK2 : Calls Tryz.prog 32 #[.agg #[.string M, .string T, .int .i64 mi, .slice fa k fc, .slice none 0 0, .bool kp]] w5 fun e w' => e = .returned (.bool kb) ∧ Below w5.heap.size w5 w' := by rw [← hkb, ← HL.out.1, ← HL.out.2.1, ← HL.out.2.2.1, ← HL.out.2.2.2.1]; exact hK
        have HK := hide hK2
        have HKB := hide hkb
        clear hkb
        have x2 := cell_at HN5.out 2 rfl
        clear HG hK hK2 hfv5 b5 y2 y3 yf
        obtain ⟨nh, hnh⟩ : ∃ n, (getP fs hostN).length = n := ⟨_, rfl⟩
        simp only [hnh]
        have q3 : (mi == 1) = decide (r0.minor = 1) := by
          rw [← HL.out.2.2.1]
          by_cases h : r0.minor = 1
          · rw [h]; rfl
          · rw [decide_eq_false h, beq_eq_false_iff_ne]; omega
        obtain ⟨t1, ht1⟩ : ∃ t, decide ((1 : Int) < (nh : Int)) = t := ⟨_, rfl⟩
        obtain ⟨t2, ht2⟩ : ∃ t, ((nh : Int) == 0) = t := ⟨_, rfl⟩
        obtain ⟨t3, ht3⟩ : ∃ t, decide (r0.minor = 1) = t := ⟨_, rfl⟩
        rw [ht3] at q3
        have e1' : t1 = decide (1 < nh) := by rw [← ht1]; congr 1; exact propext (by omega)
        have e2' : t2 = decide (nh = 0) := by
          rw [← ht2]
          by_cases h : nh = 0
          · rw [h]; rfl
          · rw [decide_eq_false h, beq_eq_false_iff_ne]; omega
        have HBAD := hide (show (t1 || (t2 && t3)) = true → (1 < (getP fs hostN).length ∨ ((getP fs hostN).length = 0 ∧ r0.minor = 1)) from fun h => by
          rw [hnh]; rw [e1', e2', ← ht3] at h; simpa using h)
        have HOK := hide (show (t1 || (t2 && t3)) = false → ¬ (1 < (getP fs hostN).length ∨ ((getP fs hostN).length = 0 ∧ r0.minor = 1)) from fun h => by
          rw [hnh]; rw [e1', e2', ← ht3] at h; rintro (h5 | ⟨h5, h6⟩) <;> simp [h5] at h
          all_goals first | omega | (simp [h6] at h))
        clear ht3 e1' e2' hnh
        cases t1 with
        | true =>
          have HV := hide (show headR l = (rq0, 400) by rw [HH4.out, if_neg (by have := HFL.out; have := H40.out; omega), if_pos (HBAD.out (by first | rfl | decide))])
          have hs2 := HS5.out
          have k0 := cell_at hs2 0 rfl
          have k1 := cell_at hs2 1 rfl
          have k2 := cell_at hs2 2 rfl
          have k3 := cell_at hs2 3 rfl
          have k4 := cell_at hs2 4 rfl
          have k5 := cell_at hs2 5 rfl
          have kf := free_at hs2
          have HFIN := hide (six_set hs2 (.string ⟨#[]⟩) (.string ⟨#[]⟩) (.int .i64 0) (.slice none 0 0) (.slice none 0 0) (.bool false) (HW.out.2.2.1.trans (HB6.out.mono HW.out.2.2.1.size)) (by have := HW.out.2.1; omega))
          clear hs2
          go_wp2_with fail
          exact bodyPost_ret (v := .tuple #[.agg z6, .int .i64 ((400 : Nat) : Int)]) (results_cell_tmp Tryz.results23 _ _ S 31 _ (0, 0) _ rfl HFIN.out.1 Tryz.underlying31 rfl (by kernel_rfl) _ rfl) rfl (HeadTo.bad (HV.out) HFIN.out.2)
        | false =>
          cases t2 with
          | false =>
            have HV := hide (show headR l = (⟨r0.me, r0.ta, r0.minor, fs, [], keepsP r0.minor fs⟩, 0) by rw [HH4.out, if_neg (by have := HFL.out; have := H40.out; omega), if_neg (HOK.out (by first | rfl | decide))])
            go_wp2_with (refine ld_whole (o := ⟨some 65, _, _, _, _, _⟩) 31 (.tmp 6) rfl (by rfl) w2.heap.size rfl #[.string M, .string T, .int .i64 mi, .slice fa k fc, .slice none 0 0, .bool kp] 31 HN5.out Tryz.underlying31 (by kernel_rfl) ?_; try simp only [Act.put, List.setIfInBounds_toArray, List.set_cons_zero, List.set_cons_succ])
            refine HK.out.mono ?_
            rintro e w6 ⟨rfl, b6⟩
            have hn6 := below_block b6 HN5.out (Nat.le_refl _)
            have hs6 := below_block b6 HS5.out (Nat.le_refl _)
            have k5' := cell_at hn6 5 rfl
            have kf' := free_at hn6
            have HN7 := hide (show (w6.setCell ⟨w2.heap.size, 5, none⟩ (.bool kb)).heap[w2.heap.size]? = some (.cells #[.string M, .string T, .int .i64 mi, .slice fa k fc, .slice none 0 0, .bool kb] 31 (0, 0)) from set_block hn6 5 (.bool kb))
            have hs7 : (w6.setCell ⟨w2.heap.size, 5, none⟩ (.bool kb)).heap[S]? = some (.cells z6 31 (0, 0)) := (heap_setCell_other _ _ _ _ HNE.out).trans hs6
            have k0 := cell_at hs7 0 rfl
            have k1 := cell_at hs7 1 rfl
            have k2 := cell_at hs7 2 rfl
            have k3 := cell_at hs7 3 rfl
            have k4 := cell_at hs7 4 rfl
            have k5 := cell_at hs7 5 rfl
            have kf := free_at hs7
            have hB7 := (HB6.out.trans (b6.mono HB6.out.size)).setCell (p := ⟨w2.heap.size, 5, none⟩) HB2.out.size (.bool kb)
            have HFIN := hide (six_set hs7 (.string M) (.string T) (.int .i64 mi) (.slice fa k fc) (.slice none 0 0) (.bool kb) (HW.out.2.2.1.trans (hB7.mono HW.out.2.2.1.size)) (by have := HW.out.2.1; omega))
            have hO7 := (HO5.out.then b6).setCell w2.heap.size 5 (.bool kb) (.inl (.inl rfl))
            have HO8 := hide ((((((hO7.setCell S 0 (.string M) (.inl (.inr rfl))).setCell S 1 (.string T) (.inl (.inr rfl))).setCell S 2 (.int .i64 mi) (.inl (.inr rfl))).setCell S 3 (.slice fa k fc) (.inl (.inr rfl))).setCell S 4 (.slice none 0 0) (.inl (.inr rfl))).setCell S 5 (.bool kb) (.inl (.inr rfl)))
            clear hn6 hs6 hs7 hB7 hO7 b6 HK
            go_wp2_with (refine ld_whole (o := ⟨some 68, _, _, _, _, _⟩) 31 (.tmp 6) rfl (by rfl) w2.heap.size rfl #[.string M, .string T, .int .i64 mi, .slice fa k fc, .slice none 0 0, .bool kb] 31 HN7.out Tryz.underlying31 (by kernel_rfl) ?_; try simp only [Act.put, List.setIfInBounds_toArray, List.set_cons_zero, List.set_cons_succ])
            exact bodyPost_ret (v := .tuple #[.agg #[.string M, .string T, .int .i64 mi, .slice fa k fc, .slice none 0 0, .bool kb], .int .i64 0]) (results_cell_tmp Tryz.results23 _ _ S 31 _ (0, 0) _ rfl HFIN.out.1 Tryz.underlying31 rfl (by kernel_rfl) _ rfl) rfl ⟨.slice fa k fc, by rw [HV.out]; unfold rqc; rw [HL.out.1, HL.out.2.1, HL.out.2.2.1, HKB.out]; rfl, by rw [HV.out]; exact HFV2.out.1.only HO8.out (fun j hj hx => by
              have h1 := (HFV2.out.2 j hj).1
              have h2 := HLT.out
              have h3 := HSZ2.out
              rcases hx with e | e <;> omega), fun j hj => ⟨by
              have h1 := (HFV2.out.2 j hj).1
              have h3 := HSZ2.out
              have h4 := HB2.out.size
              have h5 := HW.out.2.2.1.size
              omega, Nat.lt_of_lt_of_le (HFV2.out.2 j hj).2 HO8.out.size⟩, HFIN.out.2⟩
          | true =>
            cases t3 with
            | true =>
              have HV := hide (show headR l = (rq0, 400) by rw [HH4.out, if_neg (by have := HFL.out; have := H40.out; omega), if_pos (HBAD.out (by first | rfl | decide))])
              have hs2 := HS5.out
              have k0 := cell_at hs2 0 rfl
              have k1 := cell_at hs2 1 rfl
              have k2 := cell_at hs2 2 rfl
              have k3 := cell_at hs2 3 rfl
              have k4 := cell_at hs2 4 rfl
              have k5 := cell_at hs2 5 rfl
              have kf := free_at hs2
              have HFIN := hide (six_set hs2 (.string ⟨#[]⟩) (.string ⟨#[]⟩) (.int .i64 0) (.slice none 0 0) (.slice none 0 0) (.bool false) (HW.out.2.2.1.trans (HB6.out.mono HW.out.2.2.1.size)) (by have := HW.out.2.1; omega))
              clear hs2
              go_wp2_with fail
              exact bodyPost_ret (v := .tuple #[.agg z6, .int .i64 ((400 : Nat) : Int)]) (results_cell_tmp Tryz.results23 _ _ S 31 _ (0, 0) _ rfl HFIN.out.1 Tryz.underlying31 rfl (by kernel_rfl) _ rfl) rfl (HeadTo.bad (HV.out) HFIN.out.2)
            | false =>
              have HV := hide (show headR l = (⟨r0.me, r0.ta, r0.minor, fs, [], keepsP r0.minor fs⟩, 0) by rw [HH4.out, if_neg (by have := HFL.out; have := H40.out; omega), if_neg (HOK.out (by first | rfl | decide))])
              go_wp2_with (refine ld_whole (o := ⟨some 65, _, _, _, _, _⟩) 31 (.tmp 6) rfl (by rfl) w2.heap.size rfl #[.string M, .string T, .int .i64 mi, .slice fa k fc, .slice none 0 0, .bool kp] 31 HN5.out Tryz.underlying31 (by kernel_rfl) ?_; try simp only [Act.put, List.setIfInBounds_toArray, List.set_cons_zero, List.set_cons_succ])
              refine HK.out.mono ?_
              rintro e w6 ⟨rfl, b6⟩
              have hn6 := below_block b6 HN5.out (Nat.le_refl _)
              have hs6 := below_block b6 HS5.out (Nat.le_refl _)
              have k5' := cell_at hn6 5 rfl
              have kf' := free_at hn6
              have HN7 := hide (show (w6.setCell ⟨w2.heap.size, 5, none⟩ (.bool kb)).heap[w2.heap.size]? = some (.cells #[.string M, .string T, .int .i64 mi, .slice fa k fc, .slice none 0 0, .bool kb] 31 (0, 0)) from set_block hn6 5 (.bool kb))
              have hs7 : (w6.setCell ⟨w2.heap.size, 5, none⟩ (.bool kb)).heap[S]? = some (.cells z6 31 (0, 0)) := (heap_setCell_other _ _ _ _ HNE.out).trans hs6
              have k0 := cell_at hs7 0 rfl
              have k1 := cell_at hs7 1 rfl
              have k2 := cell_at hs7 2 rfl
              have k3 := cell_at hs7 3 rfl
              have k4 := cell_at hs7 4 rfl
              have k5 := cell_at hs7 5 rfl
              have kf := free_at hs7
              have hB7 := (HB6.out.trans (b6.mono HB6.out.size)).setCell (p := ⟨w2.heap.size, 5, none⟩) HB2.out.size (.bool kb)
              have HFIN := hide (six_set hs7 (.string M) (.string T) (.int .i64 mi) (.slice fa k fc) (.slice none 0 0) (.bool kb) (HW.out.2.2.1.trans (hB7.mono HW.out.2.2.1.size)) (by have := HW.out.2.1; omega))
              have hO7 := (HO5.out.then b6).setCell w2.heap.size 5 (.bool kb) (.inl (.inl rfl))
              have HO8 := hide ((((((hO7.setCell S 0 (.string M) (.inl (.inr rfl))).setCell S 1 (.string T) (.inl (.inr rfl))).setCell S 2 (.int .i64 mi) (.inl (.inr rfl))).setCell S 3 (.slice fa k fc) (.inl (.inr rfl))).setCell S 4 (.slice none 0 0) (.inl (.inr rfl))).setCell S 5 (.bool kb) (.inl (.inr rfl)))
              clear hn6 hs6 hs7 hB7 hO7 b6 HK
              go_wp2_with (refine ld_whole (o := ⟨some 68, _, _, _, _, _⟩) 31 (.tmp 6) rfl (by rfl) w2.heap.size rfl #[.string M, .string T, .int .i64 mi, .slice fa k fc, .slice none 0 0, .bool kb] 31 HN7.out Tryz.underlying31 (by kernel_rfl) ?_; try simp only [Act.put, List.setIfInBounds_toArray, List.set_cons_zero, List.set_cons_succ])
              exact bodyPost_ret (v := .tuple #[.agg #[.string M, .string T, .int .i64 mi, .slice fa k fc, .slice none 0 0, .bool kb], .int .i64 0]) (results_cell_tmp Tryz.results23 _ _ S 31 _ (0, 0) _ rfl HFIN.out.1 Tryz.underlying31 rfl (by kernel_rfl) _ rfl) rfl ⟨.slice fa k fc, by rw [HV.out]; unfold rqc; rw [HL.out.1, HL.out.2.1, HL.out.2.2.1, HKB.out]; rfl, by rw [HV.out]; exact HFV2.out.1.only HO8.out (fun j hj hx => by
                have h1 := (HFV2.out.2 j hj).1
                have h2 := HLT.out
                have h3 := HSZ2.out
                rcases hx with e | e <;> omega), fun j hj => ⟨by
                have h1 := (HFV2.out.2 j hj).1
                have h3 := HSZ2.out
                have h4 := HB2.out.size
                have h5 := HW.out.2.2.1.size
                omega, Nat.lt_of_lt_of_le (HFV2.out.2 j hj).2 HO8.out.size⟩, HFIN.out.2⟩
end Go.Proofs.YtbiblaeocbcfhaaGreatDoor
