/- Flows: what an error tells, changed in its places: plain facts on lists of bytes. -/
import Derived.Test.YtgggcapgaikbeaaPk18
import Derived.Test.YtgggcapgaikbeaaPk10
import Derived.Test.YtgggcapgaikbeaaPk01
import Derived.Deep.RegionHeld3
import Derived.Deep.RegionHeld
import Derived.StillTail
namespace Go.Proofs.Ytgggcapgaikbeaa
open Go.RowKit
set_option linter.unusedVariables false
set_option linter.unusedSimpArgs false
theorem spl_get (xs ys : List Int) (o i : Nat) (h : o + ys.length ≤ xs.length) : (spl xs o ys)[i]? = if i < o then xs[i]? else if i < o + ys.length then ys[i - o]? else xs[i]? := by
  have h1 : (xs.take o).length = o := by rw [List.length_take]; omega
  unfold spl
  rw [List.append_assoc, List.getElem?_append, h1]
  by_cases c1 : i < o
  · rw [if_pos c1, if_pos c1, List.getElem?_take, if_pos c1]
  · rw [if_neg c1, if_neg c1, List.getElem?_append]
    by_cases c2 : i < o + ys.length
    · rw [if_pos (by omega), if_pos c2]
    · rw [if_neg (by omega), if_neg c2, List.getElem?_drop]
      congr 1
      omega
theorem fld_cong (xs ys : List Int) (K k : Nat) (h : ∀ i, K ≤ i → i < K + k → xs[i]? = ys[i]?) : fld xs K k = fld ys K k := by
  unfold fld
  have : (xs.drop K).take k = (ys.drop K).take k := by
    apply List.ext_getElem?
    intro i
    rw [List.getElem?_take, List.getElem?_take]
    by_cases c : i < k
    · rw [if_pos c, if_pos c, List.getElem?_drop, List.getElem?_drop]
      exact h _ (by omega) (by omega)
    · rw [if_neg c, if_neg c]
  rw [this]
theorem fld_out (xs ys : List Int) (o K k : Nat) (h : o + ys.length ≤ xs.length) (hd : K + k ≤ o ∨ o + ys.length ≤ K) : fld (spl xs o ys) K k = fld xs K k := by
  refine fld_cong _ _ _ _ fun i h1 h2 => ?_
  rw [spl_get _ _ _ _ h]
  split
  · rfl
  · split
    · omega
    · rfl
theorem spl_comm (xs a b : List Int) (o p : Nat) (ho : o + a.length ≤ xs.length) (hp : p + b.length ≤ xs.length) (hd : o + a.length ≤ p ∨ p + b.length ≤ o) : spl (spl xs o a) p b = spl (spl xs p b) o a := by
  apply List.ext_getElem?
  intro i
  rw [spl_get _ _ _ _ (by rw [spl_len _ _ _ ho]; exact hp), spl_get _ _ _ _ ho, spl_get _ _ _ _ (by rw [spl_len _ _ _ hp]; exact ho), spl_get _ _ _ _ hp]
  by_cases c1 : i < p <;> by_cases c2 : i < o <;> by_cases c3 : i < p + b.length <;> by_cases c4 : i < o + a.length <;> simp [c1, c2, c3, c4] <;> omega
theorem spl_spl (xs a b : List Int) (o : Nat) (ho : o + a.length ≤ xs.length) (hl : a.length = b.length) : spl (spl xs o a) o b = spl xs o b := by
  apply List.ext_getElem?
  intro i
  rw [spl_get _ _ _ _ (by rw [spl_len _ _ _ ho]; omega), spl_get _ _ _ _ ho, spl_get _ _ _ _ (by omega), hl]
  by_cases c1 : i < o <;> by_cases c2 : i < o + b.length <;> simp [c1, c2]
theorem spl_at (xs ys : List Int) (o i : Nat) (h : o + ys.length ≤ xs.length) (hd : i < o ∨ o + ys.length ≤ i) : (spl xs o ys)[i]? = xs[i]? := by
  rw [spl_get _ _ _ _ h]
  split
  · rfl
  · split
    · omega
    · rfl
theorem val2 (a b : Int) : valB [a, b] = 256 * a + b := by simp [valB]
theorem spl_id (xs : List Int) (K : Nat) (hK : K + 2 ≤ xs.length) (hb : ∀ x ∈ xs, 0 ≤ x ∧ x ≤ 255) : spl xs K (numB 2 (fld xs K 2)) = xs := by
  obtain ⟨a, ha⟩ : ∃ a, xs[K]? = some a := ⟨_, List.getElem?_eq_getElem (by omega)⟩
  obtain ⟨b, hbb⟩ : ∃ b, xs[K + 1]? = some b := ⟨_, List.getElem?_eq_getElem (by omega)⟩
  have h1 := hb a (List.mem_of_getElem? ha)
  have h2 := hb b (List.mem_of_getElem? hbb)
  have hf : (fld xs K 2 : Int) = 256 * a + b := by
    rw [← fld_eq xs K 2 hb]
    have : (xs.drop K).take 2 = [a, b] := by
      apply List.ext_getElem?
      intro i
      rw [List.getElem?_take]
      match i with
      | 0 => simp [List.getElem?_drop, ha]
      | 1 => simp [List.getElem?_drop, hbb]
      | i + 2 => simp; intro h; omega
    rw [this, val2]
  apply List.ext_getElem?
  intro i
  rw [spl_get _ _ _ _ (by rw [numB_len]; exact hK), numB_len]
  by_cases c1 : i < K
  · rw [if_pos c1]
  rw [if_neg c1]
  by_cases c2 : i < K + 2
  · rw [if_pos c2]
    have hn : numB 2 (fld xs K 2) = [byteAt (fld xs K 2) 1, byteAt (fld xs K 2) 0] := rfl
    rw [hn]
    rcases (show i = K ∨ i = K + 1 by omega) with rfl | rfl
    · rw [Nat.sub_self, ha]
      simp only [List.getElem?_cons_zero, byteAt]
      congr 1
      simp; omega
    · rw [show K + 1 - K = 1 by omega, hbb]
      simp only [List.getElem?_cons_succ, List.getElem?_cons_zero, byteAt]
      congr 1
      simp; omega
  · rw [if_neg c2]
theorem layK_len (xs : List Int) (K : Nat) (ns : List Nat) : ∀ k, K + 2 * k ≤ xs.length → (layK xs K ns k).length = xs.length
  | 0, _ => rfl
  | k + 1, h => by
    have := layK_len xs K ns k (by omega)
    show (spl _ _ _).length = _
    rw [spl_len _ _ _ (by rw [numB_len]; omega), this]
theorem layK_rng (xs : List Int) (K : Nat) (ns : List Nat) (hb : ∀ x ∈ xs, 0 ≤ x ∧ x ≤ 255) : ∀ k, ∀ x ∈ layK xs K ns k, 0 ≤ x ∧ x ≤ 255
  | 0 => hb
  | k + 1 => spl_rng _ _ _ (layK_rng xs K ns hb k) (numB_rng _ _)
theorem layK_at (xs : List Int) (K : Nat) (ns : List Nat) (i : Nat) : ∀ k, K + 2 * k ≤ xs.length → (i < K ∨ K + 2 * k ≤ i) → (layK xs K ns k)[i]? = xs[i]?
  | 0, _, _ => rfl
  | k + 1, h, hd => by
    have hl := layK_len xs K ns k (by omega)
    show (spl _ _ _)[i]? = _
    rw [spl_at _ _ _ _ (by rw [numB_len]; omega) (by rw [numB_len]; omega), layK_at xs K ns i k (by omega) (by omega)]
theorem layK_fld (xs : List Int) (K : Nat) (ns : List Nat) (J j k : Nat) (h : K + 2 * k ≤ xs.length) (hd : J + j ≤ K ∨ K + 2 * k ≤ J) : fld (layK xs K ns k) J j = fld xs J j :=
  fld_cong _ _ _ _ fun i h1 h2 => layK_at xs K ns i k h (by omega)
/-- A check sum at a place, mended. -/
def mnd (K : Nat) (cs : List (Int × Int)) (xs : List Int) : List Int := spl xs K (numB 2 (updSL (fld xs K 2 : Nat) cs).toNat)
theorem mnd_len (K : Nat) (cs : List (Int × Int)) (xs : List Int) (h : K + 2 ≤ xs.length) : (mnd K cs xs).length = xs.length := spl_len _ _ _ (by rw [numB_len]; exact h)
theorem mnd_rng (K : Nat) (cs : List (Int × Int)) (xs : List Int) (hb : ∀ x ∈ xs, 0 ≤ x ∧ x ≤ 255) : ∀ x ∈ mnd K cs xs, 0 ≤ x ∧ x ≤ 255 := spl_rng _ _ _ hb (numB_rng _ _)
theorem mnd_at (K : Nat) (cs : List (Int × Int)) (xs : List Int) (i : Nat) (h : K + 2 ≤ xs.length) (hd : i < K ∨ K + 2 ≤ i) : (mnd K cs xs)[i]? = xs[i]? := spl_at _ _ _ _ (by rw [numB_len]; exact h) (by rw [numB_len]; exact hd)
theorem udpM_len (xs : List Int) (cs : List (Int × Int)) (h : 28 ≤ xs.length) : (udpM xs cs).length = xs.length := by
  unfold udpM
  split
  · rfl
  split
  · rw [spl_len _ _ _ (by rw [spl_len _ _ _ (by rw [numB_len]; omega), numB_len]; omega), spl_len _ _ _ (by rw [numB_len]; omega)]
  · rw [spl_len _ _ _ (by rw [numB_len]; omega)]
theorem udpM_rng (xs : List Int) (cs : List (Int × Int)) (hb : ∀ x ∈ xs, 0 ≤ x ∧ x ≤ 255) : ∀ x ∈ udpM xs cs, 0 ≤ x ∧ x ≤ 255 := by
  unfold udpM
  split
  · exact hb
  split
  · exact spl_rng _ _ _ (spl_rng _ _ _ hb (numB_rng _ _)) (numB_rng _ _)
  · exact spl_rng _ _ _ hb (numB_rng _ _)
theorem udpM_at (xs : List Int) (cs : List (Int × Int)) (i : Nat) (h : 28 ≤ xs.length) (hd : i < 26 ∨ 28 ≤ i) : (udpM xs cs)[i]? = xs[i]? := by
  unfold udpM
  split
  · rfl
  split
  · rw [spl_at _ _ _ _ (by rw [spl_len _ _ _ (by rw [numB_len]; omega), numB_len]; omega) (by rw [numB_len]; omega), spl_at _ _ _ _ (by rw [numB_len]; omega) (by rw [numB_len]; omega)]
  · rw [spl_at _ _ _ _ (by rw [numB_len]; omega) (by rw [numB_len]; omega)]
/-- What an error tells of a packet that goes between other ends: the program's. a: the halves and ports that were, b: that are; q, r: the id that was and is. -/
def rtH (xs : List Int) (a b : Nat → Nat) : List Int := mnd 10 [((a 0 : Int), (b 0 : Int)), ((a 1 : Int), (b 1 : Int)), ((a 2 : Int), (b 2 : Int)), ((a 3 : Int), (b 3 : Int))] (layK xs 12 [b 0, b 1, b 2, b 3] 4)
def cs6 (a b : Nat → Nat) : List (Int × Int) := [((a 0 : Int), (b 0 : Int)), ((a 1 : Int), (b 1 : Int)), ((a 2 : Int), (b 2 : Int)), ((a 3 : Int), (b 3 : Int)), ((a 4 : Int), (b 4 : Int)), ((a 5 : Int), (b 5 : Int))]
def rtl (P n q r : Nat) (xs : List Int) (a b : Nat → Nat) : List Int :=
  if P = 1 then mnd 22 [((q : Int), (r : Int))] (layK (rtH xs a b) 24 [r] 1)
  else if P = 17 then udpM (layK (rtH xs a b) 20 [b 4, b 5] 2) (cs6 a b)
  else if 38 ≤ n then mnd 36 (cs6 a b) (layK (rtH xs a b) 20 [b 4, b 5] 2)
  else layK (rtH xs a b) 20 [b 4, b 5] 2
theorem rtH_len (xs : List Int) (a b : Nat → Nat) (h : 28 ≤ xs.length) : (rtH xs a b).length = xs.length := by
  unfold rtH
  have := layK_len xs 12 [b 0, b 1, b 2, b 3] 4 (by omega)
  rw [mnd_len _ _ _ (by omega), this]
theorem rtH_rng (xs : List Int) (a b : Nat → Nat) (hb : ∀ x ∈ xs, 0 ≤ x ∧ x ≤ 255) : ∀ x ∈ rtH xs a b, 0 ≤ x ∧ x ≤ 255 := mnd_rng _ _ _ (layK_rng _ _ _ hb _)
theorem rtH_at (xs : List Int) (a b : Nat → Nat) (i : Nat) (h : 28 ≤ xs.length) (hd : i < 10 ∨ 20 ≤ i) : (rtH xs a b)[i]? = xs[i]? := by
  unfold rtH
  have := layK_len xs 12 [b 0, b 1, b 2, b 3] 4 (by omega)
  rw [mnd_at _ _ _ _ (by omega) (by omega), layK_at _ _ _ _ _ (by omega) (by omega)]
theorem rtl_len (P n q r : Nat) (xs : List Int) (a b : Nat → Nat) (h : 28 ≤ xs.length) (hn : xs.length = n) : (rtl P n q r xs a b).length = xs.length := by
  have h0 := rtH_len xs a b h
  have h1 := layK_len (rtH xs a b) 24 [r] 1 (by omega)
  have h2 := layK_len (rtH xs a b) 20 [b 4, b 5] 2 (by omega)
  unfold rtl
  split
  · rw [mnd_len _ _ _ (by omega)]; omega
  split
  · rw [udpM_len _ _ (by omega)]; omega
  split
  · rw [mnd_len _ _ _ (by omega)]; omega
  · omega
theorem rtl_rng (P n q r : Nat) (xs : List Int) (a b : Nat → Nat) (hb : ∀ x ∈ xs, 0 ≤ x ∧ x ≤ 255) : ∀ x ∈ rtl P n q r xs a b, 0 ≤ x ∧ x ≤ 255 := by
  unfold rtl
  split
  · exact mnd_rng _ _ _ (layK_rng _ _ _ (rtH_rng _ _ _ hb) _)
  split
  · exact udpM_rng _ _ (layK_rng _ _ _ (rtH_rng _ _ _ hb) _)
  split
  · exact mnd_rng _ _ _ (layK_rng _ _ _ (rtH_rng _ _ _ hb) _)
  · exact layK_rng _ _ _ (rtH_rng _ _ _ hb) _
end Go.Proofs.Ytgggcapgaikbeaa

/- A drawn region walked with reads taken first, whose last operations (from number t on) may overwrite what was read. -/
namespace Go.Proofs.Ytgggcapgaikbeaa
open Go.RowKit
section
variable {P : Program} {ops : Array Oper} {Q : Exit → Act → World → Prop} {md : Region.Mode} {S : World → Prop} {t : Nat}
/-- As a held region, but the numbers from t on need not leave S. -/
def wpAnyU (P : Program) (md : Region.Mode) (ops : Array Oper) (Q : Exit → Act → World → Prop) (S : World → Prop) (t : Nat) : Nat → Array Bool → Act → World → Prop
  | 0, listed, a, w => Region.ready md ops listed = [] ∧ Q .normal a w
  | n + 1, listed, a, w =>
    (Region.ready md ops listed = [] → Q .normal a w) ∧
    ∀ i ∈ Region.ready md ops listed, wpOp P ops Q i (fun a' w' => (i < t → S w') ∧ wpAnyU P md ops Q S t n (listed.setIfInBounds i true) a' w') a w
theorem wpAny_of_U : ∀ (n : Nat) (listed : Array Bool) (a : Act) (w : World), wpAnyU P md ops Q S t n listed a w → wpAny P md ops Q n listed a w
  | 0, _, _, _, h => h
  | n + 1, _, _, _, h => ⟨h.1, fun i hi => wpOp_mono (fun _ _ h' => wpAny_of_U n _ _ _ h'.2) (h.2 i hi)⟩
theorem not_waitsU {j i : Nat} {listed : Array Bool} (hw : Region.waitsFor md ops j i = true) (hi : i ∈ Region.ready md ops listed) : j ∉ Region.ready md ops listed := by
  intro hj
  obtain ⟨oj, hoj, e, he, hb, hon⟩ := Region.waitsFor_spec hw
  obtain ⟨_, o', ho', hall⟩ := mem_ready.1 hj
  rw [hoj] at ho'
  cases ho'
  have h1 := hall e he hb
  rw [hon] at h1
  have h0 := (mem_ready.1 hi).1
  rcases Nat.lt_or_ge i listed.size with h' | h'
  · simp [h'] at h0 h1; rw [h0] at h1; cases h1
  · simp [Array.getElem?_eq_none h'] at h1
theorem waits_of_onU {j i : Nat} {oj : Oper} (hoj : ops[j]? = some oj) {e : Edge} (he : e ∈ oj.after) (hb : Region.binds md e = true) (hon : e.on = i) : Region.waitsFor md ops j i = true := by
  unfold Region.waitsFor
  rw [hoj]
  exact Array.any_eq_true'.2 ⟨e, he, by simp [hb, hon]⟩
theorem wpAnyU_first {i : Nat} {oi : Oper} {v : Value} (hi : ops[i]? = some oi) (hsel : ∀ (j : Nat) (o : Oper) cs b, ops[j]? = some o → o.op ≠ .select cs b)
    (hQ : ∀ c a w, Q (.panic c) (a.put oi.dst v) w → Q (.panic c) a w) (ht : ((List.range ops.size).all fun j => decide (j < t) || Region.waitsFor md ops j i) = true) :
    ∀ (n : Nat) (listed : Array Bool) (a : Act) (w : World),
      (∀ j oj, ops[j]? = some oj → j ≠ i → listed.getD j true = false → (∀ e ∈ oj.after, Region.binds md e = true → e.on ≠ i) → oi.apart ops oj = true) →
      i ∈ Region.ready md ops listed → YieldsIf P ops S oi v a → S w →
      wpAnyU P md ops Q S t n (listed.setIfInBounds i true) (a.put oi.dst v) w → wpAnyU P md ops Q S t (n + 1) listed a w := by
  intro n
  induction n with
  | zero =>
    intro listed a w _ hr hy hS H
    refine ⟨fun h => (by rw [h] at hr; cases hr), fun j hj => ?_⟩
    by_cases hji : j = i
    · subst hji; exact hy.wpOp hi hS ⟨fun _ => hS, H⟩
    · have := ready_mono hj hji
      rw [H.1] at this
      cases this
  | succ n ih =>
    intro listed a w hfree hr hy hS H
    refine ⟨fun h => (by rw [h] at hr; cases hr), fun j hj => ?_⟩
    by_cases hji : j = i
    · subst hji; exact hy.wpOp hi hS ⟨fun _ => hS, H⟩
    obtain ⟨hjun, oj, hoj, _⟩ := mem_ready.1 hj
    have hjt : j < t := by
      have hjs : j < ops.size := (Array.getElem?_eq_some_iff.1 hoj).1
      have h0 := List.all_eq_true.1 ht j (List.mem_range.2 hjs)
      rcases Bool.or_eq_true _ _ ▸ h0 with h1 | h1
      · exact of_decide_eq_true h1
      · exact absurd hj (not_waitsU h1 hr)
    have hno : ∀ e ∈ oj.after, Region.binds md e = true → e.on ≠ i := fun e he hb hon => not_waitsU (waits_of_onU hoj he hb hon) hr hj
    have h2 := wpOp_putIf hoj (hfree j oj hoj hji hjun hno) (fun cs b => hsel i oi cs b hi) (fun cs b => hsel j oj cs b hoj) hQ hy (H.2 j (ready_mono hj hji))
    refine wpOp_mono (fun a' w' h3 => ⟨h3.2.1, ih (listed.setIfInBounds j true) a' w' (fun k ok hk hki hun hn => hfree k ok hk hki ?_ hn) (ready_mono hr (Ne.symm hji)) h3.1 (h3.2.1 hjt) ?_⟩) h2
    · by_cases hjk : j = k
      · subst hjk; exact hjun
      · rw [getD_set_ne true hjk] at hun; exact hun
    · rw [Array.setIfInBounds_comm _ _ hji]
      exact h3.2.2
theorem wpAnyU_take {i : Nat} {oi : Oper} {v : Value} {n : Nat} {listed : Array Bool} {a : Act} {w : World} (hi : ops[i]? = some oi)
    (hs : Region.noSelect ops = true) (hf : Region.free md ops listed i = true) (hr : (Region.ready md ops listed).contains i = true) (ht : ((List.range ops.size).all fun j => decide (j < t) || Region.waitsFor md ops j i) = true)
    (hQ : ∀ c a w, Q (.panic c) (a.put oi.dst v) w → Q (.panic c) a w) (hy : YieldsIf P ops S oi v a) (hS : S w)
    (h : wpAnyU P md ops Q S t n (listed.setIfInBounds i true) (a.put oi.dst v) w) : wpAnyU P md ops Q S t (n + 1) listed a w :=
  wpAnyU_first hi (Region.noSelect_spec hs) hQ ht n listed a w (Region.free_spec hi hf) (by simpa using hr) hy hS h
/-- One operation alone may come up. -/
theorem wpAnyU_one {i : Nat} {o : Oper} {n : Nat} {listed : Array Bool} {a : Act} {w : World} (hr : Region.ready md ops listed = [i]) (ho : ops[i]? = some o)
    (h : ∀ K' : Act → World → Prop, Shut (∀ a w, (i < t → S w) → ((i < t → S w) → wpAnyU P md ops Q S t n (listed.setIfInBounds i true) a w) → K' a w) → if Region.wanted o (yielded ops a.tmps) = true then Oper.wp P o a w K' Q else K' (a.put o.dst undef) w) :
    wpAnyU P md ops Q S t (n + 1) listed a w := by
  refine ⟨fun h0 => ?_, fun j hj => ?_⟩
  · rw [hr] at h0; cases h0
  · rw [hr] at hj
    obtain rfl : j = i := by simpa using hj
    exact wpOp_step ho (fun K' hK => h K' (fun a w hS hW => hK a w ⟨hS, hW hS⟩))
theorem wpAnyU_done {listed : Array Bool} {a : Act} {w : World} (hr : Region.ready md ops listed = []) (h : Q .normal a w) : ∀ n, wpAnyU P md ops Q S t n listed a w
  | 0 => ⟨hr, h⟩
  | _ + 1 => ⟨fun _ => h, by rw [hr]; simp⟩
theorem wp_region_U (S : World → Prop) (t : Nat) {id : Nat} {a : Act} {w : World} (hm : P.follows .mixedOrders = true) (hS : S w.drew)
    (h : S w.drew → wpAnyU P .any ops Q S t ops.size (Array.replicate ops.size false) a w.drew) : (Code.region id ops true).wp P Q a w :=
  wp_region_any hm (wpAny_of_U _ _ _ _ (h hS))
end
end Go.Proofs.Ytgggcapgaikbeaa
