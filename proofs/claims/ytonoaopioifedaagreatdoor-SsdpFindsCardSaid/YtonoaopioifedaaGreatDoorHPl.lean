/- Head: plain facts of bytes: tokens, small letters, cuts, trims, lines and first lines as functions of lists. -/
import Derived.Lib.IndexMore
import Derived.Lib.IndexBytes
import Derived.Lib.SlTrimSet
namespace Go.Proofs.YtonoaopioifedaaGreatDoor.H
set_option linter.unusedVariables false
set_option linter.unusedSimpArgs false
set_option maxRecDepth 100000
def upB (b : UInt8) : Bool := decide (65 ≤ b.toNat) && decide (b.toNat ≤ 90)
def smallU (b : UInt8) : UInt8 := if upB b then b + 32 else b
def spB (b : UInt8) : Bool := [33, 35, 36, 37, 38, 39, 42, 43, 45, 46, 94, 95, 96, 124, 126].contains b.toNat
def tokB (b : UInt8) : Bool := (decide (97 ≤ b.toNat) && decide (b.toNat ≤ 122)) || upB b || (decide (48 ≤ b.toNat) && decide (b.toNat ≤ 57)) || spB b
def valB (b : UInt8) : Bool := (decide (32 ≤ b.toNat) && (b.toNat != 127)) || b.toNat == 9
def tgtB (b : UInt8) : Bool := decide (33 ≤ b.toNat) && decide (b.toNat ≤ 126)
def lowL (l : List UInt8) : List UInt8 := l.map smallU
def madeL (most : Nat) (f : UInt8 → Bool) (l : List UInt8) : Bool := decide (0 < l.length) && decide (l.length ≤ most) && l.all f
def tokenL (l : List UInt8) : Bool := madeL 64 tokB l
theorem all256 {p : UInt8 → Prop} [DecidablePred p] (h : ∀ n : Fin 256, p (UInt8.ofNat n.1)) (b : UInt8) : p b := by
  have := h ⟨b.toNat, b.toNat_lt⟩
  simpa using this
theorem tok_no (b : UInt8) (h : tokB b = true) : b.toNat ≠ 58 ∧ b.toNat ≠ 32 ∧ b.toNat ≠ 10 := by
  revert h
  exact all256 (p := fun b => tokB b = true → b.toNat ≠ 58 ∧ b.toNat ≠ 32 ∧ b.toNat ≠ 10) (by decide) b
/-- The document's test of a token's byte. -/
def tokD (b : UInt8) : Bool := !(((decide (b.toNat < 97) || decide (122 < b.toNat)) && (decide (b.toNat < 48) || decide (57 < b.toNat)) && ![33, 35, 36, 37, 38, 39, 42, 43, 45, 46, 94, 95].contains b.toNat && (b.toNat != 96) && (b.toNat != 124) && (b.toNat != 126)))
theorem tokD_small (b : UInt8) : tokD (smallU b) = tokB b := all256 (p := fun b => tokD (smallU b) = tokB b) (by decide) b
theorem small_nat (b : UInt8) : (smallU b).toNat = if upB b then b.toNat + 32 else b.toNat := all256 (p := fun b => (smallU b).toNat = if upB b then b.toNat + 32 else b.toNat) (by decide) b
theorem small_small (b : UInt8) : smallU (smallU b) = smallU b := all256 (p := fun b => smallU (smallU b) = smallU b) (by decide) b
theorem low_low (l : List UInt8) : lowL (lowL l) = lowL l := by unfold lowL; rw [List.map_map]; exact List.map_congr_left fun b _ => small_small b
/-- Cut at one byte. -/
theorem cut_none (l : List UInt8) (c : UInt8) (h : ∀ x ∈ l, x ≠ c) : Lib.cut l [c] = (l, [], false) := by
  unfold Lib.cut
  rw [Lib.index_one]
  have e : Lib.indexByte l c = -1 := by
    rcases Int.lt_or_le (Lib.indexByte l c) 0 with h1 | h1
    · have := Lib.index_ge l [c]
      rw [Lib.index_one] at this
      omega
    · obtain ⟨o, ho⟩ := Int.eq_ofNat_of_zero_le h1
      exact absurd rfl (h c (List.mem_of_getElem? (Lib.indexByte_some ho).1))
  rw [e]; rfl
theorem cut_some (a b : List UInt8) (c : UInt8) (h : ∀ x ∈ a, x ≠ c) : Lib.cut (a ++ c :: b) [c] = (a, b, true) := by
  unfold Lib.cut
  rw [Lib.index_one]
  have e : Lib.indexByte (a ++ c :: b) c = (a.length : Int) := by
    rcases Int.lt_or_le (Lib.indexByte (a ++ c :: b) c) 0 with h1 | h1
    · have h2 := Lib.index_ge (a ++ c :: b) [c]
      rw [Lib.index_one] at h2
      have h3 : Lib.indexByte (a ++ c :: b) c = -1 := by omega
      exact absurd (by simp) (Lib.indexByte_none h3 a.length)
    · obtain ⟨o, ho⟩ := Int.eq_ofNat_of_zero_le h1
      obtain ⟨h2, h3⟩ := Lib.indexByte_some ho
      rcases Nat.lt_trichotomy o a.length with h4 | h4 | h4
      · rw [List.getElem?_append_left h4] at h2
        exact absurd rfl (h c (List.mem_of_getElem? h2))
      · rw [ho, h4]
      · exact absurd (by simp) (h3 a.length h4)
  rw [e, if_pos (by omega)]
  simp
theorem first_of : ∀ (l : List UInt8) (c : UInt8), c ∈ l → ∃ a b, l = a ++ c :: b ∧ ∀ x ∈ a, x ≠ c
  | [], c, h => by simp at h
  | y :: r, c, h => by
    by_cases e : y = c
    · exact ⟨[], r, by rw [e]; rfl, by simp⟩
    · obtain ⟨a, b, e2, hn⟩ := first_of r c (by rcases List.mem_cons.1 h with h | h; exact absurd h.symm e; exact h)
      exact ⟨y :: a, b, by rw [e2]; rfl, fun x hx => by rcases List.mem_cons.1 hx with h | h; exact h ▸ e; exact hn x h⟩
theorem cut_two (l : List UInt8) (c : UInt8) : ((∀ x ∈ l, x ≠ c) ∧ Lib.cut l [c] = (l, [], false)) ∨ ∃ a b, l = a ++ c :: b ∧ (∀ x ∈ a, x ≠ c) ∧ Lib.cut l [c] = (a, b, true) := by
  by_cases h : c ∈ l
  · obtain ⟨a, b, e, hn⟩ := first_of l c h
    exact .inr ⟨a, b, e, hn, e ▸ cut_some a b c hn⟩
  · exact .inl ⟨fun x hx e => h (e ▸ hx), cut_none l c fun x hx e => h (e ▸ hx)⟩
/-- The trimmed value: blanks and tabs ahead of it and behind it cut off. -/
abbrev bl : List UInt8 := [32, 9]
def lineL (l : List UInt8) : Option (List UInt8 × List UInt8) :=
  if (Lib.cut l [58]).2.2 && tokenL (Lib.cut l [58]).1 && (Lib.trimS (Lib.cut l [58]).2.1 bl).all valB then some (lowL (Lib.cut l [58]).1, Lib.trimS (Lib.cut l [58]).2.1 bl) else none
def minorL (v : List UInt8) : Option Nat := if v = [72, 84, 84, 80, 47, 49, 46, 48] then some 0 else if v = [72, 84, 84, 80, 47, 49, 46, 49] then some 1 else none
def startL (l : List UInt8) : Option (List UInt8 × List UInt8 × Nat) :=
  match minorL (Lib.cut (Lib.cut l [32]).2.1 [32]).2.1 with
  | some n => if tokenL (Lib.cut l [32]).1 && madeL 512 tgtB (Lib.cut (Lib.cut l [32]).2.1 [32]).1 then some ((Lib.cut l [32]).1, (Lib.cut (Lib.cut l [32]).2.1 [32]).1, n) else none
  | none => none
theorem minor_nil : minorL [] = none := by decide
theorem start_none (l : List UInt8) (h : ∀ x ∈ l, x ≠ 32) : startL l = none := by
  unfold startL
  rw [cut_none l 32 h, cut_none [] 32 (by simp), minor_nil]
theorem start_one (m t : List UInt8) (hm : ∀ x ∈ m, x ≠ 32) (ht : ∀ x ∈ t, x ≠ 32) : startL (m ++ 32 :: t) = none := by
  unfold startL
  rw [cut_some m t 32 hm, cut_none t 32 ht, minor_nil]
theorem start_two (m t v : List UInt8) (hm : ∀ x ∈ m, x ≠ 32) (ht : ∀ x ∈ t, x ≠ 32) : startL (m ++ 32 :: (t ++ 32 :: v)) = match minorL v with
  | some n => if tokenL m && madeL 512 tgtB t then some (m, t, n) else none
  | none => none := by
  unfold startL
  rw [cut_some m _ 32 hm, cut_some t v 32 ht]
theorem minor_count (v : List UInt8) (n : Nat) (h : minorL v = some n) : v.count 32 = 0 ∧ n ≤ 1 := by
  unfold minorL at h
  split at h
  · rename_i e; simp at h; rw [e, ← h]; decide
  · split at h
    · rename_i e; simp at h; rw [e, ← h]; decide
    · cases h
theorem count0 (l : List UInt8) (h : ∀ x ∈ l, x ≠ 32) : l.count 32 = 0 := List.count_eq_zero.2 fun hm => h 32 hm rfl
theorem start_count (l : List UInt8) (h : l.count 32 ≠ 2) : startL l = none := by
  rcases cut_two l 32 with ⟨h1, _⟩ | ⟨m, r, e, hm, _⟩
  · exact start_none l h1
  · rcases cut_two r 32 with ⟨h1, _⟩ | ⟨t, v, e2, ht, _⟩
    · rw [e]; exact start_one m r hm h1
    · rw [e, e2, start_two m t v hm ht]
      cases hv : minorL v with
      | none => rfl
      | some n =>
        exfalso; apply h
        rw [e, e2, List.count_append, List.count_cons, List.count_append, List.count_cons, count0 m hm, count0 t ht, (minor_count v n hv).1]
        decide
theorem none_of {l : List UInt8} (h : l.count 32 = 0) : ∀ x ∈ l, x ≠ 32 := fun x hx e => List.count_eq_zero.1 h (e ▸ hx)
theorem parts_wide (m t v : List UInt8) : startL (m ++ 32 :: 32 :: (t ++ 32 :: v)) = none := by
  refine start_count _ ?_
  simp only [List.count_append, List.count_cons]
  simp; omega
theorem parts_more (m t v : List UInt8) : startL (m ++ 32 :: (t ++ 32 :: (v ++ [32]))) = none := by
  refine start_count _ ?_
  simp only [List.count_append, List.count_cons, List.count_nil]
  simp; omega
theorem parts_other (m t : List UInt8) (c : UInt8) : (startL (m ++ 32 :: (t ++ 32 :: [72, 84, 84, 80, 47, 49, 46, c]))).isSome = ((startL (m ++ 32 :: (t ++ 32 :: [72, 84, 84, 80, 47, 49, 46, 49]))).isSome && (c == 48 || c == 49)) := by
  by_cases hm : m.count 32 = 0
  · by_cases ht : t.count 32 = 0
    · rw [start_two _ _ _ (none_of hm) (none_of ht), start_two _ _ _ (none_of hm) (none_of ht)]
      unfold minorL
      by_cases h0 : c = 48
      · subst h0; cases tokenL m && madeL 512 tgtB t <;> rfl
      · by_cases h1 : c = 49
        · subst h1; cases tokenL m && madeL 512 tgtB t <;> rfl
        · cases tokenL m && madeL 512 tgtB t <;> simp [h0, h1]
    · rw [start_count _ (by simp only [List.count_append, List.count_cons]; simp; omega), start_count (m ++ 32 :: (t ++ 32 :: [72, 84, 84, 80, 47, 49, 46, 49])) (by simp only [List.count_append, List.count_cons]; simp; omega)]
      rfl
  · rw [start_count _ (by simp only [List.count_append, List.count_cons]; simp; omega), start_count (m ++ 32 :: (t ++ 32 :: [72, 84, 84, 80, 47, 49, 46, 49])) (by simp only [List.count_append, List.count_cons]; simp; omega)]
    rfl
/-- Where the document looks for the ends of the value. -/
theorem trim_at (r : List UInt8) (f t : Nat) (hft : f ≤ t) (ht : t ≤ r.length) (h1 : ∀ (j : Nat) b, j < f → r[j]? = some b → bl.contains b = true) (h2 : ∀ (j : Nat) b, t ≤ j → r[j]? = some b → bl.contains b = true)
    (h3 : f = t ∨ ((∀ b, r[f]? = some b → bl.contains b = false) ∧ ∀ b, r[t - 1]? = some b → bl.contains b = false)) : Lib.trimS r bl = (r.take t).drop f := by
  unfold Lib.trimS
  rcases h3 with e | ⟨h3, h4⟩
  · rw [Lib.trimRightS_take r bl 0 (Nat.zero_le _) (fun j b _ hb => by
      rcases Nat.lt_or_ge j f with h | h
      · exact h1 j b h hb
      · exact h2 j b (by omega) hb) (fun b h => absurd h (by omega)), e, List.drop_of_length_le (by rw [List.length_take]; omega)]
    rfl
  · rcases Nat.lt_or_ge f t with h | h
    · rw [Lib.trimRightS_take r bl t ht h2 (fun b _ hb => h4 b hb)]
      refine Lib.trimLeftS_drop _ bl f (by rw [List.length_take]; omega) (fun j b hj hb => h1 j b hj ?_) (fun b hb => h3 b ?_)
      · rwa [List.getElem?_take_of_lt (by omega)] at hb
      · rwa [List.getElem?_take_of_lt (by omega)] at hb
    · have e : f = t := by omega
      subst e
      have hlt : f = r.length := by
        rcases Nat.lt_or_ge f r.length with hl | hl
        · have a := h2 f r[f] (Nat.le_refl _) (List.getElem?_eq_getElem hl)
          have b := h3 r[f] (List.getElem?_eq_getElem hl)
          rw [a] at b; cases b
        · omega
      rw [Lib.trimRightS_take r bl 0 (Nat.zero_le _) (fun j b _ hb => by
        rcases Nat.lt_or_ge j f with h | h
        · exact h1 j b h hb
        · exact h2 j b (by omega) hb) (fun b h => absurd h (by omega)), List.drop_of_length_le (by rw [List.length_take]; omega)]
      rfl
theorem line_none (l : List UInt8) (h : ∀ x ∈ l, x ≠ 58) : lineL l = none := by
  unfold lineL
  rw [cut_none l 58 h]; rfl
theorem line_some (a r : List UInt8) (h : ∀ x ∈ a, x ≠ 58) : lineL (a ++ 58 :: r) = if tokenL a && (Lib.trimS r bl).all valB then some (lowL a, Lib.trimS r bl) else none := by
  unfold lineL
  rw [cut_some a r 58 h, Bool.true_and]
theorem tok_colon (l : List UInt8) (h : tokenL l = true) : ∀ x ∈ l, x ≠ 58 ∧ x ≠ 32 := by
  intro x hx
  have h2 : tokB x = true := by
    unfold tokenL madeL at h
    simp only [Bool.and_eq_true] at h
    exact List.all_eq_true.1 h.2 x hx
  have h3 := tok_no x h2
  exact ⟨fun e => h3.1 (by rw [e]; rfl), fun e => h3.2.1 (by rw [e]; rfl)⟩
theorem tgt_sp (l : List UInt8) (h : l.all tgtB = true) : ∀ x ∈ l, x ≠ 32 ∧ bl.contains x = false ∧ valB x = true := by
  intro x hx
  have h2 := List.all_eq_true.1 h x hx
  revert h2
  exact all256 (p := fun x => tgtB x = true → x ≠ 32 ∧ bl.contains x = false ∧ valB x = true) (by decide) x
theorem made_line (n v p q : List UInt8) (hn : tokenL n = true) (hv : v.all tgtB = true) (hp : ∀ x ∈ p, bl.contains x = true) (hq : ∀ x ∈ q, bl.contains x = true) : lineL (n ++ 58 :: (p ++ v ++ q)) = some (lowL n, v) := by
  have e : Lib.trimS (p ++ v ++ q) bl = v := by
    have h := trim_at (p ++ v ++ q) p.length (p.length + v.length) (by omega) (by simp) (by
      intro j b hj hb
      rw [List.append_assoc, List.getElem?_append_left hj] at hb
      exact hp b (List.mem_of_getElem? hb)) (by
      intro j b hj hb
      rw [List.getElem?_append_right (by simp; omega)] at hb
      exact hq b (List.mem_of_getElem? hb)) (by
      rcases Nat.eq_zero_or_pos v.length with h | h
      · exact .inl (by omega)
      · refine .inr ⟨fun b hb => ?_, fun b hb => ?_⟩
        · rw [List.append_assoc, List.getElem?_append_right (Nat.le_refl _), List.getElem?_append_left (by omega)] at hb
          exact (tgt_sp v hv b (List.mem_of_getElem? hb)).2.1
        · rw [List.append_assoc, List.getElem?_append_right (by omega), List.getElem?_append_left (by omega)] at hb
          exact (tgt_sp v hv b (List.mem_of_getElem? hb)).2.1)
    rw [h, ← List.length_append, List.take_left, List.drop_left]
  rw [line_some n _ fun x hx => (tok_colon n hn x hx).1, e, hn, Bool.true_and, if_pos (List.all_eq_true.2 fun x hx => (tgt_sp v hv x hx).2.2)]
theorem made_start (n v : List UInt8) (hn : tokenL n = true) (hv : v.all tgtB = true) : startL (n ++ 32 :: (v ++ 32 :: [72, 84, 84, 80, 47, 49, 46, 49])) = if decide (0 < v.length) && decide (v.length ≤ 512) then some (n, v, 1) else none := by
  rw [start_two n v _ (fun x hx => (tok_colon n hn x hx).2) (fun x hx => (tgt_sp v hv x hx).1), show minorL [72, 84, 84, 80, 47, 49, 46, 49] = some 1 by decide]
  unfold madeL
  simp [hn, hv]
end Go.Proofs.YtonoaopioifedaaGreatDoor.H
