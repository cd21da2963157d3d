/- Inet: what the library's Split and ParseUint make of an address's text, plain. -/
import Derived.Lib.Split
import Derived.Lib.IndexBytes
import Derived.Lib.ParseIntB
import Derived.Lib.Strings
import Derived.Lib.CountLaws
import Derived.Lib.ItoaNum
namespace Go.Proofs.YtonoaopioifedaaGreatDoor
set_option linter.unusedVariables false
set_option linter.unusedSimpArgs false
def dc (n : Nat) : UInt8 := UInt8.ofNat (48 + n)
/-- A number's decimal digits, below 1000. -/
def dg (n : Nat) : List UInt8 := if n < 10 then [dc n] else if n < 100 then [dc (n / 10), dc (n % 10)] else [dc (n / 100), dc (n / 10 % 10), dc (n % 10)]
/-- The machine: the address so far, the number at hand, the dots, the digits at hand. -/
structure Sd where
  a : Nat
  n : Nat
  d : Nat
  z : Nat
def stepD (s : Sd) (c : UInt8) : Option Sd :=
  if c.toNat = 46 then (if s.z = 0 ∨ 255 < s.n ∨ 3 < s.d + 1 then none else some ⟨256 * s.a + s.n, 0, s.d + 1, 0⟩)
  else if c.toNat < 48 ∨ 57 < c.toNat ∨ s.z = 3 ∨ (0 < s.z ∧ s.n = 0) then none
  else some ⟨s.a, 10 * s.n + (c.toNat - 48), s.d, s.z + 1⟩
def runD : Sd → List UInt8 → Option Sd
  | s, [] => some s
  | s, c :: r => (stepD s c).bind fun t => runD t r
def finD (s : Sd) : Option Nat := if s.z = 0 ∨ 255 < s.n ∨ s.d ≠ 3 then none else some (256 * s.a + s.n)
def addrD (l : List UInt8) : Option Nat := (runD ⟨0, 0, 0, 0⟩ l).bind finD
theorem runD_app (l r : List UInt8) : ∀ s, runD s (l ++ r) = (runD s l).bind fun t => runD t r := by
  induction l with
  | nil => intro s; rfl
  | cons c l ih =>
    intro s
    rw [List.cons_append, runD, runD]
    cases h : stepD s c with
    | none => rfl
    | some t => simp only [Option.bind_some]; exact ih t
def joinD (os : List Nat) : List UInt8 := os.flatMap fun o => dg o ++ [46]
def foldO (os : List Nat) : Nat := os.foldl (fun a o => 256 * a + o) 0
theorem dc_nat (n : Nat) (h : n < 10) : (dc n).toNat = 48 + n := by unfold dc; simp; omega
theorem dc_back (c : UInt8) (h1 : 48 ≤ c.toNat) (h2 : c.toNat ≤ 57) : dc (c.toNat - 48) = c := by unfold dc; rw [show 48 + (c.toNat - 48) = c.toNat by omega]; simp
theorem dg_len (n : Nat) : (dg n).length = if n < 10 then 1 else if n < 100 then 2 else 3 := by
  unfold dg
  split
  · rfl
  · split <;> rfl
theorem dg_snoc (n x : Nat) (h1 : 1 ≤ n) (h2 : n < 100) (hx : x < 10) : dg (10 * n + x) = dg n ++ [dc x] := by
  by_cases h : n < 10
  · unfold dg
    rw [if_neg (by omega), if_pos (by omega), if_pos h, show (10 * n + x) / 10 = n by omega, show (10 * n + x) % 10 = x by omega]
    rfl
  · unfold dg
    rw [if_neg (by omega), if_neg (by omega), if_neg h, if_pos h2, show (10 * n + x) / 100 = n / 10 by omega, show (10 * n + x) / 10 % 10 = n % 10 by omega, show (10 * n + x) % 10 = x by omega]
    rfl
def Inv (pre : List UInt8) (s : Sd) : Prop := ∃ (os : List Nat) (p : List UInt8), os.length = s.d ∧ s.d ≤ 3 ∧ (∀ o ∈ os, o ≤ 255) ∧ pre = joinD os ++ p ∧ s.a = foldO os ∧ ((s.z = 0 ∧ s.n = 0 ∧ p = []) ∨ (1 ≤ s.z ∧ p = dg s.n ∧ s.z = p.length ∧ s.n < 1000))
theorem inv_step (pre : List UInt8) (s t : Sd) (c : UInt8) (h : Inv pre s) (hs : stepD s c = some t) : Inv (pre ++ [c]) t := by
  obtain ⟨os, p, h1, h2, h3, h4, h5, h6⟩ := h
  unfold stepD at hs
  split at hs
  · rename_i hc
    split at hs
    · cases hs
    · rename_i hn
      cases hs
      have hz : s.z ≠ 0 := fun e => hn (.inl e)
      rcases h6 with ⟨e, _⟩ | ⟨g1, g2, g3, g4⟩
      · exact absurd e hz
      · refine ⟨os ++ [s.n], [], by simp [h1], by show s.d + 1 ≤ 3; omega, fun o ho => ?_, ?_, ?_, .inl ⟨rfl, rfl, rfl⟩⟩
        · rcases List.mem_append.1 ho with h | h
          · exact h3 o h
          · rw [List.mem_singleton.1 h]; omega
        · rw [h4, g2]
          have e46 : c = 46 := by
            have : c = UInt8.ofNat c.toNat := by simp
            rw [this, hc]; rfl
          unfold joinD
          rw [List.flatMap_append, e46]
          simp
        · show 256 * s.a + s.n = _
          unfold foldO at h5 ⊢
          rw [List.foldl_append, ← h5]; rfl
  · rename_i hc
    split at hs
    · cases hs
    · rename_i hn
      cases hs
      have hd1 : 48 ≤ c.toNat := by omega
      have hd2 : c.toNat ≤ 57 := by omega
      refine ⟨os, p ++ [c], h1, h2, h3, by rw [h4, List.append_assoc], h5, .inr ⟨by show 1 ≤ s.z + 1; omega, ?_⟩⟩
      rcases h6 with ⟨g1, g2, g3⟩ | ⟨g1, g2, g3, g4⟩
      · rw [g3, g2]
        refine ⟨?_, by rw [g1]; rfl, by show 10 * (0 : Nat) + (c.toNat - 48) < 1000; omega⟩
        show [] ++ [c] = dg (10 * 0 + (c.toNat - 48))
        unfold dg
        rw [if_pos (by omega), show 10 * 0 + (c.toNat - 48) = c.toNat - 48 by omega, dc_back c hd1 hd2]; rfl
      · have hl := dg_len s.n
        rw [← g2, ← g3] at hl
        have hn100 : s.n < 100 := by
          split at hl
          · omega
          · split at hl
            · omega
            · omega
        have hn1 : 1 ≤ s.n := by omega
        refine ⟨?_, by rw [g3]; simp, by show 10 * s.n + (c.toNat - 48) < 1000; omega⟩
        show p ++ [c] = dg (10 * s.n + (c.toNat - 48))
        rw [dg_snoc s.n (c.toNat - 48) hn1 hn100 (by omega), dc_back c hd1 hd2, g2]
theorem inv_run : ∀ (l pre : List UInt8) (s t : Sd), Inv pre s → runD s l = some t → Inv (pre ++ l) t
  | [], pre, s, t, h, hr => by
    simp only [runD] at hr
    cases hr
    rw [List.append_nil]; exact h
  | c :: r, pre, s, t, h, hr => by
    simp only [runD] at hr
    cases hs : stepD s c with
    | none => rw [hs] at hr; cases hr
    | some u =>
      rw [hs] at hr
      have := inv_run r (pre ++ [c]) u t (inv_step pre s u c h hs) hr
      rwa [List.append_assoc] at this
/-- The text of four numbers. -/
def txt4 (x y z u : Nat) : List UInt8 := dg x ++ [46] ++ (dg y ++ [46]) ++ (dg z ++ [46]) ++ dg u
theorem addrD_only (l : List UInt8) (v : Nat) (h : addrD l = some v) : ∃ x y z u, x ≤ 255 ∧ y ≤ 255 ∧ z ≤ 255 ∧ u ≤ 255 ∧ l = txt4 x y z u ∧ v = 256 * (256 * (256 * x + y) + z) + u := by
  unfold addrD at h
  cases hr : runD ⟨0, 0, 0, 0⟩ l with
  | none => rw [hr] at h; cases h
  | some s =>
    rw [hr] at h
    simp only [Option.bind_some] at h
    obtain ⟨os, p, h1, h2, h3, h4, h5, h6⟩ := inv_run l [] _ s ⟨[], [], rfl, by decide, by simp, rfl, rfl, .inl ⟨rfl, rfl, rfl⟩⟩ hr
    unfold finD at h
    split at h
    · cases h
    · rename_i hn
      have hd : s.d = 3 := by omega
      have hz : s.z ≠ 0 := by omega
      rcases h6 with ⟨e, _⟩ | ⟨g1, g2, g3, g4⟩
      · exact absurd e hz
      · rw [hd] at h1
        match os, h1 with
        | [x, y, z], _ =>
          refine ⟨x, y, z, s.n, h3 x (by simp), h3 y (by simp), h3 z (by simp), by omega, ?_, ?_⟩
          · rw [List.nil_append] at h4
            rw [h4, g2]
            unfold joinD txt4
            simp
          · have := Option.some.inj h
            rw [← this, h5]
            simp [foldO]
theorem run_digit (s : Sd) (x : Nat) (hx : x < 10) (hz : s.z < 3) (hn : s.z = 0 ∨ s.n ≠ 0) : stepD s (dc x) = some ⟨s.a, 10 * s.n + x, s.d, s.z + 1⟩ := by
  unfold stepD
  rw [dc_nat x hx, if_neg (by omega), if_neg (by omega), show 48 + x - 48 = x by omega]
theorem run_dg (a d n : Nat) (hn : n < 1000) : runD ⟨a, 0, d, 0⟩ (dg n) = some ⟨a, n, d, (dg n).length⟩ := by
  by_cases h1 : n < 10
  · have e : dg n = [dc n] := by unfold dg; rw [if_pos h1]
    rw [e, runD, run_digit _ n h1 (by simp) (.inl rfl)]
    simp [runD]
  · by_cases h2 : n < 100
    · have e : dg n = [dc (n / 10), dc (n % 10)] := by unfold dg; rw [if_neg h1, if_pos h2]
      rw [e, runD, run_digit _ _ (by omega) (by simp) (.inl rfl), Option.bind_some, runD, run_digit _ _ (by omega) (by simp) (.inr (by show 10 * 0 + n / 10 ≠ 0; omega))]
      simp [runD]; omega
    · have e : dg n = [dc (n / 100), dc (n / 10 % 10), dc (n % 10)] := by unfold dg; rw [if_neg h1, if_neg h2]
      rw [e, runD, run_digit _ _ (by omega) (by simp) (.inl rfl), Option.bind_some, runD, run_digit _ _ (by omega) (by simp) (.inr (by show 10 * 0 + n / 100 ≠ 0; omega)), Option.bind_some, runD,
        run_digit _ _ (by omega) (by simp) (.inr (by show 10 * (10 * 0 + n / 100) + n / 10 % 10 ≠ 0; omega))]
      simp [runD]; omega
theorem dg_pos (n : Nat) : (dg n).length ≠ 0 := by
  rw [dg_len]
  split
  · omega
  · split <;> omega
theorem run_dot (a d n : Nat) (hn : n ≤ 255) (hd : d < 3) : runD ⟨a, 0, d, 0⟩ (dg n ++ [46]) = some ⟨256 * a + n, 0, d + 1, 0⟩ := by
  have hp := dg_pos n
  have e : stepD ⟨a, n, d, (dg n).length⟩ 46 = some ⟨256 * a + n, 0, d + 1, 0⟩ := by
    unfold stepD
    rw [if_pos (by decide), if_neg (by simp only; omega)]
  rw [runD_app, run_dg a d n (by omega), Option.bind_some, runD, e]
  rfl
theorem addrD_text (x y z u : Nat) (hx : x ≤ 255) (hy : y ≤ 255) (hz : z ≤ 255) (hu : u ≤ 255) : addrD (txt4 x y z u) = some (256 * (256 * (256 * x + y) + z) + u) := by
  unfold addrD txt4
  rw [runD_app, runD_app, runD_app, run_dot 0 0 x hx (by omega), Option.bind_some, run_dot _ _ y hy (by omega), Option.bind_some, run_dot _ _ z hz (by omega), Option.bind_some, run_dg _ _ u (by omega), Option.bind_some]
  have hp := dg_pos u
  unfold finD
  rw [if_neg (by simp only; omega)]
  simp
theorem itoa_dg : ∀ n : Fin 256, Lib.itoa ((n.1 : Nat) : Int) = dg n.1 := by decide +kernel
theorem no_dot (n : Nat) (h : n < 1000) : ∀ x ∈ dg n, x ≠ 46 := by
  intro x hx e
  have h2 : x.toNat = 46 := by rw [e]; rfl
  unfold dg at hx
  split at hx
  · simp at hx; rw [hx, dc_nat n (by omega)] at h2; omega
  · split at hx
    · simp at hx
      rcases hx with hx | hx
      · rw [hx, dc_nat _ (by omega)] at h2; omega
      · rw [hx, dc_nat _ (by omega)] at h2; omega
    · simp at hx
      rcases hx with hx | hx | hx
      · rw [hx, dc_nat _ (by omega)] at h2; omega
      · rw [hx, dc_nat _ (by omega)] at h2; omega
      · rw [hx, dc_nat _ (by omega)] at h2; omega
theorem idx_at (a b : List UInt8) (c : UInt8) (h : ∀ x ∈ a, x ≠ c) : Lib.index (a ++ c :: b) [c] = (a.length : Int) := by
  rw [Lib.index_one]
  rcases Int.lt_or_le (Lib.indexByte (a ++ c :: b) c) 0 with h1 | h1
  · have h2 := Lib.index_ge (a ++ c :: b) [c]
    rw [Lib.index_one] at h2
    have h3 : Lib.indexByte (a ++ c :: b) c = -1 := by omega
    exact absurd (by simp) (Lib.indexByte_none h3 a.length)
  · obtain ⟨o, ho⟩ := Int.eq_ofNat_of_zero_le h1
    obtain ⟨h2, h3⟩ := Lib.indexByte_some ho
    rcases Nat.lt_trichotomy o a.length with h4 | h4 | h4
    · rw [List.getElem?_append_left h4] at h2
      exact absurd rfl (h c (List.mem_of_getElem? h2))
    · rw [ho, h4]
    · exact absurd (by simp) (h3 a.length h4)
abbrev bs (l : List UInt8) : ByteArray := ⟨l.toArray⟩
theorem split_hit (a b : List UInt8) (k : Nat) (h : ∀ x ∈ a, x ≠ 46) : Lib.splitB ⟨#[46]⟩ 0 (k + 1) (bs (a ++ 46 :: b)) = bs a :: Lib.splitB ⟨#[46]⟩ 0 k (bs b) := by
  have hi : Lib.indexB (bs (a ++ 46 :: b)) ⟨#[46]⟩ = ((a.length : Nat) : Int) := by
    have := idx_at a b 46 h
    simpa [Lib.indexB, bs] using this
  rw [Lib.splitB_hit _ _ _ _ _ hi]
  congr 1
  · rw [Lib.extract_eq]; simp [bs]
  · congr 1
    rw [Lib.extract_eq]
    simp [bs, ByteArray.size]
    exact List.take_of_length_le (by omega)
theorem split_txt (x y z u : Nat) (hx : x ≤ 255) (hy : y ≤ 255) (hz : z ≤ 255) : Lib.splitB ⟨#[46]⟩ 0 3 (bs (txt4 x y z u)) = [bs (dg x), bs (dg y), bs (dg z), bs (dg u)] := by
  have e : txt4 x y z u = dg x ++ 46 :: (dg y ++ 46 :: (dg z ++ 46 :: dg u)) := by unfold txt4; simp
  rw [e, split_hit _ _ 2 (no_dot x (by omega)), split_hit _ _ 1 (no_dot y (by omega)), split_hit _ _ 0 (no_dot z (by omega))]
  rfl
theorem rest_eq (a b : List UInt8) : (bs (a ++ 46 :: b)).extract (a.length + (⟨#[46]⟩ : ByteArray).size) (bs (a ++ 46 :: b)).size = bs b := by
  rw [Lib.extract_eq]
  simp [bs, ByteArray.size]
  exact List.take_of_length_le (by omega)
theorem indexB_at (a b : List UInt8) (h : ∀ x ∈ a, x ≠ 46) : Lib.indexB (bs (a ++ 46 :: b)) ⟨#[46]⟩ = ((a.length : Nat) : Int) := by
  have := idx_at a b 46 h
  simpa [Lib.indexB, bs] using this
theorem count_hit (a b : List UInt8) (h : ∀ x ∈ a, x ≠ 46) : Lib.countB (bs (a ++ 46 :: b)) ⟨#[46]⟩ = 1 + Lib.countB (bs b) ⟨#[46]⟩ := by
  rw [Lib.countB_hit _ _ a.length (by decide) (indexB_at a b h), rest_eq]
theorem indexB_none (a : List UInt8) (h : ∀ x ∈ a, x ≠ 46) : Lib.indexB (bs a) ⟨#[46]⟩ = -1 := by
  have e : Lib.index a [46] = -1 := by
    rw [Lib.index_one]
    rcases Int.lt_or_le (Lib.indexByte a 46) 0 with h1 | h1
    · have := Lib.index_ge a [46]
      rw [Lib.index_one] at this
      omega
    · obtain ⟨o, ho⟩ := Int.eq_ofNat_of_zero_le h1
      exact absurd rfl (h 46 (List.mem_of_getElem? (Lib.indexByte_some ho).1))
  simpa [Lib.indexB, bs] using e
theorem count_txt (x y z u : Nat) (hx : x ≤ 255) (hy : y ≤ 255) (hz : z ≤ 255) (hu : u ≤ 255) : Lib.countB (bs (txt4 x y z u)) ⟨#[46]⟩ = 3 := by
  have e : txt4 x y z u = dg x ++ 46 :: (dg y ++ 46 :: (dg z ++ 46 :: dg u)) := by unfold txt4; simp
  rw [e, count_hit _ _ (no_dot x (by omega)), count_hit _ _ (no_dot y (by omega)), count_hit _ _ (no_dot z (by omega)), Lib.countB_miss _ _ (indexB_none _ (no_dot u (by omega)))]
theorem parse_dg : ∀ n : Fin 256, Lib.parseUintB 8 (dg n.1) = .ok n.1 := by decide +kernel
/-- The program's fold over the parts. -/
def accS (o : Option Nat) (p : ByteArray) : Option Nat := o.bind fun a => match Lib.parseUintB 8 p.data.toList with
  | .ok n => some ((a * 256 + n) % 4294967296)
  | _ => none
def accP (ps : List ByteArray) : Option Nat := ps.foldl accS (some 0)
theorem acc_none : ∀ ps : List ByteArray, ps.foldl accS none = none
  | [] => rfl
  | p :: r => by rw [List.foldl_cons]; exact acc_none r
theorem acc_succ (ps : List ByteArray) (k : Nat) (p : ByteArray) (h : ps[k]? = some p) : accP (ps.take (k + 1)) = accS (accP (ps.take k)) p := by
  unfold accP
  rw [List.take_add_one, h, Option.toList_some, List.foldl_append]; rfl
theorem acc_stop (ps : List ByteArray) (k : Nat) (h : accP (ps.take k) = none) : accP ps = none := by
  have e : ps = ps.take k ++ ps.drop k := (List.take_append_drop k ps).symm
  unfold accP at h ⊢
  rw [e, List.foldl_append, h]
  exact acc_none _
theorem parse_dg2 (n : Nat) (h : n ≤ 255) : Lib.parseUintB 8 (bs (dg n)).data.toList = .ok n := by
  have := parse_dg ⟨n, by omega⟩
  simpa [bs] using this
theorem acc_txt (x y z u : Nat) (hx : x ≤ 255) (hy : y ≤ 255) (hz : z ≤ 255) (hu : u ≤ 255) : accP [bs (dg x), bs (dg y), bs (dg z), bs (dg u)] = some (256 * (256 * (256 * x + y) + z) + u) := by
  unfold accP
  simp only [List.foldl_cons, List.foldl_nil, accS, Option.bind_some, parse_dg2 x hx, parse_dg2 y hy, parse_dg2 z hz, parse_dg2 u hu]
  congr 1
  omega
theorem dg_le3 (n : Nat) : (dg n).length ≤ 3 := by
  rw [dg_len]
  split
  · omega
  · split <;> omega
/-- A text that the document reads is read by the program's fold. -/
theorem acc_of_text (l : List UInt8) (v : Nat) (h : addrD l = some v) : accP (Lib.splitB ⟨#[46]⟩ 0 (Lib.countB (bs l) ⟨#[46]⟩) (bs l)) = some v ∧ v < 4294967296 ∧ l.length ≤ 15 := by
  obtain ⟨x, y, z, u, hx, hy, hz, hu, rfl, rfl⟩ := addrD_only l v h
  rw [count_txt x y z u hx hy hz hu, split_txt x y z u hx hy hz]
  refine ⟨acc_txt x y z u hx hy hz hu, by omega, ?_⟩
  unfold txt4
  have h1 := dg_le3 x
  have h2 := dg_le3 y
  have h3 := dg_le3 z
  have h4 := dg_le3 u
  simp only [List.length_append, List.length_cons, List.length_nil]
  omega
theorem split_size (sep : ByteArray) : ∀ (k : Nat) (s p : ByteArray), p ∈ Lib.splitB sep 0 k s → p.size ≤ s.size
  | 0, s, p, h => by
    rw [Lib.splitB_zero] at h
    rw [List.mem_singleton.1 h]; exact Nat.le_refl _
  | k + 1, s, p, h => by
    unfold Lib.splitB at h
    split at h
    · rw [List.mem_singleton.1 h]; exact Nat.le_refl _
    · rcases List.mem_cons.1 h with h | h
      · rw [h, ByteArray.size_extract]; omega
      · have := split_size sep k _ p h
        rw [ByteArray.size_extract] at this
        omega
end Go.Proofs.YtonoaopioifedaaGreatDoor
