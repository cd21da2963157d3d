/- A packet that is let go between other ends: what it reads as then. No program is named. -/
import Derived.Test.YtgggcapgaikbeaaPk26
import Derived.Test.YtgggcapgaikbeaaPk07
namespace Go.Proofs.Ytgggcapgaikbeaa
open Go.RowKit
set_option linter.unusedVariables false
set_option linter.unusedSimpArgs false
set_option maxRecDepth 100000
theorem tcpG_0 (p q u v f g h : Nat) (os xs : List Int) (k : Nat) (hp : p ≤ 65535) : fld (tcpG p q u v f g h os xs k) 0 2 = p := fld_num 2 p _ (by omega)
theorem tcpG_2 (p q u v f g h : Nat) (os xs : List Int) (k : Nat) (hq : q ≤ 65535) : fld (tcpG p q u v f g h os xs k) 2 2 = q := by
  unfold tcpG; rw [fld_skip _ _ 0 2 2 (numB_len _ _), fld_num 2 q _ (by omega)]
theorem tcpG_4 (p q u v f g h : Nat) (os xs : List Int) (k : Nat) (hu : u ≤ 4294967295) : fld (tcpG p q u v f g h os xs k) 4 4 = u := by
  unfold tcpG; rw [fld_skip _ _ 2 2 4 (numB_len _ _), fld_skip _ _ 0 2 4 (numB_len _ _), fld_num 4 u _ (by omega)]
theorem tcpG_8 (p q u v f g h : Nat) (os xs : List Int) (k : Nat) (hv : v ≤ 4294967295) : fld (tcpG p q u v f g h os xs k) 8 4 = v := by
  unfold tcpG; rw [fld_skip _ _ 6 2 4 (numB_len _ _), fld_skip _ _ 4 2 4 (numB_len _ _), fld_skip _ _ 0 4 4 (numB_len _ _), fld_num 4 v _ (by omega)]
theorem tcpG_tail (p q u v f g h : Nat) (os xs : List Int) (k K j : Nat) : fld (tcpG p q u v f g h os xs k) (12 + K) j = fld ([hdB os.length, (f : Int)] ++ (numB 2 g ++ (numB 2 k ++ (numB 2 h ++ (os ++ xs))))) K j := by
  have e : tcpG p q u v f g h os xs k = (numB 2 p ++ (numB 2 q ++ (numB 4 u ++ numB 4 v))) ++ ([hdB os.length, (f : Int)] ++ (numB 2 g ++ (numB 2 k ++ (numB 2 h ++ (os ++ xs))))) := by simp [tcpG]
  rw [e, fld_skip _ _ K 12 j (by simp [numB_len])]
theorem tcpG_13 (p q u v f g h : Nat) (os xs : List Int) (k : Nat) : fld (tcpG p q u v f g h os xs k) 13 1 = f := by
  rw [tcpG_tail p q u v f g h os xs k 1 1]
  unfold fld valB
  simp
theorem tcpG_14 (p q u v f g h : Nat) (os xs : List Int) (k : Nat) (hg : g ≤ 65535) : fld (tcpG p q u v f g h os xs k) 14 2 = g := by
  rw [tcpG_tail p q u v f g h os xs k 2 2, fld_skip _ _ 0 2 2 (by rfl), fld_num 2 g _ (by omega)]
theorem tcpG_18 (p q u v f g h : Nat) (os xs : List Int) (k : Nat) (hh : h ≤ 65535) : fld (tcpG p q u v f g h os xs k) 18 2 = h := by
  rw [tcpG_tail p q u v f g h os xs k 6 2, fld_skip _ _ 4 2 2 (by rfl), fld_skip _ _ 2 2 2 (numB_len _ _), fld_skip _ _ 0 2 2 (numB_len _ _), fld_num 2 h _ (by omega)]
theorem tcpG_20 (p q u v f g h : Nat) (os xs : List Int) (k : Nat) : (tcpG p q u v f g h os xs k).drop 20 = os ++ xs := by
  have e : tcpG p q u v f g h os xs k = (numB 2 p ++ (numB 2 q ++ (numB 4 u ++ (numB 4 v ++ ([hdB os.length, (f : Int)] ++ (numB 2 g ++ (numB 2 k ++ numB 2 h))))))) ++ (os ++ xs) := by simp [tcpG]
  rw [e, List.drop_left' (by simp [numB_len])]
theorem tcpG_12 (p q u v f g h : Nat) (os xs : List Int) (k : Nat) (ho : os.length ≤ 40) : fld (tcpG p q u v f g h os xs k) 12 1 = 16 * (5 + os.length / 4) := by
  rw [tcpG_tail p q u v f g h os xs k 0 1]
  unfold hdB
  exact fld_byte _ _
theorem tcpG_psum (p q u v f g h : Nat) (os xs : List Int) (k : Nat) (hk : k ≤ 65535) : psum (tcpG p q u v f g h os xs k) = psum (tcpG p q u v f g h os xs 0) + k := by
  have e : ∀ j, tcpG p q u v f g h os xs j = (numB 2 p ++ (numB 2 q ++ (numB 4 u ++ (numB 4 v ++ ([hdB os.length, (f : Int)] ++ numB 2 g))))) ++ (numB 2 j ++ (numB 2 h ++ (os ++ xs))) := fun j => by simp [tcpG]
  rw [e k, e 0, psum_append _ _ (by simp [numB_len]), psum_append _ (numB 2 0 ++ _) (by simp [numB_len]), psum_append (numB 2 k) _ (by rw [numB_len]), psum_append (numB 2 0) _ (by rw [numB_len]), psum_num2 _ hk, psum_num2 0 (by omega)]
  omega
theorem tcpB_len (s d p q : Nat) (y : Seg) : (tcpB s d p q y).length = 20 + y.os.length + y.ds.length := tcpG_len ..
theorem tcpB_rng (s d p q : Nat) (y : Seg) (h : SegFit y) : ∀ x ∈ tcpB s d p q y, 0 ≤ x ∧ x ≤ 255 := by
  intro x hx
  exact tcpG_rng _ _ _ _ _ _ _ _ _ _ h.f h.o h.ob h.db x hx
theorem tcp_back (s d p q : Nat) (y : Seg) (h : SegFit y) (hs : s ≤ 4294967295) (hd : d ≤ 4294967295) (hp : p ≤ 65535) (hq : q ≤ 65535) :
    segCode s d (tcpB s d p q y) = 0 ∧ segOf s d (tcpB s d p q y) = ⟨p, q, y.u, y.v, y.f, y.g, y.h, y.os, y.ds⟩ := by
  have hl := tcpB_len s d p q y
  have h4 := h.o4
  have hsh : segHL (tcpB s d p q y) = 20 + y.os.length := by
    unfold segHL tcpB
    rw [tcpG_12 _ _ _ _ _ _ _ _ _ _ h.o]
    omega
  have hsum : csum (psB s d 6 (20 + y.os.length + y.ds.length) ++ tcpB s d p q y) = 0 := by
    have hr := csum_rng (psB s d 6 (20 + y.os.length + y.ds.length) ++ tcpG p q y.u y.v y.f y.g y.h y.os y.ds 0)
    have hk : ((tcpK s d p q y.u y.v y.f y.g y.h y.os y.ds).toNat : Int) = csum (psB s d 6 (20 + y.os.length + y.ds.length) ++ tcpG p q y.u y.v y.f y.g y.h y.os y.ds 0) := by unfold tcpK; omega
    have hpos := (psum_rng (psB s d 6 (20 + y.os.length + y.ds.length) ++ tcpG p q y.u y.v y.f y.g y.h y.os y.ds 0) (by
      intro x hx
      rcases List.mem_append.1 hx with h' | h'
      · exact psB_rng _ _ _ _ (by omega) x h'
      · exact tcpG_rng _ _ _ _ _ _ _ _ _ _ h.f h.o h.ob h.db x h')).1
    have e : csum (psB s d 6 (20 + y.os.length + y.ds.length) ++ tcpB s d p q y) = 65535 - f16 (psum (psB s d 6 (20 + y.os.length + y.ds.length) ++ tcpG p q y.u y.v y.f y.g y.h y.os y.ds 0) + csum (psB s d 6 (20 + y.os.length + y.ds.length) ++ tcpG p q y.u y.v y.f y.g y.h y.os y.ds 0)) := by
      unfold csum at *
      unfold tcpB
      rw [psum_append _ _ (by rw [psB_len]), tcpG_psum _ _ _ _ _ _ _ _ _ _ (by omega), hk, psum_append _ (tcpG p q y.u y.v y.f y.g y.h y.os y.ds 0) (by rw [psB_len])]
      congr 2
      omega
    rw [e]
    exact right_good _ _ hpos rfl
  have ho := h.o
  have hdd := h.d
  have hc : segCode s d (tcpB s d p q y) = 0 := by
    unfold segCode
    rw [hl, hsh, if_neg (by omega), if_neg (by omega), if_neg (by omega), if_pos hsum]
  refine ⟨hc, ?_⟩
  unfold segOf
  rw [if_pos hc, hsh]
  have d20 : (tcpB s d p q y).drop 20 = y.os ++ y.ds := tcpG_20 _ _ _ _ _ _ _ _ _ _
  have dhl : (tcpB s d p q y).drop (20 + y.os.length) = y.ds := by rw [← List.drop_drop, d20, List.drop_left' rfl]
  rw [d20, dhl, show 20 + y.os.length - 20 = y.os.length by omega, List.take_left' rfl]
  unfold tcpB
  rw [tcpG_0 _ _ _ _ _ _ _ _ _ _ hp, tcpG_2 _ _ _ _ _ _ _ _ _ _ hq, tcpG_4 _ _ _ _ _ _ _ _ _ _ h.u, tcpG_8 _ _ _ _ _ _ _ _ _ _ h.v, tcpG_13, tcpG_14 _ _ _ _ _ _ _ _ _ _ h.g, tcpG_18 _ _ _ _ _ _ _ _ _ _ h.h]
theorem udpB_G (s d p q : Nat) (y : Dgm) : udpB s d p q y = udpG p q y.ds (if y.pl then 0 else (udpK s d p q y.ds).toNat) := by
  unfold udpB
  split
  · exact udpZ_G _ _ _
  · exact udpS_G _ _ _ _ _
theorem udpB_len (s d p q : Nat) (y : Dgm) : (udpB s d p q y).length = 8 + y.ds.length := by rw [udpB_G, udpG_len]
theorem udpB_rng (s d p q : Nat) (y : Dgm) (h : DgmFit y) : ∀ x ∈ udpB s d p q y, 0 ≤ x ∧ x ≤ 255 := by rw [udpB_G]; exact udpG_rng _ _ _ _ h.db
theorem udp_back (s d p q : Nat) (y : Dgm) (h : DgmFit y) (hs : s ≤ 4294967295) (hd : d ≤ 4294967295) (hp : p ≤ 65535) (hq : q ≤ 65535) :
    dgmCode s d (udpB s d p q y) = 0 ∧ dgmOf s d (udpB s d p q y) = ⟨p, q, y.pl, y.ds⟩ := by
  have hl := udpB_len s d p q y
  have hk := udpK_rng s d p q y.ds
  have hkp := udpK_pos s d p q y.ds
  have hdd := h.d
  have f4 : fld (udpB s d p q y) 4 2 = 8 + y.ds.length := by rw [udpB_G, udpG_4 _ _ _ _ (by omega)]
  have f6 : fld (udpB s d p q y) 6 2 = if y.pl then 0 else (udpK s d p q y.ds).toNat := by rw [udpB_G, udpG_6 _ _ _ _ (by split <;> omega)]
  have ht : (udpB s d p q y).take (8 + y.ds.length) = udpB s d p q y := List.take_of_length_le (by omega)
  have hc : dgmCode s d (udpB s d p q y) = 0 := by
    unfold dgmCode
    rw [hl, f4, f6, ht, if_neg (by omega), if_neg (by omega), if_neg (by omega)]
    cases hpl : y.pl with
    | true => simp
    | false =>
      have := (udpK_iff s d s d p q y.ds hs hd hs hd hp hq h.db (by omega)).2 rfl
      rw [if_neg (by simp; omega)]
      have e : udpB s d p q y = udpS s d p q y.ds := by unfold udpB; rw [hpl]; rfl
      rw [e, if_pos this]
  refine ⟨hc, ?_⟩
  unfold dgmOf
  rw [if_pos hc, f4, f6]
  have d8 : (udpB s d p q y).drop 8 = y.ds := by rw [udpB_G]; exact udpG_8 _ _ _ _
  rw [d8, show 8 + y.ds.length - 8 = y.ds.length by omega, List.take_length]
  have f0 : fld (udpB s d p q y) 0 2 = p := by rw [udpB_G]; exact udpG_0 _ _ _ _ hp
  have f2 : fld (udpB s d p q y) 2 2 = q := by rw [udpB_G]; exact udpG_2 _ _ _ _ hq
  rw [f0, f2]
  obtain ⟨a, b, pl, ds⟩ := y
  cases pl with
  | true => simp
  | false =>
    have h9 : (udpK s d p q ds).toNat ≠ 0 := by dsimp only at hkp hk; omega
    simp [h9]
/-- The body of a packet with data, or a query, between the ends of g. -/
def rwB (P S D : Nat) (xs : List Int) (g : Fl) : List Int :=
  if P = 6 then tcpB g.s g.d g.f g.t (segOf S D xs) else if P = 17 then udpB g.s g.d g.f g.t (dgmOf S D xs) else icmpB (msgOf xs).p (msgOf xs).q (qryR (msgOf xs) g.f g.t) (msgOf xs).ds
/-- A flow between which a query may go. -/
def qFit (P : Nat) (xs : List Int) (g : Fl) : Prop := P = 1 → (if (msgOf xs).p = 8 then g.t = 0 else g.f = 0)
theorem qry_cases (xs : List Int) (h : icErr xs = 0) (hk : icKind xs ≠ 3) : msgCode xs = 0 ∧ isErr (msgOf xs).p = false ∧ (msgOf xs).q = 0 ∧ ((msgOf xs).p = 8 ∨ (msgOf xs).p = 0) := by
  unfold icErr at h
  by_cases hc : msgCode xs = 0
  · rw [if_pos hc] at h
    unfold icKind msgKind at hk
    rw [if_pos hc] at hk
    have hE : isErr (msgOf xs).p = false := by
      cases hh : isErr (msgOf xs).p with
      | false => rfl
      | true => rw [hh] at hk; simp at hk
    unfold msgOk at h
    rw [hE] at h
    have hq : qok (msgOf xs).p (msgOf xs).q = true := by
      by_cases hh : qok (msgOf xs).p (msgOf xs).q = true
      · exact hh
      · simp [hh] at h
    unfold qok at hq
    simp at hq
    exact ⟨hc, hE, hq.1, hq.2⟩
  · rw [if_neg hc] at h; exact absurd h hc
theorem rw_fit (P S D : Nat) (xs : List Int) (g : Fl) (hb : ∀ x ∈ xs, 0 ≤ x ∧ x ≤ 255) (he : ofErr P S D xs = 0) (hk : ofKind P S D xs ≠ 3) (hg : g.Ok) (hq : qFit P xs g) :
    (∀ x ∈ rwB P S D xs g, 0 ≤ x ∧ x ≤ 255) ∧ (rwB P S D xs g).length ≤ 1480 ∧ ofErr P g.s g.d (rwB P S D xs g) = 0 ∧ ofKind P g.s g.d (rwB P S D xs g) = ofKind P S D xs ∧ (g.p = P → ofFl P g.s g.d (rwB P S D xs g) = g) ∧ (∀ g2 : Fl, rwB P g.s g.d (rwB P S D xs g) g2 = rwB P S D xs g2) := by
  have he' := he
  unfold ofErr at he'
  by_cases h6 : P = 6
  · subst h6
    rw [if_pos rfl] at he'
    have hf := seg_fit S D xs hb he'
    have e : rwB 6 S D xs g = tcpB g.s g.d g.f g.t (segOf S D xs) := rfl
    obtain ⟨b1, b2⟩ := tcp_back g.s g.d g.f g.t (segOf S D xs) hf hg.s hg.d hg.f hg.t
    have o := hf.o
    have dd := hf.d
    have e1 : ofErr 6 g.s g.d (rwB 6 S D xs g) = 0 := by rw [e]; unfold ofErr; rw [if_pos rfl]; exact b1
    refine ⟨by rw [e]; exact tcpB_rng _ _ _ _ _ hf, by rw [e, tcpB_len]; omega, e1, ?_, ?_, ?_⟩
    · unfold ofKind; rw [e1, he, if_pos rfl, if_pos rfl, if_pos (.inl rfl), if_pos (.inl rfl)]
    · intro hp
      unfold ofFl
      rw [e1, if_pos rfl, if_pos rfl, e, b2, ← hp]
    · intro g2
      show tcpB g2.s g2.d g2.f g2.t (segOf g.s g.d (rwB 6 S D xs g)) = _
      rw [e, b2]
      rfl
  rw [if_neg h6] at he'
  by_cases h17 : P = 17
  · subst h17
    rw [if_pos rfl] at he'
    have hf := dgm_fit S D xs hb he'
    have e : rwB 17 S D xs g = udpB g.s g.d g.f g.t (dgmOf S D xs) := rfl
    obtain ⟨b1, b2⟩ := udp_back g.s g.d g.f g.t (dgmOf S D xs) hf hg.s hg.d hg.f hg.t
    have dd := hf.d
    have e1 : ofErr 17 g.s g.d (rwB 17 S D xs g) = 0 := by rw [e]; unfold ofErr; rw [if_neg (by omega), if_pos rfl]; exact b1
    refine ⟨by rw [e]; exact udpB_rng _ _ _ _ _ hf, by rw [e, udpB_len]; omega, e1, ?_, ?_, ?_⟩
    · unfold ofKind; rw [e1, he, if_pos rfl, if_pos rfl, if_pos (.inr rfl), if_pos (.inr rfl)]
    · intro hp
      unfold ofFl
      rw [e1, if_pos rfl, if_neg (by omega), if_pos rfl, e, b2, ← hp]
    · intro g2
      show udpB g2.s g2.d g2.f g2.t (dgmOf g.s g.d (rwB 17 S D xs g)) = _
      rw [e, b2]
      rfl
  rw [if_neg h17] at he'
  by_cases h1 : P = 1
  · subst h1
    rw [if_pos rfl] at he'
    have hk1 : icKind xs ≠ 3 := by
      unfold ofKind at hk
      rw [he, if_pos rfl, if_neg (by omega)] at hk
      exact hk
    obtain ⟨q1, q2, q3, q4⟩ := qry_cases xs he' hk1
    have hok := msgOf_ok xs hb
    have hRb : qryR (msgOf xs) g.f g.t ≤ 4294967295 := by unfold qryR; have := hg.f; have := hg.t; split <;> omega
    have e : rwB 1 S D xs g = icmpB (msgOf xs).p (msgOf xs).q (qryR (msgOf xs) g.f g.t) (msgOf xs).ds := rfl
    have b1 := icmpB_code (msgOf xs).p (msgOf xs).q (qryR (msgOf xs) g.f g.t) (msgOf xs).ds hok.1 hok.2.1 hok.2.2.2.1 hok.2.2.2.2
    have b2 := icmpB_of (msgOf xs).p (msgOf xs).q (qryR (msgOf xs) g.f g.t) (msgOf xs).ds hok.1 hok.2.1 hRb hok.2.2.2.1 hok.2.2.2.2
    rw [← e] at b1 b2
    have hqk : qok (msgOf xs).p (msgOf xs).q = true := by unfold qok; simp [q3, q4]
    have e0 : icErr (rwB 1 S D xs g) = 0 := by
      unfold icErr msgOk
      rw [if_pos b1, b2]
      dsimp only
      rw [q2, hqk]; rfl
    have e1 : ofErr 1 g.s g.d (rwB 1 S D xs g) = 0 := by unfold ofErr; rw [if_neg (by omega), if_neg (by omega), if_pos rfl]; exact e0
    have dd := hok.2.2.2.2
    refine ⟨by rw [e]; exact icmpB_rng _ _ _ _ hok.1 hok.2.1 hok.2.2.2.1, by rw [e, icmpB_len]; omega, e1, ?_, ?_, ?_⟩
    · unfold ofKind
      rw [e1, he, if_pos rfl, if_pos rfl, if_neg (by omega), if_neg (by omega)]
      unfold icKind msgKind
      rw [if_pos b1, if_pos q1, b2]
    · intro hp
      unfold ofFl
      rw [e1, if_pos rfl, if_neg (by omega), if_neg (by omega)]
      unfold icFl msgFl
      rw [if_pos b1, b2]
      dsimp only
      rw [q2]
      have hqq := hq rfl
      obtain ⟨gp, gs, gd, gf, gt⟩ := g
      have hgf := hg.f
      have hgt := hg.t
      dsimp only at *
      unfold qfrom qto qryR
      rw [q3]
      rcases q4 with q4 | q4
      · rw [q4] at hqq ⊢
        simp at hqq ⊢
        exact ⟨hp.symm, by omega, hqq.symm⟩
      · rw [q4] at hqq ⊢
        simp at hqq ⊢
        exact ⟨hp.symm, hqq.symm, by omega⟩
    · intro g2
      show icmpB (msgOf (rwB 1 S D xs g)).p (msgOf (rwB 1 S D xs g)).q (qryR (msgOf (rwB 1 S D xs g)) g2.f g2.t) (msgOf (rwB 1 S D xs g)).ds = _
      rw [b2]
      dsimp only
      have hR2 : qryR ⟨(msgOf xs).p, (msgOf xs).q, qryR (msgOf xs) g.f g.t, (msgOf xs).ds⟩ g2.f g2.t = qryR (msgOf xs) g2.f g2.t := by
        unfold qryR
        dsimp only
        omega
      rw [hR2]
      rfl
  · rw [if_neg h1] at he'; omega
end Go.Proofs.Ytgggcapgaikbeaa
