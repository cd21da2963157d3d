/- Flows: packets are let go between other ends alike by the program and by the document. -/
import Derived.Test.YtgggcapgaikbeaaPk25
namespace Go.Proofs.Ytgggcapgaikbeaa
open Go.RowKit
set_option linter.unusedVariables false
set_option linter.unusedSimpArgs false
set_option maxRecDepth 100000
theorem err_ofR (k code r s d : Nat) (data : List Int) (M : Nat) (hke : isErr k = true) (hk : k ≤ 255) (hc : code ≤ 255) (hr : r ≤ 4294967295) (hb : ∀ x ∈ data, 0 ≤ x ∧ x ≤ 255) (hl : data.length = M) (hM : M ≤ 1472) (ht : tok data M = true) :
    ofErr 1 s d (icmpB k code r data) = 0 ∧ ofKind 1 s d (icmpB k code r data) = 3 := by
  have h1 := icmpB_code k code r data hk hc hb (by omega)
  have h2 := icmpB_of k code r data hk hc hr hb (by omega)
  have e1 : icErr (icmpB k code r data) = 0 := by unfold icErr msgOk; rw [if_pos h1, h2]; dsimp only; rw [hke, hl, ht]; rfl
  have e2 : ofErr 1 s d (icmpB k code r data) = 0 := by unfold ofErr; rw [if_neg (by omega), if_neg (by omega), if_pos rfl, e1]
  refine ⟨e2, ?_⟩
  unfold ofKind
  rw [e2, if_pos rfl, if_neg (by omega)]
  unfold icKind msgKind
  rw [if_pos h1, h2]
  dsimp only
  rw [hke]; rfl
theorem rtl_one (P n q r : Nat) (xs : List Int) (a b b' : Nat → Nat) (h1 : P = 1) (h : ∀ i, i < 4 → b i = b' i) : rtl P n q r xs a b = rtl P n q r xs a b' := by
  unfold rtl
  rw [if_pos h1, if_pos h1]
  unfold rtH
  rw [h 0 (by omega), h 1 (by omega), h 2 (by omega), h 3 (by omega)]
theorem endF_same (a b c d c' d' i : Nat) (h : i < 4) : endF a b c d i = endF a b c' d' i := by
  match i, h with
  | 0, _ => rfl
  | 1, _ => rfl
  | 2, _ => rfl
  | 3, _ => rfl
theorem reT_fit (ds : List Int) (v : Fl) (h : tok ds ds.length = true) (hb : ∀ x ∈ ds, 0 ≤ x ∧ x ≤ 255) (hv : v.Ok) (hp : v.p = (tfl ds ds.length).p) :
    (∀ x ∈ reT ds v, 0 ≤ x ∧ x ≤ 255) ∧ (reT ds v).length = ds.length ∧ tok (reT ds v) ds.length = true := by
  by_cases h1 : (tfl ds ds.length).p = 1
  · by_cases h8 : fld ds 20 1 = 8
    · have e : reT ds v = reT ds ⟨v.p, v.s, v.d, v.f, 0⟩ := by
        unfold reT
        simp only [if_pos h8]
        exact rtl_one _ _ _ _ _ _ _ _ h1 (fun i hi => endF_same _ _ _ _ _ _ i hi)
      rw [e]
      obtain ⟨a, b, c, _⟩ := reT_flow ds ⟨v.p, v.s, v.d, v.f, 0⟩ h hb ⟨hv.p, hv.s, hv.d, hv.f, Nat.zero_le _⟩ hp (fun _ => by rw [if_pos h8])
      exact ⟨a, b, c⟩
    · have e : reT ds v = reT ds ⟨v.p, v.s, v.d, 0, v.t⟩ := by
        unfold reT
        simp only [if_neg h8]
        exact rtl_one _ _ _ _ _ _ _ _ h1 (fun i hi => endF_same _ _ _ _ _ _ i hi)
      rw [e]
      obtain ⟨a, b, c, _⟩ := reT_flow ds ⟨v.p, v.s, v.d, 0, v.t⟩ h hb ⟨hv.p, hv.s, hv.d, Nat.zero_le _, hv.t⟩ hp (fun _ => by rw [if_neg h8])
      exact ⟨a, b, c⟩
  · obtain ⟨a, b, c, _⟩ := reT_flow ds v h hb hv hp (fun h => absurd h h1)
    exact ⟨a, b, c⟩
theorem rw_fit2 (P S D : Nat) (xs : List Int) (g : Fl) (hb : ∀ x ∈ xs, 0 ≤ x ∧ x ≤ 255) (he : ofErr P S D xs = 0) (hk : ofKind P S D xs ≠ 3) (hg : g.Ok) :
    (∀ x ∈ rwB P S D xs g, 0 ≤ x ∧ x ≤ 255) ∧ ofErr P g.s g.d (rwB P S D xs g) = 0 ∧ ofKind P g.s g.d (rwB P S D xs g) = ofKind P S D xs := by
  by_cases h1 : P = 1
  · by_cases h8 : (msgOf xs).p = 8
    · have e : rwB P S D xs g = rwB P S D xs ⟨g.p, g.s, g.d, g.f, 0⟩ := by
        unfold rwB qryR
        simp only [if_neg (show ¬ P = 6 by omega), if_neg (show ¬ P = 17 by omega), if_pos h8]
      rw [e]
      obtain ⟨a, _, c, d, _, _⟩ := rw_fit P S D xs ⟨g.p, g.s, g.d, g.f, 0⟩ hb he hk ⟨hg.p, hg.s, hg.d, hg.f, Nat.zero_le _⟩ (fun _ => by rw [if_pos h8])
      exact ⟨a, c, d⟩
    · have e : rwB P S D xs g = rwB P S D xs ⟨g.p, g.s, g.d, 0, g.t⟩ := by
        unfold rwB qryR
        simp only [if_neg (show ¬ P = 6 by omega), if_neg (show ¬ P = 17 by omega), if_neg h8]
      rw [e]
      obtain ⟨a, _, c, d, _, _⟩ := rw_fit P S D xs ⟨g.p, g.s, g.d, 0, g.t⟩ hb he hk ⟨hg.p, hg.s, hg.d, Nat.zero_le _, hg.t⟩ (fun _ => by rw [if_neg h8])
      exact ⟨a, c, d⟩
  · obtain ⟨a, _, c, d, _, _⟩ := rw_fit P S D xs g hb he hk hg (fun h => absurd h h1)
    exact ⟨a, c, d⟩
theorem lies_none (w : World) : Lies w none [] 0 0 := ⟨fun h => absurd rfl h, fun _ => rfl, Nat.le_refl _, by omega⟩
/-- What both answer. -/
structure RwAns (tt P id S D : Nat) (xs : List Int) (t2 P2 i2 S2 D2 : Nat) (body : List Int) (code : Nat) : Prop where
  ok : code = 0 → t2 = tt ∧ P2 = P ∧ i2 = id ∧ ofErr P S D xs = 0 ∧ S2 ≤ 4294967295 ∧ D2 ≤ 4294967295 ∧ (∀ x ∈ body, 0 ≤ x ∧ x ≤ 255) ∧ ofErr P S2 D2 body = 0 ∧ ofKind P S2 D2 body = ofKind P S D xs
def RwP (f : Nat) (w : World) (v1 v2 : Value) (t2 P2 i2 S2 D2 : Nat) (body : List Int) (code : Nat) : Prop :=
  Calls Try.prog f #[v1, v2] w fun e w' => ∃ a c, e = .returned (.tuple #[.agg #[.int .u8 (t2 : Int), .int .u8 (P2 : Int), .int .u16 (i2 : Int), .int .u32 (S2 : Int), .int .u32 (D2 : Int), .slice a body.length c], .int .i64 (code : Int)]) ∧ Lies w' a body body.length c ∧ Below w.heap.size w w'
theorem rw_both (tt P id S D : Nat) (xs : List Int) (n : Nat) (fp fs fd ff ft : Nat) (hl : xs.length = n) (hb : ∀ x ∈ xs, 0 ≤ x ∧ x ≤ 255) (hS : S ≤ 4294967295) (hD : D ≤ 4294967295) (hfp : fp ≤ 255) (hfs : fs ≤ 4294967295) (hfd : fd ≤ 4294967295) (hff : ff ≤ 65535) (hft : ft ≤ 65535) :
    ∃ (t2 P2 i2 S2 D2 : Nat) (body : List Int) (code : Nat), RwAns tt P id S D xs t2 P2 i2 S2 D2 body code ∧
      ∀ (w : World) (da : Option Addr) (dc : Nat), Lies w da xs n dc →
        RwP 11 w (.agg #[.int .u8 (tt : Int), .int .u8 (P : Int), .int .u16 (id : Int), .int .u32 (S : Int), .int .u32 (D : Int), .slice da n dc]) (.agg #[.int .u8 (fp : Int), .int .u32 (fs : Int), .int .u32 (fd : Int), .int .u16 (ff : Int), .int .u16 (ft : Int)]) t2 P2 i2 S2 D2 body code ∧ RwP 12 w (.agg #[.int .u8 (tt : Int), .int .u8 (P : Int), .int .u16 (id : Int), .int .u32 (S : Int), .int .u32 (D : Int), .slice da n dc]) (.agg #[.int .u8 (fp : Int), .int .u32 (fs : Int), .int .u32 (fd : Int), .int .u16 (ff : Int), .int .u16 (ft : Int)]) t2 P2 i2 S2 D2 body code := by
  by_cases he : ofErr P S D xs = 0
  · by_cases hp : fp = (ofFl P S D xs).p
    · have he' := he
      have fit := rw_fit2 P S D xs ⟨fp, fs, fd, ff, ft⟩ hb he
      unfold ofErr at he'
      by_cases h6 : P = 6
      · subst h6
        rw [if_pos rfl] at he'
        have hk : ofKind 6 S D xs ≠ 3 := by unfold ofKind; rw [he, if_pos rfl, if_pos (.inl rfl)]; omega
        have hp6 : fp = 6 := by rw [hp]; unfold ofFl; rw [he, if_pos rfl, if_pos rfl]
        subst hp6
        obtain ⟨f1, f2, f3⟩ := fit hk ⟨hfp, hfs, hfd, hff, hft⟩
        have e : rwB 6 S D xs ⟨6, fs, fd, ff, ft⟩ = tcpB fs fd ff ft (segOf S D xs) := rfl
        rw [e] at f1 f2 f3
        refine ⟨tt, 6, id, fs, fd, tcpB fs fd ff ft (segOf S D xs), 0, ⟨fun _ => ⟨rfl, rfl, rfl, he, hfs, hfd, f1, f2, f3⟩⟩, fun w da dc hLx => ?_⟩
        unfold RwP
        rw [tcpB_len]
        refine ⟨(rewrite_tcp w tt id S D da xs n dc fs fd ff ft hLx hl hb hS hD hfs hfd hff hft he').mono ?_, (drewrite_tcp w tt id S D da xs n dc 6 fs fd ff ft hLx hl hb hS hD hfs hfd hff hft he' rfl).mono ?_⟩
        · rintro e w' ⟨a, c, rfl, o, b⟩; exact ⟨a, c, rfl, Lies.of_owns o, b⟩
        · rintro e w' ⟨a, c, rfl, o, b⟩; exact ⟨a, c, rfl, Lies.of_owns o, b⟩
      rw [if_neg h6] at he'
      by_cases h17 : P = 17
      · subst h17
        rw [if_pos rfl] at he'
        have hk : ofKind 17 S D xs ≠ 3 := by unfold ofKind; rw [he, if_pos rfl, if_pos (.inr rfl)]; omega
        have hp17 : fp = 17 := by rw [hp]; unfold ofFl; rw [he, if_pos rfl, if_neg (by omega), if_pos rfl]
        subst hp17
        obtain ⟨f1, f2, f3⟩ := fit hk ⟨hfp, hfs, hfd, hff, hft⟩
        have e : rwB 17 S D xs ⟨17, fs, fd, ff, ft⟩ = udpB fs fd ff ft (dgmOf S D xs) := rfl
        rw [e] at f1 f2 f3
        refine ⟨tt, 17, id, fs, fd, udpB fs fd ff ft (dgmOf S D xs), 0, ⟨fun _ => ⟨rfl, rfl, rfl, he, hfs, hfd, f1, f2, f3⟩⟩, fun w da dc hLx => ?_⟩
        unfold RwP
        rw [udpB_len]
        refine ⟨(rewrite_udp w tt id S D da xs n dc fs fd ff ft hLx hl hb hS hD hfs hfd hff hft he').mono ?_, (drewrite_udp w tt id S D da xs n dc 17 fs fd ff ft hLx hl hb hS hD hfs hfd hff hft he' rfl).mono ?_⟩
        · rintro e w' ⟨a, c, rfl, o, b⟩; exact ⟨a, c, rfl, Lies.of_owns o, b⟩
        · rintro e w' ⟨a, c, rfl, o, b⟩; exact ⟨a, c, rfl, Lies.of_owns o, b⟩
      rw [if_neg h17] at he'
      by_cases h1 : P = 1
      · subst h1
        rw [if_pos rfl] at he'
        have hmc : msgCode xs = 0 := by
          unfold icErr at he'
          by_cases h0 : msgCode xs = 0
          · exact h0
          · rw [if_neg h0] at he'; exact absurd he' h0
        have hok := msgOf_ok xs hb
        cases hki : isErr (msgOf xs).p with
        | false =>
          have hk : ofKind 1 S D xs ≠ 3 := by unfold ofKind; rw [he, if_pos rfl, if_neg (by omega)]; unfold icKind msgKind; rw [if_pos hmc, hki]; decide
          have hp1 : fp = 1 := by rw [hp]; unfold ofFl; rw [he, if_pos rfl, if_neg (by omega), if_neg (by omega)]; unfold icFl msgFl; rw [if_pos hmc, hki]; rfl
          subst hp1
          obtain ⟨f1, f2, f3⟩ := fit hk ⟨hfp, hfs, hfd, hff, hft⟩
          have e : rwB 1 S D xs ⟨1, fs, fd, ff, ft⟩ = icmpB (msgOf xs).p (msgOf xs).q (qryR (msgOf xs) ff ft) (msgOf xs).ds := rfl
          rw [e] at f1 f2 f3
          refine ⟨tt, 1, id, fs, fd, icmpB (msgOf xs).p (msgOf xs).q (qryR (msgOf xs) ff ft) (msgOf xs).ds, 0, ⟨fun _ => ⟨rfl, rfl, rfl, he, hfs, hfd, f1, f2, f3⟩⟩, fun w da dc hLx => ?_⟩
          unfold RwP
          rw [icmpB_len]
          refine ⟨(rewrite_qry w tt id S D da xs n dc fs fd ff ft hLx hl hb hS hD hfs hfd hff hft he' hki).mono ?_, ?_⟩
          · rintro e w' ⟨a, c, rfl, o, b⟩; exact ⟨a, c, rfl, Lies.of_owns o, b⟩
          · by_cases h8 : (msgOf xs).p = 8
            · refine (drewrite_qry8 w tt id S D da xs n dc 1 fs fd ff ft hLx hl hb hS hD hfs hfd hff hft he' hki rfl h8).mono ?_
              rintro e w' ⟨a, c, rfl, o, b⟩; exact ⟨a, c, rfl, Lies.of_owns o, b⟩
            · refine (drewrite_qry0 w tt id S D da xs n dc 1 fs fd ff ft hLx hl hb hS hD hfs hfd hff hft he' hki rfl h8).mono ?_
              rintro e w' ⟨a, c, rfl, o, b⟩; exact ⟨a, c, rfl, Lies.of_owns o, b⟩
        | true =>
          have hk : ofKind 1 S D xs = 3 := by unfold ofKind; rw [he, if_pos rfl, if_neg (by omega)]; unfold icKind msgKind; rw [if_pos hmc, hki]; rfl
          have hpt : fp = (tfl (msgOf xs).ds (msgOf xs).ds.length).p := by rw [hp]; unfold ofFl; rw [he, if_pos rfl, if_neg (by omega), if_neg (by omega)]; unfold icFl msgFl; rw [if_pos hmc, hki]; rfl
          have htk : tok (msgOf xs).ds (msgOf xs).ds.length = true := by
            have he'' := he'
            unfold icErr msgOk at he''
            rw [if_pos hmc, hki, if_pos rfl] at he''
            by_cases h0 : tok (msgOf xs).ds (msgOf xs).ds.length = true
            · exact h0
            · rw [if_neg h0] at he''; omega
          obtain ⟨r1, r2, r3⟩ := reT_fit (msgOf xs).ds (Fl.turn ⟨fp, fs, fd, ff, ft⟩) htk hok.2.2.2.1 ⟨hfp, hfd, hfs, hft, hff⟩ hpt
          have hlen : (icmpB (msgOf xs).p (msgOf xs).q (msgOf xs).r (reT (msgOf xs).ds (Fl.turn ⟨fp, fs, fd, ff, ft⟩))).length = 8 + (msgOf xs).ds.length := by rw [icmpB_len, r2]
          have hSb : (if S = (tfl (msgOf xs).ds (msgOf xs).ds.length).d then fs else S) ≤ 4294967295 := by split <;> omega
          have hDb : (if D = (tfl (msgOf xs).ds (msgOf xs).ds.length).s then fd else D) ≤ 4294967295 := by split <;> omega
          obtain ⟨g1, g2⟩ := err_ofR (msgOf xs).p (msgOf xs).q (msgOf xs).r (if S = (tfl (msgOf xs).ds (msgOf xs).ds.length).d then fs else S) (if D = (tfl (msgOf xs).ds (msgOf xs).ds.length).s then fd else D) _ _ hki hok.1 hok.2.1 hok.2.2.1 r1 r2 hok.2.2.2.2 r3
          refine ⟨tt, 1, id, (if S = (tfl (msgOf xs).ds (msgOf xs).ds.length).d then fs else S), (if D = (tfl (msgOf xs).ds (msgOf xs).ds.length).s then fd else D), icmpB (msgOf xs).p (msgOf xs).q (msgOf xs).r (reT (msgOf xs).ds (Fl.turn ⟨fp, fs, fd, ff, ft⟩)), 0, ⟨fun _ => ⟨rfl, rfl, rfl, he, hSb, hDb, icmpB_rng _ _ _ _ hok.1 hok.2.1 r1, g1, by rw [g2, hk]⟩⟩, fun w da dc hLx => ?_⟩
          unfold RwP
          rw [hlen]
          refine ⟨(rewrite_tell w tt id S D da xs n dc fp fs fd ff ft hLx hl hb hS hD hfs hfd hff hft he' hki hpt).mono ?_, ?_⟩
          · rintro e w' ⟨a, c, rfl, o, b⟩; exact ⟨a, c, rfl, Lies.of_owns o, b⟩
          · refine (drewrite_tell w tt id S D da xs n dc fp fs fd ff ft hLx hl hb hS hD hfs hfd hff hft he' hki hpt).mono ?_
            rintro e w' ⟨a, c, rfl, o, b⟩; exact ⟨a, c, rfl, Lies.of_owns o, b⟩
      · rw [if_neg h1] at he'; omega
    · refine ⟨0, 0, 0, 0, 0, [], 1, ⟨fun h => by omega⟩, fun w da dc hLx => ⟨?_, ?_⟩⟩
      · refine (rewrite_arg w tt P id S D da xs n dc fp fs fd ff ft hLx hl hb hS hD he hp).mono ?_
        rintro e w' ⟨rfl, b⟩; exact ⟨none, 0, rfl, lies_none _, b⟩
      · refine (drewrite_arg w tt P id S D da xs n dc fp fs fd ff ft hLx hl hb hS hD he hp).mono ?_
        rintro e w' ⟨rfl, b⟩; exact ⟨none, 0, rfl, lies_none _, b⟩
  · refine ⟨0, 0, 0, 0, 0, [], ofErr P S D xs, ⟨fun h => absurd h he⟩, fun w da dc hLx => ⟨?_, ?_⟩⟩
    · refine (rewrite_err w tt P id S D da xs n dc fp fs fd ff ft hLx hl hb hS hD he).mono ?_
      rintro e w' ⟨rfl, b⟩; exact ⟨none, 0, rfl, lies_none _, b⟩
    · refine (drewrite_err w tt P id S D da xs n dc fp fs fd ff ft hLx hl hb hS hD he).mono ?_
      rintro e w' ⟨rfl, b⟩; exact ⟨none, 0, rfl, lies_none _, b⟩
end Go.Proofs.Ytgggcapgaikbeaa
