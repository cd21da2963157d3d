/- A configuration and a forward that came in, as the readings of this seat say it. -/
import Derived.Test.YtbibobjkclgogaaFrame
import Derived.Test.YtbibobjkclgogaaCFindC
import Derived.Test.YtbibobjkclgogaaRows
import Derived.Deep.Slices
import Derived.OpenShut
import Derived.LaidMore
import Derived.ChangeMaps5
namespace Go.Proofs.Ytbibobjkclgogaa
open Go.ChangeShapes Go.WideShapes Go.ChangeAt Go.RowKit Go.Deep
set_option linter.unusedVariables false
set_option linter.unusedSimpArgs false
set_option maxRecDepth 100000
def FwOk (f : Fwd) : Prop := f.1 ≤ 255 ∧ f.2.1 ≤ 65535 ∧ f.2.2.1 ≤ 65535 ∧ f.2.2.2 ≤ 4294967295
/-- What a configuration has, but for its forwards. -/
structure Cfg where
  m0 : Nat → UInt8
  m1 : Nat → UInt8
  m2 : Nat → UInt8
  lan : Nat
  wan : Nat
  nb : Int
  ms : Int
  mm : Int
  mc : Int
  mb : Int
  dmz : Nat
  uuid : ByteArray
def Cfg.cells (c : Cfg) (a : Option Addr) (n cap : Nat) : Array Value := #[.int .u8 ((c.m0 0).toNat : Int), .int .u8 ((c.m0 1).toNat : Int), .int .u8 ((c.m0 2).toNat : Int), .int .u8 ((c.m0 3).toNat : Int), .int .u8 ((c.m0 4).toNat : Int), .int .u8 ((c.m0 5).toNat : Int), .int .u8 ((c.m1 0).toNat : Int), .int .u8 ((c.m1 1).toNat : Int), .int .u8 ((c.m1 2).toNat : Int), .int .u8 ((c.m1 3).toNat : Int), .int .u8 ((c.m1 4).toNat : Int), .int .u8 ((c.m1 5).toNat : Int), .int .u8 ((c.m2 0).toNat : Int), .int .u8 ((c.m2 1).toNat : Int), .int .u8 ((c.m2 2).toNat : Int), .int .u8 ((c.m2 3).toNat : Int), .int .u8 ((c.m2 4).toNat : Int), .int .u8 ((c.m2 5).toNat : Int), .int .u32 (c.lan : Int), .int .u32 (c.wan : Int), .int .i64 c.nb, .int .i64 c.ms, .int .i64 c.mm, .int .i64 c.mc, .int .i64 c.mb, .slice a n cap, .int .u32 (c.dmz : Int), .string c.uuid]
structure CfOk (c : Cfg) : Prop where
  lan : c.lan ≤ 4294967295
  wan : c.wan ≤ 4294967295
  dmz : c.dmz ≤ 4294967295
  uuid : c.uuid.size ≤ maxLen
  nb0 : -9223372036854775808 ≤ c.nb
  nb1 : c.nb ≤ 9223372036854775807
section
variable {H : Type} {enc : TypeId × Value → H} {W : World} {base : Nat} {held : Bool}
theorem choose_fwds {n : Nat} {P : Nat → Fwd → Prop} (h : ∀ i, i < n → ∃ o, P i o) : ∃ ops : List Fwd, ops.length = n ∧ ∀ i o, ops[i]? = some o → P i o := by
  induction n with
  | zero => exact ⟨[], rfl, fun i o h => by simp at h⟩
  | succ n ih =>
    obtain ⟨ops, hl, hp⟩ := ih (fun i hi => h i (by omega))
    obtain ⟨o, ho⟩ := h n (by omega)
    refine ⟨ops ++ [o], by simp [hl], fun i x hx => ?_⟩
    rcases Nat.lt_trichotomy i n with hi | hi | hi
    · rw [List.getElem?_append_left (by omega)] at hx; exact hp i x hx
    · subst hi
      rw [List.getElem?_append_right (by omega), hl, Nat.sub_self] at hx
      simp at hx; subst hx; exact ho
    · rw [List.getElem?_eq_none (by simp; omega)] at hx; cases hx
theorem open_mac {fuel : Nat} {l : List Value} {x : DataW H × List MemPlace} (hl : l.length = 6) (h : DataW.trod enc Try.prog W base (fun _ => true) held fuel 23 l = some x) :
    ∃ g : Nat → UInt8, l = [.int .u8 ((g 0).toNat : Int), .int .u8 ((g 1).toNat : Int), .int .u8 ((g 2).toNat : Int), .int .u8 ((g 3).toNat : Int), .int .u8 ((g 4).toNat : Int), .int .u8 ((g 5).toNat : Int)] := by
  obtain ⟨xs, m, rfl, hx, hlen, hn, hel⟩ := DataW.trod_array Try.underlying23 h
  have hc5 : Try.prog.cellsOf 5 = 1 := by kernel_rfl
  rw [hc5] at hel
  match l, hl with
  | [c0, c1, c2, c3, c4, c5], _ =>
    have hone : ∀ i, i < 6 → ∀ c, ([c0, c1, c2, c3, c4, c5] : List Value)[i]? = some c → ∃ u : UInt8, c = .int .u8 (u.toNat : Int) := fun i hi c hc => by
      have h1 := hel i hi
      have hxi : i < xs.length := by omega
      rw [List.getElem?_eq_getElem hxi, Nat.mul_one] at h1
      have hd : (([c0, c1, c2, c3, c4, c5] : List Value).drop i).take 1 = [c] := by
        have hil : i < ([c0, c1, c2, c3, c4, c5] : List Value).length := by simpa using hi
        rw [List.drop_eq_getElem_cons hil]
        rw [List.getElem?_eq_getElem hil] at hc
        simp only [Option.some.injEq] at hc
        rw [hc]
        rfl
      rw [hd] at h1
      obtain ⟨k, e1, e2, hwf⟩ := DataW.trod_int Try.underlying5 h1
      simp only [List.cons.injEq, and_true] at e1
      have hk := bounds_u8 hwf
      refine ⟨UInt8.ofNat k.toNat, ?_⟩
      rw [e1]
      congr 1
      simp
      omega
    obtain ⟨g0, r0⟩ := hone 0 (by omega) c0 rfl
    obtain ⟨g1, r1⟩ := hone 1 (by omega) c1 rfl
    obtain ⟨g2, r2⟩ := hone 2 (by omega) c2 rfl
    obtain ⟨g3, r3⟩ := hone 3 (by omega) c3 rfl
    obtain ⟨g4, r4⟩ := hone 4 (by omega) c4 rfl
    obtain ⟨g5, r5⟩ := hone 5 (by omega) c5 rfl
    subst r0 r1 r2 r3 r4 r5
    exact ⟨fun i => match i with | 0 => g0 | 1 => g1 | 2 => g2 | 3 => g3 | 4 => g4 | _ => g5, rfl⟩
theorem open_fwds {fuel : Nat} {c : Value} {x : DataW H × List MemPlace} (h : DataW.trod enc Try.prog W base (fun _ => true) held fuel 26 [c] = some x) :
    ∃ a len cap fs, c = .slice a len cap ∧ fs.length = len ∧ FwAt W a fs ∧ (∀ f ∈ fs, FwOk f) ∧ len ≤ 9223372036854775807 ∧ len ≤ cap := by
  have hC : Try.prog.cellsOf 97 = 4 := by kernel_rfl
  rcases open_slice Try.underlying26 h with ⟨hc, _⟩ | ⟨a, len, cap, m, n, D, Pl, hc, hb, hl, hm, hmm, hx, hcell⟩
  · have e : c = .slice none 0 0 := by simpa using hc
    exact ⟨none, 0, 0, [], e, rfl, fun h => absurd rfl h, by simp, by omega, by omega⟩
  · have e : c = .slice (some a) len cap := by simpa using hc
    rw [hC] at hcell
    obtain ⟨ops, hol, hop⟩ := choose_fwds (n := len) (P := fun i o => (W.cell? (a.add (i * 4)) = some (.int .u8 (o.1 : Int)) ∧ W.cell? ((a.add (i * 4)).add 1) = some (.int .u16 (o.2.1 : Int)) ∧ W.cell? ((a.add (i * 4)).add 2) = some (.int .u16 (o.2.2.1 : Int)) ∧ W.cell? ((a.add (i * 4)).add 3) = some (.int .u32 (o.2.2.2 : Int))) ∧ FwOk o) (fun i hi => by
      obtain ⟨cs, h1, h2⟩ := hcell i (by rw [hmm]; simp; omega)
      obtain ⟨_, hlen, hat⟩ := World.cells?_some h1
      obtain ⟨xs, n', _, hxx, _, hlen2, hg⟩ := DataW.trod_struct Try.underlying97 h2
      match cs, hlen with
      | [c0, c1, c2, c3], _ =>
        match xs, hlen2 with
        | [y0, y1, y2, y3], _ =>
          have g0 := hg 0 _ rfl
          have g1 := hg 1 _ rfl
          have g2 := hg 2 _ rfl
          have g3 := hg 3 _ rfl
          obtain ⟨x0, e0, _, w0⟩ := DataW.trod_int Try.underlying5 (show DataW.trod enc Try.prog W base (fun _ => true) held n' 5 [c0] = some y0 from g0)
          have b0 := bounds_u8 w0
          obtain ⟨x1, e1, _, w1⟩ := DataW.trod_int Try.underlying39 (show DataW.trod enc Try.prog W base (fun _ => true) held n' 39 [c1] = some y1 from g1)
          have b1 := bounds_u16 w1
          obtain ⟨x2, e2, _, w2⟩ := DataW.trod_int Try.underlying39 (show DataW.trod enc Try.prog W base (fun _ => true) held n' 39 [c2] = some y2 from g2)
          have b2 := bounds_u16 w2
          obtain ⟨x3, e3, _, w3⟩ := DataW.trod_int Try.underlying25 (show DataW.trod enc Try.prog W base (fun _ => true) held n' 25 [c3] = some y3 from g3)
          have b3 := bounds_u32 w3
          simp only [List.cons.injEq, and_true] at e0 e1 e2 e3
          subst e0 e1 e2 e3
          have t0 := hat 0 (by omega)
          have t1 := hat 1 (by omega)
          have t2 := hat 2 (by omega)
          have t3 := hat 3 (by omega)
          refine ⟨(x0.toNat, x1.toNat, x2.toNat, x3.toNat), ⟨?_, ?_, ?_, ?_⟩, ⟨by show x0.toNat ≤ 255; omega, by show x1.toNat ≤ 65535; omega, by show x2.toNat ≤ 65535; omega, by show x3.toNat ≤ 4294967295; omega⟩⟩
          · rw [show (((x0.toNat, x1.toNat, x2.toNat, x3.toNat) : Fwd).1 : Int) = x0 by show ((x0.toNat : Nat) : Int) = x0; omega]; exact t0
          · rw [show (((x0.toNat, x1.toNat, x2.toNat, x3.toNat) : Fwd).2.1 : Int) = x1 by show ((x1.toNat : Nat) : Int) = x1; omega]; simpa using t1
          · rw [show (((x0.toNat, x1.toNat, x2.toNat, x3.toNat) : Fwd).2.2.1 : Int) = x2 by show ((x2.toNat : Nat) : Int) = x2; omega]; simpa using t2
          · rw [show (((x0.toNat, x1.toNat, x2.toNat, x3.toNat) : Fwd).2.2.2 : Int) = x3 by show ((x3.toNat : Nat) : Int) = x3; omega]; simpa using t3)
    refine ⟨some a, len, cap, ops, e, hol, fun hne => ?_, fun f hf => ?_, by unfold maxLen at hm; omega, hl⟩
    · obtain ⟨b, off, spot⟩ := a
      obtain ⟨o, ho⟩ : ∃ o, ops[0]? = some o := by
        cases ops with
        | nil => exact absurd rfl hne
        | cons o r => exact ⟨o, rfl⟩
      have h0 := (hop 0 o ho).1.1
      have hspot : spot = none := by simpa [Addr.add] using World.cell?_spot h0
      subst hspot
      refine ⟨b, off, rfl, World.block_lt_of_cell? W _ h0, fun i o ho => ?_⟩
      have := (hop i o ho).1
      simpa [Addr.add_lit, Nat.add_assoc] using this
    · obtain ⟨i, hi, he⟩ := List.mem_iff_getElem.1 hf
      exact (hop i f (by rw [List.getElem?_eq_getElem hi, he])).2
theorem open_cfg {r : Reach} {b0 : Nat} {v : Value} {dd : DataW H} {p : List MemPlace} (hv : Value.okWide Try.prog W r b0 28 v) (h : DataW.Trod enc Try.prog W base (fun _ => true) held 28 v dd p) :
    ∃ (c : Cfg) (a : Option Addr) (n cap : Nat) (fs : List Fwd), v = .agg (c.cells a n cap) ∧ CfOk c ∧ fs.length = n ∧ FwAt W a fs ∧ (∀ f ∈ fs, FwOk f) ∧ n ≤ 9223372036854775807 ∧ n ≤ cap := by
  obtain ⟨cs, rfl, hsz⟩ := okWide_struct Try.underlying28 hv
  have hC : Try.prog.cellsOf 28 = 28 := by kernel_rfl
  obtain ⟨l⟩ := cs
  have hl : l.length = 28 := by simpa [hC] using hsz
  obtain ⟨fuel, hf⟩ := h
  obtain ⟨xs, n, _, hx, _, hlen, hg⟩ := DataW.trod_struct Try.underlying28 hf
  match l, hl with
  | [c0, c1, c2, c3, c4, c5, c6, c7, c8, c9, c10, c11, c12, c13, c14, c15, c16, c17, c18, c19, c20, c21, c22, c23, c24, c25, c26, c27], _ =>
    match xs, hlen with
    | [y0, y1, y2, y3, y4, y5, y6, y7, y8, y9, y10, y11, y12], _ =>
      have g0 := hg 0 _ rfl
      have g1 := hg 1 _ rfl
      have g2 := hg 2 _ rfl
      have g3 := hg 3 _ rfl
      have g4 := hg 4 _ rfl
      have g5 := hg 5 _ rfl
      have g6 := hg 6 _ rfl
      have g7 := hg 7 _ rfl
      have g8 := hg 8 _ rfl
      have g9 := hg 9 _ rfl
      have g10 := hg 10 _ rfl
      have g11 := hg 11 _ rfl
      have g12 := hg 12 _ rfl
      simp only [Value.cells] at g0 g1 g2 g3 g4 g5 g6 g7 g8 g9 g10 g11 g12
      obtain ⟨m0, q0⟩ := open_mac (l := [c0, c1, c2, c3, c4, c5]) rfl g0
      obtain ⟨m1, q1⟩ := open_mac (l := [c6, c7, c8, c9, c10, c11]) rfl g1
      obtain ⟨m2, q2⟩ := open_mac (l := [c12, c13, c14, c15, c16, c17]) rfl g2
      obtain ⟨x3, e3, _, w3⟩ := DataW.trod_int Try.underlying25 (show DataW.trod enc Try.prog W base (fun _ => true) held n 25 [c18] = some y3 from g3)
      have b3 := bounds_u32 w3
      obtain ⟨x4, e4, _, w4⟩ := DataW.trod_int Try.underlying25 (show DataW.trod enc Try.prog W base (fun _ => true) held n 25 [c19] = some y4 from g4)
      have b4 := bounds_u32 w4
      obtain ⟨x5, e5, _, w5⟩ := DataW.trod_int Try.underlying3 (show DataW.trod enc Try.prog W base (fun _ => true) held n 3 [c20] = some y5 from g5)
      have b5 := bounds_i64 w5
      obtain ⟨x6, e6, _, w6⟩ := DataW.trod_int Try.underlying3 (show DataW.trod enc Try.prog W base (fun _ => true) held n 3 [c21] = some y6 from g6)
      have b6 := bounds_i64 w6
      obtain ⟨x7, e7, _, w7⟩ := DataW.trod_int Try.underlying3 (show DataW.trod enc Try.prog W base (fun _ => true) held n 3 [c22] = some y7 from g7)
      have b7 := bounds_i64 w7
      obtain ⟨x8, e8, _, w8⟩ := DataW.trod_int Try.underlying3 (show DataW.trod enc Try.prog W base (fun _ => true) held n 3 [c23] = some y8 from g8)
      have b8 := bounds_i64 w8
      obtain ⟨x9, e9, _, w9⟩ := DataW.trod_int Try.underlying3 (show DataW.trod enc Try.prog W base (fun _ => true) held n 3 [c24] = some y9 from g9)
      have b9 := bounds_i64 w9
      obtain ⟨x11, e11, _, w11⟩ := DataW.trod_int Try.underlying25 (show DataW.trod enc Try.prog W base (fun _ => true) held n 25 [c26] = some y11 from g11)
      have b11 := bounds_u32 w11
      obtain ⟨a, len, cap, fs, e10, r0, r1, r2, r3, r4⟩ := open_fwds (show DataW.trod enc Try.prog W base (fun _ => true) held n 26 [c25] = some y10 from g10)
      obtain ⟨s, e12, _, hs⟩ := DataW.trod_string Try.underlying9 (show DataW.trod enc Try.prog W base (fun _ => true) held n 9 [c27] = some y12 from g12)
      simp only [List.cons.injEq, and_true] at q0 q1 q2 e3 e4 e5 e6 e7 e8 e9 e11 e12
      obtain ⟨rfl, rfl, rfl, rfl, rfl, rfl⟩ := q0
      obtain ⟨rfl, rfl, rfl, rfl, rfl, rfl⟩ := q1
      obtain ⟨rfl, rfl, rfl, rfl, rfl, rfl⟩ := q2
      subst e3 e4 e5 e6 e7 e8 e9 e11 e10 e12
      refine ⟨⟨m0, m1, m2, x3.toNat, x4.toNat, x5, x6, x7, x8, x9, x11.toNat, s⟩, a, len, cap, fs, ?_, ⟨by show x3.toNat ≤ _; omega, by show x4.toNat ≤ _; omega, by show x11.toNat ≤ _; omega, hs, b5.1, b5.2⟩, r0, r1, r2, r3, r4⟩
      unfold Cfg.cells
      simp only
      rw [show ((x3.toNat : Nat) : Int) = x3 by omega, show ((x4.toNat : Nat) : Int) = x4 by omega, show ((x11.toNat : Nat) : Int) = x11 by omega]
theorem open_fwd {r : Reach} {b0 : Nat} {v : Value} {dd : DataW H} {p : List MemPlace} (hv : Value.okWide Try.prog W r b0 97 v) (h : DataW.Trod enc Try.prog W base (fun _ => true) held 97 v dd p) :
    ∃ (x0 x1 x2 x3 : Nat), v = .agg #[.int .u8 (x0 : Int), .int .u16 (x1 : Int), .int .u16 (x2 : Int), .int .u32 (x3 : Int)] ∧ x0 ≤ 255 ∧ x1 ≤ 65535 ∧ x2 ≤ 65535 ∧ x3 ≤ 4294967295 := by
  obtain ⟨cs, rfl, hsz⟩ := okWide_struct Try.underlying97 hv
  have hC : Try.prog.cellsOf 97 = 4 := by kernel_rfl
  obtain ⟨l⟩ := cs
  have hl : l.length = 4 := by simpa [hC] using hsz
  obtain ⟨fuel, hf⟩ := h
  obtain ⟨xs, n, _, hx, _, hlen, hg⟩ := DataW.trod_struct Try.underlying97 hf
  match l, hl with
  | [c0, c1, c2, c3], _ =>
    match xs, hlen with
    | [y0, y1, y2, y3], _ =>
      have g0 := hg 0 _ rfl
      have g1 := hg 1 _ rfl
      have g2 := hg 2 _ rfl
      have g3 := hg 3 _ rfl
      simp only [Value.cells] at g0 g1 g2 g3
      obtain ⟨x0, e0, _, w0⟩ := DataW.trod_int Try.underlying5 (show DataW.trod enc Try.prog W base (fun _ => true) held n 5 [c0] = some y0 from g0)
      have b0 := bounds_u8 w0
      obtain ⟨x1, e1, _, w1⟩ := DataW.trod_int Try.underlying39 (show DataW.trod enc Try.prog W base (fun _ => true) held n 39 [c1] = some y1 from g1)
      have b1 := bounds_u16 w1
      obtain ⟨x2, e2, _, w2⟩ := DataW.trod_int Try.underlying39 (show DataW.trod enc Try.prog W base (fun _ => true) held n 39 [c2] = some y2 from g2)
      have b2 := bounds_u16 w2
      obtain ⟨x3, e3, _, w3⟩ := DataW.trod_int Try.underlying25 (show DataW.trod enc Try.prog W base (fun _ => true) held n 25 [c3] = some y3 from g3)
      have b3 := bounds_u32 w3
      simp only [List.cons.injEq, and_true] at e0 e1 e2 e3
      subst e0 e1 e2 e3
      refine ⟨x0.toNat, x1.toNat, x2.toNat, x3.toNat, ?_, by omega, by omega, by omega, by omega⟩
      rw [show ((x0.toNat : Nat) : Int) = x0 by omega, show ((x1.toNat : Nat) : Int) = x1 by omega, show ((x2.toNat : Nat) : Int) = x2 by omega, show ((x3.toNat : Nat) : Int) = x3 by omega]
end
theorem Cfg.size (c : Cfg) (a : Option Addr) (n cap : Nat) : (c.cells a n cap).size = 28 := rfl
theorem Cfg.cfH (c : Cfg) (a : Option Addr) (n cap : Nat) : CfH (c.cells a n cap) c.lan c.nb := ⟨rfl, rfl, rfl⟩
theorem zero_fits : True := trivial
end Go.Proofs.Ytbibobjkclgogaa
