/- Frames, and ARP packets, held against one another. -/
import Derived.Test.YtebokkhaenadmaaEtherWritesB
import Derived.Test.YtebokkhaenadmaaEArp
namespace Go.Proofs.Ytebokkhaenadmaa
open Go.RowKit
set_option linter.unusedVariables false
set_option linter.unusedSimpArgs false
theorem mac_eqb (d e : Nat → UInt8) : ([((d 0).toNat : Int), ((d 1).toNat : Int), ((d 2).toNat : Int), ((d 3).toNat : Int), ((d 4).toNat : Int), ((d 5).toNat : Int)] == [((e 0).toNat : Int), ((e 1).toNat : Int), ((e 2).toNat : Int), ((e 3).toNat : Int), ((e 4).toNat : Int), ((e 5).toNat : Int)]) = ([d 0, d 1, d 2, d 3, d 4, d 5] == [e 0, e 1, e 2, e 3, e 4, e 5]) := by
  rw [Bool.eq_iff_iff, beq_iff_eq, beq_iff_eq]
  simp only [List.cons.injEq, and_true]
  have h : ∀ u v : UInt8, ((u.toNat : Nat) : Int) = ((v.toNat : Nat) : Int) ↔ u = v := fun u v => ⟨fun h => UInt8.toNat_inj.1 (by omega), fun h => by rw [h]⟩
  simp only [h]
theorem num_inj (L : Nat) (k l : Nat) (hk : k < 256 ^ L) (hl : l < 256 ^ L) (h : numB L k = numB L l) : k = l := by
  have h2 := congrArg valB h
  rw [valB_numB, valB_numB, Nat.mod_eq_of_lt hk, Nat.mod_eq_of_lt hl] at h2
  omega
theorem frL_eqb (d s e t : Nat → UInt8) (k l : Nat) (xs ys : List Int) (hk : k ≤ 65535) (hl : l ≤ 65535) :
    (frL d s k xs == frL e t l ys) = ((([d 0, d 1, d 2, d 3, d 4, d 5] == [e 0, e 1, e 2, e 3, e 4, e 5]) && ([s 0, s 1, s 2, s 3, s 4, s 5] == [t 0, t 1, t 2, t 3, t 4, t 5])) && ((k : Int) == (l : Int)) && (xs == ys)) := by
  rw [← mac_eqb d e, ← mac_eqb s t, Bool.eq_iff_iff]
  simp only [Bool.and_eq_true, beq_iff_eq]
  constructor
  · intro h
    have h1 := congrArg (List.take 6) h
    have h2 := congrArg (fun z => (z.drop 6).take 6) h
    have h3 := congrArg (fun z => (z.drop 12).take 2) h
    have h4 := congrArg (List.drop 14) h
    refine ⟨⟨⟨h1, h2⟩, ?_⟩, h4⟩
    have := num_inj 2 k l (by omega) (by omega) h3
    omega
  · rintro ⟨⟨⟨h1, h2⟩, h3⟩, h4⟩
    have : k = l := by omega
    subst this
    rw [frL, frL, h1, h2, h4]
theorem mac_in (d e : Nat → UInt8) (W : World) : (Op.equalIn 9999 24 (.agg #[.int .u8 ((d 0).toNat : Int), .int .u8 ((d 1).toNat : Int), .int .u8 ((d 2).toNat : Int), .int .u8 ((d 3).toNat : Int), .int .u8 ((d 4).toNat : Int), .int .u8 ((d 5).toNat : Int)]) (.agg #[.int .u8 ((e 0).toNat : Int), .int .u8 ((e 1).toNat : Int), .int .u8 ((e 2).toNat : Int), .int .u8 ((e 3).toNat : Int), .int .u8 ((e 4).toNat : Int), .int .u8 ((e 5).toNat : Int)])).run Try.prog W = .ok ([d 0, d 1, d 2, d 3, d 4, d 5] == [e 0, e 1, e 2, e 3, e 4, e 5]) W :=
  run_equalIn_bytes W 9997 24 5 6 Try.underlying24 Try.underlying5 size5 [d 0, d 1, d 2, d 3, d 4, d 5] [e 0, e 1, e 2, e 3, e 4, e 5] rfl rfl
theorem arp_eql (o p : Nat) (d s e t : Nat → UInt8) (x y z u : Nat) (W : World) :
    (binOp .eql 45 (.agg #[.int .u16 (o : Int), .int .u8 ((d 0).toNat : Int), .int .u8 ((d 1).toNat : Int), .int .u8 ((d 2).toNat : Int), .int .u8 ((d 3).toNat : Int), .int .u8 ((d 4).toNat : Int), .int .u8 ((d 5).toNat : Int), .int .u8 ((s 0).toNat : Int), .int .u8 ((s 1).toNat : Int), .int .u8 ((s 2).toNat : Int), .int .u8 ((s 3).toNat : Int), .int .u8 ((s 4).toNat : Int), .int .u8 ((s 5).toNat : Int), .int .u32 (x : Int), .int .u32 (y : Int)]) (.agg #[.int .u16 (p : Int), .int .u8 ((e 0).toNat : Int), .int .u8 ((e 1).toNat : Int), .int .u8 ((e 2).toNat : Int), .int .u8 ((e 3).toNat : Int), .int .u8 ((e 4).toNat : Int), .int .u8 ((e 5).toNat : Int), .int .u8 ((t 0).toNat : Int), .int .u8 ((t 1).toNat : Int), .int .u8 ((t 2).toNat : Int), .int .u8 ((t 3).toNat : Int), .int .u8 ((t 4).toNat : Int), .int .u8 ((t 5).toNat : Int), .int .u32 (z : Int), .int .u32 (u : Int)])).run Try.prog W = .ok (.bool ((((((o : Int) == (p : Int)) && ([d 0, d 1, d 2, d 3, d 4, d 5] == [e 0, e 1, e 2, e 3, e 4, e 5])) && ([s 0, s 1, s 2, s 3, s 4, s 5] == [t 0, t 1, t 2, t 3, t 4, t 5])) && ((x : Int) == (z : Int))) && ((y : Int) == (u : Int)))) W := by
  have m1 := mac_in d e
  have m2 := mac_in s t
  generalize ([d 0, d 1, d 2, d 3, d 4, d 5] == [e 0, e 1, e 2, e 3, e 4, e 5]) = b1 at *
  generalize ([s 0, s 1, s 2, s 3, s 4, s 5] == [t 0, t 1, t 2, t 3, t 4, t 5]) = b2 at *
  rw [run_eql_struct]
  generalize (o : Int) = io at *
  generalize (p : Int) = ip at *
  generalize (x : Int) = ix at *
  generalize (z : Int) = iz at *
  generalize (y : Int) = iy at *
  generalize (u : Int) = iu at *
  by_cases h1 : io = ip <;> by_cases h2 : ix = iz <;> by_cases h3 : iy = iu <;> cases b1 <;> cases b2 <;> simp [go_sem, m1, m2, h1, h2, h3]
/-- An ARP packet's bytes are its own. -/
theorem arpL_eqb (o p : Nat) (d s e t : Nat → UInt8) (x y z u : Nat) (ho : o ≤ 65535) (hp : p ≤ 65535) (hx : x ≤ 4294967295) (hy : y ≤ 4294967295) (hz : z ≤ 4294967295) (hu : u ≤ 4294967295) :
    (arpL o d s x y == arpL p e t z u) = ((((((o : Int) == (p : Int)) && ([d 0, d 1, d 2, d 3, d 4, d 5] == [e 0, e 1, e 2, e 3, e 4, e 5])) && ([s 0, s 1, s 2, s 3, s 4, s 5] == [t 0, t 1, t 2, t 3, t 4, t 5])) && ((x : Int) == (z : Int))) && ((y : Int) == (u : Int))) := by
  rw [← mac_eqb d e, ← mac_eqb s t, Bool.eq_iff_iff]
  simp only [Bool.and_eq_true, beq_iff_eq]
  constructor
  · intro h
    have h1 := congrArg (fun z => (z.drop 6).take 2) h
    have h2 := congrArg (fun z => (z.drop 8).take 6) h
    have h3 := congrArg (fun z => (z.drop 14).take 4) h
    have h4 := congrArg (fun z => (z.drop 18).take 6) h
    have h5 := congrArg (fun z => (z.drop 24).take 4) h
    have e1 := num_inj 2 o p (by omega) (by omega) h1
    have e3 := num_inj 4 x z (by omega) (by omega) h3
    have e5 := num_inj 4 y u (by omega) (by omega) h5
    exact ⟨⟨⟨⟨by omega, h2⟩, h4⟩, by omega⟩, by omega⟩
  · rintro ⟨⟨⟨⟨h1, h2⟩, h3⟩, h4⟩, h5⟩
    have e1 : o = p := by omega
    have e4 : x = z := by omega
    have e5 : y = u := by omega
    subst e1 e4 e5
    rw [arpL, arpL, h2, h3]
theorem arpL_len (o : Nat) (d s : Nat → UInt8) (x y : Nat) : (arpL o d s x y).length = 28 := rfl
theorem arpL_rng (o : Nat) (d s : Nat → UInt8) (x y : Nat) : ∀ z ∈ arpL o d s x y, 0 ≤ z ∧ z ≤ 255 := by
  have h8 : ∀ u : UInt8, 0 ≤ ((u.toNat : Nat) : Int) ∧ ((u.toNat : Nat) : Int) ≤ 255 := fun u => by have := u.toNat_lt; omega
  intro z hz
  simp only [arpL, List.mem_append, List.mem_cons, List.not_mem_nil, or_false] at hz
  rcases hz with ((((hz | hz) | hz) | hz) | hz) | hz
  · rcases hz with rfl | rfl | rfl | rfl | rfl | rfl <;> omega
  · exact numB_rng _ _ z hz
  · rcases hz with rfl | rfl | rfl | rfl | rfl | rfl <;> exact h8 _
  · exact numB_rng _ _ z hz
  · rcases hz with rfl | rfl | rfl | rfl | rfl | rfl <;> exact h8 _
  · exact numB_rng _ _ z hz
/-- What 'Write' answers, whatever the frame. -/
theorem ewrite_all (w : World) (d s : Nat → UInt8) (k : Nat) (ba : Option Addr) (body : List Int) (n bc : Nat) (hr : Row .u8 w ba body) (hb : ∀ x ∈ body, 0 ≤ x ∧ x ≤ 255) (hn : ba = none → bc = 0) (hbl : body.length = n) (h3 : k ≤ 65535) :
    ∃ (X : List Int) (m : Nat) (E : Int), X.length = m ∧ (E = 0 → X = frL d s k body) ∧ (∀ x ∈ X, 0 ≤ x ∧ x ≤ 255) ∧
    Calls Try.prog 10 #[.agg #[.int .u8 ((d 0).toNat : Int), .int .u8 ((d 1).toNat : Int), .int .u8 ((d 2).toNat : Int), .int .u8 ((d 3).toNat : Int), .int .u8 ((d 4).toNat : Int), .int .u8 ((d 5).toNat : Int), .int .u8 ((s 0).toNat : Int), .int .u8 ((s 1).toNat : Int), .int .u8 ((s 2).toNat : Int), .int .u8 ((s 3).toNat : Int), .int .u8 ((s 4).toNat : Int), .int .u8 ((s 5).toNat : Int), .int .u16 (k : Int), .slice ba n bc]] w fun e w' => ∃ a c, e = .returned (.tuple #[.slice a m c, .int .i64 E]) ∧ Row .u8 w' a X ∧ Below w.heap.size w w' := by
  by_cases h1 : 1500 < n
  · refine ⟨[], 0, 14, rfl, fun h => by omega, by simp, (ewrite_long w d s (k : Int) ba n bc h1).mono ?_⟩
    rintro e w' ⟨rfl, hb⟩
    exact ⟨none, 0, rfl, fun h => absurd rfl h, hb⟩
  · by_cases h2 : 1536 ≤ k
    · refine ⟨frL d s k body, 14 + n, 0, by rw [frL_len, hbl], fun _ => rfl, frL_rng d s k body hb, (ewrite_ok w ((d 0).toNat : Int) ((d 1).toNat : Int) ((d 2).toNat : Int) ((d 3).toNat : Int) ((d 4).toNat : Int) ((d 5).toNat : Int) ((s 0).toNat : Int) ((s 1).toNat : Int) ((s 2).toNat : Int) ((s 3).toNat : Int) ((s 4).toNat : Int) ((s 5).toNat : Int) k ba body n bc hr hn hbl (by omega) h2 h3).mono ?_⟩
      rintro e w' ⟨a, c, rfl, hown, hb⟩
      exact ⟨a, c, rfl, Row.of_owns hown, hb⟩
    · refine ⟨[], 0, 1, rfl, fun h => by omega, by simp, (ewrite_arg w d s (k : Int) ba n bc (by omega) (by omega)).mono ?_⟩
      rintro e w' ⟨rfl, hb⟩
      exact ⟨none, 0, rfl, fun h => absurd rfl h, hb⟩
theorem earp_all (w : World) (o : Nat) (d s : Nat → UInt8) (x y : Nat) (hx : x ≤ 4294967295) (hy : y ≤ 4294967295) :
    ∃ (X : List Int) (m : Nat) (E : Int), X.length = m ∧ (E = 0 → X = arpL o d s x y) ∧ (∀ x ∈ X, 0 ≤ x ∧ x ≤ 255) ∧
    Calls Try.prog 15 #[.agg #[.int .u16 (o : Int), .int .u8 ((d 0).toNat : Int), .int .u8 ((d 1).toNat : Int), .int .u8 ((d 2).toNat : Int), .int .u8 ((d 3).toNat : Int), .int .u8 ((d 4).toNat : Int), .int .u8 ((d 5).toNat : Int), .int .u8 ((s 0).toNat : Int), .int .u8 ((s 1).toNat : Int), .int .u8 ((s 2).toNat : Int), .int .u8 ((s 3).toNat : Int), .int .u8 ((s 4).toNat : Int), .int .u8 ((s 5).toNat : Int), .int .u32 (x : Int), .int .u32 (y : Int)]] w fun e w' => ∃ a c, e = .returned (.tuple #[.slice a m c, .int .i64 E]) ∧ Row .u8 w' a X ∧ Below w.heap.size w w' := by
  by_cases h : o = 1 ∨ o = 2
  · refine ⟨arpL o d s x y, 28, 0, rfl, fun _ => rfl, arpL_rng o d s x y, (earp_ok w o d s x y h hx hy).mono ?_⟩
    rintro e w' ⟨a, c, rfl, hown, hb⟩
    exact ⟨a, c, rfl, Row.of_owns hown, hb⟩
  · refine ⟨[], 0, 1, rfl, fun h => by omega, by simp, (earp_arg w o d s x y h).mono ?_⟩
    rintro e w' ⟨rfl, hb⟩
    exact ⟨none, 0, rfl, fun h => absurd rfl h, hb⟩
end Go.Proofs.Ytebokkhaenadmaa
