/- value: ValueAddrs. -/
import Derived.Test.YtdofdbajilkimaaDoorVAd
import Derived.Test.YtdofdbajilkimaaDoorVTx
namespace Go.Proofs.YtdofdbajilkimaaDoor
open Go.RowKit Go.Lib
set_option linter.unusedVariables false
set_option linter.unusedSimpArgs false
set_option maxRecDepth 100000
theorem dd_dg2 (n : Nat) (h : n ≤ 255) : Lib.decDigits n = dg n := dd_dg ⟨n, by omega⟩
theorem bs_size (l : List UInt8) : (bs l).size = l.length := by show (List.toArray l).size = _; simp
theorem and255u (n : Int) (h0 : 0 ≤ n) (h1 : n ≤ 4294967295) : bits .and .u32 n 255 = n % 256 := by
  have hk : ∀ n : Int, 0 ≤ n → n < 2 ^ 32 → IntKind.u32.wrap n = n := fun n h0 h1 => by rw [IntKind.wrap_u32]; omega
  exact bits_mask .u32 32 (by decide) hk 8 (by decide) n (by omega) (by omega)
theorem txt4_ne (x y z u : Nat) : txt4 x y z u ≠ [] := by unfold txt4; simp
set_option maxHeartbeats 4000000 in
theorem valueAddrs_any (v : Nat) (w : World) (hv : v ≤ 4294967295) (hE : ET w) :
    Calls Tryd.prog 5 #[.int .u32 (v : Int)] w fun e w' => e = .returned (.bool true) ∧ Below w.heap.size w w' := by
  have HS := hide (speaks_any w hE)
  obtain ⟨x, hx⟩ : ∃ x, v / 16777216 = x := ⟨_, rfl⟩
  obtain ⟨y, hy⟩ : ∃ y, v / 65536 % 256 = y := ⟨_, rfl⟩
  obtain ⟨z, hz⟩ : ∃ z, v / 256 % 256 = z := ⟨_, rfl⟩
  obtain ⟨u, hu⟩ : ∃ u, v % 256 = u := ⟨_, rfl⟩
  have hx2 : x ≤ 255 := by omega
  have hy2 : y ≤ 255 := by omega
  have hz2 : z ≤ 255 := by omega
  have hu2 : u ≤ 255 := by omega
  have e : v = 256 * (256 * (256 * x + y) + z) + u := by omega
  have t1 := fun W (h : PT W) => vtext_any x W (by omega) h
  have t2 := fun W (h : PT W) => vtext_any y W (by omega) h
  have t3 := fun W (h : PT W) => vtext_any z W (by omega) h
  have t4 := fun W (h : PT W) => vtext_any u W (by omega) h
  rw [dd_dg2 x hx2] at t1
  rw [dd_dg2 y hy2] at t2
  rw [dd_dg2 z hz2] at t3
  rw [dd_dg2 u hu2] at t4
  have a1 : vaddrL (txt4 x y z u) = some v := by unfold vaddrL; rw [if_neg (txt4_ne _ _ _ _), addrD_text x y z u hx2 hy2 hz2 hu2, ← e]
  have a2 : vaddrL (txt4 x y z u ++ [46]) = none := by unfold vaddrL; rw [if_neg (by simp), addr_behind x y z u hx2 hy2 hz2 hu2]
  have a3 : vaddrL (48 :: txt4 x y z u) = none := by unfold vaddrL; rw [if_neg (by simp), addr_ahead x y z u hx2]
  have q1 := dg_le3 x
  have q2 := dg_le3 y
  have q3 := dg_le3 z
  have q4 := dg_le3 u
  have hl : (txt4 x y z u).length ≤ 16 := by unfold txt4; simp only [List.length_append, List.length_cons, List.length_nil]; omega
  have hT : (bs (txt4 x y z u) : ByteArray) = bs (dg x) ++ ⟨#[46]⟩ ++ bs (dg y) ++ ⟨#[46]⟩ ++ bs (dg z) ++ ⟨#[46]⟩ ++ bs (dg u) := by unfold txt4; simp [bs, ByteArray.ext_iff]
  have c1 := fun W (h : ET W) => addr_any (bs (txt4 x y z u)) W h (by rw [bs_size]; omega)
  have c2 := fun W (h : ET W) => addr_any ⟨#[]⟩ W h (by decide)
  have c3 := fun W (h : ET W) => addr_any (bs (txt4 x y z u) ++ ⟨#[46]⟩) W h (by rw [show (⟨#[46]⟩ : ByteArray) = bs [46] from rfl, ← bs_app, bs_size, List.length_append, List.length_singleton]; omega)
  have c4 := fun W (h : ET W) => addr_any (⟨#[48]⟩ ++ bs (txt4 x y z u)) W h (by rw [show (⟨#[48]⟩ : ByteArray) = bs [48] from rfl, ← bs_app, bs_size, List.length_append, List.length_singleton]; omega)
  rw [show (bs (txt4 x y z u)).data.toList = txt4 x y z u from by simp [bs], a1] at c1
  rw [show vaddrL (⟨#[]⟩ : ByteArray).data.toList = some 0 from rfl] at c2
  rw [show (bs (txt4 x y z u) ++ (⟨#[46]⟩ : ByteArray)).data.toList = txt4 x y z u ++ [46] from by rw [show (⟨#[46]⟩ : ByteArray) = bs [46] from rfl, ← bs_app], a2] at c3
  rw [show ((⟨#[48]⟩ : ByteArray) ++ bs (txt4 x y z u)).data.toList = 48 :: txt4 x y z u from by rw [show (⟨#[48]⟩ : ByteArray) = bs [48] from rfl, ← bs_app]; simp [bs], a3] at c4
  unfold addrV at c1 c2 c3 c4
  rw [hT] at c1 c3 c4
  have hv4 : (0 : Int) ≤ (v : Int) := by omega
  have hv5 : (v : Int) ≤ 4294967295 := by omega
  have HC1 := hide c1
  have HC2 := hide c2
  have HC3 := hide c3
  have HC4 := hide c4
  have HT1 := hide t1
  have HT2 := hide t2
  have HT3 := hide t3
  have HT4 := hide t4
  have HE := hide hE
  have w1 : IntKind.u64.wrap (x : Int) = (x : Int) := by rw [IntKind.wrap_u64]; omega
  have w2 : IntKind.u64.wrap (y : Int) = (y : Int) := by rw [IntKind.wrap_u64]; omega
  have w3 : IntKind.u64.wrap (z : Int) = (z : Int) := by rw [IntKind.wrap_u64]; omega
  have w4 : IntKind.u64.wrap (u : Int) = (u : Int) := by rw [IntKind.wrap_u64]; omega
  have k0 : (v : Int) / 16777216 = (x : Int) := by omega
  have k1 : bits .and .u32 ((v : Int) / 65536) 255 = (y : Int) := by rw [and255u _ (by omega) (by omega)]; omega
  have k2 : bits .and .u32 ((v : Int) / 256) 255 = (z : Int) := by rw [and255u _ (by omega) (by omega)]; omega
  have k3 : bits .and .u32 (v : Int) 255 = (u : Int) := by rw [and255u _ (by omega) (by omega)]; omega
  have HD : ∀ W, PT W → Calls Tryd.prog 17 #[.int .u64 (x : Int)] W fun e w' => e = .returned (.string (bs (dg x))) ∧ Below W.heap.size W w' := t1
  clear hx hy hz hu e a1 a2 a3 hl hT hE c1 c2 c3 c4 t1 t2 t3 t4 HD hx2 hy2 hz2 hu2
  have HT1 : Hid (∀ W, PT W → Calls Tryd.prog 17 #[.int .u64 (x : Int)] W fun e w' => e = .returned (.string (bs (dg x))) ∧ Below W.heap.size W w') := HT1
  have HT2 : Hid (∀ W, PT W → Calls Tryd.prog 17 #[.int .u64 (y : Int)] W fun e w' => e = .returned (.string (bs (dg y))) ∧ Below W.heap.size W w') := HT2
  have HT3 : Hid (∀ W, PT W → Calls Tryd.prog 17 #[.int .u64 (z : Int)] W fun e w' => e = .returned (.string (bs (dg z))) ∧ Below W.heap.size W w') := HT3
  have HT4 : Hid (∀ W, PT W → Calls Tryd.prog 17 #[.int .u64 (u : Int)] W fun e w' => e = .returned (.string (bs (dg u))) ∧ Below W.heap.size W w') := HT4
  generalize dg x = X at *
  generalize dg y = Y at *
  generalize dg z = Z at *
  generalize dg u = U at *
  have l1 : (9223372036854775807 < X.length + 1) = False := by simp; omega
  have l2 : (9223372036854775807 < X.length + 1 + Y.length) = False := by simp; omega
  have l3 : (9223372036854775807 < X.length + 1 + Y.length + 1) = False := by simp; omega
  have l4 : (9223372036854775807 < X.length + 1 + Y.length + 1 + Z.length) = False := by simp; omega
  have l5 : (9223372036854775807 < X.length + 1 + Y.length + 1 + Z.length + 1) = False := by simp; omega
  have l6 : (9223372036854775807 < X.length + 1 + Y.length + 1 + Z.length + 1 + U.length) = False := by simp; omega
  have l7 : (9223372036854775807 < X.length + 1 + Y.length + 1 + Z.length + 1 + U.length + 1) = False := by simp; omega
  have l8 : (9223372036854775807 < 1 + (X.length + 1 + Y.length + 1 + Z.length + 1 + U.length)) = False := by simp; omega
  clear q1 q2 q3 q4
  go_enter Tryd.func5, Tryd.ntmps5
  go_wp2_with fail
  refine HS.out.mono ?_
  rintro e w1 ⟨rfl, b1⟩
  have HB1 := hide b1
  have HE1 := hide (HE.out.below b1 (Nat.le_refl _))
  clear b1 HS
  go_wp2_with fail
  (with_reducible refine (HT1.out _ HE1.out.pt).mono ?_)
  rintro e w2 ⟨rfl, b2⟩
  have HB2 := hide (HB1.out.trans (b2.mono HB1.out.size))
  have HE2 := hide (HE1.out.below b2 (Nat.le_refl _))
  clear b2 HT1 HB1 HE1
  go_wp2_with fail
  (with_reducible refine (HT2.out _ HE2.out.pt).mono ?_)
  rintro e w3 ⟨rfl, b3⟩
  have HB3 := hide (HB2.out.trans (b3.mono HB2.out.size))
  have HE3 := hide (HE2.out.below b3 (Nat.le_refl _))
  clear b3 HT2 HB2 HE2
  go_wp2_with fail
  (with_reducible refine (HT3.out _ HE3.out.pt).mono ?_)
  rintro e w4 ⟨rfl, b4⟩
  have HB4 := hide (HB3.out.trans (b4.mono HB3.out.size))
  have HE4 := hide (HE3.out.below b4 (Nat.le_refl _))
  clear b4 HT3 HB3 HE3
  go_wp2_with fail
  (with_reducible refine (HT4.out _ HE4.out.pt).mono ?_)
  rintro e w5 ⟨rfl, b5⟩
  have HB5 := hide (HB4.out.trans (b5.mono HB4.out.size))
  have HE5 := hide (HE4.out.below b5 (Nat.le_refl _))
  clear b5 HT4 HB4 HE4
  go_wp2_with fail
  (with_reducible refine (HC1.out _ HE5.out).mono ?_)
  rintro e w6 ⟨rfl, b6⟩
  have HB6 := hide (HB5.out.trans (b6.mono HB5.out.size))
  have HE6 := hide (HE5.out.below b6 (Nat.le_refl _))
  clear b6 HC1 HB5 HE5
  go_wp2_with fail
  (with_reducible refine (HC2.out _ HE6.out).mono ?_)
  rintro e w7 ⟨rfl, b7⟩
  have HB7 := hide (HB6.out.trans (b7.mono HB6.out.size))
  have HE7 := hide (HE6.out.below b7 (Nat.le_refl _))
  clear b7 HC2 HB6 HE6
  go_wp2_with fail
  (with_reducible refine (HC3.out _ HE7.out).mono ?_)
  rintro e w8 ⟨rfl, b8⟩
  have HB8 := hide (HB7.out.trans (b8.mono HB7.out.size))
  have HE8 := hide (HE7.out.below b8 (Nat.le_refl _))
  clear b8 HC3 HB7 HE7
  go_wp2_with fail
  (with_reducible refine (HC4.out _ HE8.out).mono ?_)
  rintro e w9 ⟨rfl, b9⟩
  have HB9 := hide (HB8.out.trans (b9.mono HB8.out.size))
  clear b9 HC4 HB8 HE8
  go_wp2_with fail
  go_ret
  exact ⟨rfl, HB9.out⟩
end Go.Proofs.YtdofdbajilkimaaDoor
