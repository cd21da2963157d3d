/- inet: the document's Text. -/
import Derived.Test.YtonoaopioifedaaGreatDoorIDg
import Derived.Test.YtonoaopioifedaaGreatDoorIPaG
namespace Go.Proofs.YtonoaopioifedaaGreatDoor
open Go.RowKit Go.Lib
set_option linter.unusedVariables false
set_option linter.unusedSimpArgs false
set_option maxRecDepth 100000
theorem and255 (n : Int) (h0 : 0 ≤ n) (h1 : n ≤ 4294967295) : bits .and .i64 n 255 = n % 256 := by
  have hk : ∀ n : Int, 0 ≤ n → n < 2 ^ 63 → IntKind.i64.wrap n = n := fun n h0 h1 => by rw [IntKind.wrap_i64]; omega
  have := bits_mask .i64 63 (by decide) hk 8 (by decide) n (by omega) (by omega)
  exact this
set_option maxHeartbeats 1000000 in
theorem rtext_any (v : Nat) (w : World) (hv : v ≤ 4294967295) :
    Calls Tryz.prog 20 #[.int .u32 (v : Int)] w fun e w' => e = .returned (.string ⟨(txt (qb v) 4).toArray⟩) ∧ Below w.heap.size w w' := by
  obtain ⟨x, hx⟩ : ∃ x, v / 16777216 = x := ⟨_, rfl⟩
  obtain ⟨y, hy⟩ : ∃ y, v / 65536 % 256 = y := ⟨_, rfl⟩
  obtain ⟨z, hz⟩ : ∃ z, v / 256 % 256 = z := ⟨_, rfl⟩
  obtain ⟨u, hu⟩ : ∃ u, v % 256 = u := ⟨_, rfl⟩
  have hT := hide (show txt (qb v) 4 = txt4 x y z u from by
    have e : v = 256 * (256 * (256 * x + y) + z) + u := by omega
    rw [e, txt_four x y z u (by omega) (by omega) (by omega) (by omega)])
  have HX := hide (fun W => dig_any x W (by omega))
  have HY := hide (fun W => dig_any y W (by omega))
  have HZ := hide (fun W => dig_any z W (by omega))
  have HU := hide (fun W => dig_any u W (by omega))
  have hv4 : (0 : Int) ≤ (v : Int) := by omega
  have hv5 : (v : Int) ≤ 4294967295 := by omega
  have k1 : bits .and .i64 ((v : Int) / 16777216) 255 = (x : Int) := by rw [and255 _ (by omega) (by omega)]; omega
  have k2 : bits .and .i64 ((v : Int) / 65536) 255 = (y : Int) := by rw [and255 _ (by omega) (by omega)]; omega
  have k3 : bits .and .i64 ((v : Int) / 256) 255 = (z : Int) := by rw [and255 _ (by omega) (by omega)]; omega
  have k4 : bits .and .i64 (v : Int) 255 = (u : Int) := by rw [and255 _ (by omega) (by omega)]; omega
  have q1 := dg_le3 x
  have q2 := dg_le3 y
  have q3 := dg_le3 z
  have q4 := dg_le3 u
  unfold txt4 at hT
  have HT := hide (show (⟨(txt (qb v) 4).toArray⟩ : ByteArray) = bs (dg x) ++ ⟨#[46]⟩ ++ bs (dg y) ++ ⟨#[46]⟩ ++ bs (dg z) ++ ⟨#[46]⟩ ++ bs (dg u) from by rw [hT.out]; simp [bs, ByteArray.ext_iff])
  generalize dg x = X at *
  generalize dg y = Y at *
  generalize dg z = Z at *
  generalize dg u = U at *
  have l1 : (9223372036854775807 < X.length + 1) = False := by simp; omega
  have l2 : (9223372036854775807 < X.length + 1 + Y.length) = False := by simp; omega
  have l3 : (9223372036854775807 < X.length + 1 + Y.length + 1) = False := by simp; omega
  have l4 : (9223372036854775807 < X.length + 1 + Y.length + 1 + Z.length) = False := by simp; omega
  have l5 : (9223372036854775807 < X.length + 1 + Y.length + 1 + Z.length + 1) = False := by simp; omega
  have l6 : (9223372036854775807 < X.length + 1 + Y.length + 1 + Z.length + 1 + U.length) = False := by simp; omega
  clear hx hy hz hu hT q1 q2 q3 q4
  go_enter Tryz.func20, Tryz.ntmps20
  go_wp2_with fail
  refine (HX.out w).mono ?_
  rintro e w1 ⟨rfl, b1⟩
  go_wp2_with fail
  refine (HY.out w1).mono ?_
  rintro e w2 ⟨rfl, b2⟩
  go_wp2_with fail
  refine (HZ.out w2).mono ?_
  rintro e w3 ⟨rfl, b3⟩
  go_wp2_with fail
  refine (HU.out w3).mono ?_
  rintro e w4 ⟨rfl, b4⟩
  have HB := hide (b1.trans ((b2.trans ((b3.trans (b4.mono b3.size)).mono b2.size)).mono b1.size))
  go_wp2_with fail
  go_ret
  refine ⟨by rw [HT.out]; rfl, HB.out⟩
end Go.Proofs.YtonoaopioifedaaGreatDoor
