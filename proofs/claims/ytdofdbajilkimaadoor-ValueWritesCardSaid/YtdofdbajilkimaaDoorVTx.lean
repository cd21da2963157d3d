/- value: a number's text: both sides. -/
import Derived.Test.YtdofdbajilkimaaDoorVFn
import Derived.Lib.ItoaMem
import Derived.Lib.ItoaWalk
namespace Go.Proofs.YtdofdbajilkimaaDoor
open Go.RowKit Go.Lib Go.Sort
set_option linter.unusedVariables false
set_option linter.unusedSimpArgs false
set_option maxRecDepth 100000
set_option maxHeartbeats 4000000 in
theorem fmtI_any (u : Nat) (w : World) (hu64 : u < 18446744073709551616) (hp : PT w) :
    Calls Tryd.prog 31 #[.int .u64 (u : Int), .int .i64 10] w fun e w' => e = .returned (.string ⟨(Lib.decDigits u).toArray⟩) ∧ Below w.heap.size w w' := by
  by_cases hs : u < 100
  · have d1 : decide ((u : Int) < 100) = true := by simp; omega
    have hu4 : (0 : Int) ≤ (u : Int) := by omega
    have hu5 : (u : Int) < 100 := by omega
    have hcv : IntKind.i64.wrap (u : Int) = (u : Int) := by rw [IntKind.wrap_i64]; omega
    have HC := hide (fun W => Tryd.internal_strconv_small u hs W)
    clear hs hu64 hp
    go_enter Tryd.func31, Tryd.ntmps31
    go_wp2_with (go_at_call 41; refine (HC.out _).mono ?_; rintro e w' ⟨rfl, rfl⟩)
    go_ret
    exact ⟨rfl, Below.refl _ _⟩
  have d1 : decide ((u : Int) < 100) = false := by simp; omega
  have hu1 : 1 ≤ u := by omega
  have htab := hp.1
  have hnd20 : Lib.nDigits u ≤ 20 := by rw [← Lib.decDigits_length]; exact dd_len u hu64
  obtain ⟨nd, hnd⟩ : ∃ nd, Lib.nDigits u = nd := ⟨_, rfl⟩
  have hb3 : nd ≤ 20 := by omega
  have hal : Tryd.prog.arrayLen 61 = 24 := by kernel_rfl
  obtain ⟨S, hS⟩ : ∃ S, w.heap.size = S := ⟨_, rfl⟩
  have hsl : ∀ W, (Instr.sliceAt 61 (.pointer (some ⟨S, 0, none⟩)) none (some (.int .i64 (nd : Int))) none).run Tryd.prog W = .ok (.slice (some ⟨S, 0, none⟩) nd 24) W := fun W => by
    rw [run_sliceAt_array_h W 61 ⟨S, 0, none⟩ (by kernel_rfl) .i64 (nd : Int) (by omega) (by rw [hal]; omega)]
    go_simp
    first | done | omega | simp | (refine ⟨?_, ?_⟩ <;> omega)
  have hH0 : Holds (fun (b : UInt8) => Value.int .u8 (b.toNat : Int)) (w.alloc (.cells Lib.zeros24 61)) w.heap.size 0 (Array.replicate nd (0 : UInt8)) := fun j hj => by
    have hj' : j < nd := by simpa using hj
    refine ⟨?_, World.frozen?_alloc_new _ _ _ _⟩
    rw [World.cell?_alloc_new, Lib.zeros24_at _ (by omega), getElem!_pos _ j hj]
    simp
  have hfmt := Tryd.internal_strconv_formatBase10 w.heap.size 0 24 u (Array.replicate nd 0) (w.alloc (.cells Lib.zeros24 61)) hH0 (by rw [Array.size_replicate, ← hnd]; exact Lib.lt_pow_nDigits u) hu64 (by rw [Array.size_replicate]; omega)
  rw [Array.size_replicate, hS] at hfmt
  rw [hS] at hH0
  have hdig := Tryd.internal_strconv_numDigits u hu1 hu64 (w.alloc (.cells Lib.zeros24 61)) (Lib.tabIs_alloc htab _)
  rw [hnd] at hdig
  have HH0 := hide hH0
  have HFM := hide hfmt
  have HDG := hide hdig
  have HD := hide (And.intro hnd hS)
  have hu4 : (0 : Int) ≤ (u : Int) := by omega
  clear hs hu64 hp hu1 htab hnd20 hnd hal hH0 hfmt hdig
  go_enter Tryd.func31, Tryd.ntmps31
  go_wp2_with (go_at_call 42; refine HDG.out.mono ?_; rintro e w' ⟨rfl, rfl⟩)
  refine HFM.out.mono ?_
  rintro e w' ⟨rfl, k, v', dk, rfl, hF⟩
  have hB : Below w.heap.size w ((putRow (fun (b : UInt8) => Value.int .u8 (b.toNat : Int)) (w.alloc (.cells Lib.zeros24 61)) S 0 dk).drewN k) := by
    obtain ⟨os', _, e⟩ := putRow_grow_new (fun (b : UInt8) => Value.int .u8 (b.toNat : Int)) w #[.cells Lib.zeros24 61] S 0 dk (by rw [HD.out.2]; exact Nat.le_refl _)
    rw [alloc_eq_grow, e]
    exact Lib.below_grow _ _ (Nat.le_refl _) k os'
  have hcv : (convert 47 9 (.slice (some ⟨S, 0, none⟩) nd 24)).run Tryd.prog ((putRow (fun (b : UInt8) => Value.int .u8 (b.toNat : Int)) (w.alloc (.cells Lib.zeros24 61)) S 0 dk).drewN k) = .ok (.string ⟨(Lib.decDigits u).toArray⟩) ((putRow (fun (b : UInt8) => Value.int .u8 (b.toNat : Int)) (w.alloc (.cells Lib.zeros24 61)) S 0 dk).drewN k) := by
    have h := run_convert_bytes_back (P := Tryd.prog) ((putRow (fun (b : UInt8) => Value.int .u8 (b.toNat : Int)) (w.alloc (.cells Lib.zeros24 61)) S 0 dk).drewN k) 47 9 5 ⟨S, 0, none⟩ 24 (Lib.decDigits u) Tryd.underlying47 Tryd.underlying5 Tryd.underlying9 (fun j hj => by
      have hF2 : FmtInv (Lib.nDigits u) u 0 v' dk := by rw [HD.out.1]; exact hF
      rw [Lib.row_is_numeral hF2 j hj, Lib.add_plain, World.cell?_drewN]
      exact cell?_putRow (fun (b : UInt8) => Value.int .u8 (b.toNat : Int)) _ S 0 _ dk HH0.out (by rw [hF.size, Array.size_replicate]) j (by rw [hF.size]; rw [Lib.decDigits_length, HD.out.1] at hj; exact hj))
    rw [Lib.decDigits_length, HD.out.1] at h
    exact h
  have HB := hide hB
  clear hB hF
  obtain ⟨W, hW⟩ : ∃ W, (putRow (fun (b : UInt8) => Value.int .u8 (b.toNat : Int)) (w.alloc (.cells Lib.zeros24 61)) S 0 dk).drewN k = W := ⟨_, rfl⟩
  rw [hW] at hcv HB ⊢
  clear hW
  go_wp2_with fail
  go_ret
  exact ⟨rfl, HB.out⟩
set_option maxHeartbeats 1000000 in
theorem fmt_any (u : Nat) (w : World) (hu64 : u < 18446744073709551616) (hp : PT w) :
    Calls Tryd.prog 26 #[.int .u64 (u : Int), .int .i64 10] w fun e w' => e = .returned (.string ⟨(Lib.decDigits u).toArray⟩) ∧ Below w.heap.size w w' := by
  have H := hide (fmtI_any u w hu64 hp)
  clear hu64 hp
  go_enter Tryd.func26, Tryd.ntmps26
  go_wp2_with fail
  refine H.out.mono ?_
  rintro e w1 ⟨rfl, b1⟩
  have HB := hide b1
  clear b1 H
  go_wp2_with fail
  go_ret
  exact ⟨rfl, HB.out⟩
set_option maxHeartbeats 1000000 in
theorem vtext_any (u : Nat) (w : World) (hu64 : u < 18446744073709551616) (hp : PT w) :
    Calls Tryd.prog 17 #[.int .u64 (u : Int)] w fun e w' => e = .returned (.string ⟨(Lib.decDigits u).toArray⟩) ∧ Below w.heap.size w w' := by
  have H := hide (fmt_any u w hu64 hp)
  clear hu64 hp
  go_enter Tryd.func17, Tryd.ntmps17
  go_wp2_with fail
  refine H.out.mono ?_
  rintro e w1 ⟨rfl, b1⟩
  have HB := hide b1
  clear b1 H
  go_wp2_with fail
  go_ret
  exact ⟨rfl, HB.out⟩
theorem bs_app (a b : List UInt8) : bs (a ++ b) = bs a ++ bs b := by simp [bs, ByteArray.ext_iff]
theorem one_conv (W : World) (g m : Nat) (hm : m < 10) (h : W.heap[g]? = some (.cells #[.int .u8 (48 + (m : Int))] 5 (0, 0))) : (convert 47 9 (.slice (some ⟨g, 0, none⟩) 1 1)).run Tryd.prog W = .ok (.string (bs [dc m])) W := by
  refine run_convert_bytes_back W 47 9 5 ⟨g, 0, none⟩ 1 [dc m] Tryd.underlying47 Tryd.underlying5 Tryd.underlying9 (fun j hj => ?_)
  obtain rfl : j = 0 := by simpa using hj
  have e : ((dc m).toNat : Int) = 48 + (m : Int) := by rw [dc_nat m hm]; push_cast; rfl
  simp [World.cell?, h, Addr.add, e]
/-- One step of the document's writing: the last digit goes ahead of what is there. -/
theorem dd_step (u m : Nat) (out : List UInt8) (h : Lib.decDigits u = Lib.decDigits m ++ out) (hm : 10 ≤ m) : Lib.decDigits u = Lib.decDigits (m / 10) ++ (dc (m % 10) :: out) := by
  rw [h, dd_last m, if_neg (by omega), List.append_assoc]; rfl
theorem dd_end (u m : Nat) (out : List UInt8) (h : Lib.decDigits u = Lib.decDigits m ++ out) (hm : m < 10) : Lib.decDigits u = dc (m % 10) :: out := by
  rw [h, dd_last m, if_pos hm]; rfl
set_option maxHeartbeats 2000000 in
theorem rvtext_any (u : Nat) (w : World) (hu64 : u < 18446744073709551616) :
    Calls Tryd.prog 20 #[.int .u64 (u : Int)] w fun e w' => e = .returned (.string ⟨(Lib.decDigits u).toArray⟩) ∧ Below w.heap.size w w' := by
  have HL := hide (dd_len u hu64)
  have HU := hide hu64
  clear hu64
  go_enter Tryd.func20, Tryd.ntmps20
  go_wp2_with fail
  go_loopw [0, 3] (fun mv ov wz => ∃ (m : Nat) (out : List UInt8), mv = .int .u64 m ∧ ov = .string (bs out) ∧ Hid (m < 18446744073709551616 ∧ Lib.decDigits u = Lib.decDigits m ++ out ∧ Below w.heap.size w wz)) (fun mv _ _ => (Lib.intOf mv).toNat)
  case atStart => exact ⟨u, [], rfl, rfl, hide ⟨HU.out, by simp, Below.refl _ _⟩⟩
  case round =>
    obtain ⟨m, out, rfl, rfl, HF⟩ := hrel
    have hm4 : (0 : Int) ≤ (m : Int) := by omega
    have hmx := HF.out.1
    obtain ⟨d, hd⟩ : ∃ d, m % 10 = d := ⟨_, rfl⟩
    obtain ⟨r, hr⟩ : ∃ r, m / 10 = r := ⟨_, rfl⟩
    have k1 : (m : Int) % 10 = (d : Int) := by omega
    have k2 : (m : Int) / 10 = (r : Int) := by omega
    have hd4 : (0 : Int) ≤ (d : Int) := by omega
    have hd5 : (d : Int) ≤ 9 := by omega
    have hw1 : IntKind.u64.wrap (48 + (d : Int)) = 48 + (d : Int) := by rw [IntKind.wrap_u64]; omega
    have hw2 : IntKind.u8.wrap (48 + (d : Int)) = 48 + (d : Int) := by rw [IntKind.wrap_u8]; omega
    have hw3 : IntKind.u64.wrap (r : Int) = (r : Int) := by rw [IntKind.wrap_u64]; omega
    have hcv := one_conv (wr.alloc (.cells #[.int .u8 (48 + (d : Int))] 5)) wr.heap.size d (by omega) (by exact Array.getElem?_push_size)
    have hL : (9223372036854775807 < 1 + out.length) = False := by
      have h1 := congrArg List.length HF.out.2.1
      rw [List.length_append] at h1
      have := HL.out
      simp; omega
    have HB := hide (HF.out.2.2.alloc HF.out.2.2.size (.cells #[.int .u8 (48 + (d : Int))] 5))
    by_cases h0 : r = 0
    · have e0 : ((r : Int) == 0) = true := by simp; omega
      have HE := hide (show Lib.decDigits u = dc d :: out by rw [← hd]; exact dd_end u m out HF.out.2.1 (by omega))
      clear h0 hd hr HF hmx
      go_wp2_with fail
      go_ret
      exact ⟨by rw [HE.out, show dc d :: out = [dc d] ++ out from rfl]; show Ending.returned (Value.string (bs [dc d] ++ bs out)) = .returned (.string (bs ([dc d] ++ out))); rw [bs_app], HB.out⟩
    · have e0 : ((r : Int) == 0) = false := by simp; omega
      have HE := hide (show r < 18446744073709551616 ∧ Lib.decDigits u = Lib.decDigits r ++ (dc d :: out) ∧ RowKit.Below w.heap.size w (wr.alloc (.cells #[.int .u8 (48 + (d : Int))] 5)) from ⟨by omega, by rw [← hd, ← hr]; exact dd_step u m out HF.out.2.1 (by omega), HB.out⟩)
      have hlt : r < m := by omega
      clear h0 hd hr HF hmx HB
      go_wp2_with fail
      exact ⟨⟨r, dc d :: out, by go_num, by rw [show dc d :: out = [dc d] ++ out from rfl, bs_app], HE⟩, by simp [Lib.intOf]; omega⟩
end Go.Proofs.YtdofdbajilkimaaDoor
