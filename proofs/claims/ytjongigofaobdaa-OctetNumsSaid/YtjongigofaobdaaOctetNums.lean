/- The law of numbers put into bytes, and read back, walked. -/
import Derived.Test.YtjongigofaobdaaPlainNums
import Derived.Test.YtjongigofaobdaaEye
import Derived.Test.YtjongigofaobdaaSpeaks
import Derived.Deep.RegionWith
namespace Go.Proofs.Ytjongigofaobdaa
open Go.RowKit
set_option linter.unusedVariables false
set_option linter.unusedSimpArgs false
def castL (ns : List Nat) : List Int := ns.map fun (n : Nat) => (n : Int)
theorem castL_len (ns : List Nat) : (castL ns).length = ns.length := by simp [castL]
theorem cast_at (ns : List Nat) (k : Nat) : (castL ns)[k]?.getD 0 = ((ns[k]?.getD 0 : Nat) : Int) := by
  unfold castL
  rw [List.getElem?_map]
  rcases Nat.lt_or_ge k ns.length with h | h
  · rw [List.getElem?_eq_getElem h]; rfl
  · rw [List.getElem?_eq_none h]; rfl

theorem castL_of {xs : List Int} (h : ∀ x ∈ xs, 0 ≤ x ∧ x ≤ 18446744073709551615) : ∃ ns : List Nat, castL ns = xs ∧ ns.length = xs.length ∧ ∀ n ∈ ns, n < 18446744073709551616 := by
  refine ⟨xs.map Int.toNat, ?_, by simp, ?_⟩
  · unfold castL
    rw [List.map_map]
    have : ∀ x ∈ xs, ((fun (n : Nat) => (n : Int)) ∘ Int.toNat) x = id x := fun x hx => by
      have := h x hx
      show ((x.toNat : Nat) : Int) = x
      omega
    rw [List.map_congr_left this, List.map_id]
  · intro n hn
    obtain ⟨x, hx, rfl⟩ := List.mem_map.1 hn
    have := h x hx
    omega

set_option maxHeartbeats 1600000 in
theorem octetNums_any (s : Int) (a : Option Addr) (ns : List Nat) (cap : Nat) (w : World) (hr : Row .u64 w a (castL ns)) (hb : ∀ n ∈ ns, n < 18446744073709551616) :
    Calls Try.prog 3 #[.int .i64 s, .slice a ns.length cap] w fun e w' => e = .returned (.bool true) ∧ Below w.heap.size w w' := by
  by_cases hl : 1000 < ns.length
  · go_enter Try.func3, Try.ntmps3
    go_wp2_with (go_at_call 13; refine (speaks1_any _).mono ?_; rintro e w1 ⟨rfl, hbel⟩)
    go_ret
    exact ⟨rfl, hbel⟩
  · have hL8 := sz_le s
    have N1 : ∀ (n : Nat) (w : World), n < 18446744073709551616 → Calls Try.prog 14 #[.int .i64 s, .int .u64 n] w fun e w' => e = .returned (.slice (some ⟨w.heap.size, 0, none⟩) (sz s) (sz s)) ∧
      w'.ownsRow w.heap.size 5 1 (.slice (some ⟨w.heap.size, 0, none⟩) (sz s) (sz s)) (sz s) ((numB (sz s) n).map (Value.int .u8)) ∧ Below w.heap.size w w' := fun n w hn => num_any s n w hn
    have N2 : ∀ (n : Nat) (w : World), n < 18446744073709551616 → Calls Try.prog 15 #[.int .i64 s, .int .u64 n] w fun e w' => ∃ a c, e = .returned (.slice a (sz s) c) ∧ Row .u8 w' a (numB (sz s) n) ∧ Below w.heap.size w w' := fun n w hn => refNum_any s n w hn
    have N3 : ∀ (w : World), Calls Try.prog 18 #[.int .i64 s] w fun e w' => e = .returned (.int .i64 (sz s : Nat)) ∧ w = w' := fun w => refSize_any s w
    have N4 := fun (E : Nat) (rest : List Int) (bad : Bool) (w : World) (h : EyeAt w E rest bad) (hb : ∀ x ∈ rest, 0 ≤ x ∧ x ≤ 255) (hl : rest.length ≤ 1099511627776) => eyeNum_any E rest bad s w h hb hl
    have HR := hide hr
    have HB := hide hb
    generalize sz s = L at *
    have M1 := hide N1
    have M2 := hide N2
    have M3 := hide N3
    have M4 := hide N4
    clear hr hb N1 N2 N3 N4
    go_enter Try.func3, Try.ntmps3
    go_wp2_with fail
    refine (speaks1_any _).mono ?_
    rintro e w1 ⟨rfl, hbel⟩
    have hown0 : (w1.alloc (.cells #[] 5)).ownsRow w.heap.size 5 1 (.slice (some ⟨w1.heap.size, 0, none⟩) 0 0) 0 [] := World.ownsRow_lit w1 #[] 0 hbel.size (by unfold maxLen; omega) rfl
    have hbel0 := hbel.alloc hbel.size (.cells #[] 5)
    go_wp2
    go_loopw [5, 21] (fun v i wr => ∃ k : Nat, ∃ a' m c', k ≤ ns.length ∧ i = .int .i64 k ∧ v = .slice a' m c' ∧ m = L * k ∧
        wr.ownsRow w.heap.size 5 1 (.slice a' m c') m ((encL L (ns.take k)).map (Value.int .u8)) ∧ Below w.heap.size w wr)
      (fun _ i _ => ns.length - (intOf i).toNat)
    case atStart => exact ⟨0, _, 0, _, Nat.zero_le _, rfl, rfl, rfl, hown0, hbel0⟩
    case round =>
      clear hown0 hbel0 hbel
      obtain ⟨k, a', m, c', hk, rfl, rfl, hm, hown, hbel⟩ := hrel
      have HM := hide hm
      clear hm
      by_cases hlt : k < ns.length
      · obtain ⟨b, off, rfl, hbl, hc⟩ := (HR.out.below hbel (Nat.le_refl _)).at (i := k) (by rw [castL_len]; exact hlt)
        have cx := hc k (by rw [castL_len]; exact hlt)
        rw [cast_at] at cx
        have hsn := encL_snoc L ns k hlt
        have hn : ns[k]?.getD 0 < 18446744073709551616 := by rw [List.getElem?_eq_getElem hlt]; exact HB.out _ (List.getElem_mem hlt)
        generalize ns[k]?.getD 0 = n at *
        have HS := hide hsn
        have HO := hide hown
        clear hsn hown hc
        go_wp2_with fail
        refine (M1.out n _ hn).mono ?_
        rintro e w2 ⟨rfl, hown2, hbel2⟩
        have hb12 := hbel.trans (hbel2.mono hbel.size)
        have O2 := hide hown2
        have O1 := hide (owns_below HO.out hbel2 (Nat.le_refl _))
        have hrow2 : Row .u8 w2 (some ⟨wr.heap.size, 0, none⟩) (numB L n) := Row.of_owns hown2
        have hcv : ∀ a c W, Row .u8 W a (numB L n) → (convert 24 9 (.slice a L c)).run Try.prog W = .ok (.string (strOfNums (numB L n))) W := fun a c W hr => by
          have := conv_any a (numB L n) c W hr
          rw [numB_len] at this; exact this
        have R2 := hide hrow2
        generalize strOfNums (numB L n) = S at *
        have HC := hide hcv
        clear hown2 hrow2 hcv
        have hd2 := HC.out (some ⟨wr.heap.size, 0, none⟩) L w2.drew (R2.out.below (Below.refl _ _).drew (Nat.le_refl _))
        have hss : (S.toList == S.toList) = true := by simp
        go_wp2_with fail
        go_region_with (go_at_call 15; refine (M2.out n _ hn).mono ?_; rintro e w3 ⟨a3, c3, rfl, hr3, hbel3⟩; have hbel3' : Below w2.heap.size w2 w3 := (Below.refl _ _).drew.trans hbel3; have hd3 := HC.out (some ⟨wr.heap.size, 0, none⟩) L w3 (R2.out.below hbel3' (Nat.le_refl _)); have hd4 := HC.out a3 c3 w3 hr3)
        all_goals
          have hb13 := hb12.trans (hbel3'.mono hb12.size)
          have P1 := hide (owns_below O1.out hbel3' (Nat.le_refl _))
          have P2 := hide (owns_below O2.out hbel3' (Nat.le_refl _))
          clear hr3 hbel3 hd3 hd4 hd2
          go_wp2_with fail
          refine (join2_any a' _ (encL L (ns.take k)) (numB L n) m L c' L _ (by rw [encL_len, List.length_take, HM.out]; congr 1; omega) (numB_len _ _) (Row.of_owns P1.out) (none_cap P1.out) (Row.of_owns P2.out) (by simp) (by have := Nat.mul_le_mul hL8 hk; rw [HM.out]; omega)).mono ?_
          rintro e w4 ⟨a4, c4, rfl, hown4, hbel4⟩
          rw [← HS.out] at hown4
          have O4 := hide (owns_mono hown4 hb13.size)
          have B4 := hide (hb13.trans (hbel4.mono hb13.size))
          clear hown4 hbel4
          go_wp2
          go_roundw
          case rel => exact ⟨k + 1, a4, m + L, c4, by omega, by go_num, rfl, by rw [HM.out, Nat.mul_add]; omega, O4.out, B4.out⟩
          case measure => simp [intOf]; omega
      · obtain rfl : k = ns.length := by omega
        rw [List.take_length] at hown
        have hml : m = (encL L ns).length := by rw [encL_len]; exact HM.out
        have hmm : m ≤ 8000 := by rw [HM.out]; have := Nat.mul_le_mul hL8 (show ns.length ≤ 1000 by omega); omega
        have hne := newEye_any a' (encL L ns) c' wr (Row.of_owns hown) (by omega)
        rw [← hml] at hne
        have HNE := hide hne
        clear hne hml hown HM
        go_wp2_with fail
        refine HNE.out.mono ?_
        rintro e w2 ⟨E, rfl, hE, heye, hbel2⟩
        have hb12 := hbel.trans (hbel2.mono hbel.size)
        have hE0 : w.heap.size ≤ E := Nat.le_trans hbel.size hE
        clear hbel hbel2 hE
        go_wp2
        go_loopw [46] (fun i wr => ∃ k : Nat, k ≤ ns.length ∧ i = .int .i64 k ∧ EyeAt wr E (encL L (ns.drop k)) false ∧ Below w.heap.size w wr) (fun i _ => ns.length - (intOf i).toNat)
        case atStart => exact ⟨0, Nat.zero_le _, rfl, heye, hb12⟩
        case round =>
          clear heye hb12
          obtain ⟨k, hk, rfl, heye, hbel⟩ := hrel
          by_cases hlt : k < ns.length
          · obtain ⟨b, off, rfl, hbl, hc⟩ := (HR.out.below hbel (Nat.le_refl _)).at (i := k) (by rw [castL_len]; exact hlt)
            have cx := hc k (by rw [castL_len]; exact hlt)
            rw [cast_at] at cx
            have hdr := encL_drop L ns k hlt
            have hn : ns[k]?.getD 0 < 18446744073709551616 := by rw [List.getElem?_eq_getElem hlt]; exact HB.out _ (List.getElem_mem hlt)
            generalize ns[k]?.getD 0 = n at *
            rw [hdr] at heye
            have hnum : ∀ W, EyeAt W E (numB L n ++ encL L (ns.drop (k + 1))) false → Calls Try.prog 19 #[.pointer (some ⟨E, 0, none⟩), .int .i64 s] W fun e w' => e = .returned (.int .u64 ((n % 256 ^ L : Nat) : Int)) ∧
                EyeAt w' E (encL L (ns.drop (k + 1))) false ∧ W.grownBy w' (some E) := fun W hW => by
              have hlen : (numB L n ++ encL L (ns.drop (k + 1))).length = L + L * (ns.length - (k + 1)) := by rw [List.length_append, numB_len, encL_len, List.length_drop]
              have h8 := Nat.mul_le_mul hL8 (show ns.length - (k + 1) ≤ 1000 by omega)
              have := M4.out E _ false W hW (fun x hx => by rcases List.mem_append.1 hx with h | h; exact numB_rng L n x h; exact encL_rng L _ x h) (by rw [hlen]; omega)
              rw [if_pos (by rw [hlen]; omega), if_pos (by rw [hlen]; omega), List.take_left' (numB_len L n), List.drop_left' (numB_len L n), valB_numB, show decide ((numB L n ++ encL L (ns.drop (k + 1))).length < L) = false from by rw [hlen]; simp] at this
              exact this
            have HN := hide hnum
            have HE := hide heye
            clear hnum heye hc hdr
            by_cases h8 : L < 8
            · go_wp2_with fail
              refine (M3.out _).mono ?_
              rintro e w3 ⟨rfl, rfl⟩
              go_wp2_with fail
              rw [and64w n L (by omega) hn]
              refine (HN.out _ HE.out).mono ?_
              rintro e w3 ⟨rfl, heye3, hg3⟩
              generalize n % 256 ^ L = q
              have hbel3 := hbel.grown hg3 hbel.size (fun j e => by cases e; exact hE0)
              clear hg3
              go_wp2
              go_roundw
              case rel => exact ⟨k + 1, by omega, by go_num, heye3, hbel3⟩
              case measure => simp [intOf]; omega
            · obtain rfl : L = 8 := by omega
              rw [show n % 256 ^ 8 = n from Nat.mod_eq_of_lt (by omega)] at HN
              go_wp2_with fail
              refine (M3.out _).mono ?_
              rintro e w3 ⟨rfl, rfl⟩
              go_wp2_with fail
              refine (HN.out _ HE.out).mono ?_
              rintro e w3 ⟨rfl, heye3, hg3⟩
              have hbel3 := hbel.grown hg3 hbel.size (fun j e => by cases e; exact hE0)
              clear hg3
              go_wp2
              go_roundw
              case rel => exact ⟨k + 1, by omega, by go_num, heye3, hbel3⟩
              case measure => simp [intOf]; omega
          · have hkn : k = ns.length := by omega
            rw [hkn, List.drop_length] at heye
            have HE := hide heye
            clear heye hkn
            go_wp2_with fail
            refine (left_any E _ _ _ HE.out).mono ?_
            rintro e w3 ⟨rfl, rfl⟩
            go_wp2_with fail
            refine (bad_any E _ _ _ HE.out).mono ?_
            rintro e w3 ⟨rfl, rfl⟩
            go_wp2
            go_ret
            exact ⟨rfl, hbel⟩
end Go.Proofs.Ytjongigofaobdaa
