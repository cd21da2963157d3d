/- What the document's Same of frames answers; addresses and strings held against one another. -/
import Derived.Test.YtgpmgfpmfdaecaaESpeaks
import Derived.Test.YtgpmgfpmfdaecaaConv
import Derived.Stop.BytesEq
import Derived.Lib.Bytes
namespace Go.Proofs.Ytgpmgfpmfdaecaa
open Go.RowKit
set_option linter.unusedVariables false
set_option linter.unusedSimpArgs false
theorem size5 : ∀ w, (sizeOf 5).run Try.prog w = .ok 1 w := fun W => by
  obtain ⟨i0, hi, _, hs, _⟩ := info_parts Try.info5
  simp [sizeOf, typeInfo, hi, hs]
theorem mac_eql (d e : Nat → UInt8) (W : World) : (binOp .eql 25 (.agg #[.int .u8 ((d 0).toNat : Int), .int .u8 ((d 1).toNat : Int), .int .u8 ((d 2).toNat : Int), .int .u8 ((d 3).toNat : Int), .int .u8 ((d 4).toNat : Int), .int .u8 ((d 5).toNat : Int)]) (.agg #[.int .u8 ((e 0).toNat : Int), .int .u8 ((e 1).toNat : Int), .int .u8 ((e 2).toNat : Int), .int .u8 ((e 3).toNat : Int), .int .u8 ((e 4).toNat : Int), .int .u8 ((e 5).toNat : Int)])).run Try.prog W = .ok (.bool ([d 0, d 1, d 2, d 3, d 4, d 5] == [e 0, e 1, e 2, e 3, e 4, e 5])) W :=
  run_eql_bytes W 25 5 6 Try.underlying25 Try.underlying5 size5 [d 0, d 1, d 2, d 3, d 4, d 5] [e 0, e 1, e 2, e 3, e 4, e 5] rfl rfl
theorem str_eq (xs ys : List Int) (hx : ∀ x ∈ xs, 0 ≤ x ∧ x ≤ 255) (hy : ∀ x ∈ ys, 0 ≤ x ∧ x ≤ 255) : ((strOfNums xs).toList == (strOfNums ys).toList) = (xs == ys) := by
  rw [Bool.eq_iff_iff, beq_iff_eq, beq_iff_eq]
  constructor
  · intro h
    rw [Lib.strOfNums_toList, Lib.strOfNums_toList] at h
    induction xs generalizing ys with
    | nil => cases ys with | nil => rfl | cons y r => simp [Lib.bytesOf] at h
    | cons x r ih =>
      cases ys with
      | nil => simp [Lib.bytesOf] at h
      | cons y q =>
        simp only [Lib.bytesOf, List.map_cons, List.cons.injEq] at h
        have h1 := hx x (by simp)
        have h2 := hy y (by simp)
        have h3 := congrArg UInt8.toNat h.1
        simp at h3
        have e : x = y := by omega
        rw [e, ih q (fun z hz => hx z (by simp [hz])) (fun z hz => hy z (by simp [hz])) h.2]
  · intro h; rw [h]

set_option maxRecDepth 100000 in
set_option maxHeartbeats 1600000 in
theorem same_any (w : World) (d s e t : Nat → UInt8) (k l : Nat) (a b : Option Addr) (xs ys : List Int) (n m c f : Nat) (h1 : Row .u8 w a xs) (h2 : Row .u8 w b ys) (l1 : xs.length = n) (l2 : ys.length = m) (r1 : ∀ x ∈ xs, 0 ≤ x ∧ x ≤ 255) (r2 : ∀ x ∈ ys, 0 ≤ x ∧ x ≤ 255) :
    Calls Try.prog 9 #[.agg #[.int .u8 ((d 0).toNat : Int), .int .u8 ((d 1).toNat : Int), .int .u8 ((d 2).toNat : Int), .int .u8 ((d 3).toNat : Int), .int .u8 ((d 4).toNat : Int), .int .u8 ((d 5).toNat : Int), .int .u8 ((s 0).toNat : Int), .int .u8 ((s 1).toNat : Int), .int .u8 ((s 2).toNat : Int), .int .u8 ((s 3).toNat : Int), .int .u8 ((s 4).toNat : Int), .int .u8 ((s 5).toNat : Int), .int .u16 (k : Int), .slice a n c], .agg #[.int .u8 ((e 0).toNat : Int), .int .u8 ((e 1).toNat : Int), .int .u8 ((e 2).toNat : Int), .int .u8 ((e 3).toNat : Int), .int .u8 ((e 4).toNat : Int), .int .u8 ((e 5).toNat : Int), .int .u8 ((t 0).toNat : Int), .int .u8 ((t 1).toNat : Int), .int .u8 ((t 2).toNat : Int), .int .u8 ((t 3).toNat : Int), .int .u8 ((t 4).toNat : Int), .int .u8 ((t 5).toNat : Int), .int .u16 (l : Int), .slice b m f]] w fun r w' => r = .returned (.bool ((([d 0, d 1, d 2, d 3, d 4, d 5] == [e 0, e 1, e 2, e 3, e 4, e 5]) && ([s 0, s 1, s 2, s 3, s 4, s 5] == [t 0, t 1, t 2, t 3, t 4, t 5])) && ((k : Int) == (l : Int)) && (xs == ys))) ∧ Below w.heap.size w w' := by
  have q1 := mac_eql d e
  have q2 := mac_eql s t
  have q3 := str_eq xs ys r1 r2
  have H1 := hide h1
  have H2 := hide h2
  have L1 := hide l1
  have L2 := hide l2
  generalize hb1 : ([d 0, d 1, d 2, d 3, d 4, d 5] == [e 0, e 1, e 2, e 3, e 4, e 5]) = b1 at *
  generalize hb2 : ([s 0, s 1, s 2, s 3, s 4, s 5] == [t 0, t 1, t 2, t 3, t 4, t 5]) = b2 at *
  generalize hb3 : ((k : Int) == (l : Int)) = b3 at *
  generalize hb4 : (xs == ys) = b4 at *
  have cv : ∀ W, Below w.heap.size w W → (convert 22 9 (.slice a n c)).run Try.prog W = .ok (.string (strOfNums xs)) W := fun W hW => by
    have := conv_any a xs c W (H1.out.below hW (Nat.le_refl _)); rw [L1.out] at this; exact this
  have cw : ∀ W, Below w.heap.size w W → (convert 22 9 (.slice b m f)).run Try.prog W = .ok (.string (strOfNums ys)) W := fun W hW => by
    have := conv_any b ys f W (H2.out.below hW (Nat.le_refl _)); rw [L2.out] at this; exact this
  generalize strOfNums xs = S at *
  generalize strOfNums ys = T at *
  have hbel : Below w.heap.size w ((w.alloc (.cells #[.int .u8 ((d 0).toNat : Int), .int .u8 ((d 1).toNat : Int), .int .u8 ((d 2).toNat : Int), .int .u8 ((d 3).toNat : Int), .int .u8 ((d 4).toNat : Int), .int .u8 ((d 5).toNat : Int), .int .u8 ((s 0).toNat : Int), .int .u8 ((s 1).toNat : Int), .int .u8 ((s 2).toNat : Int), .int .u8 ((s 3).toNat : Int), .int .u8 ((s 4).toNat : Int), .int .u8 ((s 5).toNat : Int), .int .u16 (k : Int), .slice a n c] 28)).alloc (.cells #[.int .u8 ((e 0).toNat : Int), .int .u8 ((e 1).toNat : Int), .int .u8 ((e 2).toNat : Int), .int .u8 ((e 3).toNat : Int), .int .u8 ((e 4).toNat : Int), .int .u8 ((e 5).toNat : Int), .int .u8 ((t 0).toNat : Int), .int .u8 ((t 1).toNat : Int), .int .u8 ((t 2).toNat : Int), .int .u8 ((t 3).toNat : Int), .int .u8 ((t 4).toNat : Int), .int .u8 ((t 5).toNat : Int), .int .u16 (l : Int), .slice b m f] 28)) := ((Below.refl _ _).alloc (Nat.le_refl _) _).alloc (by simp) _
  have cv1 := cv _ hbel
  have cw1 := cw _ hbel
  clear h1 h2 l1 l2 r1 r2 hb1 hb2 cv cw
  have HB := hide hbel
  clear hbel
  cases b1
  · go_enter Try.func9, Try.ntmps9
    go_wp2
    go_ret
    exact ⟨rfl, HB.out⟩
  · cases b2
    · go_enter Try.func9, Try.ntmps9
      go_wp2
      go_ret
      exact ⟨rfl, HB.out⟩
    · cases b3
      · go_enter Try.func9, Try.ntmps9
        go_wp2
        go_ret
        exact ⟨rfl, HB.out⟩
      · cases b4
        · go_enter Try.func9, Try.ntmps9
          go_wp2
          go_ret
          exact ⟨rfl, HB.out⟩
        · go_enter Try.func9, Try.ntmps9
          go_wp2
          go_ret
          exact ⟨rfl, HB.out⟩
end Go.Proofs.Ytgpmgfpmfdaecaa
