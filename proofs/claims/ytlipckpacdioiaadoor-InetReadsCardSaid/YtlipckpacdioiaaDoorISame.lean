/- inet: what the document's Same of packets answers; strings held against one another. -/
import Derived.Test.YtlipckpacdioiaaDoorIPl
import Derived.Test.YtlipckpacdioiaaDoorConv
import Derived.Lib.Bytes
namespace Go.Proofs.YtlipckpacdioiaaDoor
open Go.RowKit
set_option linter.unusedVariables false
set_option linter.unusedSimpArgs false
structure Lies (w : World) (a : Option Addr) (xs : List Int) (n cap : Nat) : Prop where
  row : Row .u8 w a xs
  no : a = none → cap = 0
  le : n ≤ cap
  max : cap ≤ 9223372036854775807
theorem Lies.of_owns {w : World} {base : Nat} {g : Option Addr} {xs : List Int} {n c : Nat} (h : w.ownsRow base 5 1 (.slice g n c) n (xs.map (Value.int .u8))) : Lies w g xs n c := by
  refine ⟨Row.of_owns h, ?_, ?_, ?_⟩ <;> rcases h.2 with ⟨h1, h0⟩ | ⟨G, c', cur, hv, hg, hh, hnc, hcm, _⟩
  · simp at h1; intro _; omega
  · obtain ⟨rfl, rfl⟩ : g = some ⟨G, 0, none⟩ ∧ c = c' := by simpa using hv
    intro h; cases h
  · simp at h1; omega
  · obtain ⟨rfl, rfl⟩ : g = some ⟨G, 0, none⟩ ∧ c = c' := by simpa using hv
    exact hnc
  · simp at h1; omega
  · obtain ⟨rfl, rfl⟩ : g = some ⟨G, 0, none⟩ ∧ c = c' := by simpa using hv
    unfold maxLen at hcm; omega
theorem Lies.below {w w' : World} {a : Option Addr} {xs : List Int} {n cap B : Nat} (h : Lies w a xs n cap) (hb : Below B w w') (hB : w.heap.size ≤ B) : Lies w' a xs n cap := ⟨h.row.below hb hB, h.no, h.le, h.max⟩
theorem str_eq (xs ys : List Int) (hx : ∀ x ∈ xs, 0 ≤ x ∧ x ≤ 255) (hy : ∀ x ∈ ys, 0 ≤ x ∧ x ≤ 255) : ((strOfNums xs).toList == (strOfNums ys).toList) = (xs == ys) := by
  rw [Bool.eq_iff_iff, beq_iff_eq, beq_iff_eq]
  constructor
  · intro h
    rw [Lib.strOfNums_toList, Lib.strOfNums_toList] at h
    induction xs generalizing ys with
    | nil => cases ys with | nil => rfl | cons y r => simp [Lib.bytesOf] at h
    | cons x r ih =>
      cases ys with
      | nil => simp [Lib.bytesOf] at h
      | cons y q =>
        simp only [Lib.bytesOf, List.map_cons, List.cons.injEq] at h
        have h1 := hx x (by simp)
        have h2 := hy y (by simp)
        have h3 := congrArg UInt8.toNat h.1
        simp at h3
        have e : x = y := by omega
        rw [e, ih q (fun z hz => hx z (by simp [hz])) (fun z hz => hy z (by simp [hz])) h.2]
  · intro h; rw [h]


set_option maxRecDepth 100000 in
set_option maxHeartbeats 3200000 in
theorem same_any (w : World) (p0 p1 p2 p3 p4 q0 q1 q2 q3 q4 : Nat) (a b : Option Addr) (xs ys : List Int) (n m c f : Nat) (h1 : Row .u8 w a xs) (h2 : Row .u8 w b ys) (l1 : xs.length = n) (l2 : ys.length = m) (r1 : ∀ x ∈ xs, 0 ≤ x ∧ x ≤ 255) (r2 : ∀ x ∈ ys, 0 ≤ x ∧ x ≤ 255) :
    Calls Tryd.prog 12 #[.agg #[.int .u8 (p0 : Int), .int .u8 (p1 : Int), .int .u16 (p2 : Int), .int .u32 (p3 : Int), .int .u32 (p4 : Int), .slice a n c], .agg #[.int .u8 (q0 : Int), .int .u8 (q1 : Int), .int .u16 (q2 : Int), .int .u32 (q3 : Int), .int .u32 (q4 : Int), .slice b m f]] w fun e w' => e = .returned (.bool (((p0 : Int) == (q0 : Int)) && ((p1 : Int) == (q1 : Int)) && ((p2 : Int) == (q2 : Int)) && ((p3 : Int) == (q3 : Int)) && ((p4 : Int) == (q4 : Int)) && (xs == ys))) ∧ Below w.heap.size w w' := by
  have q3' := str_eq xs ys r1 r2
  have H1 := hide h1
  have H2 := hide h2
  have L1 := hide l1
  have L2 := hide l2
  obtain ⟨r, hr⟩ : ∃ r, (((p0 : Int) == (q0 : Int)) && ((p1 : Int) == (q1 : Int)) && ((p2 : Int) == (q2 : Int)) && ((p3 : Int) == (q3 : Int)) && ((p4 : Int) == (q4 : Int)) && (xs == ys)) = r := ⟨_, rfl⟩
  rw [hr]
  generalize hb0 : ((p0 : Int) == (q0 : Int)) = b0 at *
  generalize hb1 : ((p1 : Int) == (q1 : Int)) = b1 at *
  generalize hb2 : ((p2 : Int) == (q2 : Int)) = b2 at *
  generalize hb3 : ((p3 : Int) == (q3 : Int)) = b3 at *
  generalize hb4 : ((p4 : Int) == (q4 : Int)) = b4 at *
  generalize hb5 : (xs == ys) = b5 at *
  have HR := hide hr
  have cv : ∀ W, Below w.heap.size w W → (convert 25 9 (.slice a n c)).run Tryd.prog W = .ok (.string (strOfNums xs)) W := fun W hW => by
    have := conv_any a xs c W (H1.out.below hW (Nat.le_refl _)); rw [L1.out] at this; exact this
  have cw : ∀ W, Below w.heap.size w W → (convert 25 9 (.slice b m f)).run Tryd.prog W = .ok (.string (strOfNums ys)) W := fun W hW => by
    have := conv_any b ys f W (H2.out.below hW (Nat.le_refl _)); rw [L2.out] at this; exact this
  generalize strOfNums xs = S at *
  generalize strOfNums ys = T at *
  have hbel : Below w.heap.size w ((w.alloc (.cells #[.int .u8 (p0 : Int), .int .u8 (p1 : Int), .int .u16 (p2 : Int), .int .u32 (p3 : Int), .int .u32 (p4 : Int), .slice a n c] 27)).alloc (.cells #[.int .u8 (q0 : Int), .int .u8 (q1 : Int), .int .u16 (q2 : Int), .int .u32 (q3 : Int), .int .u32 (q4 : Int), .slice b m f] 27)) := ((Below.refl _ _).alloc (Nat.le_refl _) _).alloc (by simp) _
  have cv1 := cv _ hbel
  have cw1 := cw _ hbel
  clear h1 h2 l1 l2 r1 r2 hb5 cv cw hr
  have HB := hide hbel
  clear hbel
  cases b0
  · go_enter Tryd.func12, Tryd.ntmps12
    go_wp2
    go_ret
    exact ⟨by rw [← HR.out]; rfl, HB.out⟩
  ·
    cases b1
    · go_enter Tryd.func12, Tryd.ntmps12
      go_wp2
      go_ret
      exact ⟨by rw [← HR.out]; rfl, HB.out⟩
    ·
      cases b2
      · go_enter Tryd.func12, Tryd.ntmps12
        go_wp2
        go_ret
        exact ⟨by rw [← HR.out]; rfl, HB.out⟩
      ·
        cases b3
        · go_enter Tryd.func12, Tryd.ntmps12
          go_wp2
          go_ret
          exact ⟨by rw [← HR.out]; rfl, HB.out⟩
        ·
          cases b4
          · go_enter Tryd.func12, Tryd.ntmps12
            go_wp2
            go_ret
            exact ⟨by rw [← HR.out]; rfl, HB.out⟩
          ·
            cases b5
            · go_enter Tryd.func12, Tryd.ntmps12
              go_wp2
              go_ret
              exact ⟨by rw [← HR.out]; rfl, HB.out⟩
            · go_enter Tryd.func12, Tryd.ntmps12
              go_wp2
              go_ret
              exact ⟨by rw [← HR.out]; rfl, HB.out⟩
end Go.Proofs.YtlipckpacdioiaaDoor
