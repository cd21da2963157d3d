/- What ether.Write answers. -/
import Derived.Test.YtgpmgfpmfdaecaaEye
import Derived.Deep.RegionHeld3
namespace Go.Proofs.Ytgpmgfpmfdaecaa
open Go.RowKit
set_option linter.unusedVariables false
set_option linter.unusedSimpArgs false
theorem cell_drew (w : World) (a : Addr) : w.drew.cell? a = w.cell? a := rfl
theorem cell_new1 (w : World) (cs : Array Value) (t : TypeId) (i n : Nat) (h : i < cs.size) (hn : n = w.heap.size) : (w.alloc (.cells cs t)).cell? ⟨n, i, none⟩ = some cs[i] := by
  subst hn; rw [World.cell?_alloc_at _ _ _ _ rfl]; simp [h]
theorem cell_new2 {w : World} {cs : Array Value} {t : TypeId} {i n : Nat} {v : Value} (hn : n = w.heap.size) (h : cs[i]? = some v) : (w.alloc (.cells cs t)).cell? ⟨n, i, none⟩ = some v := by
  subst hn
  obtain ⟨hi, hv⟩ := Array.getElem?_eq_some_iff.1 h
  rw [cell_new1 w cs t i _ hi rfl, hv]
theorem cell_old (w : World) (o : Obj) (b i : Nat) (h : b < w.heap.size) : (w.alloc o).cell? ⟨b, i, none⟩ = w.cell? ⟨b, i, none⟩ := World.cell?_alloc_past _ _ _ h
theorem bcell {B : Nat} {W w1 : World} (hb : Below B W w1) : ∀ b o, b < B → w1.cell? ⟨b, o, none⟩ = W.cell? ⟨b, o, none⟩ := fun b o h => hb.cell (p := ⟨b, o, none⟩) h

/-- A frame as the program has it. -/
def frameV (d0 d1 d2 d3 d4 d5 s0 s1 s2 s3 s4 s5 k : Int) (b : Value) : Array Value :=
  #[.int .u8 d0, .int .u8 d1, .int .u8 d2, .int .u8 d3, .int .u8 d4, .int .u8 d5, .int .u8 s0, .int .u8 s1, .int .u8 s2, .int .u8 s3, .int .u8 s4, .int .u8 s5, .int .u16 k, b]

/-- 'Join' of four, over a slice that holds them. -/
theorem join4_any (z V : World) (B P : Nat) (p0 p1 p2 p3 : Part) (hg : Below B z V) (hB : B ≤ V.heap.size)
    (hP : V.heap[P]? = some (.cells #[p0.v, p1.v, p2.v, p3.v] 22 (0, 0)))
    (h0 : Row .u8 V p0.1 p0.2.1 ∧ (p0.1 = none → p0.2.2 = 0)) (h1 : Row .u8 V p1.1 p1.2.1 ∧ (p1.1 = none → p1.2.2 = 0)) (h2 : Row .u8 V p2.1 p2.2.1 ∧ (p2.1 = none → p2.2.2 = 0)) (h3 : Row .u8 V p3.1 p3.2.1 ∧ (p3.1 = none → p3.2.2 = 0))
    (hlen : p0.2.1.length + p1.2.1.length + p2.2.1.length + p3.2.1.length ≤ 1099511627776) :
    Calls Try.prog 32 #[.slice (some ⟨P, 0, none⟩) 4 4] V fun e w' => ∃ a' c', e = .returned (.slice a' (p0.2.1.length + p1.2.1.length + p2.2.1.length + p3.2.1.length) c') ∧
      w'.ownsRow V.heap.size 5 1 (.slice a' (p0.2.1.length + p1.2.1.length + p2.2.1.length + p3.2.1.length) c') (p0.2.1.length + p1.2.1.length + p2.2.1.length + p3.2.1.length) ((p0.2.1 ++ p1.2.1 ++ p2.2.1 ++ p3.2.1).map (Value.int .u8)) ∧ Below B z w' := by
  have hf : flat [p0, p1, p2, p3] = p0.2.1 ++ p1.2.1 ++ p2.2.1 ++ p3.2.1 := by simp [flat]
  have hl : (flat [p0, p1, p2, p3]).length = p0.2.1.length + p1.2.1.length + p2.2.1.length + p3.2.1.length := by rw [hf]; simp [Nat.add_assoc]
  have hp : Parts V (some ⟨P, 0, none⟩) [p0, p1, p2, p3] := by
    refine ⟨fun _ => ⟨P, 0, rfl, lt_of_block hP, ?_⟩, ?_⟩
    · intro i p hi
      match i, hi with
      | 0, hi => simp at hi; subst hi; simp [World.cell?, hP]
      | 1, hi => simp at hi; subst hi; simp [World.cell?, hP]
      | 2, hi => simp at hi; subst hi; simp [World.cell?, hP]
      | 3, hi => simp at hi; subst hi; simp [World.cell?, hP]
    · intro p hp
      simp at hp
      rcases hp with rfl | rfl | rfl | rfl
      · exact h0
      · exact h1
      · exact h2
      · exact h3
  have h := join_any (some ⟨P, 0, none⟩) [p0, p1, p2, p3] 4 V hp (by rw [hl]; exact hlen) (by simp)
  rw [hl, hf] at h
  refine h.mono ?_
  rintro e w' ⟨a', c', rfl, hown, hbel⟩
  exact ⟨a', c', rfl, hown, hg.trans (hbel.mono hB)⟩

/-- 'Join' of four, over the slice that the call's own operands make. -/
theorem join4_new (w1 : World) (a0 a1 a2 a3 : Option Addr) (x0 x1 x2 x3 : List Int) (m0 m1 m2 m3 c0 c1 c2 c3 : Nat)
    (l0 : x0.length = m0) (l1 : x1.length = m1) (l2 : x2.length = m2) (l3 : x3.length = m3)
    (h0 : Row .u8 w1 a0 x0) (n0 : a0 = none → c0 = 0) (h1 : Row .u8 w1 a1 x1) (n1 : a1 = none → c1 = 0) (h2 : Row .u8 w1 a2 x2) (n2 : a2 = none → c2 = 0) (h3 : Row .u8 w1 a3 x3) (n3 : a3 = none → c3 = 0)
    (hlen : m0 + m1 + m2 + m3 ≤ 1099511627776) :
    Calls Try.prog 32 #[.slice (some ⟨w1.heap.size, 0, none⟩) 4 4] (w1.alloc (.cells #[.slice a0 m0 c0, .slice a1 m1 c1, .slice a2 m2 c2, .slice a3 m3 c3] 22)) fun e w' => ∃ a' c', e = .returned (.slice a' (m0 + m1 + m2 + m3) c') ∧
      w'.ownsRow w1.heap.size 5 1 (.slice a' (m0 + m1 + m2 + m3) c') (m0 + m1 + m2 + m3) ((x0 ++ x1 ++ x2 ++ x3).map (Value.int .u8)) ∧ Below w1.heap.size w1 w' := by
  subst l0; subst l1; subst l2; subst l3
  have hb : Below w1.heap.size w1 (w1.alloc (.cells #[.slice a0 x0.length c0, .slice a1 x1.length c1, .slice a2 x2.length c2, .slice a3 x3.length c3] 22)) := (Below.refl _ _).alloc (Nat.le_refl _) _
  refine (join4_any w1 _ w1.heap.size w1.heap.size (a0, x0, c0) (a1, x1, c1) (a2, x2, c2) (a3, x3, c3) hb hb.size (heap_alloc_new _ _) ⟨h0.below hb (Nat.le_refl _), n0⟩ ⟨h1.below hb (Nat.le_refl _), n1⟩ ⟨h2.below hb (Nat.le_refl _), n2⟩ ⟨h3.below hb (Nat.le_refl _), n3⟩ hlen).mono ?_
  rintro e w' ⟨a', c', rfl, hown, hbel⟩
  exact ⟨a', c', rfl, owns_mono hown hb.size, hbel⟩
theorem num2_any (n : Nat) (w : World) (hn : n < 18446744073709551616) :
    Calls Try.prog 33 #[.int .i64 2, .int .u64 n] w fun e w' => e = .returned (.slice (some ⟨w.heap.size, 0, none⟩) 2 2) ∧
      w'.ownsRow w.heap.size 5 1 (.slice (some ⟨w.heap.size, 0, none⟩) 2 2) 2 ((numB 2 n).map (Value.int .u8)) ∧ Below w.heap.size w w' := num_any 2 n w hn
theorem num4_any (n : Nat) (w : World) (hn : n < 18446744073709551616) :
    Calls Try.prog 33 #[.int .i64 4, .int .u64 n] w fun e w' => e = .returned (.slice (some ⟨w.heap.size, 0, none⟩) 4 4) ∧
      w'.ownsRow w.heap.size 5 1 (.slice (some ⟨w.heap.size, 0, none⟩) 4 4) 4 ((numB 4 n).map (Value.int .u8)) ∧ Below w.heap.size w w' := num_any 4 n w hn
theorem row_lit {w : World} {g : Nat} {cs : Array Value} {t : TypeId} {o : Nat} {xs : List Int} (h : w.heap[g]? = some (.cells cs t (0, 0))) (hx : ∀ i, i < xs.length → cs[o + i]? = some (.int .u8 (xs[i]?.getD 0))) : Row .u8 w (some ⟨g, o, none⟩) xs := by
  intro _
  refine ⟨g, o, rfl, lt_of_block h, fun i hi => ?_⟩
  simp only [World.cell?, h]
  exact hx i hi
def dstB (d0 d1 d2 d3 d4 d5 : Int) : List Int := [d0, d1, d2, d3, d4, d5]
theorem frame_dst {w : World} {g : Nat} {t : TypeId} {d0 d1 d2 d3 d4 d5 s0 s1 s2 s3 s4 s5 k : Int} {b : Value} (h : w.heap[g]? = some (.cells (frameV d0 d1 d2 d3 d4 d5 s0 s1 s2 s3 s4 s5 k b) t (0, 0))) : Row .u8 w (some ⟨g, 0, none⟩) [d0, d1, d2, d3, d4, d5] :=
  row_lit h (fun i hi => by
    match i, hi with
    | 0, _ => rfl
    | 1, _ => rfl
    | 2, _ => rfl
    | 3, _ => rfl
    | 4, _ => rfl
    | 5, _ => rfl)
theorem frame_src {w : World} {g : Nat} {t : TypeId} {d0 d1 d2 d3 d4 d5 s0 s1 s2 s3 s4 s5 k : Int} {b : Value} (h : w.heap[g]? = some (.cells (frameV d0 d1 d2 d3 d4 d5 s0 s1 s2 s3 s4 s5 k b) t (0, 0))) : Row .u8 w (some ⟨g, 6, none⟩) [s0, s1, s2, s3, s4, s5] :=
  row_lit h (fun i hi => by
    match i, hi with
    | 0, _ => rfl
    | 1, _ => rfl
    | 2, _ => rfl
    | 3, _ => rfl
    | 4, _ => rfl
    | 5, _ => rfl)
def frameB (d0 d1 d2 d3 d4 d5 s0 s1 s2 s3 s4 s5 : Int) (k : Nat) (body : List Int) : List Int := [d0, d1, d2, d3, d4, d5] ++ [s0, s1, s2, s3, s4, s5] ++ numB 2 k ++ body

set_option maxRecDepth 100000 in
set_option maxHeartbeats 1600000 in
theorem ewrite_ok (w : World) (d0 d1 d2 d3 d4 d5 s0 s1 s2 s3 s4 s5 : Int) (k : Nat) (ba : Option Addr) (body : List Int) (n bc : Nat) (hr : Row .u8 w ba body) (hn : ba = none → bc = 0) (hbl : body.length = n) (h1 : n ≤ 1500) (h2 : 1536 ≤ k) (h3 : k ≤ 65535) :
    Calls Try.prog 10 #[.agg #[.int .u8 d0, .int .u8 d1, .int .u8 d2, .int .u8 d3, .int .u8 d4, .int .u8 d5, .int .u8 s0, .int .u8 s1, .int .u8 s2, .int .u8 s3, .int .u8 s4, .int .u8 s5, .int .u16 k, .slice ba n bc]] w fun e w' => ∃ a c,
      e = .returned (.tuple #[.slice a (14 + n) c, .int .i64 0]) ∧ w'.ownsRow w.heap.size 5 1 (.slice a (14 + n) c) (14 + n) ((frameB d0 d1 d2 d3 d4 d5 s0 s1 s2 s3 s4 s5 k body).map (Value.int .u8)) ∧ Below w.heap.size w w' := by
  have HR := hide hr
  have HN := hide hn
  have HL := hide hbl
  clear hr hn hbl
  go_enter Try.func10, Try.ntmps10
  go_wp2_with fail
  obtain ⟨B0, wq, hB, hq, hlt, hbel, hheap⟩ : ∃ B0 wq, w.heap.size = B0 ∧ w.alloc (.cells #[.int .u8 d0, .int .u8 d1, .int .u8 d2, .int .u8 d3, .int .u8 d4, .int .u8 d5, .int .u8 s0, .int .u8 s1, .int .u8 s2, .int .u8 s3, .int .u8 s4, .int .u8 s5, .int .u16 k, .slice ba n bc] 28) = wq ∧ B0 < wq.heap.size ∧ Below w.heap.size w wq ∧
      wq.heap[B0]? = some (.cells (frameV d0 d1 d2 d3 d4 d5 s0 s1 s2 s3 s4 s5 k (.slice ba n bc)) 28 (0, 0)) := ⟨_, _, rfl, rfl, by simp, (Below.refl _ _).alloc (Nat.le_refl _) _, heap_alloc_new _ _⟩
  rw [hq, hB]
  have HB := hide hB
  have c12 : wq.cell? ⟨B0, 12, none⟩ = some (.int .u16 k) := by simp only [World.cell?, hheap]; rfl
  have c13 : wq.cell? ⟨B0, 13, none⟩ = some (.slice ba n bc) := by simp only [World.cell?, hheap]; rfl
  have R0 := hide (frame_dst hheap)
  have R1 := hide (frame_src hheap)
  have R2 := hide (HR.out.below hbel (Nat.le_refl _))
  have hcw : IntKind.u64.wrap (k : Int) = (k : Int) := wraps_u64 _ (by omega) (by omega)
  clear hq hB hheap
  go_region_held3 (fun w' => w'.cell? ⟨B0, 12, none⟩ = some (.int .u16 k) ∧ w'.cell? ⟨B0, 13, none⟩ = some (.slice ba n bc)) (go_keep) (first
    | (go_at_call 33; (with_reducible refine (num2_any k _ ?_).mono ?_); omega; rintro e w1 ⟨rfl, hown, hb1⟩; have k12 := (bcell hb1 B0 12 hlt).trans c12; have k13 := (bcell hb1 B0 13 hlt).trans c13; have hbq : Below wq.heap.size wq w1 := (Below.refl _ _).drew.trans hb1; have O1 := hide hown; have B1 := hide hbq; clear hown hb1 hbq)
    | (go_at_call 32; with_reducible refine (join4_new w1 (some ⟨B0, 0, none⟩) (some ⟨B0, 6, none⟩) (some ⟨wq.heap.size, 0, none⟩) ba [d0, d1, d2, d3, d4, d5] [s0, s1, s2, s3, s4, s5] (numB 2 k) body 6 6 2 n 6 6 2 bc rfl rfl rfl HL.out (R0.out.below B1.out (Nat.le_refl _)) (fun h => by cases h) (R1.out.below B1.out (Nat.le_refl _)) (fun h => by cases h) (Row.of_owns O1.out) (fun h => by cases h) (R2.out.below B1.out (Nat.le_refl _)) HN.out (by omega)).mono ?_; rintro e w2 ⟨a2, c2, rfl, hown2, hb2⟩; have hlt1 : B0 < w1.heap.size := Nat.lt_of_lt_of_le hlt B1.out.size; have k12' := (bcell hb2 B0 12 hlt1).trans k12; have k13' := (bcell hb2 B0 13 hlt1).trans k13))
  have hbw : Below w.heap.size w w2 := (hbel.trans (B1.out.mono hbel.size)).trans (hb2.mono (Nat.le_trans hbel.size B1.out.size))
  have O2 := hide (owns_mono hown2 (Nat.le_trans hbel.size B1.out.size))
  clear hown2 k12 k13 k12' k13' c12 c13
  go_wp2
  go_ret2
  rw [show 6 + 6 + 2 + n = 14 + n by omega] at *
  exact ⟨a2, c2, rfl, O2.out, hbw⟩
end Go.Proofs.Ytgpmgfpmfdaecaa
