/- inet: what inet.Read answers of bytes that are no packet. -/
import Derived.Test.YtlipckpacdioiaaDoorIFt
namespace Go.Proofs.YtlipckpacdioiaaDoor
open Go.RowKit
set_option linter.unusedVariables false
set_option linter.unusedSimpArgs false
set_option maxRecDepth 100000
def noP : Value := .agg #[.int .u8 0, .int .u8 0, .int .u16 0, .int .u32 0, .int .u32 0, .slice none 0 0]
set_option maxHeartbeats 800000 in
theorem rd_short (w : World) (a : Option Addr) (n cap : Nat) (h : n < 20) :
    Calls Tryd.prog 13 #[.slice a n cap] w fun e w' => e = .returned (.tuple #[noP, .int .i64 10]) ∧ Below w.heap.size w w' := by
  unfold noP
  go_enter Tryd.func13, Tryd.ntmps13
  go_wp2
  refine bodyPost_ret (v := .tuple #[.agg #[.int .u8 0, .int .u8 0, .int .u16 0, .int .u32 0, .int .u32 0, .slice none 0 0], .int .i64 10]) (by simp [results, Tryd.results13, go_sem]) rfl ⟨rfl, ?_⟩
  repeat (first | exact Below.refl _ _ | refine Below.setCell ?_ (Nat.le_refl _) _ | exact Below.alloc (Below.refl _ _) (Nat.le_refl _) _)
set_option maxHeartbeats 1600000 in
theorem rd_bad (w : World) (a : Option Addr) (xs : List Int) (n cap x F : Nat) (hr : Row .u8 w a xs) (hl : xs.length = n) (hnc : n ≤ cap) (hno : a = none → cap = 0) (hb : ∀ x ∈ xs, 0 ≤ x ∧ x ≤ 255) (h20 : 20 ≤ n) (hx : xs[0]? = some (x : Int))
    (hF : faultI x (fld xs 2 2) n (csum (xs.take 20) == 0) (fld xs 6 2) = (F : Int)) (hF0 : F ≠ 0) :
    Calls Tryd.prog 13 #[.slice a n cap] w fun e w' => e = .returned (.tuple #[noP, .int .i64 (F : Int)]) ∧ Below w.heap.size w w' := by
  have HNU := hide (fun (W : World) (h : Row .u8 W a xs) => number_any a xs n cap 2 W h hl hnc hno hb (by omega) (by omega))
  have hM := fld_lt xs 2 2 hb
  have HFT := hide (fun (W : World) (h : Row .u8 W a xs) => fault_any a xs n cap x (fld xs 2 2) W h hl hnc hno hb h20 (by omega) hx)
  rw [hF] at HFT
  have HR := hide hr
  generalize fld xs 2 2 = s at *
  have hws : wrap64 (s : Int) = (s : Int) := by unfold wrap64; omega
  have hFI : ((F : Int) != 0) = true := by simp; omega
  clear hr hb hx hF hl hno
  unfold noP
  go_enter Tryd.func13, Tryd.ntmps13
  go_wp2_with fail
  obtain ⟨R, wq, hR, hq1, hRs, hbel, hRh⟩ : ∃ R wq, w.heap.size = R ∧ w.alloc (.cells #[.int .u8 0, .int .u8 0, .int .u16 0, .int .u32 0, .int .u32 0, .slice none 0 0] 27) = wq ∧ wq.heap.size = R + 1 ∧ Below w.heap.size w wq ∧ wq.heap[R]? = some (.cells #[.int .u8 0, .int .u8 0, .int .u16 0, .int .u32 0, .int .u32 0, .slice none 0 0] 27 (0, 0)) :=
    ⟨_, _, rfl, rfl, by simp, (Below.refl _ _).alloc (Nat.le_refl _) _, heap_alloc_new w _⟩
  rw [hq1, hR]
  have HRW := hide hR
  have HRq := hide (HR.out.below hbel (Nat.le_refl _))
  have HBq := hide hbel
  have HRh := hide hRh
  clear hq1 hR hRs hbel hRh
  refine (HNU.out wq HRq.out).mono ?_
  rintro e w1 ⟨rfl, b1⟩
  have HR1 := hide (HRq.out.below b1 (Nat.le_refl _))
  have HRh1 := hide (below_block b1 HRh.out (Nat.le_refl _))
  have HB1 := hide (HBq.out.trans (b1.mono HBq.out.size))
  clear b1
  go_wp2_with fail
  refine (HFT.out w1 HR1.out).mono ?_
  rintro e w2 ⟨rfl, b2⟩
  have HRh2 := below_block b2 HRh1.out (Nat.le_refl _)
  have HB2 := hide (HB1.out.trans (b2.mono HB1.out.size))
  clear b2
  have r0 := cell_at HRh2 0 rfl
  have r1 := cell_at HRh2 1 rfl
  have r2 := cell_at HRh2 2 rfl
  have r3 := cell_at HRh2 3 rfl
  have r4 := cell_at HRh2 4 rfl
  have r5 := cell_at HRh2 5 rfl
  have rf := free_at HRh2
  have hRw : w.heap.size ≤ R := by have := HRW.out; omega
  clear HRh2
  go_wp2
  refine bodyPost_ret (v := .tuple #[.agg #[.int .u8 0, .int .u8 0, .int .u16 0, .int .u32 0, .int .u32 0, .slice none 0 0], .int .i64 (F : Int)]) (by simp [results, Tryd.results13, go_sem, r0, r1, r2, r3, r4, r5]) rfl ⟨rfl, ?_⟩
  repeat (with_reducible refine Below.setCell ?_ (by assumption) _)
  exact HB2.out
end Go.Proofs.YtlipckpacdioiaaDoor
