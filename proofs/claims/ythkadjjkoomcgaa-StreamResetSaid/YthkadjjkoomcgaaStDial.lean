/- How a connection begins. -/
import Derived.Test.YthkadjjkoomcgaaStConn
namespace Go.Proofs.Ythkadjjkoomcgaa
open Go.RowKit
set_option linter.unusedVariables false
set_option linter.unusedSimpArgs false
set_option maxRecDepth 100000
def out0 (own : Int) (win : Int) : Cn := { frm := 0, to := 0, ph := 0, num := own, una := 0, nxt := 1, most := 1, fin := 1, ob := .slice none 0 0, closed := false, win := win, inum := 0, seen := 0, ib := .slice none 0 0, ended := false, on := false, at_ := 0, tries := 0 }
def dialed (frm to own : Int) : Cn := { out0 own 0 with frm := frm, to := to, on := true, at_ := 3 }
def BeganAns (c : Cn) (sg : Array Value) (w : World) (e : Ending) (w' : World) : Prop := ∃ B R, e = .returned (.tuple #[.pointer (some ⟨B, 0, none⟩), .slice (some ⟨R, 0, none⟩) 1 1]) ∧ w.heap.size ≤ B ∧ CnAt w' B c ∧ w.heap.size ≤ R ∧ w'.heap[R]? = some (.cells sg 44 (0, 0)) ∧ Below w.heap.size w w'
theorem dialed_syn (frm to own : Int) (B : Nat) (w : World) (hc : CnAt w B (dialed frm to own)) :
    Calls Try.prog 23 #[.pointer (some ⟨B, 0, none⟩)] w (SegAns w frm to (own % 4294967296) 0 2 4096 [] 0) := by
  have h := syn_any B _ none 0 0 rfl (by omega) w hc
  have e1 : (dialed frm to own).seq 0 = own % 4294967296 := by simp [dialed, out0, Cn.seq]
  rw [e1] at h
  exact h
set_option maxHeartbeats 1000000 in
theorem dial_any (frm to own : Int) (w : World) :
    Calls Try.prog 8 #[.int .u16 frm, .int .u16 to, .int .u32 own, .int .u64 0] w fun e w' => ∃ a cp, BeganAns (dialed frm to own) #[.int .u16 frm, .int .u16 to, .int .u32 (own % 4294967296), .int .u32 0, .int .u8 2, .int .u16 4096, .int .u16 0, .slice none 0 0, .slice a 0 cp] w e w' := by
  go_enter Try.func8, Try.ntmps8
  go_wp2_with fail
  refine (newOut_any own _).mono ?_
  rintro e w1 ⟨rfl, b1⟩
  have HB1 := hide b1
  obtain ⟨wq, hqq, hbel, hnew⟩ : ∃ V, w1.alloc (.cells ({ out0 own 0 with frm := frm, to := to } : Cn).cs 70) = V ∧ Below w1.heap.size w1 V ∧ CnAt V w1.heap.size { out0 own 0 with frm := frm, to := to } := ⟨_, rfl, (Below.refl _ _).alloc (Nat.le_refl _) _, heap_alloc_new _ _⟩
  unfold Cn.cs out0 at hqq
  dsimp only at hqq
  have HQ := hide hqq
  have HB2 := hide (HB1.out.trans (hbel.mono HB1.out.size))
  have HC := hide hnew
  have HL := hide HB1.out.size
  obtain ⟨B, hB⟩ : ∃ B, w1.heap.size = B := ⟨_, rfl⟩
  rw [hB] at HC HL
  have HBB := hide hB
  clear b1 hqq hnew hbel hB
  go_upto_region 2 with (fail)
  rw [HQ.out]
  rw [HBB.out]
  clear HQ HBB
  go_wp2_with fail
  refine (set_any B _ 0 0 rfl (by omega) (by omega) (by omega) _ HC.out).mono ?_
  rintro e w2 ⟨rfl, c2, o2⟩
  have HC2 := hide c2
  have HB3 := hide (HB2.out.trans (o2.below HL.out HB2.out.size))
  clear c2 o2 HC
  go_wp2_with fail
  refine (dialed_syn frm to own B _ HC2.out).mono ?_
  rintro e w3 ⟨a', cap', rfl, o, b3⟩
  have HC3 := hide (HC2.out.below b3 (Nat.le_refl _))
  have HB4 := hide (HB3.out.trans (b3.mono HB3.out.size))
  clear o b3
  unfold sgv
  go_wp2_with fail
  go_ret2
  exact ⟨a', cap', B, w3.heap.size, rfl, HL.out, HC3.out.below ((Below.refl _ _).alloc (Nat.le_refl _) _) (Nat.le_refl _), HB4.out.size, heap_alloc_new _ _, HB4.out.alloc HB4.out.size _⟩
end Go.Proofs.Ythkadjjkoomcgaa
