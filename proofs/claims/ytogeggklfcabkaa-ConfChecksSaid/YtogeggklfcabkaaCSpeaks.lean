/- The example of layer 9. -/
import Derived.Test.YtogeggklfcabkaaCHost
import Derived.Deep.Cut
namespace Go.Proofs.Ytogeggklfcabkaa
open Go.RowKit
set_option linter.unusedVariables false
set_option linter.unusedSimpArgs false
set_option maxRecDepth 100000
abbrev exCells : Array Value := #[.int .u8 0, .int .u8 0, .int .u8 0, .int .u8 0, .int .u8 0, .int .u8 0, .int .u8 0, .int .u8 0, .int .u8 0, .int .u8 0, .int .u8 0, .int .u8 0, .int .u8 0, .int .u8 0, .int .u8 0, .int .u8 0, .int .u8 0, .int .u8 0, .int .u32 3232235777, .int .u32 0, .int .i64 24, .int .i64 0, .int .i64 0, .int .i64 0, .int .i64 0, .slice none 0 0, .int .u32 0, .string ⟨#[]⟩]
theorem ex_cf : CfH exCells 3232235777 24 := ⟨rfl, rfl, rfl⟩
theorem ex1 : hostB 3232235777 24 3232235783 = true := by decide +kernel
theorem ex2 : hostB 3232235777 24 3232235776 = false := by decide +kernel
theorem ex3 : hostB 3232235777 24 3232235777 = false := by decide +kernel
theorem ex4 : hostB 3232235777 24 3232236031 = false := by decide +kernel
theorem ex5 : hostB 3232235777 24 3232236039 = false := by decide +kernel
theorem cells_all {w : World} {R : Nat} {t : TypeId} {cs : Array Value} (h : w.heap[R]? = some (.cells cs t (0, 0))) : ∀ i, w.cell? ⟨R, i, none⟩ = cs[i]? := by
  intro i; simp [World.cell?, h]
theorem below_blk {w w' : World} {R B : Nat} {o : Obj} (h : Below B w w') (ho : w.heap[R]? = some o) (hB : w.heap.size ≤ B) : w'.heap[R]? = some o := (h.block R (Nat.lt_of_lt_of_le (lt_of_block ho) hB)).trans ho
/-- A whole block, loaded. -/
theorem run_lcf {P : Program} {w : World} {B : Nat} {cs : Array Value} {t : TypeId} (h : w.heap[B]? = some (.cells cs t (0, 0))) {n : Nat} (hn : cs.size = n) :
    (loadCellsFrom ⟨B, 0, none⟩ 0 n #[]).run P w = .ok cs w := by
  subst hn
  have := run_loadCells_list (P := P) w ⟨B, 0, none⟩ cs.toList (fun j v hv => by
    have hadd : (⟨B, 0, none⟩ : Addr).add j = ⟨B, j, none⟩ := by unfold Addr.add; split <;> simp_all
    rw [hadd, cell_of_row _ _ j cs t (0, 0) h]
    simpa using hv)
  simpa [loadCells] using this
theorem info_cfg : (Try.prog.info? 28).map (·.size) = some 28 := by kernel_rfl
/-- A configuration, loaded whole. -/
theorem ld_cfg {ops : Array Oper} {rest : List Oper} {o : Oper} {a : Act} {w : World} {Q : Exit → Act → World → Prop} (x : Operand) (ho : o.op = .load 28 x) (hw : Region.wanted o (yielded ops a.tmps) = true)
    (g : Nat) (hx : a.eval x = .pointer (some ⟨g, 0, none⟩)) (cs : Array Value) (hg : w.heap[g]? = some (.cells cs 28 (0, 0))) (hs : cs.size = 28)
    (h : wpList Try.prog ops Q rest (a.put o.dst (.agg cs)) w) : wpList Try.prog ops Q (o :: rest) a w :=
  BigFrame.wpList_want hw fun K hK => wp_load_row 28 x ho g hx _ cs (0, 0) _ hg Try.underlying28 rfl (by rw [hs]; exact info_cfg) (hK _ _ h)
def exB : Array Value := exCells
set_option maxHeartbeats 3000000 in
theorem speaks9_any (w : World) : Calls Try.prog 8 #[] w fun e w' => e = .returned (.bool true) ∧ Below w.heap.size w w' := by
  obtain ⟨cf, hcf⟩ : ∃ cf, exCells = cf := ⟨_, rfl⟩
  have hsz : cf.size = 28 := by rw [← hcf]; rfl
  have hb := heap_alloc_new w (.cells cf 28)
  have hal : Below w.heap.size w (w.alloc (.cells cf 28)) := (Below.refl _ _).alloc (Nat.le_refl _) _
  have HE := hide (fun (a : Nat) (r : Bool) (V : World) (h : a ≤ 4294967295) (hr : hostB 3232235777 24 a = r) => (by have := host_any cf 3232235777 24 a V (by rw [← hcf]; exact ex_cf) (by omega) h; rw [hr] at this; exact this : Calls Try.prog 14 #[.agg cf, .int .u32 (a : Int)] V fun e w' => e = .returned (.bool r) ∧ Below V.heap.size V w'))
  have HE1 := hide (fun V => HE.out 3232235783 true V (by omega) ex1)
  have HE2 := hide (fun V => HE.out 3232235776 false V (by omega) ex2)
  have HE3 := hide (fun V => HE.out 3232235777 false V (by omega) ex3)
  have HE4 := hide (fun V => HE.out 3232236031 false V (by omega) ex4)
  have HE5 := hide (fun V => HE.out 3232236039 false V (by omega) ex5)
  have HB0 := hide hb
  have HA0 := hide hal
  have HCF := hide hcf
  clear hb hal HE hcf
  go_enter Try.func8, Try.ntmps8
  go_upto_region 1 with (fail)
  go_step
  go_step
  go_step
  rw [show (#[.int .u8 0, .int .u8 0, .int .u8 0, .int .u8 0, .int .u8 0, .int .u8 0, .int .u8 0, .int .u8 0, .int .u8 0, .int .u8 0, .int .u8 0, .int .u8 0, .int .u8 0, .int .u8 0, .int .u8 0, .int .u8 0, .int .u8 0, .int .u8 0, .int .u32 3232235777, .int .u32 0, .int .i64 24, .int .i64 0, .int .i64 0, .int .i64 0, .int .i64 0, .slice none 0 0, .int .u32 0, .string ⟨#[]⟩] : Array Value) = cf from HCF.out]
  have hst := run_storeCells_new (P := Try.prog) w 28 #[.int .u8 0, .int .u8 0, .int .u8 0, .int .u8 0, .int .u8 0, .int .u8 0, .int .u8 0, .int .u8 0, .int .u8 0, .int .u8 0, .int .u8 0, .int .u8 0, .int .u8 0, .int .u8 0, .int .u8 0, .int .u8 0, .int .u8 0, .int .u8 0, .int .u32 0, .int .u32 0, .int .i64 0, .int .i64 0, .int .i64 0, .int .i64 0, .int .i64 0, .slice none 0 0, .int .u32 0, .string ⟨#[]⟩] cf (by rw [HCF.out.symm]; kernel_rfl) (by rw [hsz]; rfl) (by rw [HCF.out.symm]; kernel_rfl)
  go_upto_region 2 with (fail)
  obtain ⟨B, w1, hB, hw1, H1, HA1⟩ : ∃ B wt, w.heap.size = B ∧ w.alloc (.cells cf 28) = wt ∧ Hid (wt.heap[B]? = some (.cells cf 28 (0, 0))) ∧ Hid (Below w.heap.size w wt) := ⟨_, _, rfl, rfl, HB0, HA0⟩
  rw [hw1, hB]
  have HSZ := hide hsz
  clear HB0 HA0 hB hw1 HCF hst hsz
  go_wp2_with ((refine ld_cfg (.tmp 1) rfl (by rfl) B rfl cf H1.out HSZ.out ?_; try simp only [Act.put, List.setIfInBounds_toArray, List.set_cons_zero, List.set_cons_succ]))
  refine (HE1.out _).mono ?_
  rintro e w2 ⟨rfl, b1⟩
  have H2 := hide (below_blk b1 H1.out (Nat.le_refl _))
  have HA2 := hide (HA1.out.trans (b1.mono HA1.out.size))
  clear b1 H1 HA1 HE1
  go_wp2_with ((refine ld_cfg (.tmp 1) rfl (by rfl) B rfl cf H2.out HSZ.out ?_; try simp only [Act.put, List.setIfInBounds_toArray, List.set_cons_zero, List.set_cons_succ]))
  refine (HE2.out _).mono ?_
  rintro e w3 ⟨rfl, b2⟩
  have H3 := hide (below_blk b2 H2.out (Nat.le_refl _))
  have HA3 := hide (HA2.out.trans (b2.mono HA2.out.size))
  clear b2 H2 HA2 HE2
  go_wp2_with ((refine ld_cfg (.tmp 1) rfl (by rfl) B rfl cf H3.out HSZ.out ?_; try simp only [Act.put, List.setIfInBounds_toArray, List.set_cons_zero, List.set_cons_succ]))
  refine (HE3.out _).mono ?_
  rintro e w4 ⟨rfl, b3⟩
  have H4 := hide (below_blk b3 H3.out (Nat.le_refl _))
  have HA4 := hide (HA3.out.trans (b3.mono HA3.out.size))
  clear b3 H3 HA3 HE3
  go_wp2_with ((refine ld_cfg (.tmp 1) rfl (by rfl) B rfl cf H4.out HSZ.out ?_; try simp only [Act.put, List.setIfInBounds_toArray, List.set_cons_zero, List.set_cons_succ]))
  refine (HE4.out _).mono ?_
  rintro e w5 ⟨rfl, b4⟩
  have H5 := hide (below_blk b4 H4.out (Nat.le_refl _))
  have HA5 := hide (HA4.out.trans (b4.mono HA4.out.size))
  clear b4 H4 HA4 HE4
  go_wp2_with ((refine ld_cfg (.tmp 1) rfl (by rfl) B rfl cf H5.out HSZ.out ?_; try simp only [Act.put, List.setIfInBounds_toArray, List.set_cons_zero, List.set_cons_succ]))
  refine (HE5.out _).mono ?_
  rintro e w6 ⟨rfl, b5⟩
  have H6 := hide (below_blk b5 H5.out (Nat.le_refl _))
  have HA6 := hide (HA5.out.trans (b5.mono HA5.out.size))
  clear b5 H5 HA5 HE5
  go_wp2_with ((refine ld_cfg (.tmp 1) rfl (by rfl) B rfl cf H6.out HSZ.out ?_; try simp only [Act.put, List.setIfInBounds_toArray, List.set_cons_zero, List.set_cons_succ]))
  go_ret
  exact ⟨rfl, HA6.out⟩
end Go.Proofs.Ytogeggklfcabkaa
