/- The document's plain configuration. -/
import Derived.Test.YtbibobjkclgogaaCCheck
namespace Go.Proofs.Ytbibobjkclgogaa
open Go.RowKit
set_option linter.unusedVariables false
set_option linter.unusedSimpArgs false
set_option maxRecDepth 100000
def pl : Cfg := { m0 := fun i => if i = 0 then 2 else if i = 5 then 1 else 0, m1 := fun i => if i = 0 then 2 else if i = 4 then 1 else if i = 5 then 1 else 0, m2 := fun i => if i = 0 then 2 else if i = 4 then 1 else if i = 5 then 2 else 0, lan := 3232235777, wan := 3405803781, nb := 24, ms := 8, mm := 4, mc := 3, mb := 2, dmz := 0, uuid := ⟨#[48, 48, 48, 48, 48, 48, 48, 48, 45, 49, 49, 49, 49, 45, 50, 50, 50, 50, 45, 51, 51, 51, 51, 45, 52, 52, 52, 52, 52, 52, 52, 52, 52, 52, 52, 52]⟩ }
theorem pl_ok : CfOk pl := ⟨by decide, by decide, by decide, by decide, by decide, by decide⟩
abbrev zeroCfg : Array Value := #[.int .u8 0, .int .u8 0, .int .u8 0, .int .u8 0, .int .u8 0, .int .u8 0, .int .u8 0, .int .u8 0, .int .u8 0, .int .u8 0, .int .u8 0, .int .u8 0, .int .u8 0, .int .u8 0, .int .u8 0, .int .u8 0, .int .u8 0, .int .u8 0, .int .u32 0, .int .u32 0, .int .i64 0, .int .i64 0, .int .i64 0, .int .i64 0, .int .i64 0, .slice none 0 0, .int .u32 0, .string ⟨#[]⟩]
theorem pl_one : (pl.cells none 0 0).all (·.oneCell') = true := by kernel_rfl
/-- A configuration, stored whole. -/
theorem st_cfg {ops : Array Oper} {rest : List Oper} {o : Oper} {a : Act} {w : World} {Q : Exit → Act → World → Prop} (x y : Operand) (ho : o.op = .store 28 x y) (hw : Region.wanted o (yielded ops a.tmps) = true)
    (g : Nat) (hx : a.eval x = .pointer (some ⟨g, 0, none⟩)) (c cs : Array Value) (hy : a.eval y = .agg cs) (hg : w.heap[g]? = some (.cells c 28 (0, 0))) (hc : c.size = 28) (hs : cs.size = 28) (h1 : cs.all (·.oneCell') = true)
    {N : Nat} {w0 : World} (hB : Below N w0 w) (hN : N ≤ g)
    (h : ∀ w', w'.heap[g]? = some (.cells cs 28 (0, 0)) → Below N w0 w' → (∀ k, k ≠ g → w'.heap[k]? = w.heap[k]?) → w'.heap.size = w.heap.size → wpList Try.prog ops Q rest (a.put o.dst undef) w') : wpList Try.prog ops Q (o :: rest) a w := by
  refine BigFrame.wpList_want hw fun K hK => ?_
  unfold Oper.wp execOp
  simp only [ho, hx, hy, Instr.storeAt, Instr.sureAddr, Sem.run_bind, Sem.run_pure, Result.andThen_ok, run_storeVar_row w g 28 28 c cs hg (by rw [hs]; exact info_cfg) (by omega) h1]
  exact hK _ _ (h _ (setRow_heap w g c cs _ _ hg) (below_setRow hB hN cs) (fun k hk => setRow_other w g k cs hk) (setRow_size w g cs))
set_option maxHeartbeats 2000000 in
theorem plain_any (w : World) : Calls Try.prog 18 #[] w fun e w' => e = .returned (.agg (pl.cells none 0 0)) ∧ Below w.heap.size w w' := by
  have HZ := hide (heap_alloc_new w (.cells zeroCfg 28))
  have HB := hide ((Below.refl w.heap.size w).alloc (Nat.le_refl _) (.cells zeroCfg 28))
  go_enter Try.func18, Try.ntmps18
  go_wp2_with ((refine st_cfg (o := ⟨none, _, _, _, _, _⟩) (.tmp 0) (.tmp 4) rfl (by rfl) w.heap.size rfl zeroCfg (pl.cells none 0 0) (by rfl) HZ.out rfl rfl pl_one HB.out (Nat.le_refl _) ?_; rintro w2 hr2 hb2 ho2 hs2; have HR2 := hide hr2; have HB2 := hide hb2; clear hr2 hb2 ho2 hs2; try simp only [Act.put, List.setIfInBounds_toArray, List.set_cons_zero, List.set_cons_succ]))
  exact bodyPost_ret (v := .agg (pl.cells none 0 0)) (results_cell_row Try.results18 _ w2 w.heap.size _ _ _ _ rfl HR2.out Try.underlying28 rfl info_cfg) rfl ⟨rfl, HB2.out⟩
end Go.Proofs.Ytbibobjkclgogaa
