/- http: what is told. -/
import Derived.Test.YtbiblaeocbcfhaaGreatDoorZTake
import Derived.Test.YtbiblaeocbcfhaaGreatDoorZBd
namespace Go.Proofs.YtbiblaeocbcfhaaGreatDoor
open Go.RowKit Go.Deep
set_option linter.unusedVariables false
set_option linter.unusedSimpArgs false
set_option maxRecDepth 100000
def tcells (t : Told) (tf tb : Value) : Array Value := #[.int .i64 (t.status : Int), .string (bs t.rq.me), .string (bs t.rq.ta), .int .i64 (t.rq.minor : Int), tf, tb, .bool t.rq.keep]
/-- What telling answers. -/
def TellTo (B : Nat) (p : PM) (fv bv : Value) (s : Nat) (w : World) (e : Ending) (w' : World) : Prop :=
  ∃ tf tb, e = .returned (.agg (tcells (tellM p s).2 tf tb)) ∧ At w' B (tellM p s).1 (.slice none 0 0) (.slice none 0 0) (.slice none 0 0) ∧ OnlyS (fun k => k = B) w w' ∧ FV w' tf (tellM p s).2.rq.fs ∧ U8 w' tb (tellM p s).2.rq.body ∧ ((tf = fv ∧ tb = bv) ∨ (tf = .slice none 0 0 ∧ tb = .slice none 0 0))
def elev (w : World) (B : Nat) (_ : Nat) : World := ((((((((((w.setCell ⟨B, 0, none⟩ (.int .i64 0)).setCell ⟨B, 1, none⟩ (.slice none 0 0)).setCell ⟨B, 2, none⟩ (.int .i64 0)).setCell ⟨B, 3, none⟩ (.bool false)).setCell ⟨B, 4, none⟩ (.int .i64 0)).setCell ⟨B, 5, none⟩ (.string ⟨#[]⟩)).setCell ⟨B, 6, none⟩ (.string ⟨#[]⟩)).setCell ⟨B, 7, none⟩ (.int .i64 0)).setCell ⟨B, 8, none⟩ (.slice none 0 0)).setCell ⟨B, 9, none⟩ (.slice none 0 0)).setCell ⟨B, 10, none⟩ (.bool false)
theorem results_cell {P : Program} {fn : Func} {p : Tmp} {ty : TypeId} (h : fn.results = #[.cell p ty]) (tmps : Array Value) (w : World) (g : Nat) (t : TypeId) (cs : Array Value) (fr : Nat × Nat) (d : TypeDesc)
    (hp : tmps.getD p undef = .pointer (some ⟨g, 0, none⟩)) (hg : w.heap[g]? = some (.cells cs t fr))
    (hu : P.underlying ty = some d) (hd : (match d with | .struct _ | .array _ _ => true | _ => false) = true) (hi : (P.info? ty).map (·.size) = some cs.size) :
    (results fn tmps).run P w = .ok (.agg cs) w := by
  have hp' : tmps[p]?.getD undef = .pointer (some ⟨g, 0, none⟩) := by simpa using hp
  simp [results, h, hp', asAddr, run_loadVar_row w g t ty cs fr d hg hu hd hi]
theorem elev_blk {w : World} {B : Nat} {T : TypeId} {a0 a1 a2 a3 a4 a5 a6 a7 a8 a9 a10 : Value} (h : w.heap[B]? = some (.cells #[a0, a1, a2, a3, a4, a5, a6, a7, a8, a9, a10] T (0, 0))) : (elev w B 0).heap[B]? = some (.cells #[.int .i64 0, .slice none 0 0, .int .i64 0, .bool false, .int .i64 0, .string ⟨#[]⟩, .string ⟨#[]⟩, .int .i64 0, .slice none 0 0, .slice none 0 0, .bool false] T (0, 0)) := by
  have h0 : (w.setCell ⟨B, 0, none⟩ (.int .i64 0)).heap[B]? = some (.cells #[.int .i64 0, a1, a2, a3, a4, a5, a6, a7, a8, a9, a10] T (0, 0)) := set_block h 0 (.int .i64 0)
  have h1 : ((w.setCell ⟨B, 0, none⟩ (.int .i64 0)).setCell ⟨B, 1, none⟩ (.slice none 0 0)).heap[B]? = some (.cells #[.int .i64 0, .slice none 0 0, a2, a3, a4, a5, a6, a7, a8, a9, a10] T (0, 0)) := set_block h0 1 (.slice none 0 0)
  have h2 : (((w.setCell ⟨B, 0, none⟩ (.int .i64 0)).setCell ⟨B, 1, none⟩ (.slice none 0 0)).setCell ⟨B, 2, none⟩ (.int .i64 0)).heap[B]? = some (.cells #[.int .i64 0, .slice none 0 0, .int .i64 0, a3, a4, a5, a6, a7, a8, a9, a10] T (0, 0)) := set_block h1 2 (.int .i64 0)
  have h3 : ((((w.setCell ⟨B, 0, none⟩ (.int .i64 0)).setCell ⟨B, 1, none⟩ (.slice none 0 0)).setCell ⟨B, 2, none⟩ (.int .i64 0)).setCell ⟨B, 3, none⟩ (.bool false)).heap[B]? = some (.cells #[.int .i64 0, .slice none 0 0, .int .i64 0, .bool false, a4, a5, a6, a7, a8, a9, a10] T (0, 0)) := set_block h2 3 (.bool false)
  have h4 : (((((w.setCell ⟨B, 0, none⟩ (.int .i64 0)).setCell ⟨B, 1, none⟩ (.slice none 0 0)).setCell ⟨B, 2, none⟩ (.int .i64 0)).setCell ⟨B, 3, none⟩ (.bool false)).setCell ⟨B, 4, none⟩ (.int .i64 0)).heap[B]? = some (.cells #[.int .i64 0, .slice none 0 0, .int .i64 0, .bool false, .int .i64 0, a5, a6, a7, a8, a9, a10] T (0, 0)) := set_block h3 4 (.int .i64 0)
  have h5 : ((((((w.setCell ⟨B, 0, none⟩ (.int .i64 0)).setCell ⟨B, 1, none⟩ (.slice none 0 0)).setCell ⟨B, 2, none⟩ (.int .i64 0)).setCell ⟨B, 3, none⟩ (.bool false)).setCell ⟨B, 4, none⟩ (.int .i64 0)).setCell ⟨B, 5, none⟩ (.string ⟨#[]⟩)).heap[B]? = some (.cells #[.int .i64 0, .slice none 0 0, .int .i64 0, .bool false, .int .i64 0, .string ⟨#[]⟩, a6, a7, a8, a9, a10] T (0, 0)) := set_block h4 5 (.string ⟨#[]⟩)
  have h6 : (((((((w.setCell ⟨B, 0, none⟩ (.int .i64 0)).setCell ⟨B, 1, none⟩ (.slice none 0 0)).setCell ⟨B, 2, none⟩ (.int .i64 0)).setCell ⟨B, 3, none⟩ (.bool false)).setCell ⟨B, 4, none⟩ (.int .i64 0)).setCell ⟨B, 5, none⟩ (.string ⟨#[]⟩)).setCell ⟨B, 6, none⟩ (.string ⟨#[]⟩)).heap[B]? = some (.cells #[.int .i64 0, .slice none 0 0, .int .i64 0, .bool false, .int .i64 0, .string ⟨#[]⟩, .string ⟨#[]⟩, a7, a8, a9, a10] T (0, 0)) := set_block h5 6 (.string ⟨#[]⟩)
  have h7 : ((((((((w.setCell ⟨B, 0, none⟩ (.int .i64 0)).setCell ⟨B, 1, none⟩ (.slice none 0 0)).setCell ⟨B, 2, none⟩ (.int .i64 0)).setCell ⟨B, 3, none⟩ (.bool false)).setCell ⟨B, 4, none⟩ (.int .i64 0)).setCell ⟨B, 5, none⟩ (.string ⟨#[]⟩)).setCell ⟨B, 6, none⟩ (.string ⟨#[]⟩)).setCell ⟨B, 7, none⟩ (.int .i64 0)).heap[B]? = some (.cells #[.int .i64 0, .slice none 0 0, .int .i64 0, .bool false, .int .i64 0, .string ⟨#[]⟩, .string ⟨#[]⟩, .int .i64 0, a8, a9, a10] T (0, 0)) := set_block h6 7 (.int .i64 0)
  have h8 : (((((((((w.setCell ⟨B, 0, none⟩ (.int .i64 0)).setCell ⟨B, 1, none⟩ (.slice none 0 0)).setCell ⟨B, 2, none⟩ (.int .i64 0)).setCell ⟨B, 3, none⟩ (.bool false)).setCell ⟨B, 4, none⟩ (.int .i64 0)).setCell ⟨B, 5, none⟩ (.string ⟨#[]⟩)).setCell ⟨B, 6, none⟩ (.string ⟨#[]⟩)).setCell ⟨B, 7, none⟩ (.int .i64 0)).setCell ⟨B, 8, none⟩ (.slice none 0 0)).heap[B]? = some (.cells #[.int .i64 0, .slice none 0 0, .int .i64 0, .bool false, .int .i64 0, .string ⟨#[]⟩, .string ⟨#[]⟩, .int .i64 0, .slice none 0 0, a9, a10] T (0, 0)) := set_block h7 8 (.slice none 0 0)
  have h9 : ((((((((((w.setCell ⟨B, 0, none⟩ (.int .i64 0)).setCell ⟨B, 1, none⟩ (.slice none 0 0)).setCell ⟨B, 2, none⟩ (.int .i64 0)).setCell ⟨B, 3, none⟩ (.bool false)).setCell ⟨B, 4, none⟩ (.int .i64 0)).setCell ⟨B, 5, none⟩ (.string ⟨#[]⟩)).setCell ⟨B, 6, none⟩ (.string ⟨#[]⟩)).setCell ⟨B, 7, none⟩ (.int .i64 0)).setCell ⟨B, 8, none⟩ (.slice none 0 0)).setCell ⟨B, 9, none⟩ (.slice none 0 0)).heap[B]? = some (.cells #[.int .i64 0, .slice none 0 0, .int .i64 0, .bool false, .int .i64 0, .string ⟨#[]⟩, .string ⟨#[]⟩, .int .i64 0, .slice none 0 0, .slice none 0 0, a10] T (0, 0)) := set_block h8 9 (.slice none 0 0)
  have h10 : (((((((((((w.setCell ⟨B, 0, none⟩ (.int .i64 0)).setCell ⟨B, 1, none⟩ (.slice none 0 0)).setCell ⟨B, 2, none⟩ (.int .i64 0)).setCell ⟨B, 3, none⟩ (.bool false)).setCell ⟨B, 4, none⟩ (.int .i64 0)).setCell ⟨B, 5, none⟩ (.string ⟨#[]⟩)).setCell ⟨B, 6, none⟩ (.string ⟨#[]⟩)).setCell ⟨B, 7, none⟩ (.int .i64 0)).setCell ⟨B, 8, none⟩ (.slice none 0 0)).setCell ⟨B, 9, none⟩ (.slice none 0 0)).setCell ⟨B, 10, none⟩ (.bool false)).heap[B]? = some (.cells #[.int .i64 0, .slice none 0 0, .int .i64 0, .bool false, .int .i64 0, .string ⟨#[]⟩, .string ⟨#[]⟩, .int .i64 0, .slice none 0 0, .slice none 0 0, .bool false] T (0, 0)) := set_block h9 10 (.bool false)
  exact h10
theorem elev_only (w : World) (B : Nat) : OnlyS (fun k => k = B) w (elev w B 0) := by
  have o0 := (OnlyS.refl (fun k => k = B) w).setCell B 0 (.int .i64 0) (.inl rfl)
  have o1 := o0.setCell B 1 (.slice none 0 0) (.inl rfl)
  have o2 := o1.setCell B 2 (.int .i64 0) (.inl rfl)
  have o3 := o2.setCell B 3 (.bool false) (.inl rfl)
  have o4 := o3.setCell B 4 (.int .i64 0) (.inl rfl)
  have o5 := o4.setCell B 5 (.string ⟨#[]⟩) (.inl rfl)
  have o6 := o5.setCell B 6 (.string ⟨#[]⟩) (.inl rfl)
  have o7 := o6.setCell B 7 (.int .i64 0) (.inl rfl)
  have o8 := o7.setCell B 8 (.slice none 0 0) (.inl rfl)
  have o9 := o8.setCell B 9 (.slice none 0 0) (.inl rfl)
  have o10 := o9.setCell B 10 (.bool false) (.inl rfl)
  exact o10
theorem elev_at {w : World} {B : Nat} {p : PM} {tv fv bv : Value} (h : At w B p tv fv bv) : At (elev w B 0) B pm0 (.slice none 0 0) (.slice none 0 0) (.slice none 0 0) ∧ OnlyS (fun k => k = B) w (elev w B 0) := by
  have hb : (elev w B 0).heap[B]? = some (.cells (pcs pm0 (.slice none 0 0) (.slice none 0 0) (.slice none 0 0)) 38 (0, 0)) := elev_blk h.blk
  generalize hW : elev w B 0 = W at hb ⊢
  refine ⟨⟨hb, U8.nil _, U8.nil _, FV.nil _, fun e => (by cases e), fun e => (by cases e), fun e => (by cases e), fun _ e => (by cases e), fun _ e => (by cases e), fun _ e => (by cases e), fun _ e => (by cases e)⟩, ?_⟩
  rw [← hW]
  exact elev_only w B
theorem elev_size (w : World) (B : Nat) : (elev w B 0).heap.size = w.heap.size := by unfold elev; simp
theorem heap_two (X : World) (o1 o2 : Obj) : ((X.alloc o1).alloc o2).heap[X.heap.size]? = some o1 :=
  ((Below.refl (X.alloc o1).heap.size (X.alloc o1)).alloc (Nat.le_refl _) o2).block X.heap.size (by simp) |>.trans (heap_alloc_new X o1)
theorem rest_two (X : World) (o1 o2 : Obj) : Below X.heap.size X ((X.alloc o1).alloc o2) := by
  have h1 := (Below.refl X.heap.size X).alloc (Nat.le_refl _) o1
  exact h1.alloc h1.size o2
set_option maxHeartbeats 4000000 in
theorem tell_any (B : Nat) (p : PM) (tv fv bv : Value) (s : Nat) (w : World) (hA : At w B p tv fv bv) :
    Calls Tryz.prog 12 #[.pointer (some ⟨B, 0, none⟩), .int .i64 (s : Int)] w (TellTo B p fv bv s w) := by
  have x0 := cell_at hA.blk 0 rfl
  have x1 := cell_at hA.blk 1 rfl
  have x2 := cell_at hA.blk 2 rfl
  have x3 := cell_at hA.blk 3 rfl
  have x4 := cell_at hA.blk 4 rfl
  have x5 := cell_at hA.blk 5 rfl
  have x6 := cell_at hA.blk 6 rfl
  have x7 := cell_at hA.blk 7 rfl
  have x8 := cell_at hA.blk 8 rfl
  have x9 := cell_at hA.blk 9 rfl
  have x10 := cell_at hA.blk 10 rfl
  have xf := free_at hA.blk
  have hlt := hA.lt
  have HA := hide hA
  by_cases h0 : s = 0
  rotate_left
  · have e0 : ((s : Int) == 0) = false := by simp; omega
    have HT := hide (show tellM p s = ({ pm0 with waits := 7 }, ⟨s, rq0⟩) by unfold tellM; rw [if_neg h0]; rfl)
    clear h0 hA
    go_enter Tryz.func12, Tryz.ntmps12
    go_wp2_with fail
    have hXs : ((elev w B 0).setCell ⟨B, 0, none⟩ (.int .i64 7)).heap.size = w.heap.size := by simp [elev_size]
    have hH := heap_two ((elev w B 0).setCell ⟨B, 0, none⟩ (.int .i64 7)) (.cells #[.int .i64 (s : Int), .string ⟨#[]⟩, .string ⟨#[]⟩, .int .i64 0, .slice none 0 0, .slice none 0 0, .bool false] 33) (.cells #[.int .i64 (s : Int), .string ⟨#[]⟩, .string ⟨#[]⟩, .int .i64 0, .slice none 0 0, .slice none 0 0, .bool false] 33)
    have hR := rest_two ((elev w B 0).setCell ⟨B, 0, none⟩ (.int .i64 7)) (.cells #[.int .i64 (s : Int), .string ⟨#[]⟩, .string ⟨#[]⟩, .int .i64 0, .slice none 0 0, .slice none 0 0, .bool false] 33) (.cells #[.int .i64 (s : Int), .string ⟨#[]⟩, .string ⟨#[]⟩, .int .i64 0, .slice none 0 0, .slice none 0 0, .bool false] 33)
    rw [hXs] at hH
    exact bodyPost_ret (v := .agg #[.int .i64 (s : Int), .string ⟨#[]⟩, .string ⟨#[]⟩, .int .i64 0, .slice none 0 0, .slice none 0 0, .bool false]) (results_cell Tryz.results12 _ _ w.heap.size _ _ _ _ rfl hH Tryz.underlying33 rfl (by kernel_rfl)) rfl ⟨.slice none 0 0, .slice none 0 0, by rw [HT.out]; rfl, by rw [HT.out]; exact ((elev_at HA.out).1.set (p' := { pm0 with waits := 7 }) 0 (.int .i64 7) rfl rfl rfl rfl).below hR, ((elev_at HA.out).2.setCell B 0 (.int .i64 7) (.inl rfl)).then hR, by rw [HT.out]; exact FV.nil _, by rw [HT.out]; exact U8.nil _, .inr ⟨rfl, rfl⟩⟩
  · subst h0
    obtain ⟨fa, fc, hfe, -⟩ := hA.fl
    obtain ⟨ba, bc, hbe⟩ := hA.bd.form
    obtain ⟨nf, hnf⟩ : ∃ n, p.now.fs.length = n := ⟨_, rfl⟩
    obtain ⟨nb, hnb⟩ : ∃ n, p.now.body.length = n := ⟨_, rfl⟩
    rw [hnf] at hfe
    rw [hnb] at hbe
    subst hfe hbe
    obtain ⟨me, hme⟩ : ∃ x, bs p.now.me = x := ⟨_, rfl⟩
    obtain ⟨ta, hta⟩ : ∃ x, bs p.now.ta = x := ⟨_, rfl⟩
    obtain ⟨mi, hmi⟩ : ∃ x : Int, (p.now.minor : Int) = x := ⟨_, rfl⟩
    obtain ⟨kp, hkp⟩ : ∃ x, p.now.keep = x := ⟨_, rfl⟩
    have HL := hide (And.intro hme (And.intro hta (And.intro hmi hkp)))
    have hrg : w.rangeAt B 5 [.string me, .string ta, .int .i64 mi, .slice fa nf fc, .slice ba nb bc, .bool kp] := fun j v hv => by
      match j with
      | 0 => cases hv; rw [← hme]; exact x5
      | 1 => cases hv; rw [← hta]; exact x6
      | 2 => cases hv; rw [← hmi]; exact x7
      | 3 => cases hv; exact x8
      | 4 => cases hv; exact x9
      | 5 => cases hv; rw [← hkp]; exact x10
      | j + 6 => simp at hv
    have HRG := hide (show ((w.alloc (.cells #[.int .i64 0, .string ⟨#[]⟩, .string ⟨#[]⟩, .int .i64 0, .slice none 0 0, .slice none 0 0, .bool false] 33)).alloc (.cells #[.int .i64 0, .string ⟨#[]⟩, .string ⟨#[]⟩, .int .i64 0, .slice none 0 0, .slice none 0 0, .bool false] 33)).rangeAt B 5 [.string me, .string ta, .int .i64 mi, .slice fa nf fc, .slice ba nb bc, .bool kp] from World.rangeAt_alloc (World.rangeAt_alloc hrg _) _)
    clear hA hnf hnb hme hta hmi hkp hrg
    cases kp
    all_goals
      go_enter Tryz.func12, Tryz.ntmps12
    · have HT := hide (show tellM p 0 = ({ pm0 with waits := 7 }, ⟨0, p.now⟩) by unfold tellM; rw [if_pos rfl]; simp only [HL.out.2.2.2]; rfl)
      go_wp2_with (refine wpList_load_mid (op := ⟨some 13, _, _, _, _, _⟩) (by rfl) _ (.tmp 12) (by rfl) B 5 (by rfl) [.string me, .string ta, .int .i64 mi, .slice fa nf fc, .slice ba nb bc, .bool false] _ HRG.out Tryz.underlying31 (by rfl) (by kernel_rfl) ?_; try simp only [Act.put, List.setIfInBounds_toArray, List.set_cons_zero, List.set_cons_succ])
      have hXs : ((elev w B 0).setCell ⟨B, 0, none⟩ (.int .i64 7)).heap.size = w.heap.size := by simp [elev_size]
      have hH := heap_two ((elev w B 0).setCell ⟨B, 0, none⟩ (.int .i64 7)) (.cells #[.int .i64 0, .string me, .string ta, .int .i64 mi, .slice fa nf fc, .slice ba nb bc, .bool false] 33) (.cells #[.int .i64 0, .string me, .string ta, .int .i64 mi, .slice fa nf fc, .slice ba nb bc, .bool false] 33)
      have hR := rest_two ((elev w B 0).setCell ⟨B, 0, none⟩ (.int .i64 7)) (.cells #[.int .i64 0, .string me, .string ta, .int .i64 mi, .slice fa nf fc, .slice ba nb bc, .bool false] 33) (.cells #[.int .i64 0, .string me, .string ta, .int .i64 mi, .slice fa nf fc, .slice ba nb bc, .bool false] 33)
      rw [hXs] at hH
      exact bodyPost_ret (v := .agg #[.int .i64 0, .string me, .string ta, .int .i64 mi, .slice fa nf fc, .slice ba nb bc, .bool false]) (results_cell Tryz.results12 _ _ w.heap.size _ _ _ _ rfl hH Tryz.underlying33 rfl (by kernel_rfl)) rfl ⟨.slice fa nf fc, .slice ba nb bc, by rw [HT.out]; show Ending.returned (Value.agg _) = .returned (.agg (tcells _ _ _)); unfold tcells; rw [HL.out.1, HL.out.2.1, HL.out.2.2.1, HL.out.2.2.2]; rfl, by rw [HT.out]; exact ((elev_at HA.out).1.set (p' := { pm0 with waits := 7 }) 0 (.int .i64 7) rfl rfl rfl rfl).below hR, ((elev_at HA.out).2.setCell B 0 (.int .i64 7) (.inl rfl)).then hR, by rw [HT.out]; exact HA.out.fl.only ((((elev_at HA.out).2.setCell B 0 (.int .i64 7) (.inl rfl))).then hR) (fun k hk e => HA.out.fB (e ▸ hk)), by rw [HT.out]; exact HA.out.bd.only ((((elev_at HA.out).2.setCell B 0 (.int .i64 7) (.inl rfl))).then hR) (fun k hk e => HA.out.bB (e ▸ hk)), .inl ⟨rfl, rfl⟩⟩
    · have HT := hide (show tellM p 0 = (pm0, ⟨0, p.now⟩) by unfold tellM; rw [if_pos rfl]; simp only [HL.out.2.2.2]; rfl)
      go_wp2_with (refine wpList_load_mid (op := ⟨some 13, _, _, _, _, _⟩) (by rfl) _ (.tmp 12) (by rfl) B 5 (by rfl) [.string me, .string ta, .int .i64 mi, .slice fa nf fc, .slice ba nb bc, .bool true] _ HRG.out Tryz.underlying31 (by rfl) (by kernel_rfl) ?_; try simp only [Act.put, List.setIfInBounds_toArray, List.set_cons_zero, List.set_cons_succ])
      have hXs : (elev w B 0).heap.size = w.heap.size := by exact elev_size w B
      have hH := heap_two (elev w B 0) (.cells #[.int .i64 0, .string me, .string ta, .int .i64 mi, .slice fa nf fc, .slice ba nb bc, .bool true] 33) (.cells #[.int .i64 0, .string me, .string ta, .int .i64 mi, .slice fa nf fc, .slice ba nb bc, .bool true] 33)
      have hR := rest_two (elev w B 0) (.cells #[.int .i64 0, .string me, .string ta, .int .i64 mi, .slice fa nf fc, .slice ba nb bc, .bool true] 33) (.cells #[.int .i64 0, .string me, .string ta, .int .i64 mi, .slice fa nf fc, .slice ba nb bc, .bool true] 33)
      rw [hXs] at hH
      exact bodyPost_ret (v := .agg #[.int .i64 0, .string me, .string ta, .int .i64 mi, .slice fa nf fc, .slice ba nb bc, .bool true]) (results_cell Tryz.results12 _ _ w.heap.size _ _ _ _ rfl hH Tryz.underlying33 rfl (by kernel_rfl)) rfl ⟨.slice fa nf fc, .slice ba nb bc, by rw [HT.out]; show Ending.returned (Value.agg _) = .returned (.agg (tcells _ _ _)); unfold tcells; rw [HL.out.1, HL.out.2.1, HL.out.2.2.1, HL.out.2.2.2]; rfl, by rw [HT.out]; exact ((elev_at HA.out).1).below hR, ((elev_at HA.out).2).then hR, by rw [HT.out]; exact HA.out.fl.only ((((elev_at HA.out).2)).then hR) (fun k hk e => HA.out.fB (e ▸ hk)), by rw [HT.out]; exact HA.out.bd.only ((((elev_at HA.out).2)).then hR) (fun k hk e => HA.out.bB (e ▸ hk)), .inl ⟨rfl, rfl⟩⟩
end Go.Proofs.YtbiblaeocbcfhaaGreatDoor
