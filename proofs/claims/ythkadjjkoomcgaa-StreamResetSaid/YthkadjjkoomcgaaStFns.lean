/- One side of a connection: its shape in memory, and its small functions walked. -/
import Derived.Test.YthkadjjkoomcgaaStMem
namespace Go.Proofs.Ythkadjjkoomcgaa
open Go.RowKit
set_option linter.unusedVariables false
set_option linter.unusedSimpArgs false
set_option maxRecDepth 100000
structure Cn where
  frm : Int
  to : Int
  ph : Int
  num : Int
  una : Int
  nxt : Int
  most : Int
  fin : Int
  ob : Value
  closed : Bool
  win : Int
  inum : Int
  seen : Int
  ib : Value
  ended : Bool
  on : Bool
  at_ : Int
  tries : Int
def Cn.cs (c : Cn) : Array Value := #[.int .u16 c.frm, .int .u16 c.to, .int .i64 c.ph, .int .u32 c.num, .int .u64 c.una, .int .u64 c.nxt, .int .u64 c.most, .int .u64 c.fin, c.ob, .bool c.closed, .int .u64 c.win, .int .u32 c.inum, .int .u32 c.seen, c.ib, .bool c.ended, .bool c.on, .int .u64 c.at_, .int .i64 c.tries]
def CnAt (w : World) (B : Nat) (c : Cn) : Prop := w.heap[B]? = some (.cells c.cs 70 (0, 0))
theorem CnAt.at {w : World} {B : Nat} {c : Cn} (h : CnAt w B c) (i : Nat) {v : Value} (hv : c.cs[i]? = some v) : w.cell? ⟨B, i, none⟩ = some v := by
  unfold CnAt at h
  simp only [World.cell?, h]
  simpa using hv
theorem CnAt.free {w : World} {B : Nat} {c : Cn} (h : CnAt w B c) (i : Nat) : w.frozen? ⟨B, i, none⟩ = false := by
  unfold CnAt at h
  simp [World.frozen?, h]
theorem CnAt.lt {w : World} {B : Nat} {c : Cn} (h : CnAt w B c) : B < w.heap.size := lt_of_block h
theorem CnAt.below {w w' : World} {B K : Nat} {c : Cn} (h : CnAt w B c) (hb : Below K w w') (hK : w.heap.size ≤ K) : CnAt w' B c :=
  (hb.block B (Nat.lt_of_lt_of_le h.lt hK)).trans h
/-- Only block B may have changed; what is new lies behind. -/
structure OnlyB (B : Nat) (w w' : World) : Prop where
  os : w'.os = w.os
  tape : w'.tape = w.tape
  output : w'.output = w.output
  size : w.heap.size ≤ w'.heap.size
  block : ∀ k, k < w.heap.size → k ≠ B → w'.heap[k]? = w.heap[k]?
theorem OnlyB.refl (B : Nat) (w : World) : OnlyB B w w := ⟨rfl, rfl, rfl, Nat.le_refl _, fun _ _ _ => rfl⟩
theorem OnlyB.trans {B : Nat} {a b c : World} (h : OnlyB B a b) (k : OnlyB B b c) : OnlyB B a c :=
  ⟨k.os.trans h.os, k.tape.trans h.tape, k.output.trans h.output, Nat.le_trans h.size k.size, fun i hi hn => (k.block i (Nat.lt_of_lt_of_le hi h.size) hn).trans (h.block i hi hn)⟩
theorem OnlyB.of {B : Nat} {w w' : World} (h : Below w.heap.size w w') : OnlyB B w w' := ⟨h.os, h.tape, h.output, h.size, fun k hk _ => h.block k hk⟩
theorem OnlyB.drew {B : Nat} {a w : World} (h : OnlyB B a w) : OnlyB B a w.drew := ⟨h.os, h.tape, h.output, h.size, h.block⟩
theorem OnlyB.drewN {B : Nat} {a w : World} (h : OnlyB B a w) (n : Nat) : OnlyB B a (w.drewN n) := h.trans ⟨rfl, rfl, rfl, Nat.le_refl _, fun _ _ _ => rfl⟩
theorem OnlyB.alloc {B : Nat} {a w : World} (h : OnlyB B a w) (o : Obj) : OnlyB B a (w.alloc o) :=
  h.trans (.of ((Below.refl _ w).alloc (Nat.le_refl _) o))
theorem OnlyB.setCell {B : Nat} {a w : World} (h : OnlyB B a w) (i : Nat) (u : Value) : OnlyB B a (w.setCell ⟨B, i, none⟩ u) :=
  h.trans ⟨rfl, rfl, rfl, by simp [World.setCell], fun k _ hn => Below.heap_setCell _ _ _ _ hn⟩
theorem OnlyB.setNew {B : Nat} {a w : World} (h : OnlyB B a w) {p : Addr} (hp : a.heap.size ≤ p.block) (u : Value) : OnlyB B a (w.setCell p u) :=
  ⟨h.os, h.tape, h.output, by simp [World.setCell]; exact h.size, fun k hk hn => (Below.heap_setCell _ _ _ _ (by omega)).trans (h.block k hk hn)⟩
theorem OnlyB.below {B K : Nat} {w w' : World} (h : OnlyB B w w') (hB : K ≤ B) (hK : K ≤ w.heap.size) : Below K w w' :=
  ⟨h.os, h.tape, h.output, h.size, fun k hk => h.block k (by omega) (by omega)⟩
theorem bcells {W w1 : World} (hb : Below W.heap.size W w1) : (∀ b o, b < W.heap.size → w1.cell? ⟨b, o, none⟩ = W.cell? ⟨b, o, none⟩) ∧ (∀ b o, b < W.heap.size → w1.frozen? ⟨b, o, none⟩ = W.frozen? ⟨b, o, none⟩) :=
  ⟨fun b o h => hb.cell (p := ⟨b, o, none⟩) h, fun b o h => hb.frozen (p := ⟨b, o, none⟩) h⟩

def Drew (w w' : World) : Prop := ∃ k, w' = w.drewN k
theorem over_any (B : Nat) (p : Int) (w : World) (hp : w.cell? ⟨B, 2, none⟩ = some (.int .i64 p)) :
    Calls Try.prog 27 #[.pointer (some ⟨B, 0, none⟩)] w fun e w' => e = .returned (.bool (p == 3 || p == 4)) ∧ w' = w := by
  obtain ⟨r, hr⟩ : ∃ r, (p == 3 || p == 4) = r := ⟨_, rfl⟩
  rw [hr]
  have HR := hide hr
  clear hr
  by_cases h3 : p = 3
  · have d3 : (p == 3) = true := by simp [h3]
    clear h3
    go_enter Try.func27, Try.ntmps27
    go_wp2_with fail
    go_ret
    exact ⟨by rw [← HR.out, d3]; rfl, rfl⟩
  · have d3 : (p == 3) = false := by simp [h3]
    clear h3
    go_enter Try.func27, Try.ntmps27
    go_wp2_with fail
    go_ret
    exact ⟨by rw [← HR.out, d3]; rfl, rfl⟩
theorem phase_any (B : Nat) (p : Int) (w : World) (hp : w.cell? ⟨B, 2, none⟩ = some (.int .i64 p)) :
    Calls Try.prog 16 #[.pointer (some ⟨B, 0, none⟩)] w fun e w' => e = .returned (.int .i64 p) ∧ w' = w := by
  go_enter Try.func16, Try.ntmps16
  go_wp2_with fail
  go_ret
  exact ⟨rfl, rfl⟩
theorem has_any (x0 x1 x2 x3 x5 x6 x7 x8 : Value) (f m : Int) (w : World) :
    Calls Try.prog 35 #[.agg #[x0, x1, x2, x3, .int .u8 f, x5, x6, x7, x8], .int .u8 m] w fun e w' => e = .returned (.bool (bits .and .u8 f m != 0)) ∧ w' = w.alloc (.cells #[x0, x1, x2, x3, .int .u8 f, x5, x6, x7, x8] 44) := by
  go_enter Try.func35, Try.ntmps35
  go_wp2_with fail
  go_ret
  exact ⟨rfl, rfl⟩
theorem ret_int {k : IntKind} {a b : Int} (h : a = b) : Ending.returned (.int k a) = .returned (.int k b) := by rw [h]
theorem heap_set {w : World} {S : Nat} {T : TypeId} {cs cs' : Array Value} (h : w.heap[S]? = some (.cells cs T (0, 0))) (i : Nat) (v : Value) (hu : cs.setIfInBounds i v = cs') : (w.setCell ⟨S, i, none⟩ v).heap[S]? = some (.cells cs' T (0, 0)) := by
  rw [← hu]; exact heap_setCell_same w S i cs T v h
theorem set9 {w : World} {S : Nat} {T : TypeId} {a0 a1 a2 a3 a4 a5 a6 a7 a8 : Value} (h0 : w.heap[S]? = some (.cells #[a0, a1, a2, a3, a4, a5, a6, a7, a8] T (0, 0))) (v0 v1 v2 v3 v4 v5 v6 v7 v8 : Value) :
    (((((((((w.setCell ⟨S, 0, none⟩ v0).setCell ⟨S, 1, none⟩ v1).setCell ⟨S, 2, none⟩ v2).setCell ⟨S, 3, none⟩ v3).setCell ⟨S, 4, none⟩ v4).setCell ⟨S, 5, none⟩ v5).setCell ⟨S, 6, none⟩ v6).setCell ⟨S, 7, none⟩ v7).setCell ⟨S, 8, none⟩ v8).heap[S]? = some (.cells #[v0, v1, v2, v3, v4, v5, v6, v7, v8] T (0, 0)) := by
  have h1 : (w.setCell ⟨S, 0, none⟩ v0).heap[S]? = some (.cells #[v0, a1, a2, a3, a4, a5, a6, a7, a8] T (0, 0)) := heap_set h0 0 v0 (by simp)
  have h2 : ((w.setCell ⟨S, 0, none⟩ v0).setCell ⟨S, 1, none⟩ v1).heap[S]? = some (.cells #[v0, v1, a2, a3, a4, a5, a6, a7, a8] T (0, 0)) := heap_set h1 1 v1 (by simp)
  have h3 : (((w.setCell ⟨S, 0, none⟩ v0).setCell ⟨S, 1, none⟩ v1).setCell ⟨S, 2, none⟩ v2).heap[S]? = some (.cells #[v0, v1, v2, a3, a4, a5, a6, a7, a8] T (0, 0)) := heap_set h2 2 v2 (by simp)
  have h4 : ((((w.setCell ⟨S, 0, none⟩ v0).setCell ⟨S, 1, none⟩ v1).setCell ⟨S, 2, none⟩ v2).setCell ⟨S, 3, none⟩ v3).heap[S]? = some (.cells #[v0, v1, v2, v3, a4, a5, a6, a7, a8] T (0, 0)) := heap_set h3 3 v3 (by simp)
  have h5 : (((((w.setCell ⟨S, 0, none⟩ v0).setCell ⟨S, 1, none⟩ v1).setCell ⟨S, 2, none⟩ v2).setCell ⟨S, 3, none⟩ v3).setCell ⟨S, 4, none⟩ v4).heap[S]? = some (.cells #[v0, v1, v2, v3, v4, a5, a6, a7, a8] T (0, 0)) := heap_set h4 4 v4 (by simp)
  have h6 : ((((((w.setCell ⟨S, 0, none⟩ v0).setCell ⟨S, 1, none⟩ v1).setCell ⟨S, 2, none⟩ v2).setCell ⟨S, 3, none⟩ v3).setCell ⟨S, 4, none⟩ v4).setCell ⟨S, 5, none⟩ v5).heap[S]? = some (.cells #[v0, v1, v2, v3, v4, v5, a6, a7, a8] T (0, 0)) := heap_set h5 5 v5 (by simp)
  have h7 : (((((((w.setCell ⟨S, 0, none⟩ v0).setCell ⟨S, 1, none⟩ v1).setCell ⟨S, 2, none⟩ v2).setCell ⟨S, 3, none⟩ v3).setCell ⟨S, 4, none⟩ v4).setCell ⟨S, 5, none⟩ v5).setCell ⟨S, 6, none⟩ v6).heap[S]? = some (.cells #[v0, v1, v2, v3, v4, v5, v6, a7, a8] T (0, 0)) := heap_set h6 6 v6 (by simp)
  have h8 : ((((((((w.setCell ⟨S, 0, none⟩ v0).setCell ⟨S, 1, none⟩ v1).setCell ⟨S, 2, none⟩ v2).setCell ⟨S, 3, none⟩ v3).setCell ⟨S, 4, none⟩ v4).setCell ⟨S, 5, none⟩ v5).setCell ⟨S, 6, none⟩ v6).setCell ⟨S, 7, none⟩ v7).heap[S]? = some (.cells #[v0, v1, v2, v3, v4, v5, v6, v7, a8] T (0, 0)) := heap_set h7 7 v7 (by simp)
  have h9 : (((((((((w.setCell ⟨S, 0, none⟩ v0).setCell ⟨S, 1, none⟩ v1).setCell ⟨S, 2, none⟩ v2).setCell ⟨S, 3, none⟩ v3).setCell ⟨S, 4, none⟩ v4).setCell ⟨S, 5, none⟩ v5).setCell ⟨S, 6, none⟩ v6).setCell ⟨S, 7, none⟩ v7).setCell ⟨S, 8, none⟩ v8).heap[S]? = some (.cells #[v0, v1, v2, v3, v4, v5, v6, v7, v8] T (0, 0)) := heap_set h8 8 v8 (by simp)
  exact h9
theorem own9 {w2 : World} {S base n : Nat} {T : TypeId} {v : Value} {xs : List Value} (o : w2.ownsRow base T 1 v n xs) (hS : S < base) (v0 v1 v2 v3 v4 v5 v6 v7 v8 : Value) : (((((((((w2.setCell ⟨S, 0, none⟩ v0).setCell ⟨S, 1, none⟩ v1).setCell ⟨S, 2, none⟩ v2).setCell ⟨S, 3, none⟩ v3).setCell ⟨S, 4, none⟩ v4).setCell ⟨S, 5, none⟩ v5).setCell ⟨S, 6, none⟩ v6).setCell ⟨S, 7, none⟩ v7).setCell ⟨S, 8, none⟩ v8).ownsRow base T 1 v n xs :=
  ownsRow_setCell_below (ownsRow_setCell_below (ownsRow_setCell_below (ownsRow_setCell_below (ownsRow_setCell_below (ownsRow_setCell_below (ownsRow_setCell_below (ownsRow_setCell_below (ownsRow_setCell_below o hS _) hS _) hS _) hS _) hS _) hS _) hS _) hS _) hS _
theorem below9 {K S : Nat} {w w2 : World} (h : Below K w w2) (hS : K ≤ S) (v0 v1 v2 v3 v4 v5 v6 v7 v8 : Value) : Below K w (((((((((w2.setCell ⟨S, 0, none⟩ v0).setCell ⟨S, 1, none⟩ v1).setCell ⟨S, 2, none⟩ v2).setCell ⟨S, 3, none⟩ v3).setCell ⟨S, 4, none⟩ v4).setCell ⟨S, 5, none⟩ v5).setCell ⟨S, 6, none⟩ v6).setCell ⟨S, 7, none⟩ v7).setCell ⟨S, 8, none⟩ v8) :=
  ((((((((h.setCell hS _).setCell hS _).setCell hS _).setCell hS _).setCell hS _).setCell hS _).setCell hS _).setCell hS _).setCell hS _
theorem results_cell {P : Program} {fn : Func} {p : Tmp} {ty : TypeId} (h : fn.results = #[.cell p ty]) (tmps : Array Value) (w : World) (g : Nat) (t : TypeId) (cs : Array Value) (fr : Nat × Nat) (d : TypeDesc)
    (hp : tmps.getD p undef = .pointer (some ⟨g, 0, none⟩)) (hg : w.heap[g]? = some (.cells cs t fr))
    (hu : P.underlying ty = some d) (hd : (match d with | .struct _ | .array _ _ => true | _ => false) = true) (hi : (P.info? ty).map (·.size) = some cs.size) :
    (results fn tmps).run P w = .ok (.agg cs) w := by
  have hp' : tmps[p]?.getD undef = .pointer (some ⟨g, 0, none⟩) := by simpa using hp
  simp [results, h, hp', asAddr, run_loadVar_row w g t ty cs fr d hg hu hd hi]
theorem seq_any (B : Nat) (n p : Int) (w : World) (hp : w.cell? ⟨B, 3, none⟩ = some (.int .u32 n)) :
    Calls Try.prog 41 #[.pointer (some ⟨B, 3, none⟩), .int .u64 p] w fun e w' => e = .returned (.int .u32 ((n + p) % 4294967296)) ∧ w' = w := by
  go_enter Try.func41, Try.ntmps41
  go_wp2_with fail
  go_ret
  exact ⟨ret_int (by omega), rfl⟩
theorem ack_any (B : Nat) (n s : Int) (w : World) (hn : w.cell? ⟨B, 11, none⟩ = some (.int .u32 n)) (hs : w.cell? ⟨B, 12, none⟩ = some (.int .u32 s)) :
    Calls Try.prog 42 #[.pointer (some ⟨B, 11, none⟩)] w fun e w' => e = .returned (.int .u32 ((n + s) % 4294967296)) ∧ Drew w w' := by
  go_enter Try.func42, Try.ntmps42
  go_wp2_with fail
  go_quiet (fail)
  go_wp2_with fail
  refine bodyPost_ret (v := .int .u32 ((n + s) % 4294967296)) (by simp [results, Try.results42, go_sem]) rfl ⟨rfl, _, rfl⟩
theorem room_any (B : Nat) (a : Option Addr) (n cap : Nat) (w : World) (hs : w.cell? ⟨B, 13, none⟩ = some (.slice a n cap)) (hn : n ≤ 1000000) :
    Calls Try.prog 43 #[.pointer (some ⟨B, 11, none⟩)] w fun e w' => e = .returned (.int .i64 (4096 - n)) ∧ w' = w := by
  go_enter Try.func43, Try.ntmps43
  go_wp2_with fail
  go_ret
  exact ⟨rfl, rfl⟩
theorem clone_nil (w : World) :
    Calls Try.prog 44 #[.slice none 0 0] w fun e w' => e = .returned (.slice none 0 0) ∧ w' = w := by
  have q22 : ∀ (w : World) (a : Option Addr) (n c n' c' : Nat), (binOp .eql 37 (.slice a n c) (.slice none n' c')).run Try.prog w = .ok (.bool a.isNone) w := fun w a n c n' c' => Lib.run_eql_slice_nil w _ _ a n c n' c' Try.underlying37
  go_enter Try.func44, Try.ntmps44
  go_wp2_with fail
  go_ret
  exact ⟨rfl, rfl⟩
def sgv (frm to seq ack fl win : Int) (d : Value) : Value := .agg #[.int .u16 frm, .int .u16 to, .int .u32 seq, .int .u32 ack, .int .u8 fl, .int .u16 win, .int .u16 0, .slice none 0 0, d]
def Cn.seq (c : Cn) (p : Int) : Int := (c.num + p) % 4294967296
def Cn.ack (c : Cn) : Int := (c.inum + c.seen) % 4294967296
theorem CnAt.all {w : World} {B : Nat} {c : Cn} (h : CnAt w B c) : w.cell? ⟨B, 0, none⟩ = some (.int .u16 c.frm) ∧ w.cell? ⟨B, 1, none⟩ = some (.int .u16 c.to) ∧ w.cell? ⟨B, 2, none⟩ = some (.int .i64 c.ph) ∧ w.cell? ⟨B, 3, none⟩ = some (.int .u32 c.num) ∧ w.cell? ⟨B, 4, none⟩ = some (.int .u64 c.una) ∧ w.cell? ⟨B, 5, none⟩ = some (.int .u64 c.nxt) ∧ w.cell? ⟨B, 6, none⟩ = some (.int .u64 c.most) ∧ w.cell? ⟨B, 7, none⟩ = some (.int .u64 c.fin) ∧ w.cell? ⟨B, 8, none⟩ = some c.ob ∧ w.cell? ⟨B, 9, none⟩ = some (.bool c.closed) ∧ w.cell? ⟨B, 10, none⟩ = some (.int .u64 c.win) ∧ w.cell? ⟨B, 11, none⟩ = some (.int .u32 c.inum) ∧ w.cell? ⟨B, 12, none⟩ = some (.int .u32 c.seen) ∧ w.cell? ⟨B, 13, none⟩ = some c.ib ∧ w.cell? ⟨B, 14, none⟩ = some (.bool c.ended) ∧ w.cell? ⟨B, 15, none⟩ = some (.bool c.on) ∧ w.cell? ⟨B, 16, none⟩ = some (.int .u64 c.at_) ∧ w.cell? ⟨B, 17, none⟩ = some (.int .i64 c.tries) :=
  ⟨h.at 0 rfl, h.at 1 rfl, h.at 2 rfl, h.at 3 rfl, h.at 4 rfl, h.at 5 rfl, h.at 6 rfl, h.at 7 rfl, h.at 8 rfl, h.at 9 rfl, h.at 10 rfl, h.at 11 rfl, h.at 12 rfl, h.at 13 rfl, h.at 14 rfl, h.at 15 rfl, h.at 16 rfl, h.at 17 rfl⟩
def SegAns (w : World) (frm to seq ack f win : Int) (xs : List Int) (dn : Nat) (e : Ending) (w' : World) : Prop := ∃ a' cap', e = .returned (sgv frm to seq ack f win (.slice a' dn cap')) ∧ w'.ownsRow w.heap.size 5 1 (.slice a' dn cap') dn (xs.map (Value.int .u8)) ∧ Below w.heap.size w w'
set_option maxHeartbeats 1000000 in
theorem segment_any (B : Nat) (c : Cn) (p f : Int) (a : Option Addr) (n cap : Nat) (hi : c.ib = .slice a n cap) (hn : n ≤ 4096) (da : Option Addr) (xs : List Int) (dn dc : Nat) (hxl : xs.length = dn) (hdn : dn ≤ 140737488351232) (w : World) (hr : Row .u8 w da xs) (hc : CnAt w B c) :
    Calls Try.prog 29 #[.pointer (some ⟨B, 0, none⟩), .int .u64 p, .int .u8 f, .slice da dn dc] w (SegAns w c.frm c.to (c.seq p) c.ack f (4096 - n) xs dn) := by
  obtain ⟨h0, h1, h2, h3, h4, h5, h6, h7, h8, h9, h10, h11, h12, h13, h14, h15, h16, h17⟩ := hc.all
  rw [hi] at h13
  have hlt := hc.lt
  have hw16 : IntKind.u16.wrap (4096 - (n : Int)) = 4096 - n := by rw [IntKind.wrap_u16]; omega
  unfold Cn.seq Cn.ack
  obtain ⟨c0, c1, c2, c3, c4, c5, c6, c7, c8, c9, c10, c11, c12, c13, c14, c15, c16, c17⟩ := c
  dsimp only at *
  clear hi hc h2 h4 h5 h6 h7 h8 h9 h10 h14 h15 h16 h17
  subst hxl
  have HR := hide hr
  obtain ⟨wq, hqq, hbel, hnew⟩ : ∃ V, w.alloc (.cells #[.int .u16 0, .int .u16 0, .int .u32 0, .int .u32 0, .int .u8 0, .int .u16 0, .int .u16 0, .slice none 0 0, .slice none 0 0] 44) = V ∧ Below w.heap.size w V ∧ V.heap[w.heap.size]? = some (.cells #[.int .u16 0, .int .u16 0, .int .u32 0, .int .u32 0, .int .u8 0, .int .u16 0, .int .u16 0, .slice none 0 0, .slice none 0 0] 44 (0, 0)) := ⟨_, rfl, (Below.refl _ _).alloc (Nat.le_refl _) _, heap_alloc_new _ _⟩
  have HQ := hide hqq
  have HN := hide hnew
  have HB := hide hbel
  have RQ := hide (hr.below hbel (Nat.le_refl _))
  have k0 := (bcells hbel).1 B 0 hlt
  have k1 := (bcells hbel).1 B 1 hlt
  have k3 := (bcells hbel).1 B 3 hlt
  have k11 := (bcells hbel).1 B 11 hlt
  have k12 := (bcells hbel).1 B 12 hlt
  have k13 := (bcells hbel).1 B 13 hlt
  rw [h0] at k0
  rw [h1] at k1
  rw [h3] at k3
  rw [h11] at k11
  rw [h12] at k12
  rw [h13] at k13
  have hn1 : ¬ B = w.heap.size := by omega
  have hn2 : ¬ w.heap.size = B := by omega
  have hltq : B < wq.heap.size := Nat.lt_of_lt_of_le hlt hbel.size
  clear hqq hnew hbel hr h0 h1 h3 h11 h12 h13 hlt
  go_enter Try.func29, Try.ntmps29
  go_upto_region 1 with (fail)
  rw [HQ.out]
  clear HQ
  go_region_held3 (fun w' => w'.cell? ⟨B, 0, none⟩ = some (.int .u16 c0) ∧ w'.cell? ⟨B, 1, none⟩ = some (.int .u16 c1)) (go_keep) (first
    | (go_at_call 41; (with_reducible refine (seq_any B c3 p _ ?_).mono ?_); (exact k3); rintro e w1 ⟨rfl, rfl⟩)
    | (go_at_call 42; (with_reducible refine (ack_any B c11 c12 _ ?_ ?_).mono ?_); (exact k11); (exact k12); rintro e w1 ⟨rfl, kq, rfl⟩)
    | (go_at_call 43; (with_reducible refine (room_any B a n cap _ ?_ ?_).mono ?_); (exact k13); omega; rintro e w1 ⟨rfl, rfl⟩)
    | (go_at_call 44; (with_reducible refine (clone_any da xs dc _ ?_ ?_).mono ?_); (exact RQ.out); (omega); rintro e w2 ⟨a', cap', rfl, o, b⟩; have j0 : w2.cell? ⟨B, 0, none⟩ = some (.int .u16 c0) := ((bcells b).1 B 0 hltq).trans k0; have j1 : w2.cell? ⟨B, 1, none⟩ = some (.int .u16 c1) := ((bcells b).1 B 1 hltq).trans k1; have hN2 := below_block b HN.out (Nat.le_refl _); have z0 := cell_at hN2 0 rfl; have z1 := cell_at hN2 1 rfl; have z2 := cell_at hN2 2 rfl; have z3 := cell_at hN2 3 rfl; have z4 := cell_at hN2 4 rfl; have z5 := cell_at hN2 5 rfl; have z6 := cell_at hN2 6 rfl; have z7 := cell_at hN2 7 rfl; have z8 := cell_at hN2 8 rfl; have zf := free_at hN2; have HN2 := hide hN2; clear hN2)
    | fail)
  have b0 := bdrewN (Below.refl wq.heap.size wq) (1 + kq)
  have O := hide (owns_mono o b0.size)
  have hBl := hide (HB.out.trans ((b0.trans (b.mono b0.size)).mono HB.out.size))
  have hsq : w.heap.size < wq.heap.size := lt_of_block HN.out
  clear o b b0
  go_wp2_with fail
  exact bodyPost_ret (v := sgv c0 c1 ((c3 + p) % 4294967296) ((c11 + c12) % 4294967296) f (4096 - n) (.slice a' xs.length cap')) (results_cell Try.results29 _ _ w.heap.size _ _ _ _ rfl (set9 HN2.out _ _ _ _ _ _ _ _ _) Try.underlying44 rfl (by kernel_rfl)) rfl ⟨a', cap', rfl, owns_mono (own9 O.out hsq _ _ _ _ _ _ _ _ _) (Nat.le_of_lt hsq), below9 hBl.out (Nat.le_refl _) _ _ _ _ _ _ _ _ _⟩
end Go.Proofs.Ythkadjjkoomcgaa
