/- Sets with their configurations. -/
import Derived.Test.YtijjgnkfddklgaaMCon
import Derived.Test.YtijjgnkfddklgaaMNew
import Derived.Test.YtijjgnkfddklgaaMPut
namespace Go.Proofs.Ytijjgnkfddklgaa
open Go.RowKit Go.Deep Go.Shelf
set_option linter.unusedVariables false
set_option linter.unusedSimpArgs false
set_option maxRecDepth 100000
/-- A set's configuration, as far as it plays a part. -/
structure CG where
  cs : Array Value
  a : Option Addr
  fs : List Fwd
  n : Nat
  cap : Nat
  lan : Nat
  nb : Int
  mm : Int
structure CG.Ok (g : CG) : Prop where
  f : CfF g.cs g.a g.n g.cap
  h : CfH g.cs g.lan g.nb
  m : g.cs[22]? = some (.int .i64 g.mm)
  l : g.fs.length = g.n
  n : g.n ≤ 1000000
  lan : g.lan ≤ 4294967295
/-- A set with its configuration. -/
structure SA (w : World) (sp tt : Nat) (g : CG) (up : Int) (L : ML) : Prop where
  st : SAt w sp tt g.cs up L
  fw : FwAt w g.a g.fs
  ty : ∀ ad, g.fs ≠ [] → g.a = some ad → ∃ cs f, w.heap[ad.block]? = some (.cells cs 52 f)
  ok : g.Ok
theorem SA.aw {w : World} {sp tt : Nat} {g : CG} {up : Int} {L : ML} (h : SA w sp tt g up L) : ∀ ad, g.fs ≠ [] → g.a = some ad → ad.block ≠ sp ∧ ad.block ≠ tt := fun ad h1 h2 => by
  obtain ⟨cs, f, h3⟩ := h.ty ad h1 h2
  obtain ⟨ds, h4⟩ := tab_hd h.st.tab
  constructor
  · intro e; rw [e, h.st.blk] at h3; injection h3 with h3; injection h3 with _ h5 _; exact absurd h5 (by decide)
  · intro e; rw [e, h4] at h3; injection h3 with h3; injection h3 with _ h5 _; exact absurd h5 (by decide)
theorem SA.below {w w' : World} {sp tt : Nat} {g : CG} {up : Int} {L : ML} (h : SA w sp tt g up L) (hb : Below w.heap.size w w') : SA w' sp tt g up L :=
  ⟨h.st.below hb, h.fw.below hb (Nat.le_refl _), fun ad h1 h2 => by obtain ⟨cs, f, h3⟩ := h.ty ad h1 h2; exact ⟨cs, f, below_block hb h3 (Nat.le_refl _)⟩, h.ok⟩
theorem FwAt.only {X : Nat → Prop} {w w' : World} {a : Option Addr} {fs : List Fwd} (h : FwAt w a fs) (ho : OnlyS X w w') (hx : ∀ ad, fs ≠ [] → a = some ad → ¬ X ad.block) : FwAt w' a fs := by
  intro hne
  obtain ⟨b, off, rfl, hlt, hc⟩ := h hne
  have hk : ∀ o, w'.cell? ⟨b, o, none⟩ = w.cell? ⟨b, o, none⟩ := fun o => ho.cell (p := ⟨b, o, none⟩) hlt (hx ⟨b, off, none⟩ hne rfl)
  refine ⟨b, off, rfl, Nat.lt_of_lt_of_le hlt ho.size, fun i f hi => ?_⟩
  obtain ⟨c0, c1, c2, c3⟩ := hc i f hi
  exact ⟨(hk _).trans c0, (hk _).trans c1, (hk _).trans c2, (hk _).trans c3⟩
/-- What puts or drops leaves the configuration. -/
theorem SA.only {w w' : World} {sp tt : Nat} {g : CG} {up up' : Int} {L L' : ML} (h : SA w sp tt g up L) (hs : SAt w' sp tt g.cs up' L') (ho : OnlyS (fun q => q = sp ∨ q = tt) w w') : SA w' sp tt g up' L' :=
  ⟨hs, h.fw.only ho (fun ad h1 h2 h3 => by have := h.aw ad h1 h2; rcases h3 with h3 | h3 <;> omega), fun ad h1 h2 => by
    obtain ⟨cs, f, h3⟩ := h.ty ad h1 h2
    have h4 := h.aw ad h1 h2
    exact ⟨cs, f, ho.heap h3 (by rintro (h5 | h5) <;> omega)⟩, h.ok⟩
/-- Has the configuration itself a port? -/
def fgB (g : CG) (k : MK) : Bool := (findL g.fs k.p.toNat k.x.toNat).isSome
theorem fwd_any (w : World) (sp tt : Nat) (g : CG) (up : Int) (L : ML) (k : MK) (mt mr mh : Int) (h : SA w sp tt g up L) :
    Calls Try.prog 75 #[.pointer (some ⟨sp, 0, none⟩), .agg #[.int .u8 k.p, .int .u16 k.x, .int .u16 mt, .int .u32 mr, .int .u32 mh]] w fun e w' => e = .returned (.bool (fgB g k)) ∧ Below w.heap.size w w' := by
  have h1 := k.hp; have h2 := k.hx
  have := forwarded_any w sp tt g.cs up L g.a g.fs g.n g.cap k.p.toNat k.x.toNat mt mr mh h.st h.ok.f h.fw h.ok.l h.ok.n
  rw [show ((k.p.toNat : Nat) : Int) = k.p by omega, show ((k.x.toNat : Nat) : Int) = k.x by omega] at this
  exact this
def k0 (k : MK) : MK := ⟨k.p, k.x, 0, k.hp, k.hx, by omega⟩
theorem con_any (w : World) (sp tt : Nat) (g : CG) (up : Int) (L : ML) (k : MK) (mt mr mh : Int) (h : SA w sp tt g up L) (hL : L.length ≤ 500000) :
    Calls Try.prog 76 #[.pointer (some ⟨sp, 0, none⟩), .agg #[.int .u8 k.p, .int .u16 k.x, .int .u16 mt, .int .u32 mr, .int .u32 mh]] w fun e w' => e = .returned (.bool (conflB (k0 k) mt mh L)) ∧ Below w.heap.size w w' :=
  conflicts_any w sp tt g.cs up L (k0 k) rfl mt mr mh h.st hL
theorem ful_any (w : World) (sp tt : Nat) (g : CG) (up : Int) (L : ML) (h : SA w sp tt g up L) :
    Calls Try.prog 55 #[.pointer (some ⟨sp, 0, none⟩)] w fun e w' => e = .returned (.bool (decide (g.mm ≤ (L.length : Int)))) ∧ Below w.heap.size w w' := full_any w sp tt g.cs up L g.mm h.st h.ok.m
def hinV (g : CG) (L : ML) (k : MK) (mt mh : Int) : Int := nzF [if fgB g k then 729 else 0, if conflB (k0 k) mt mh L then 718 else 0, if (!hasL tM k L && decide (g.mm ≤ (L.length : Int))) then 728 else 0]
/-- The cells that a lookup gives. -/
def gE (o : Option ME) : ME := o.getD ⟨0, 0, 0, 0, 0, false, ⟨#[]⟩, 0⟩
theorem gv_gE (o : Option ME) : C.GV o = .agg #[.int .u8 (gE o).p, .int .u16 (gE o).x, .int .u16 (gE o).t, .int .u32 (gE o).r, .int .u32 (gE o).h, .bool (gE o).en, .string (gE o).ws, .int .u64 (gE o).e] := by cases o <;> rfl
theorem chain8 (z : World) (b : Nat) (u0 u1 u2 u3 u4 u5 u6 u7 v0 v1 v2 v3 v4 v5 v6 v7 : Value) (T : TypeId) (h : z.heap[b]? = some (.cells #[u0, u1, u2, u3, u4, u5, u6, u7] T (0, 0))) :
    ∃ q, (((((((z.setCell ⟨b, 0, none⟩ v0).setCell ⟨b, 1, none⟩ v1).setCell ⟨b, 2, none⟩ v2).setCell ⟨b, 3, none⟩ v3).setCell ⟨b, 4, none⟩ v4).setCell ⟨b, 5, none⟩ v5).setCell ⟨b, 6, none⟩ v6).setCell ⟨b, 7, none⟩ v7 = q ∧ q.heap[b]? = some (.cells #[v0, v1, v2, v3, v4, v5, v6, v7] T (0, 0)) ∧ ∀ K w, K ≤ b → Below K w z → Below K w q := by
  obtain ⟨q0, e0⟩ : ∃ q, z.setCell ⟨b, 0, none⟩ v0 = q := ⟨_, rfl⟩
  have a0 : q0.heap[b]? = some (.cells #[v0, u1, u2, u3, u4, u5, u6, u7] T (0, 0)) := by rw [← e0]; exact heap_setCell_same z b 0 _ _ v0 h
  rw [e0]
  obtain ⟨q1, e1⟩ : ∃ q, q0.setCell ⟨b, 1, none⟩ v1 = q := ⟨_, rfl⟩
  have a1 : q1.heap[b]? = some (.cells #[v0, v1, u2, u3, u4, u5, u6, u7] T (0, 0)) := by rw [← e1]; exact heap_setCell_same q0 b 1 _ _ v1 a0
  rw [e1]
  obtain ⟨q2, e2⟩ : ∃ q, q1.setCell ⟨b, 2, none⟩ v2 = q := ⟨_, rfl⟩
  have a2 : q2.heap[b]? = some (.cells #[v0, v1, v2, u3, u4, u5, u6, u7] T (0, 0)) := by rw [← e2]; exact heap_setCell_same q1 b 2 _ _ v2 a1
  rw [e2]
  obtain ⟨q3, e3⟩ : ∃ q, q2.setCell ⟨b, 3, none⟩ v3 = q := ⟨_, rfl⟩
  have a3 : q3.heap[b]? = some (.cells #[v0, v1, v2, v3, u4, u5, u6, u7] T (0, 0)) := by rw [← e3]; exact heap_setCell_same q2 b 3 _ _ v3 a2
  rw [e3]
  obtain ⟨q4, e4⟩ : ∃ q, q3.setCell ⟨b, 4, none⟩ v4 = q := ⟨_, rfl⟩
  have a4 : q4.heap[b]? = some (.cells #[v0, v1, v2, v3, v4, u5, u6, u7] T (0, 0)) := by rw [← e4]; exact heap_setCell_same q3 b 4 _ _ v4 a3
  rw [e4]
  obtain ⟨q5, e5⟩ : ∃ q, q4.setCell ⟨b, 5, none⟩ v5 = q := ⟨_, rfl⟩
  have a5 : q5.heap[b]? = some (.cells #[v0, v1, v2, v3, v4, v5, u6, u7] T (0, 0)) := by rw [← e5]; exact heap_setCell_same q4 b 5 _ _ v5 a4
  rw [e5]
  obtain ⟨q6, e6⟩ : ∃ q, q5.setCell ⟨b, 6, none⟩ v6 = q := ⟨_, rfl⟩
  have a6 : q6.heap[b]? = some (.cells #[v0, v1, v2, v3, v4, v5, v6, u7] T (0, 0)) := by rw [← e6]; exact heap_setCell_same q5 b 6 _ _ v6 a5
  rw [e6]
  obtain ⟨q7, e7⟩ : ∃ q, q6.setCell ⟨b, 7, none⟩ v7 = q := ⟨_, rfl⟩
  have a7 : q7.heap[b]? = some (.cells #[v0, v1, v2, v3, v4, v5, v6, v7] T (0, 0)) := by rw [← e7]; exact heap_setCell_same q6 b 7 _ _ v7 a6
  rw [e7]
  refine ⟨q7, rfl, a7, fun K w hK hb => ?_⟩
  have c0 : Below K w q0 := by rw [← e0]; exact Below.setCell (p := ⟨b, 0, none⟩) hb hK _
  have c1 : Below K w q1 := by rw [← e1]; exact Below.setCell (p := ⟨b, 1, none⟩) c0 hK _
  have c2 : Below K w q2 := by rw [← e2]; exact Below.setCell (p := ⟨b, 2, none⟩) c1 hK _
  have c3 : Below K w q3 := by rw [← e3]; exact Below.setCell (p := ⟨b, 3, none⟩) c2 hK _
  have c4 : Below K w q4 := by rw [← e4]; exact Below.setCell (p := ⟨b, 4, none⟩) c3 hK _
  have c5 : Below K w q5 := by rw [← e5]; exact Below.setCell (p := ⟨b, 5, none⟩) c4 hK _
  have c6 : Below K w q6 := by rw [← e6]; exact Below.setCell (p := ⟨b, 6, none⟩) c5 hK _
  rw [← e7]
  exact c6.setCell (p := ⟨b, 7, none⟩) hK _
end Go.Proofs.Ytijjgnkfddklgaa
