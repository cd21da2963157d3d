/- Ssdp: the document's names and place; rows of texts held against one another. -/
import Derived.Test.YtonoaopioifedaaGreatDoorSLa
import Derived.Test.YtonoaopioifedaaGreatDoorIRTx
import Derived.Test.YtonoaopioifedaaGreatDoorHFld
namespace Go.Proofs.YtonoaopioifedaaGreatDoor
open Go.RowKit Go.Shelf Go.Deep
set_option linter.unusedVariables false
set_option linter.unusedSimpArgs false
set_option maxRecDepth 100000
/-- A row of texts. -/
def RowS (w : World) (a : Option Addr) (n : Nat) (ls : List (List UInt8)) : Prop := ls.length = n ∧ ∀ (j : Nat) (y : List UInt8), ls[j]? = some y → ∃ g, a = some ⟨g, 0, none⟩ ∧ w.cell? ⟨g, j, none⟩ = some (.string (bt y))
theorem RowS.below {w w' : World} {a : Option Addr} {n : Nat} {ls : List (List UInt8)} (h : RowS w a n ls) (hb : Below w.heap.size w w') : RowS w' a n ls := ⟨h.1, fun j y hy => by
  obtain ⟨g, e, hc⟩ := h.2 j y hy
  exact ⟨g, e, (hb.cell (p := ⟨g, j, none⟩) (World.block_lt_of_cell? _ _ hc)).trans hc⟩⟩
theorem rowS_of {w : World} {K : Nat} {a : Option Addr} {n c : Nat} {ls : List (List UInt8)} (h : H.OwnS w K a n c (ls.map bt)) : RowS w a n ls := ⟨by have := h.len; rwa [List.length_map] at this, fun j y hy => h.at (i := j) (y := bt y) (by rw [List.getElem?_map, hy]; rfl)⟩
theorem own_pt (u : List UInt8) (k : Nat) (y : List UInt8) (h : (nmsL (sUu ++ u))[k]? = some y) : unL (sUu ++ u) y = if k = 1 then sUu ++ u else (sUu ++ u) ++ sDd ++ y := by
  have hk : k < 6 := (List.getElem?_eq_some_iff.1 h).1
  have hne : ∀ z : List UInt8, z.take 2 ≠ [117, 117] → z ≠ sUu ++ u := fun z hz e => hz (by rw [e]; rfl)
  unfold unL
  rw [List.append_assoc (sUu ++ u)]
  match k, hk with
  | 1, _ =>
    obtain rfl : sUu ++ u = y := by injection h
    rw [if_pos rfl, if_pos rfl]
  | 0, _ | 2, _ | 3, _ | 4, _ | 5, _ =>
    injection h with h
    subst h
    rw [if_neg (hne _ (by decide)), if_neg (by decide)]
/-- A text is appended to a row of one's own: what else stays. -/
theorem pushS2 (V : World) (K : Nat) (a : Option Addr) (n c : Nat) (l : List ByteArray) (hV : H.OwnS V K a n c l) (y : ByteArray) (hs : n ≤ 1000000) (hK : K ≤ V.heap.size) :
    ∃ a' c' w', (Builtin.append_ #[35, 35] 35 #[.slice a n c, .slice (some ⟨V.heap.size, 0, none⟩) 1 1]).run Tryz.prog (V.alloc (.cells #[.string y] 9)) = .ok (.slice a' (n + 1) c') w' ∧ H.OwnS w' K a' (n + 1) c' (l ++ [y]) ∧ Below K V w' ∧
      (∀ b, b < V.heap.size → (∀ g, a = some g → g.block ≠ b) → w'.heap[b]? = V.heap[b]?) ∧ V.heap.size ≤ w'.heap.size ∧ (∀ g, a' = some g → (∃ g0, a = some g0 ∧ g0.block = g.block) ∨ V.heap.size ≤ g.block) := by
  have hal : Below V.heap.size V (V.alloc (.cells #[.string y] 9)) := (Below.refl _ _).alloc (Nat.le_refl _) _
  have hr2 := World.ownsRow.alloc hV (.cells #[.string y] 9)
  have hc : (V.alloc (.cells #[.string y] 9)).heap[V.heap.size]? = some (.cells #[.string y] 9 (0, 0)) := heap_alloc_new _ _
  obtain ⟨i0, hi, hz0, hz1, hz2⟩ := info_parts H.Tryz.infoStr
  obtain ⟨v', w', h1, h2, h3, _, h5⟩ := run_append_own_at (P := Tryz.prog) (V.alloc (.cells #[.string y] 9)) K 35 35 9 i0 (.string ⟨#[]⟩) 1 16 Tryz.underlying35 hi hz0 hz1 hz2 rfl (by decide) (.slice a n c) n (l.map Value.string) hr2 ⟨V.heap.size, 0, none⟩ 1 1 [.string y] rfl (fun j u hj => by
    cases j with
    | zero => cases hj; show (V.alloc (.cells #[.string y] 9)).cell? ⟨V.heap.size, 0, none⟩ = _; simp only [World.cell?, hc]; rfl
    | succ j => simp at hj) (by intro u hu; rw [List.mem_singleton.1 hu]; rfl) (by unfold maxLen; omega) (by omega) (by have := hal.size; omega)
  obtain ⟨a', c', rfl⟩ := slice_form h2
  have hsz := hal.size
  refine ⟨a', c', w', h1, ?_, (hal.mono hK).grown h3 (by omega) (fun z e => (hr2.lt z e).1), fun b hb hne => ?_, Nat.le_trans hsz h3.size, fun g hg => ?_⟩
  · unfold H.OwnS; rw [List.map_append]; exact h2
  · refine (h3.block b (by omega) ?_).trans (hal.block b hb)
    cases a with
    | none => simp [Value.ownBlock]
    | some g => simp only [Value.ownBlock, ne_eq, Option.some.injEq]; exact fun e => hne g rfl e.symm
  · subst hg
    rcases h5 with h5 | h5
    · cases a with
      | none => simp [Value.ownBlock] at h5
      | some g0 => simp only [Value.ownBlock, Option.some.injEq] at h5; exact .inl ⟨g0, rfl, h5.symm⟩
    · simp only [Value.ownBlock, Option.some.injEq] at h5; exact .inr (by rw [h5]; exact hsz)
/-- The row that is told, begun in block r; all else of w2 stays. -/
structure RI (w w2 wz : World) (K r : Nat) (a : Option Addr) (k c : Nat) (l : List ByteArray) : Prop where
  own : H.OwnS wz K a k c l
  below : Below K w wz
  hK : K ≤ w.heap.size
  keep : ∀ b, b < w2.heap.size → b ≠ r → wz.heap[b]? = w2.heap[b]?
  size : w2.heap.size ≤ wz.heap.size
  at_ : ∀ g, a = some g → g.block = r ∨ w2.heap.size ≤ g.block
theorem RI.next {w w2 wz wy : World} {K r : Nat} {a : Option Addr} {k c : Nat} {l : List ByteArray} (h : RI w w2 wz K r a k c l) (hb : Below wz.heap.size wz wy) : RI w w2 wy K r a k c l :=
  ⟨h.own.below hb (Nat.le_refl _), h.below.trans (hb.mono (Nat.le_trans h.hK h.below.size)), h.hK, fun b hb2 hne => (hb.block b (Nat.lt_of_lt_of_le hb2 h.size)).trans (h.keep b hb2 hne), Nat.le_trans h.size hb.size, h.at_⟩
theorem RI.push {w w2 wz : World} {K r : Nat} {a : Option Addr} {k c : Nat} {l : List ByteArray} (h : RI w w2 wz K r a k c l) (y : ByteArray) (hs : k ≤ 1000000) :
    ∃ a' c' w', (Builtin.append_ #[35, 35] 35 #[.slice a k c, .slice (some ⟨wz.heap.size, 0, none⟩) 1 1]).run Tryz.prog (wz.alloc (.cells #[.string y] 9)) = .ok (.slice a' (k + 1) c') w' ∧ RI w w2 w' K r a' (k + 1) c' (l ++ [y]) := by
  obtain ⟨a', c', w', h1, h2, h3, h4, h5, h6⟩ := pushS2 wz K a k c l h.own y hs (Nat.le_trans h.hK h.below.size)
  refine ⟨a', c', w', h1, h2, h.below.trans h3, h.hK, fun b hb hne => ?_, Nat.le_trans h.size h5, fun g hg => ?_⟩
  · refine (h4 b (Nat.lt_of_lt_of_le hb h.size) (fun g hg e => ?_)).trans (h.keep b hb hne)
    rcases h.at_ g hg with h7 | h7
    · exact hne (by omega)
    · omega
  · rcases h6 g hg with ⟨g0, e, h7⟩ | h7
    · rw [← h7]; exact h.at_ g0 e
    · exact .inr (Nat.le_trans h.size h7)
theorem RI.cell {w w2 wz : World} {K r : Nat} {a : Option Addr} {k c : Nat} {l : List ByteArray} (h : RI w w2 wz K r a k c l) {g j : Nat} {v : Value} (hc : w2.cell? ⟨g, j, none⟩ = some v) (hg : g ≠ r) : wz.cell? ⟨g, j, none⟩ = some v := by
  have := World.block_lt_of_cell? _ _ hc
  exact (World.cell?_of_block (a := ⟨g, j, none⟩) (h.keep g this hg)).trans hc
set_option maxHeartbeats 1000000 in
theorem rplace_any (cs : Array Value) (a : Nat) (u : List UInt8) (hc : CfS cs a u) (w : World) (ha : a ≤ 4294967295) :
    Calls Tryz.prog 30 #[.agg cs] w fun e w' => e = .returned (.string (bt (plcL (txt (qb a) 4) ++ cr))) ∧ Below w.heap.size w w' := by
  have HT := hide (fun (W : World) => rtext_any a W ha)
  have hl := txt_len (qb a) (fun i => by have : qb a i < 256 := Nat.mod_lt _ (by decide); omega) 4 (Nat.le_refl _)
  generalize txt (qb a) 4 = A at *
  have hs1 : ∀ V : World, (Op.stringOp .add ⟨#[76, 79, 67, 65, 84, 73, 79, 78, 58, 32, 104, 116, 116, 112, 58, 47, 47]⟩ ⟨A.toArray⟩).run Tryz.prog V = .ok (.string (bt (tLoc ++ A))) V := fun V => run_string_add_lists V tLoc A (by decide) (by omega)
  have hs2 : ∀ V : World, (Op.stringOp .add (bt (tLoc ++ A)) ⟨#[58, 53, 48, 48, 48, 47, 100, 101, 115, 99, 46, 120, 109, 108, 13, 10]⟩).run Tryz.prog V = .ok (.string (bt (plcL A ++ cr))) V := fun V => by
    have := run_string_add_lists (P := Tryz.prog) V (tLoc ++ A) [58, 53, 48, 48, 48, 47, 100, 101, 115, 99, 46, 120, 109, 108, 13, 10] (by simp only [List.length_append, tLoc, List.length_cons, List.length_nil]; omega) (by decide)
    rw [show plcL A ++ cr = (tLoc ++ A) ++ [58, 53, 48, 48, 48, 47, 100, 101, 115, 99, 46, 120, 109, 108, 13, 10] from by unfold plcL cr; simp]
    exact this
  generalize bt (plcL A ++ cr) = S4 at *
  generalize bt (tLoc ++ A) = S1 at *
  generalize (⟨A.toArray⟩ : ByteArray) = SA at *
  obtain ⟨_, c18⟩ := Array.getElem?_eq_some_iff.1 hc.lan
  have h2 := hc.size
  have HB := hide ((Below.refl w.heap.size w).alloc (Nat.le_refl _) (.cells cs 28))
  clear hc ha hl
  go_enter Tryz.func30, Tryz.ntmps30
  go_wp2_with fail
  refine (HT.out _).mono ?_
  rintro e w1 ⟨rfl, b1⟩
  have HB1 := hide (HB.out.trans (b1.mono HB.out.size))
  clear b1 HB HT
  go_wp2_with fail
  go_ret
  exact ⟨rfl, HB1.out⟩
set_option maxHeartbeats 4000000 in
theorem rnames_any (cs : Array Value) (ad : Nat) (u : List UInt8) (hc : CfS cs ad u) (w : World) (hu : u.length ≤ 900) :
    Calls Tryz.prog 12 #[.agg cs] w fun e w' => ∃ a c b d, e = .returned (.tuple #[.slice a 6 c, .slice b 6 d]) ∧ RowS w' a 6 (nmsL (sUu ++ u)) ∧ RowS w' b 6 ((nmsL (sUu ++ u)).map (unL (sUu ++ u))) ∧ (∀ p, (a = some p ∨ b = some p) → w.heap.size ≤ p.block) ∧ Below w.heap.size w w' := by
  obtain ⟨_, c27⟩ := Array.getElem?_eq_some_iff.1 hc.uuid
  have h2 := hc.size
  have hs1 : ∀ V : World, (Op.stringOp .add ⟨#[117, 117, 105, 100, 58]⟩ (bt u)).run Tryz.prog V = .ok (.string (bt (sUu ++ u))) V := fun V => run_string_add_lists V sUu u (by decide) (by omega)
  have hd10 : ∀ V : World, (Op.stringOp .add ⟨#[117, 114, 110, 58, 115, 99, 104, 101, 109, 97, 115, 45, 117, 112, 110, 112, 45, 111, 114, 103, 58, 100, 101, 118, 105, 99, 101, 58, 73, 110, 116, 101, 114, 110, 101, 116, 71, 97, 116, 101, 119, 97, 121, 68, 101, 118, 105, 99, 101, 58]⟩ ⟨#[49]⟩).run Tryz.prog V = .ok (.string (bt sGw1)) V := fun V => run_string_add_lists V [117, 114, 110, 58, 115, 99, 104, 101, 109, 97, 115, 45, 117, 112, 110, 112, 45, 111, 114, 103, 58, 100, 101, 118, 105, 99, 101, 58, 73, 110, 116, 101, 114, 110, 101, 116, 71, 97, 116, 101, 119, 97, 121, 68, 101, 118, 105, 99, 101, 58] [49] (by decide) (by decide)
  have hd11 : ∀ V : World, (Op.stringOp .add ⟨(([117, 114, 110, 58, 115, 99, 104, 101, 109, 97, 115, 45, 117, 112, 110, 112, 45, 111, 114, 103, 58, 100, 101, 118, 105, 99, 101, 58, 73, 110, 116, 101, 114, 110, 101, 116, 71, 97, 116, 101] : List UInt8).append [119, 97, 121, 68, 101, 118, 105, 99, 101, 58]).toArray⟩ ⟨#[49]⟩).run Tryz.prog V = .ok (.string (bt sGw1)) V := fun V => run_string_add_lists V [117, 114, 110, 58, 115, 99, 104, 101, 109, 97, 115, 45, 117, 112, 110, 112, 45, 111, 114, 103, 58, 100, 101, 118, 105, 99, 101, 58, 73, 110, 116, 101, 114, 110, 101, 116, 71, 97, 116, 101, 119, 97, 121, 68, 101, 118, 105, 99, 101, 58] [49] (by decide) (by decide)
  have hd12 : ∀ V : World, (Op.stringOp .add ⟨(([117, 114, 110, 58, 115, 99, 104, 101, 109, 97, 115, 45, 117, 112, 110, 112, 45, 111, 114, 103, 58, 100, 101, 118, 105, 99, 101, 58, 73, 110, 116, 101, 114, 110, 101, 116, 71, 97, 116, 101] : List UInt8) ++ [119, 97, 121, 68, 101, 118, 105, 99, 101, 58]).toArray⟩ ⟨#[49]⟩).run Tryz.prog V = .ok (.string (bt sGw1)) V := fun V => run_string_add_lists V [117, 114, 110, 58, 115, 99, 104, 101, 109, 97, 115, 45, 117, 112, 110, 112, 45, 111, 114, 103, 58, 100, 101, 118, 105, 99, 101, 58, 73, 110, 116, 101, 114, 110, 101, 116, 71, 97, 116, 101, 119, 97, 121, 68, 101, 118, 105, 99, 101, 58] [49] (by decide) (by decide)
  have hd20 : ∀ V : World, (Op.stringOp .add ⟨#[117, 114, 110, 58, 115, 99, 104, 101, 109, 97, 115, 45, 117, 112, 110, 112, 45, 111, 114, 103, 58, 100, 101, 118, 105, 99, 101, 58, 73, 110, 116, 101, 114, 110, 101, 116, 71, 97, 116, 101, 119, 97, 121, 68, 101, 118, 105, 99, 101, 58]⟩ ⟨#[50]⟩).run Tryz.prog V = .ok (.string (bt sGw2)) V := fun V => run_string_add_lists V [117, 114, 110, 58, 115, 99, 104, 101, 109, 97, 115, 45, 117, 112, 110, 112, 45, 111, 114, 103, 58, 100, 101, 118, 105, 99, 101, 58, 73, 110, 116, 101, 114, 110, 101, 116, 71, 97, 116, 101, 119, 97, 121, 68, 101, 118, 105, 99, 101, 58] [50] (by decide) (by decide)
  have hd21 : ∀ V : World, (Op.stringOp .add ⟨(([117, 114, 110, 58, 115, 99, 104, 101, 109, 97, 115, 45, 117, 112, 110, 112, 45, 111, 114, 103, 58, 100, 101, 118, 105, 99, 101, 58, 73, 110, 116, 101, 114, 110, 101, 116, 71, 97, 116, 101] : List UInt8).append [119, 97, 121, 68, 101, 118, 105, 99, 101, 58]).toArray⟩ ⟨#[50]⟩).run Tryz.prog V = .ok (.string (bt sGw2)) V := fun V => run_string_add_lists V [117, 114, 110, 58, 115, 99, 104, 101, 109, 97, 115, 45, 117, 112, 110, 112, 45, 111, 114, 103, 58, 100, 101, 118, 105, 99, 101, 58, 73, 110, 116, 101, 114, 110, 101, 116, 71, 97, 116, 101, 119, 97, 121, 68, 101, 118, 105, 99, 101, 58] [50] (by decide) (by decide)
  have hd22 : ∀ V : World, (Op.stringOp .add ⟨(([117, 114, 110, 58, 115, 99, 104, 101, 109, 97, 115, 45, 117, 112, 110, 112, 45, 111, 114, 103, 58, 100, 101, 118, 105, 99, 101, 58, 73, 110, 116, 101, 114, 110, 101, 116, 71, 97, 116, 101] : List UInt8) ++ [119, 97, 121, 68, 101, 118, 105, 99, 101, 58]).toArray⟩ ⟨#[50]⟩).run Tryz.prog V = .ok (.string (bt sGw2)) V := fun V => run_string_add_lists V [117, 114, 110, 58, 115, 99, 104, 101, 109, 97, 115, 45, 117, 112, 110, 112, 45, 111, 114, 103, 58, 100, 101, 118, 105, 99, 101, 58, 73, 110, 116, 101, 114, 110, 101, 116, 71, 97, 116, 101, 119, 97, 121, 68, 101, 118, 105, 99, 101, 58] [50] (by decide) (by decide)
  have hs10 : ∀ V : World, (Op.stringOp .add ⟨#[117, 114, 110, 58, 115, 99, 104, 101, 109, 97, 115, 45, 117, 112, 110, 112, 45, 111, 114, 103, 58, 115, 101, 114, 118, 105, 99, 101, 58, 87, 65, 78, 73, 80, 67, 111, 110, 110, 101, 99, 116, 105, 111, 110, 58]⟩ ⟨#[49]⟩).run Tryz.prog V = .ok (.string (bt sSv1)) V := fun V => run_string_add_lists V [117, 114, 110, 58, 115, 99, 104, 101, 109, 97, 115, 45, 117, 112, 110, 112, 45, 111, 114, 103, 58, 115, 101, 114, 118, 105, 99, 101, 58, 87, 65, 78, 73, 80, 67, 111, 110, 110, 101, 99, 116, 105, 111, 110, 58] [49] (by decide) (by decide)
  have hs11 : ∀ V : World, (Op.stringOp .add ⟨(([117, 114, 110, 58, 115, 99, 104, 101, 109, 97, 115, 45, 117, 112, 110, 112, 45, 111, 114, 103, 58, 115, 101, 114, 118, 105, 99, 101, 58, 87, 65, 78, 73, 80, 67, 111, 110, 110, 101, 99] : List UInt8).append [116, 105, 111, 110, 58]).toArray⟩ ⟨#[49]⟩).run Tryz.prog V = .ok (.string (bt sSv1)) V := fun V => run_string_add_lists V [117, 114, 110, 58, 115, 99, 104, 101, 109, 97, 115, 45, 117, 112, 110, 112, 45, 111, 114, 103, 58, 115, 101, 114, 118, 105, 99, 101, 58, 87, 65, 78, 73, 80, 67, 111, 110, 110, 101, 99, 116, 105, 111, 110, 58] [49] (by decide) (by decide)
  have hs12 : ∀ V : World, (Op.stringOp .add ⟨(([117, 114, 110, 58, 115, 99, 104, 101, 109, 97, 115, 45, 117, 112, 110, 112, 45, 111, 114, 103, 58, 115, 101, 114, 118, 105, 99, 101, 58, 87, 65, 78, 73, 80, 67, 111, 110, 110, 101, 99] : List UInt8) ++ [116, 105, 111, 110, 58]).toArray⟩ ⟨#[49]⟩).run Tryz.prog V = .ok (.string (bt sSv1)) V := fun V => run_string_add_lists V [117, 114, 110, 58, 115, 99, 104, 101, 109, 97, 115, 45, 117, 112, 110, 112, 45, 111, 114, 103, 58, 115, 101, 114, 118, 105, 99, 101, 58, 87, 65, 78, 73, 80, 67, 111, 110, 110, 101, 99, 116, 105, 111, 110, 58] [49] (by decide) (by decide)
  have hs20 : ∀ V : World, (Op.stringOp .add ⟨#[117, 114, 110, 58, 115, 99, 104, 101, 109, 97, 115, 45, 117, 112, 110, 112, 45, 111, 114, 103, 58, 115, 101, 114, 118, 105, 99, 101, 58, 87, 65, 78, 73, 80, 67, 111, 110, 110, 101, 99, 116, 105, 111, 110, 58]⟩ ⟨#[50]⟩).run Tryz.prog V = .ok (.string (bt sSv2)) V := fun V => run_string_add_lists V [117, 114, 110, 58, 115, 99, 104, 101, 109, 97, 115, 45, 117, 112, 110, 112, 45, 111, 114, 103, 58, 115, 101, 114, 118, 105, 99, 101, 58, 87, 65, 78, 73, 80, 67, 111, 110, 110, 101, 99, 116, 105, 111, 110, 58] [50] (by decide) (by decide)
  have hs21 : ∀ V : World, (Op.stringOp .add ⟨(([117, 114, 110, 58, 115, 99, 104, 101, 109, 97, 115, 45, 117, 112, 110, 112, 45, 111, 114, 103, 58, 115, 101, 114, 118, 105, 99, 101, 58, 87, 65, 78, 73, 80, 67, 111, 110, 110, 101, 99] : List UInt8).append [116, 105, 111, 110, 58]).toArray⟩ ⟨#[50]⟩).run Tryz.prog V = .ok (.string (bt sSv2)) V := fun V => run_string_add_lists V [117, 114, 110, 58, 115, 99, 104, 101, 109, 97, 115, 45, 117, 112, 110, 112, 45, 111, 114, 103, 58, 115, 101, 114, 118, 105, 99, 101, 58, 87, 65, 78, 73, 80, 67, 111, 110, 110, 101, 99, 116, 105, 111, 110, 58] [50] (by decide) (by decide)
  have hs22 : ∀ V : World, (Op.stringOp .add ⟨(([117, 114, 110, 58, 115, 99, 104, 101, 109, 97, 115, 45, 117, 112, 110, 112, 45, 111, 114, 103, 58, 115, 101, 114, 118, 105, 99, 101, 58, 87, 65, 78, 73, 80, 67, 111, 110, 110, 101, 99] : List UInt8) ++ [116, 105, 111, 110, 58]).toArray⟩ ⟨#[50]⟩).run Tryz.prog V = .ok (.string (bt sSv2)) V := fun V => run_string_add_lists V [117, 114, 110, 58, 115, 99, 104, 101, 109, 97, 115, 45, 117, 112, 110, 112, 45, 111, 114, 103, 58, 115, 101, 114, 118, 105, 99, 101, 58, 87, 65, 78, 73, 80, 67, 111, 110, 110, 101, 99, 116, 105, 111, 110, 58] [50] (by decide) (by decide)
  have hou : (sUu ++ u).length ≤ 1000 := by unfold sUu; simp only [List.length_append, List.length_cons, List.length_nil]; omega
  have HUN := hide (own_pt u)
  obtain ⟨o, ho⟩ : ∃ o, sUu ++ u = o := ⟨_, rfl⟩
  rw [ho] at hs1 hou HUN ⊢
  have hs2 : ∀ V : World, (Op.stringOp .add (bt o) ⟨#[58, 58]⟩).run Tryz.prog V = .ok (.string (bt (o ++ sDd))) V := fun V => run_string_add_lists V o sDd (by omega) (by decide)
  obtain ⟨W1, hW1⟩ : ∃ V, w.alloc (.cells cs 28) = V := ⟨_, rfl⟩
  obtain ⟨W2, hW2⟩ : ∃ V, W1.alloc (.cells (nmRow o) 9) = V := ⟨_, rfl⟩
  obtain ⟨W3, hW3⟩ : ∃ V, W2.alloc (.cells #[] 9) = V := ⟨_, rfl⟩
  have hb1 : Below w.heap.size w W1 := by rw [← hW1]; exact (Below.refl _ _).alloc (Nat.le_refl _) _
  have hb2 : Below W1.heap.size W1 W2 := by rw [← hW2]; exact (Below.refl _ _).alloc (Nat.le_refl _) _
  have hb3 : Below W2.heap.size W2 W3 := by rw [← hW3]; exact (Below.refl _ _).alloc (Nat.le_refl _) _
  obtain ⟨g, hg⟩ : ∃ g, W1.heap.size = g := ⟨_, rfl⟩
  obtain ⟨r, hr⟩ : ∃ g, W2.heap.size = g := ⟨_, rfl⟩
  have hz1 : w.heap.size + 1 = g := by rw [← hg, ← hW1]; simp
  have hz2 : g + 1 = r := by rw [← hr, ← hW2, ← hg]; simp
  have hn3 : W3.heap[g]? = some (.cells (nmRow o) 9 (0, 0)) := below_blk hb3 (by rw [← hW2, ← hg]; exact heap_alloc_new _ _) (Nat.le_refl _)
  have hl3 : H.OwnS W3 W3.heap.size none 0 0 [] := World.ownsRow_nil _ _ _ _
  have hl4 : H.OwnS W3 W2.heap.size (some ⟨r, 0, none⟩) 0 0 [] := by rw [← hW3, ← hr]; exact World.ownsRow_lit (base := W2.heap.size) (e := 9) (size := 1) W2 #[] 0 (Nat.le_refl _) (by unfold maxLen; omega) rfl
  have HBB := hide (show Below w.heap.size w W3 from hb1.trans ((hb2.trans (hb3.mono hb2.size)).mono hb1.size))
  have HE := hide (show ((w.alloc (.cells cs 28)).alloc (.cells #[.string (bt sRoot), .string (bt o), .string (bt sGw1), .string (bt sGw2), .string (bt sSv1), .string (bt sSv2)] 9)).alloc (.cells #[] 9) = W3 from by rw [hW1]; exact (congrArg (fun V : World => V.alloc (.cells #[] 9)) hW2).trans hW3)
  have HZ := hide (And.intro hz1 hz2)
  have HI := hide (show H.OwnS W3 W2.heap.size (some ⟨r, 0, none⟩) 0 0 ((((nmsL o).map (unL o)).take 0).map bt) ∧ W3.heap[g]? = some (.cells (nmRow o) 9 (0, 0)) ∧ Below w.heap.size w W3 ∧ Below W2.heap.size W2 W3 from ⟨hl4, hn3, HBB.out, hb3⟩)
  have HGR := hide (show g < W2.heap.size from by omega)
  have HRW := hide (show W2.heap[g]? = some (.cells (nmRow o) 9 (0, 0)) from by rw [← hW2, ← hg]; exact heap_alloc_new _ _)
  have HW2 := hide (hb1.trans (hb2.mono hb1.size))
  have hnl : ∀ y ∈ nmsL o, y.length ≤ 1000 := fun y hy => nmsL_le o y hy hou
  have HNL := hide hnl
  obtain ⟨O, hO⟩ : ∃ x, bt o = x := ⟨_, rfl⟩
  rw [hO] at hs1 hs2 HE
  have HOE := hide hO
  generalize bt u = UU at *
  have HOU := hide hou
  clear hW1 hW2 hW3 hb1 hb2 hb3 hg hr hz1 hz2 hn3 hl3 hl4 ho hc hu hnl hO hou
  try unfold sRoot at HE
  generalize bt sGw1 = G1 at *
  generalize bt sGw2 = G2 at *
  generalize bt sSv1 = S1 at *
  generalize bt sSv2 = S2 at *
  go_enter Tryz.func12, Tryz.ntmps12
  go_upto_region 5 with (fail)
  try rw [HE.out]
  try rw [HZ.out.1]
  try rw [HZ.out.2]
  go_wp2_with fail
  go_loopw [8, 9] (fun bv i wz => ∃ (k : Nat) (a : Option Addr) (c : Nat), k ≤ 6 ∧ bv = .slice a k c ∧ i = .int .i64 (k : Int) ∧ Hid (H.OwnS wz W2.heap.size a k c ((((nmsL o).map (unL o)).take k).map bt) ∧ Below W2.heap.size W2 wz)) (fun _ i _ => 6 - (intOf i).toNat)
  case atStart => exact ⟨0, _, _, Nat.zero_le _, rfl, rfl, hide ⟨HI.out.1, HI.out.2.2.2⟩⟩
  case round =>
    clear HI
    obtain ⟨k, a, c, hk, rfl, rfl, HI⟩ := hrel
    have hk4 : (0 : Int) ≤ (k : Int) := by omega
    have hk5 : (k : Int) ≤ 6 := by omega
    by_cases hlt : k < 6
    · have d1 : decide ((k : Int) < 6) = true := by simp; omega
      obtain ⟨y, hy⟩ : ∃ y, (nmsL o)[k]? = some y := ⟨_, List.getElem?_eq_getElem (by rw [nmsL_len]; exact hlt)⟩
      have hyl := HNL.out y (List.mem_of_getElem? hy)
      have cy := nm_cell ((HI.out.2.block g HGR.out).trans HRW.out) hy
      have htk : ((nmsL o).map (unL o)).take (k + 1) = ((nmsL o).map (unL o)).take k ++ [unL o y] := by rw [List.take_add_one, List.getElem?_map, hy]; rfl
      have hun := HUN.out k y hy
      by_cases h1 : k = 1
      · rw [if_pos h1] at hun
        have q1 : ((k : Int) == 1) = true := by rw [beq_iff_eq]; omega
        clear h1
        obtain ⟨a5, c5, w5, hrun, o5, b5⟩ := H.pushS wr W2.heap.size a k c _ HI.out.1 O (by omega) HI.out.2.size
        have HRUN := hide hrun
        have HF := hide (show H.OwnS w5 W2.heap.size a5 (k + 1) c5 ((((nmsL o).map (unL o)).take (k + 1)).map bt) ∧ Below W2.heap.size W2 w5 from ⟨by rw [htk, List.map_append, hun, List.map_singleton, HOE.out]; exact o5, HI.out.2.trans b5⟩)
        clear hrun o5 b5 HI hy cy htk hun
        go_wp2_with (at_builtin; refine Lib.wpList_append_run _ rfl _ _ _ _ rfl _ _ rfl rfl _ _ HRUN.out ?_)
        exact ⟨⟨k + 1, a5, c5, by omega, rfl, by go_num, HF⟩, by simp [intOf]; omega⟩
      · rw [if_neg h1] at hun
        have q1 : ((k : Int) == 1) = false := by rw [beq_eq_false_iff_ne]; omega
        have hs3 : ∀ V : World, (Op.stringOp .add (bt (o ++ sDd)) (bt y)).run Tryz.prog V = .ok (.string (bt (o ++ sDd ++ y))) V := fun V => run_string_add_lists V (o ++ sDd) y (by have := HOU.out; simp only [List.length_append, sDd, List.length_cons, List.length_nil]; omega) (by omega)
        obtain ⟨a5, c5, w5, hrun, o5, b5⟩ := H.pushS wr W2.heap.size a k c _ HI.out.1 (bt (o ++ sDd ++ y)) (by omega) HI.out.2.size
        have HRUN := hide hrun
        have HF := hide (show H.OwnS w5 W2.heap.size a5 (k + 1) c5 ((((nmsL o).map (unL o)).take (k + 1)).map bt) ∧ Below W2.heap.size W2 w5 from ⟨by rw [htk, List.map_append, hun, List.map_singleton]; exact o5, HI.out.2.trans b5⟩)
        clear hrun o5 b5 HI hy htk hun hyl
        generalize bt (o ++ sDd ++ y) = UY at *
        generalize bt (o ++ sDd) = OD at *
        generalize bt y = Y at *
        go_wp2_with (at_builtin; refine Lib.wpList_append_run _ rfl _ _ _ _ rfl _ _ rfl rfl _ _ HRUN.out ?_)
        exact ⟨⟨k + 1, a5, c5, by omega, rfl, by go_num, HF⟩, by simp [intOf]; omega⟩
    · have d1 : decide ((k : Int) < 6) = false := by simp; omega
      obtain rfl : k = 6 := by omega
      have HF := hide (show RowS wr (some ⟨g, 0, none⟩) 6 (nmsL o) ∧ RowS wr a 6 ((nmsL o).map (unL o)) ∧ (∀ p, (some (⟨g, 0, none⟩ : Addr) = some p ∨ a = some p) → w.heap.size ≤ p.block) ∧ Below w.heap.size w wr from ⟨⟨rfl, fun j y hy => ⟨g, rfl, nm_cell ((HI.out.2.block g HGR.out).trans HRW.out) hy⟩⟩, rowS_of (by have h := HI.out.1; rwa [List.take_of_length_le (by rw [List.length_map, nmsL_len]; omega)] at h), (fun p hp => by
        rcases hp with hp | hp
        · injection hp with hp; subst hp; exact (by have := HZ.out; show w.heap.size ≤ g; omega)
        · subst hp
          have h := (World.ownsRow.lt HI.out.1 p.block (by rfl)).1
          exact Nat.le_trans HW2.out.size h), HW2.out.trans (HI.out.2.mono HW2.out.size)⟩)
      clear HI
      go_wp2_with fail
      go_ret2
      exact ⟨_, _, _, _, rfl, HF.out.1, HF.out.2.1, HF.out.2.2.1, HF.out.2.2.2⟩
end Go.Proofs.YtonoaopioifedaaGreatDoor
