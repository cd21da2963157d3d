/- Ssdp: the place, a text of lines, the names as a function. -/
import Derived.Test.YtonoaopioifedaaGreatDoorSNm
import Derived.Test.YtonoaopioifedaaGreatDoorIText
import Derived.Test.YtonoaopioifedaaGreatDoorHMem
namespace Go.Proofs.YtonoaopioifedaaGreatDoor
open Go.RowKit Go.Shelf Go.Deep
set_option linter.unusedVariables false
set_option linter.unusedSimpArgs false
set_option maxRecDepth 100000
/-- What of a configuration is told: its address on the LAN, its UUID. -/
structure CfS (cs : Array Value) (a : Nat) (u : List UInt8) : Prop where
  size : cs.size = 28
  lan : cs[18]? = some (.int .u32 (a : Int))
  uuid : cs[27]? = some (.string (bt u))
theorem itoa5000 : Lib.itoa (5000 : Int) = [53, 48, 48, 48] := by decide +kernel
set_option maxHeartbeats 1000000 in
theorem place_any (cs : Array Value) (a : Nat) (u : List UInt8) (hc : CfS cs a u) (w : World) (hp : PT w) (ha : a ≤ 4294967295) :
    Calls Tryz.prog 24 #[.agg cs] w fun e w' => e = .returned (.string (bt (plcL (txt (qb a) 4)))) ∧ Below w.heap.size w w' := by
  have HT := hide (fun (W : World) (hW : Below w.heap.size w W) => text_any a W ha (hp.below hW (Nat.le_refl _)))
  have HI := hide (fun (W : World) (hW : Below w.heap.size w W) => Tryz.strconv_Itoa 5000 (by decide) (by decide) W (tab_below hp.1 hW (Nat.le_refl _)))
  have hl := txt_len (qb a) (fun i => by have : qb a i < 256 := Nat.mod_lt _ (by decide); omega) 4 (Nat.le_refl _)
  rw [itoa5000] at HI
  generalize txt (qb a) 4 = A at *
  have hs1 : ∀ V : World, (Op.stringOp .add ⟨#[76, 79, 67, 65, 84, 73, 79, 78, 58, 32, 104, 116, 116, 112, 58, 47, 47]⟩ ⟨A.toArray⟩).run Tryz.prog V = .ok (.string (bt (tLoc ++ A))) V := fun V => run_string_add_lists V tLoc A (by decide) (by omega)
  have hl1 : (tLoc ++ A).length ≤ 200 := by simp only [List.length_append, tLoc, List.length_cons, List.length_nil]; omega
  have hs2 : ∀ V : World, (Op.stringOp .add (bt (tLoc ++ A)) ⟨#[58]⟩).run Tryz.prog V = .ok (.string (bt (tLoc ++ A ++ [58]))) V := fun V => run_string_add_lists V (tLoc ++ A) [58] (by omega) (by decide)
  have hs3 : ∀ V : World, (Op.stringOp .add (bt (tLoc ++ A ++ [58])) ⟨[53, 48, 48, 48].toArray⟩).run Tryz.prog V = .ok (.string (bt (tLoc ++ A ++ [58] ++ [53, 48, 48, 48]))) V := fun V => run_string_add_lists V (tLoc ++ A ++ [58]) [53, 48, 48, 48] (by simp only [List.length_append, List.length_cons, List.length_nil] at *; omega) (by decide)
  have hs4 : ∀ V : World, (Op.stringOp .add (bt (tLoc ++ A ++ [58] ++ [53, 48, 48, 48])) ⟨#[47, 100, 101, 115, 99, 46, 120, 109, 108]⟩).run Tryz.prog V = .ok (.string (bt (plcL A))) V := fun V => run_string_add_lists V (tLoc ++ A ++ [58] ++ [53, 48, 48, 48]) [47, 100, 101, 115, 99, 46, 120, 109, 108] (by simp only [List.length_append, List.length_cons, List.length_nil] at *; omega) (by decide)
  generalize bt (plcL A) = S4 at *
  generalize bt (tLoc ++ A ++ [58] ++ [53, 48, 48, 48]) = S3 at *
  generalize bt (tLoc ++ A ++ [58]) = S2 at *
  generalize bt (tLoc ++ A) = S1 at *
  generalize (⟨A.toArray⟩ : ByteArray) = SA at *
  generalize (⟨[53, 48, 48, 48].toArray⟩ : ByteArray) = S5 at *
  obtain ⟨_, c18⟩ := Array.getElem?_eq_some_iff.1 hc.lan
  have h2 := hc.size
  have HB := hide ((Below.refl w.heap.size w).alloc (Nat.le_refl _) (.cells cs 28))
  clear hc hp ha hl hl1
  go_enter Tryz.func24, Tryz.ntmps24
  go_wp2_with fail
  refine (HT.out _ HB.out).mono ?_
  rintro e w1 ⟨rfl, b1⟩
  have HB1 := hide (HB.out.trans (b1.mono HB.out.size))
  have HI1 := hide (HI.out _ HB1.out)
  clear b1 HB HT HI
  go_wp2_with fail
  refine HI1.out.mono ?_
  rintro e w2 ⟨rfl, k, os, hw⟩
  have HB2 := hide (show Below w.heap.size w w2 from hw ▸ HB1.out.trans (Lib.below_grow _ _ HB1.out.size _ _))
  clear hw HB1 HI1
  go_wp2_with fail
  go_ret
  exact ⟨rfl, HB2.out⟩
/-- A row of bytes. -/
def TxB (w : World) (g : Nat) (l : List UInt8) : Prop := ∃ (cs : Array Value) (f : Nat × Nat), w.heap[g]? = some (.cells cs 5 f) ∧ ∀ (j : Nat) (b : UInt8), l[j]? = some b → cs[j]? = some (H.byV b)
set_option maxHeartbeats 1000000 in
theorem message_any (bk c n : Nat) (xs : List (List UInt8)) (w : World) (hcells : ∀ (j : Nat) x, xs[j]? = some x → w.cell? ⟨bk, j, none⟩ = some (.string (bt x))) (hbk : bk < w.heap.size) (hn : xs.length = n) (hN : n ≤ 100) (hc : n ≤ c) (hl : (Lib.join xs cr).length ≤ 100000) :
    Calls Tryz.prog 23 #[.slice (some ⟨bk, 0, none⟩) n c] w fun e w' => ∃ g cap m, m = (msgL xs).length ∧ e = .returned (.slice (some ⟨g, 0, none⟩) m cap) ∧ TxB w' g (msgL xs) ∧ w.heap.size ≤ g ∧ Below w.heap.size w w' := by
  have e0 : (xs.map bt).map (·.data.toList) = xs := by rw [List.map_map]; exact List.map_id' xs
  have HJ := Tryz.strings_Join bk 0 c (xs.map bt) ⟨#[13, 10]⟩ w (fun j x hx => by
    rw [List.getElem?_map] at hx
    cases hy : xs[j]? with
    | none => rw [hy] at hx; cases hx
    | some y =>
      rw [hy] at hx
      injection hx with hx
      rw [Nat.zero_add, ← hx]; exact hcells j y hy) hbk (by rw [List.length_map]; omega) (by rw [List.length_map]; omega) (by rw [e0]; show (Lib.join xs cr).length ≤ _; omega)
  rw [e0, List.length_map, hn] at HJ
  have HJ := hide (show Calls Tryz.prog 40 #[.slice (some ⟨bk, 0, none⟩) n c, .string ⟨#[13, 10]⟩] w fun e w' => e = .returned (.string (bt (Lib.join xs cr))) ∧ Below w.heap.size w w' from HJ)
  have hs1 : ∀ V : World, (Op.stringOp .add (bt (Lib.join xs cr)) ⟨#[13, 10]⟩).run Tryz.prog V = .ok (.string (bt (Lib.join xs cr ++ cr))) V := fun V => run_string_add_lists V _ cr (by omega) (by decide)
  have hs2 : ∀ V : World, (Op.stringOp .add (bt (Lib.join xs cr ++ cr)) ⟨#[13, 10]⟩).run Tryz.prog V = .ok (.string (bt (msgL xs))) V := fun V => run_string_add_lists V _ cr (by simp only [List.length_append, cr, List.length_cons, List.length_nil] at *; omega) (by decide)
  have HC := hide (fun V : World => H.bytes8 V (bt (msgL xs)))
  have HZ := hide (show (bt (msgL xs)).size = (msgL xs).length from by simp [ByteArray.size])
  obtain ⟨m, hm⟩ : ∃ m, (msgL xs).length = m := ⟨_, rfl⟩
  have HM := hide hm
  have HD := hide (show (bt (msgL xs)).data.toList = msgL xs from by simp)
  generalize bt (msgL xs) = S2 at *
  generalize bt (Lib.join xs cr ++ cr) = S1 at *
  generalize bt (Lib.join xs cr) = S0 at *
  clear e0 hcells hbk hn hN hc hl hm
  go_enter Tryz.func23, Tryz.ntmps23
  go_wp2_with fail
  refine HJ.out.mono ?_
  rintro e w1 ⟨rfl, b1⟩
  obtain ⟨cap, w2, hrun, ⟨cs, h1, h2, h3⟩, b2⟩ := HC.out w1
  rw [HZ.out, HM.out] at hrun
  rw [HD.out] at h3
  have HF := hide (show TxB w2 w1.heap.size (msgL xs) ∧ w.heap.size ≤ w1.heap.size ∧ Below w.heap.size w w2 from ⟨⟨cs, _, h1, fun j b hb => by have := h3 j b hb; rw [if_neg (by omega)] at this; exact this⟩, b1.size, b1.trans (b2.mono b1.size)⟩)
  clear h1 h2 h3 b1 b2 HC HJ
  go_wp2_with fail
  go_ret
  exact ⟨_, _, _, HM.out.symm, rfl, HF.out.1, HF.out.2⟩
set_option maxHeartbeats 1000000 in
theorem names_any (cs : Array Value) (a : Nat) (u : List UInt8) (hc : CfS cs a u) (w : World) (hu : u.length ≤ 900) :
    Calls Tryz.prog 13 #[.agg cs] w fun e w' => ∃ P, e = .returned (.func (.func 31) #[] #[.pointer (some ⟨P, 0, none⟩)]) ∧ w'.heap[P]? = some (.cells #[.string (bt (sUu ++ u))] 9 (0, 0)) ∧ Below w.heap.size w w' := by
  obtain ⟨_, c27⟩ := Array.getElem?_eq_some_iff.1 hc.uuid
  have h2 := hc.size
  have hs1 : ∀ V : World, (Op.stringOp .add ⟨#[117, 117, 105, 100, 58]⟩ (bt u)).run Tryz.prog V = .ok (.string (bt (sUu ++ u))) V := fun V => run_string_add_lists V sUu u (by decide) (by omega)
  obtain ⟨W1, hW1⟩ : ∃ V, w.alloc (.cells cs 28) = V := ⟨_, rfl⟩
  obtain ⟨W2, hW2⟩ : ∃ V, W1.alloc (.cells #[.string (bt (sUu ++ u))] 9) = V := ⟨_, rfl⟩
  have hb1 : Below w.heap.size w W1 := by rw [← hW1]; exact (Below.refl _ _).alloc (Nat.le_refl _) _
  have hb2 : Below W1.heap.size W1 W2 := by rw [← hW2]; exact (Below.refl _ _).alloc (Nat.le_refl _) _
  have HF := hide (show W2.heap[W1.heap.size]? = some (.cells #[.string (bt (sUu ++ u))] 9 (0, 0)) ∧ Below w.heap.size w W2 from ⟨by rw [← hW2]; exact heap_alloc_new _ _, hb1.trans (hb2.mono hb1.size)⟩)
  have HE := hide (show (w.alloc (.cells cs 28)).alloc (.cells #[.string (bt (sUu ++ u))] 9) = W2 from by rw [hW1]; exact hW2)
  have HS := hide (show W1.heap.size = w.heap.size + 1 from by rw [← hW1]; simp)
  generalize bt (sUu ++ u) = OO at *
  generalize bt u = UU at *
  clear hW1 hW2 hb1 hb2 hc hu
  go_enter Tryz.func13, Tryz.ntmps13
  go_upto_region 2 with (fail)
  rw [HE.out]
  go_wp2_with fail
  go_ret
  exact ⟨_, rfl, HS.out ▸ HF.out.1, HF.out.2⟩
end Go.Proofs.YtonoaopioifedaaGreatDoor
