/- Parts of the law of reading: octet's Bytes, the document's Eye. -/
import Derived.Test.YtjongigofaobdaaEye
import Derived.Test.YtjongigofaobdaaSameParts
namespace Go.Proofs.Ytjongigofaobdaa
open Go.RowKit
set_option linter.unusedVariables false
set_option linter.unusedSimpArgs false

theorem grownBy_below {w w' : World} {E B : Nat} (h : w.grownBy w' (some E)) (hE : B ≤ E) (hB : B ≤ w.heap.size) : Below B w w' := (Below.refl B w).grown h hB (fun k e => by cases e; exact hE)

theorem gb_drewN (w : World) (n : Nat) (r : Option Nat) : w.grownBy (w.drewN n) r := ⟨rfl, rfl, rfl, Nat.le_refl _, fun _ _ _ => rfl⟩
/-- 'Bytes' of an Eye: a copy in new memory. -/
theorem eyeBytes_any (E : Nat) (rest : List Int) (bad : Bool) (s : Int) (w : World) (h : EyeAt w E rest bad) (hl : rest.length ≤ 1099511627776) (hs : -9223372036854775808 ≤ s ∧ s ≤ 9223372036854775807) :
    Calls Try.prog 23 #[.pointer (some ⟨E, 0, none⟩), .int .i64 s] w fun e w' => ∃ w1 a c, e = .returned (.slice a (if s.toNat ≤ rest.length then s.toNat else 0) c) ∧
      w'.ownsRow w1.heap.size 5 1 (.slice a (if s.toNat ≤ rest.length then s.toNat else 0) c) (if s.toNat ≤ rest.length then s.toNat else 0) ((if s.toNat ≤ rest.length then rest.take s.toNat else []).map (Value.int .u8)) ∧
      EyeAt w1 E (if s.toNat ≤ rest.length then rest.drop s.toNat else []) (bad || decide (rest.length < s.toNat)) ∧ w.grownBy w1 (some E) ∧ Below w1.heap.size w1 w' := by
  have ht := take_any E rest bad s.toNat w h (by omega) hl
  have hxl : (if s.toNat ≤ rest.length then rest.take s.toNat else []).length = (if s.toNat ≤ rest.length then s.toNat else 0) := by
    split
    · rw [List.length_take]; omega
    · rfl
  have hm : (if s.toNat ≤ rest.length then s.toNat else 0) ≤ 1099511627776 := by split <;> omega
  generalize (if s.toNat ≤ rest.length then rest.take s.toNat else []) = xs at *
  generalize (if s.toNat ≤ rest.length then s.toNat else 0) = m at *
  generalize (if s.toNat ≤ rest.length then rest.drop s.toNat else []) = rest' at *
  generalize (bad || decide (rest.length < s.toNat)) = bad' at *
  obtain ⟨k, hk⟩ : ∃ k : Nat, s.toNat = k := ⟨_, rfl⟩
  rw [hk] at ht
  have HT := hide ht
  have HXL := hide hxl
  have hcl : ∀ (W : World) (a : Option Addr) (c : Nat), Row .u8 W a xs → Calls Try.prog 36 #[.slice a m c] W fun e w' => ∃ a' cap', e = .returned (.slice a' m cap') ∧ w'.ownsRow W.heap.size 5 1 (.slice a' m cap') m (xs.map (Value.int .u8)) ∧ Below W.heap.size W w' := fun W a c hr => by
    have := clone_any a xs c W hr (by rw [hxl]; omega)
    rw [hxl] at this; exact this
  have HCL := hide hcl
  clear ht hxl hcl h
  have fin : ∀ (e : Ending) (w' : World), (∃ w1 a c, e = .returned (.slice a m c) ∧ w'.ownsRow w1.heap.size 5 1 (.slice a m c) m (xs.map (Value.int .u8)) ∧ EyeAt w1 E rest' bad' ∧ w.grownBy w1 (some E) ∧ Below w1.heap.size w1 w') →
      ∃ w1 a c, e = .returned (.slice a m c) ∧ w'.ownsRow w1.heap.size 5 1 (.slice a m c) m (xs.map (Value.int .u8)) ∧ EyeAt w1 E rest' bad' ∧ w.grownBy w1 (some E) ∧ Below w1.heap.size w1 w' := by
    rintro e w' ⟨w1, a, c, h1, h2, h3, h4, h5⟩
    exact ⟨w1, a, c, h1, h2, h3, h4, h5⟩
  by_cases hneg : s < 0
  · have hk0 : k = 0 := by omega
    rw [hk0] at HT
    clear hk0 hk
    go_enter Try.func23, Try.ntmps23
    go_wp2_with fail
    refine HT.out.mono ?_
    rintro e w1 ⟨a1, c1, rfl, hr, heye, hg⟩
    go_wp2_with fail
    refine (HCL.out w1 a1 c1 hr).mono ?_
    rintro e w2 ⟨a2, c2, rfl, hown, hbel⟩
    go_wp2
    go_ret
    exact fin _ _ ⟨w1, a2, c2, rfl, hown, heye, hg, hbel⟩
  · have hsk : s = (k : Int) := by omega
    clear hk
    subst hsk
    go_enter Try.func23, Try.ntmps23
    go_wp2_with fail
    refine HT.out.mono ?_
    rintro e w1 ⟨a1, c1, rfl, hr, heye, hg⟩
    go_wp2_with fail
    refine (HCL.out w1 a1 c1 hr).mono ?_
    rintro e w2 ⟨a2, c2, rfl, hown, hbel⟩
    go_wp2
    go_ret
    exact fin _ _ ⟨w1, a2, c2, rfl, hown, heye, hg, hbel⟩

/-- The document's Eye at block E: all bytes, the next one's place, whether too much was read. -/
def REye (w : World) (E : Nat) (a : Option Addr) (n cap I : Nat) (bad : Bool) : Prop := w.heap[E]? = some (.cells #[.slice a n cap, .int .i64 (I : Int), .bool bad] 38 (0, 0))
theorem tri_cell0 {w : World} {b : Nat} {u v x : Value} {t : TypeId} (h : w.heap[b]? = some (.cells #[u, v, x] t (0, 0))) : w.cell? ⟨b, 0, none⟩ = some u := by simp [World.cell?, h]
theorem tri_cell1 {w : World} {b : Nat} {u v x : Value} {t : TypeId} (h : w.heap[b]? = some (.cells #[u, v, x] t (0, 0))) : w.cell? ⟨b, 1, none⟩ = some v := by simp [World.cell?, h]
theorem tri_cell2 {w : World} {b : Nat} {u v x : Value} {t : TypeId} (h : w.heap[b]? = some (.cells #[u, v, x] t (0, 0))) : w.cell? ⟨b, 2, none⟩ = some x := by simp [World.cell?, h]
theorem tri_free {w : World} {b : Nat} {u v x : Value} {t : TypeId} (h : w.heap[b]? = some (.cells #[u, v, x] t (0, 0))) (i : Nat) : w.frozen? ⟨b, i, none⟩ = false := by simp [World.frozen?, h]
theorem tri_set1 {w : World} {b : Nat} {u v x y : Value} {t : TypeId} (h : w.heap[b]? = some (.cells #[u, v, x] t (0, 0))) : (w.setCell ⟨b, 1, none⟩ y).heap[b]? = some (.cells #[u, y, x] t (0, 0)) := by
  have hlt := lt_of_block h
  have h' : w.heap[b] = .cells #[u, v, x] t (0, 0) := by simpa [Array.getElem?_eq_getElem hlt] using h
  show (w.heap.modify b _)[b]? = _
  rw [Array.getElem?_eq_getElem (by simpa using hlt), Array.getElem_modify_self, h']
  rfl
theorem tri_set2 {w : World} {b : Nat} {u v x y : Value} {t : TypeId} (h : w.heap[b]? = some (.cells #[u, v, x] t (0, 0))) : (w.setCell ⟨b, 2, none⟩ y).heap[b]? = some (.cells #[u, v, y] t (0, 0)) := by
  have hlt := lt_of_block h
  have h' : w.heap[b] = .cells #[u, v, x] t (0, 0) := by simpa [Array.getElem?_eq_getElem hlt] using h
  show (w.heap.modify b _)[b]? = _
  rw [Array.getElem?_eq_getElem (by simpa using hlt), Array.getElem_modify_self, h']
  rfl

set_option maxHeartbeats 1000000 in
theorem refBytes_more (E : Nat) (a : Option Addr) (n cap I : Nat) (bad : Bool) (s : Int) (w : World) (h : REye w E a n cap I bad) (hI : I ≤ n) (hn : n ≤ 5000) (hs0 : 0 ≤ s) (hs : (n : Int) - (I : Int) < s) (hs1 : s ≤ 9223372036854775807) :
    Calls Try.prog 24 #[.pointer (some ⟨E, 0, none⟩), .int .i64 s] w fun e w' => ∃ g, e = .returned (.slice (some ⟨g, 0, none⟩) 0 0) ∧ REye w' E a n cap n true ∧ w.grownBy w' (some E) := by
  have h' := h
  unfold REye at h'
  have c0 := tri_cell0 h'
  have c1 := tri_cell1 h'
  have c2 := tri_cell2 h'
  have f1 := tri_free h' 1
  have f2 := tri_free h' 2
  have hw1 : IntKind.i64.wrap ((n : Int) - (I : Int)) = (n : Int) - (I : Int) := IntWalk.i64_in _ (by omega)
  have hne : ¬ s < 0 := by omega
  have HH := hide h'
  clear h h'
  go_enter Try.func24, Try.ntmps24
  go_wp2_with fail
  go_quiet (fail)
  go_wp2
  go_ret
  have h1 := tri_set2 (y := .bool true) (tri_set1 (y := .int .i64 (n : Int)) HH.out)
  refine ⟨_, rfl, ?_, ?_⟩
  · exact (Below.heap_alloc _ _ E (lt_of_block h1)).trans h1
  · exact gb_trans (gb_trans (gb_trans (gb_drewN w nq _) (gb_set _ _ _ _)) (gb_set _ _ _ _)) (World.grownBy_alloc _ _ _)
theorem refBytes_neg (E : Nat) (a : Option Addr) (n cap I : Nat) (bad : Bool) (s : Int) (w : World) (h : REye w E a n cap I bad) (hs : s < 0) :
    Calls Try.prog 24 #[.pointer (some ⟨E, 0, none⟩), .int .i64 s] w fun e w' => ∃ g, e = .returned (.slice (some ⟨g, 0, none⟩) 0 0) ∧ REye w' E a n cap I bad ∧ w.grownBy w' (some E) := by
  have HH := hide h
  clear h
  go_enter Try.func24, Try.ntmps24
  go_wp2
  go_ret
  exact ⟨_, rfl, (Below.heap_alloc _ _ E (lt_of_block HH.out)).trans HH.out, World.grownBy_alloc _ _ _⟩

/-- An append whose run is known, in a region that draws its order. -/
theorem step_append_run {P : Program} {ops : Array Oper} {o : Oper} {a : Act} {w : World} {K : Act → World → Prop} {Q : Exit → Act → World → Prop} {E : Prop} (hgd : o.guard = none) (d s : Operand) (dT sT : TypeId)
    (ho : o.op = .call { callee := .builtin .append, args := #[d, s], argTypes := #[dT, sT] }) (vs vx : Value) (hd : a.eval d = vs) (hs : a.eval s = vx) (v' : Value) (w' : World)
    (hr : (Builtin.append_ #[dT, sT] o.type #[vs, vx]).run P w = .ok v' w') (h : K (a.put o.dst v') w') :
    if Region.wanted o (yielded ops a.tmps) = true then Oper.wp P o a w K Q else E := by
  have hw : Region.wanted o (yielded ops a.tmps) = true := by simp [Region.wanted, hgd]
  rw [if_pos hw]
  unfold Oper.wp
  simp [execOp, ho, resolve, invoke, builtin, hd, hs, hr, Result.andThen]
  exact h

end Go.Proofs.Ytjongigofaobdaa
