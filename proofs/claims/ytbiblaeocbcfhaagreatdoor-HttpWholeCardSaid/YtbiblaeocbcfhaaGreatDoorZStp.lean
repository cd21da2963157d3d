/- http: the reader's other small steps. -/
import Derived.Test.YtbiblaeocbcfhaaGreatDoorZAdd
namespace Go.Proofs.YtbiblaeocbcfhaaGreatDoor
open Go.RowKit Go.Deep
set_option linter.unusedVariables false
set_option linter.unusedSimpArgs false
set_option maxRecDepth 100000
theorem back_u8 {w : World} {v : Value} {l : List UInt8} (h : U8 w v l) : (convert 22 9 v).run Tryz.prog w = .ok (.string (bs l)) w := by
  obtain ⟨a, c, rfl⟩ := h.form
  rcases h.2 with ⟨h1, h2⟩ | ⟨g, cap, cur, h1, _⟩
  · have : l = [] := List.eq_nil_of_length_eq_zero h2
    subst this
    cases h1
    exact run_convert_bytes_string w 22 9 5 none 0 0 Tryz.underlying22 Tryz.underlying5 Tryz.underlying9
  · obtain ⟨rfl, rfl⟩ : a = some ⟨g, 0, none⟩ ∧ c = cap := by simpa using h1
    exact run_convert_bytes_back w 22 9 5 ⟨g, 0, none⟩ c l Tryz.underlying22 Tryz.underlying5 Tryz.underlying9 (fun j hj => by
      rw [add0]; exact u8cell h j l[j] (List.getElem?_eq_getElem hj))
set_option maxHeartbeats 1000000 in
theorem clear_any (B : Nat) (p : PM) (tv fv bv : Value) (w : World) (hA : At w B p tv fv bv) :
    Calls Tryz.prog 20 #[.pointer (some ⟨B, 0, none⟩)] w fun e w' => e = .returned (.string (bs p.text)) ∧ At w' B (clearM p) (.slice none 0 0) fv bv ∧ OnlyS (Own B tv bv) w w' := by
  have z1 := cell_at hA.blk 1 rfl
  have zf := free_at hA.blk
  have hcv := back_u8 hA.tx
  obtain ⟨hA2, hO2⟩ := hA.text (p' := { p with text := [] }) (OnlyS.refl _ w) (U8.nil w) (Fresh.nil w tv) rfl rfl rfl
  have z2 := cell_at hA2.blk 2 rfl
  have yf := free_at hA2.blk
  have hA3 := hA2.set (p' := clearM p) 2 (.int .i64 0) rfl rfl rfl rfl
  have HA3 := hide hA3
  have HO3 := hide (hO2.setCell B 2 (.int .i64 0) (.inl (.inl rfl)))
  obtain ⟨t, ht⟩ : ∃ t, bs p.text = t := ⟨_, rfl⟩
  rw [ht] at hcv ⊢
  have z2w := cell_at hA.blk 2 rfl
  clear hA2 hO2 hA3 hA ht
  go_enter Tryz.func20, Tryz.ntmps20
  go_wp2_with fail
  go_ret
  exact ⟨rfl, HA3.out, HO3.out⟩
set_option maxHeartbeats 1000000 in
theorem byte_any (B : Nat) (p : PM) (tv fv bv : Value) (c : UInt8) (w : World) (hA : At w B p tv fv bv) (hb : p.now.body.length ≤ 100000) (hl : -1000000 ≤ p.left ∧ p.left ≤ 1000000) :
    Calls Tryz.prog 14 #[.pointer (some ⟨B, 0, none⟩), .int .u8 (c.toNat : Int)] w fun e w' => e = .returned (.bool (decide ((byteM p c).left = 0))) ∧ ∃ bv', At w' B (byteM p c) tv fv bv' ∧ OnlyS (Own B tv bv) w w' ∧ Fresh w bv bv' := by
  obtain ⟨a, cp, rfl⟩ := hA.bd.form
  obtain ⟨n, hn⟩ : ∃ n, p.now.body.length = n := ⟨_, rfl⟩
  rw [hn] at hA hb ⊢
  obtain ⟨a', c', w1, hrun, o1, b1, f1⟩ := pushU w a n cp p.now.body hA.bd hn (c.toNat : Int) c rfl (by omega)
  obtain ⟨hA2, hO2⟩ := hA.body (p' := { p with now := { p.now with body := p.now.body ++ [c] } }) b1 o1 f1 rfl rfl rfl
  have z9 := cell_at hA.blk 9 rfl
  have hb1 := b1.heap hA.blk (fun e => hA.bB e)
  have y9 := cell_at hb1 9 rfl
  have yf := free_at hb1
  have hA3 := hA2.set (p' := byteM p c) 4 (.int .i64 (p.left - 1)) rfl rfl rfl rfl
  have HA3 := hide hA3
  have HO3 := hide (hO2.setCell B 4 (.int .i64 (p.left - 1)) (.inl (.inl rfl)))
  have HRUN := hide hrun
  have HF1 := hide f1
  have hR : decide ((byteM p c).left = 0) = (p.left - 1 == 0) := rfl
  rw [hR]
  obtain ⟨L, hL⟩ : ∃ L, p.left = L := ⟨_, rfl⟩
  have y4 : w1.cell? ⟨B, 4, none⟩ = some (.int .i64 L) := by rw [← hL]; exact cell_at hb1 4 rfl
  rw [hL] at hl HA3 HO3 ⊢
  have hl1 := hl.1
  have hl2 := hl.2
  obtain ⟨x, hx⟩ : ∃ x, c.toNat = x := ⟨_, rfl⟩
  rw [hx] at HRUN ⊢
  clear hA hA2 hO2 hA3 hrun o1 b1 f1 hn hb hb1 hR hL hx hl
  go_enter Tryz.func14, Tryz.ntmps14
  go_wp2_with (at_builtin; refine Lib.wpList_append_run _ rfl _ _ _ _ rfl _ _ rfl rfl _ _ HRUN.out ?_)
  go_ret
  exact ⟨rfl, _, HA3.out, HO3.out, HF1.out⟩
set_option maxHeartbeats 1000000 in
theorem just_hit (B : Nat) (p : PM) (tv fv bv : Value) (c : UInt8) (k : Nat) (w : World) (hA : At w B p tv fv bv) :
    Calls Tryz.prog 16 #[.pointer (some ⟨B, 0, none⟩), .int .u8 (c.toNat : Int), .int .u8 (c.toNat : Int), .int .i64 (k : Int)] w fun e w' => e = .returned (.tuple #[.int .i64 0, .bool false]) ∧ At w' B { p with waits := k } tv fv bv ∧ OnlyS (Own B tv bv) w w' := by
  have z0 := cell_at hA.blk 0 rfl
  have zf := free_at hA.blk
  have HA := hide (hA.set (p' := { p with waits := k }) 0 (.int .i64 (k : Int)) rfl rfl rfl rfl)
  have HO := hide ((OnlyS.refl (Own B tv bv) w).setCell B 0 (.int .i64 (k : Int)) (.inl (.inl rfl)))
  obtain ⟨x, hx⟩ : ∃ x, c.toNat = x := ⟨_, rfl⟩
  rw [hx]
  have e1 : ((x : Int) != (x : Int)) = false := by simp
  clear hx hA
  go_enter Tryz.func16, Tryz.ntmps16
  go_wp2_with fail
  go_ret2
  exact ⟨rfl, HA.out, HO.out⟩
set_option maxHeartbeats 1000000 in
theorem just_miss (B : Nat) (c d : UInt8) (k : Nat) (w : World) (h : c ≠ d) :
    Calls Tryz.prog 16 #[.pointer (some ⟨B, 0, none⟩), .int .u8 (c.toNat : Int), .int .u8 (d.toNat : Int), .int .i64 (k : Int)] w fun e w' => e = .returned (.tuple #[.int .i64 400, .bool true]) ∧ w' = w := by
  have h2 : c.toNat ≠ d.toNat := fun e => h (UInt8.toNat_inj.1 e)
  obtain ⟨x, hx⟩ : ∃ x, c.toNat = x := ⟨_, rfl⟩
  obtain ⟨y, hy⟩ : ∃ x, d.toNat = x := ⟨_, rfl⟩
  rw [hx, hy] at h2
  rw [hx, hy]
  have e1 : ((x : Int) != (y : Int)) = true := by simp; omega
  clear h h2 hx hy
  go_enter Tryz.func16, Tryz.ntmps16
  go_wp2_with fail
  go_ret2
  exact ⟨rfl, by first | rfl | trivial⟩
set_option maxHeartbeats 1000000 in
theorem dead_any (B : Nat) (p : PM) (tv fv bv : Value) (w : World) (hA : At w B p tv fv bv) :
    Calls Tryz.prog 8 #[.pointer (some ⟨B, 0, none⟩)] w fun e w' => e = .returned (.bool (p.waits == 7)) ∧ w' = w := by
  have zf := free_at hA.blk
  have hE : (p.waits == 7) = ((p.waits : Int) == 7) := by
    by_cases h : p.waits = 7
    · rw [h]; rfl
    · rw [beq_eq_false_iff_ne.2 h]; symm; rw [beq_eq_false_iff_ne]; omega
  rw [hE]
  obtain ⟨x, hx⟩ : ∃ x, p.waits = x := ⟨_, rfl⟩
  have z0 : w.cell? ⟨B, 0, none⟩ = some (.int .i64 (x : Int)) := by rw [← hx]; exact cell_at hA.blk 0 rfl
  rw [hx]
  clear hA hE hx
  go_enter Tryz.func8, Tryz.ntmps8
  go_wp2_with fail
  go_ret
  exact ⟨rfl, by first | rfl | trivial⟩
set_option maxHeartbeats 1000000 in
theorem new_any (w : World) : Calls Tryz.prog 6 #[] w fun e w' => e = .returned (.pointer (some ⟨w.heap.size, 0, none⟩)) ∧ At w' w.heap.size pm0 (.slice none 0 0) (.slice none 0 0) (.slice none 0 0) ∧ Below w.heap.size w w' := by
  have HB := hide ((Below.refl w.heap.size w).alloc (Nat.le_refl _) (.cells (pcs pm0 (.slice none 0 0) (.slice none 0 0) (.slice none 0 0)) 38))
  have HA := hide (show At (w.alloc (.cells (pcs pm0 (.slice none 0 0) (.slice none 0 0) (.slice none 0 0)) 38)) w.heap.size pm0 (.slice none 0 0) (.slice none 0 0) (.slice none 0 0) from
    ⟨heap_alloc_new _ _, U8.nil _, U8.nil _, FV.nil _, fun h => (by cases h), fun h => (by cases h), fun h => (by cases h), fun _ h => (by cases h), fun _ h => (by cases h), fun _ h => (by cases h), fun _ h => (by cases h)⟩)
  go_enter Tryz.func6, Tryz.ntmps6
  go_wp2_with fail
  go_ret
  exact ⟨rfl, HA.out, HB.out⟩
end Go.Proofs.YtbiblaeocbcfhaaGreatDoor
