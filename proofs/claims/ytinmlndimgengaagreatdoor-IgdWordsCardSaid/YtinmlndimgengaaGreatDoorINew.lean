/- A new set. -/
import Derived.Test.YtinmlndimgengaaGreatDoorCCopy
namespace Go.Proofs.YtinmlndimgengaaGreatDoor
open Go.RowKit Go.Deep
set_option linter.unusedVariables false
set_option linter.unusedSimpArgs false
set_option maxRecDepth 100000
set_option maxHeartbeats 800000 in
theorem knew_any (m : Int) (hm : 0 ≤ m) (w : World) :
    Calls Tryz.prog 38 #[.int .i64 m, .func (.func 39) #[] #[]] w fun e w' => e = .returned (.pointer (some ⟨w.heap.size, 0, none⟩)) ∧ Below w.heap.size w w' := by
  have hmx : max m 0 = m := by omega
  go_enter Tryz.func38, Tryz.ntmps38
  go_wp2
  go_ret
  exact ⟨rfl, (Below.refl _ _).alloc (Nat.le_refl _) _⟩
set_option maxHeartbeats 800000 in
theorem mnew_any (c : Cfg) (w : World) (a : Option Addr) (fs : List Fwd) (n cap : Nat) (h : FwAt w a fs) (hl : fs.length = n) (hn : n ≤ 1000000) :
    Calls Tryz.prog 12 #[.agg (c.cells a n cap)] w fun e w' => ∃ sp, e = .returned (.pointer (some ⟨sp, 0, none⟩)) ∧ Below w.heap.size w w' ∧ w.heap.size ≤ sp := by
  obtain ⟨W, hW, hb, hx⟩ : ∃ W, w.alloc (.cells (c.cells a n cap) 28) = W ∧ Below w.heap.size w W ∧ W.heap[w.heap.size]? = some (.cells (c.cells a n cap) 28 (0, 0)) := ⟨_, rfl, (Below.refl _ _).alloc (Nat.le_refl _) _, heap_alloc_new _ _⟩
  obtain ⟨B, hB⟩ : ∃ B, w.heap.size = B := ⟨_, rfl⟩
  rw [hB] at hx
  have HE := hide (And.intro hW hB)
  have HB := hide hb
  have HCO := hide (copy_any c W a fs n cap (h.below hb (Nat.le_refl _)) hl hn)
  have HX := hide hx
  have hone := cells_one c a n cap
  clear hW hB hb h hl hn
  go_enter Tryz.func12, Tryz.ntmps12
  go_upto_region 1 with (fail)
  rw [HE.out.1, HE.out.2]
  clear HE
  go_wp2_with (refine ld_cfg (o := ⟨some 3, _, _, _, _, _⟩) (.tmp 1) rfl (by rfl) B rfl (c.cells a n cap) HX.out rfl ?_; try simp only [Act.put, List.setIfInBounds_toArray, List.set_cons_zero, List.set_cons_succ])
  refine HCO.out.mono ?_
  rintro e w1 ⟨a', c', rfl, ho, b1⟩
  obtain ⟨cs, hcs⟩ : ∃ cs, c.cells a' n c' = cs := ⟨_, rfl⟩
  have hcz : cs.size = 28 := by rw [← hcs]; rfl
  rw [hcs]
  have HCS := hide hcs
  obtain ⟨D, hD⟩ : ∃ D, (Array.foldl (fun (cs : Array Value) (x : Value × Nat) => cs.setIfInBounds x.snd x.fst) #[.int .u8 0, .int .u8 0, .int .u8 0, .int .u8 0, .int .u8 0, .int .u8 0, .int .u8 0, .int .u8 0, .int .u8 0, .int .u8 0, .int .u8 0, .int .u8 0, .int .u8 0, .int .u8 0, .int .u8 0, .int .u8 0, .int .u8 0, .int .u8 0, .int .u32 0, .int .u32 0, .int .i64 0, .int .i64 0, .int .i64 0, .int .i64 0, .int .i64 0, .slice none 0 0, .int .u32 0, .string ⟨#[]⟩, .pointer none, .int .u32 0] cs.zipIdx 0 28) = D := ⟨_, rfl⟩
  have hDe : D = cs ++ #[.pointer none, .int .u32 0] := by rw [← hD, ← hcs]; kernel_rfl
  have hDs : D.size = 30 := by rw [hDe, Array.size_append, hcz]; rfl
  have HDE := hide hDe
  clear hcs hDe
  have HO := hide ho
  have HB1 := hide (HB.out.trans (b1.mono HB.out.size))
  have HNL := hide (knew_any 9223372036854775807 (by decide) w1)
  clear ho b1 HCO HX hone
  go_wp2_with fail
  refine HNL.out.mono ?_
  rintro e w2 ⟨rfl, b2⟩
  have HB2 := hide (HB1.out.trans (b2.mono HB1.out.size))
  have HO2 := hide (owns_below HO.out b2 (Nat.le_refl _))
  clear b2 HNL HO
  go_wp2_with fail
  have hD2 : D.setIfInBounds 28 (.pointer (some ⟨w1.heap.size, 0, none⟩)) = c.cells a' n c' ++ #[.pointer (some ⟨w1.heap.size, 0, none⟩), .int .u32 0] := by rw [HDE.out, ← HCS.out]; kernel_rfl
  rw [hD2]
  obtain ⟨V, hV, hv, hb3⟩ : ∃ V, w2.alloc (.cells (c.cells a' n c' ++ #[.pointer (some ⟨w1.heap.size, 0, none⟩), .int .u32 0]) 101) = V ∧ V.heap[w2.heap.size]? = some (.cells (c.cells a' n c' ++ #[.pointer (some ⟨w1.heap.size, 0, none⟩), .int .u32 0]) 101 (0, 0)) ∧ Below w2.heap.size w2 V := ⟨_, rfl, heap_alloc_new _ _, (Below.refl _ _).alloc (Nat.le_refl _) _⟩
  rw [hV]
  have HV := hide hv
  have HB3 := hide hb3
  clear hV hv hb3 hD2
  go_ret
  exact ⟨w2.heap.size, rfl, HB2.out.trans (HB3.out.mono HB2.out.size), HB2.out.size⟩
end Go.Proofs.YtinmlndimgengaaGreatDoor
