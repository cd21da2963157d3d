/- What a packet carries: the program's reading. -/
import Derived.Test.YtgggcapgaikbeaaPk11
namespace Go.Proofs.Ytgggcapgaikbeaa
open Go.RowKit
set_option linter.unusedVariables false
set_option linter.unusedSimpArgs false
set_option maxRecDepth 100000
theorem Lies.of_owns {w : World} {base : Nat} {g : Option Addr} {xs : List Int} {n c : Nat} (h : w.ownsRow base 5 1 (.slice g n c) n (xs.map (Value.int .u8))) : Lies w g xs n c := by
  refine ⟨Row.of_owns h, ?_, ?_, ?_⟩ <;> rcases h.2 with ⟨h1, h0⟩ | ⟨G, c', cur, hv, hg, hh, hnc, hcm, _⟩
  · simp at h1; intro _; omega
  · obtain ⟨rfl, rfl⟩ : g = some ⟨G, 0, none⟩ ∧ c = c' := by simpa using hv
    intro h; cases h
  · simp at h1; omega
  · obtain ⟨rfl, rfl⟩ : g = some ⟨G, 0, none⟩ ∧ c = c' := by simpa using hv
    exact hnc
  · simp at h1; omega
  · obtain ⟨rfl, rfl⟩ : g = some ⟨G, 0, none⟩ ∧ c = c' := by simpa using hv
    unfold maxLen at hcm; omega
theorem owns_put {w w' : World} {base g : Nat} {v : Value} {n : Nat} {xs : List Value} (h : w.ownsRow base 5 1 v n xs) (hg : w.grownBy w' (some g)) (hlt : g < base) : w'.ownsRow base 5 1 v n xs :=
  h.kept hg (.inr fun e => by have := (h.lt g e).1; omega)
theorem gb_part {w w' w0 : World} {g N : Nat} (hb : Below N w0 w) (hb' : Below N w0 w') (ho : ∀ k, k ≠ g → w'.heap[k]? = w.heap[k]?) (hs : w'.heap.size = w.heap.size) : w.grownBy w' (some g) :=
  ⟨hb'.os.trans hb.os.symm, hb'.tape.trans hb.tape.symm, hb'.output.trans hb.output.symm, by rw [hs]; exact Nat.le_refl _, fun k hk hne => ho k (fun e => hne (by rw [e]))⟩
set_option maxHeartbeats 2000000 in
theorem rd_other (w : World) (ttl pid : Int) (P S D : Nat) (a : Option Addr) (n cap : Nat) (h6 : P ≠ 6) (h17 : P ≠ 17) (h1 : P ≠ 1) :
    Calls Try.prog 29 #[.agg #[.int .u8 ttl, .int .u8 (P : Int), .int .u16 pid, .int .u32 (S : Int), .int .u32 (D : Int), .slice a n cap]] w fun e w' => e = .returned (.tuple #[.agg #[.int .u8 (P : Int), .int .u32 (S : Int), .int .u32 (D : Int), .int .u16 0, .int .u16 0, .int .i64 1, .int .u16 0, .int .u16 0, .int .u32 0, .int .u32 0, .int .u8 0, .int .u16 0, .int .u16 0, .slice none 0 0, .slice none 0 0, .int .u16 0, .int .u16 0, .bool false, .slice none 0 0, .int .u8 0, .int .u8 0, .int .u32 0, .slice none 0 0], .int .i64 11]) ∧ Below w.heap.size w w' := by
  have d6 : ((P : Int) == 6) = false := by simp; omega
  have d17 : ((P : Int) == 17) = false := by simp; omega
  have d1 : ((P : Int) == 1) = false := by simp; omega
  obtain ⟨V1, hV1⟩ : ∃ V, w.alloc (.cells (#[.int .u8 ttl, .int .u8 (P : Int), .int .u16 pid, .int .u32 (S : Int), .int .u32 (D : Int), .slice a n cap]) 27) = V := ⟨_, rfl⟩
  obtain ⟨V2, hV2⟩ : ∃ V, V1.alloc (.cells (#[.int .u8 0, .int .u32 0, .int .u32 0, .int .u16 0, .int .u16 0, .int .i64 0, .int .u16 0, .int .u16 0, .int .u32 0, .int .u32 0, .int .u8 0, .int .u16 0, .int .u16 0, .slice none 0 0, .slice none 0 0, .int .u16 0, .int .u16 0, .bool false, .slice none 0 0, .int .u8 0, .int .u8 0, .int .u32 0, .slice none 0 0]) 65) = V := ⟨_, rfl⟩
  have hz1 : V1.heap.size = w.heap.size + 1 := by rw [← hV1]; simp
  have hz2 : V2.heap.size = w.heap.size + 1 + 1 := by rw [← hV2]; simp [hz1]
  have hb1 : Below w.heap.size w V1 := by rw [← hV1]; exact (Below.refl _ _).alloc (Nat.le_refl _) _
  have hb12 : Below V1.heap.size V1 V2 := by rw [← hV2]; exact (Below.refl _ _).alloc (Nat.le_refl _) _
  have hb2 := hb1.trans (hb12.mono hb1.size)
  have hp1 : V1.heap[w.heap.size]? = some (.cells (#[.int .u8 ttl, .int .u8 (P : Int), .int .u16 pid, .int .u32 (S : Int), .int .u32 (D : Int), .slice a n cap]) 27 (0, 0)) := by rw [← hV1]; exact heap_alloc_new _ _
  have hp2 := below_block hb12 hp1 (Nat.le_refl _)
  have hr2 : V2.heap[w.heap.size + 1]? = some (.cells (#[.int .u8 0, .int .u32 0, .int .u32 0, .int .u16 0, .int .u16 0, .int .i64 0, .int .u16 0, .int .u16 0, .int .u32 0, .int .u32 0, .int .u8 0, .int .u16 0, .int .u16 0, .slice none 0 0, .slice none 0 0, .int .u16 0, .int .u16 0, .bool false, .slice none 0 0, .int .u8 0, .int .u8 0, .int .u32 0, .slice none 0 0]) 65 (0, 0)) := by rw [← hV2, ← hz1]; exact heap_alloc_new _ _
  obtain ⟨PB, hPB⟩ : ∃ B, w.heap.size = B := ⟨_, rfl⟩
  obtain ⟨RB, hRB⟩ : ∃ B, w.heap.size + 1 = B := ⟨_, rfl⟩
  obtain ⟨LB, hLB⟩ : ∃ B, w.heap.size + 1 + 1 = B := ⟨_, rfl⟩
  rw [hPB] at hp2
  rw [hRB] at hr2
  have hPR : PB ≠ RB := by omega
  have hPL : PB ≠ LB := by omega
  have hRL : RB ≠ LB := by omega
  have hwP : w.heap.size ≤ PB := by omega
  have hwR : w.heap.size ≤ RB := by omega
  have hwL : w.heap.size ≤ LB := by omega
  have HE := hide (And.intro hV1 (And.intro hV2 (And.intro hPB (And.intro hRB hLB))))
  have HB2 := hide hb2
  have HP2 := hide hp2
  have HR2 := hide hr2
  have HZ2 := hide hz2
  have HLN := hide (heap_alloc_new V2 (.cells (#[.int .u8 0, .int .u32 0, .int .u32 0, .int .u16 0, .int .u16 0, .int .i64 0, .int .u16 0, .int .u16 0, .int .u32 0, .int .u32 0, .int .u8 0, .int .u16 0, .int .u16 0, .slice none 0 0, .slice none 0 0, .int .u16 0, .int .u16 0, .bool false, .slice none 0 0, .int .u8 0, .int .u8 0, .int .u32 0, .slice none 0 0]) 65))
  have HLB3 := hide ((Below.refl V2.heap.size V2).alloc (Nat.le_refl _) (.cells (#[.int .u8 0, .int .u32 0, .int .u32 0, .int .u16 0, .int .u16 0, .int .i64 0, .int .u16 0, .int .u16 0, .int .u32 0, .int .u32 0, .int .u8 0, .int .u16 0, .int .u16 0, .slice none 0 0, .slice none 0 0, .int .u16 0, .int .u16 0, .bool false, .slice none 0 0, .int .u8 0, .int .u8 0, .int .u32 0, .slice none 0 0]) 65))
  have e0 := cell_at hp2 0 rfl
  have e1 : V2.cell? ⟨PB, 1, none⟩ = some (.int .u8 (P : Int)) := cell_at hp2 1 rfl
  have e3 : V2.cell? ⟨PB, 3, none⟩ = some (.int .u32 (S : Int)) := cell_at hp2 3 rfl
  have e4 : V2.cell? ⟨PB, 4, none⟩ = some (.int .u32 (D : Int)) := cell_at hp2 4 rfl
  have hPl := lt_of_block hp2
  clear e0 hV1 hV2 hz1 hz2 hb1 hb12 hb2 hp1 hp2 hr2 hPB hRB hLB
  go_enter Try.func29, Try.ntmps29
  go_upto_region 1 with (fail)
  rw [HE.out.1, HE.out.2.1, HE.out.2.2.2.1, HE.out.2.2.1]
  go_upto_region 2 with ((refine st_part (o := ⟨none, _, _, _, _, _⟩) 65 (.tmp 4) (.tmp 13) rfl (by rfl) V2.heap.size 0 rfl (#[.int .u8 0, .int .u32 0, .int .u32 0, .int .u16 0, .int .u16 0, .int .i64 0, .int .u16 0, .int .u16 0, .int .u32 0, .int .u32 0, .int .u8 0, .int .u16 0, .int .u16 0, .slice none 0 0, .slice none 0 0, .int .u16 0, .int .u16 0, .bool false, .slice none 0 0, .int .u8 0, .int .u8 0, .int .u32 0, .slice none 0 0]) 65 (#[.int .u8 (P : Int), .int .u32 (S : Int), .int .u32 (D : Int), .int .u16 0, .int .u16 0, .int .i64 1, .int .u16 0, .int .u16 0, .int .u32 0, .int .u32 0, .int .u8 0, .int .u16 0, .int .u16 0, .slice none 0 0, .slice none 0 0, .int .u16 0, .int .u16 0, .bool false, .slice none 0 0, .int .u8 0, .int .u8 0, .int .u32 0, .slice none 0 0]) rfl HLN.out rfl (by kernel_rfl) (by kernel_rfl) HLB3.out (Nat.le_refl _) ?_; rintro w3 w3h w3b w3o w3s; try simp only [Act.put, List.setIfInBounds_toArray, List.set_cons_zero, List.set_cons_succ]))
  rw [upd_whole (c := #[.int .u8 0, .int .u32 0, .int .u32 0, .int .u16 0, .int .u16 0, .int .i64 0, .int .u16 0, .int .u16 0, .int .u32 0, .int .u32 0, .int .u8 0, .int .u16 0, .int .u16 0, .slice none 0 0, .slice none 0 0, .int .u16 0, .int .u16 0, .bool false, .slice none 0 0, .int .u8 0, .int .u8 0, .int .u32 0, .slice none 0 0]) (cs := #[.int .u8 (P : Int), .int .u32 (S : Int), .int .u32 (D : Int), .int .u16 0, .int .u16 0, .int .i64 1, .int .u16 0, .int .u16 0, .int .u32 0, .int .u32 0, .int .u8 0, .int .u16 0, .int .u16 0, .slice none 0 0, .slice none 0 0, .int .u16 0, .int .u16 0, .bool false, .slice none 0 0, .int .u8 0, .int .u8 0, .int .u32 0, .slice none 0 0]) rfl, HZ2.out, HE.out.2.2.2.2] at w3h
  rw [HZ2.out, HE.out.2.2.2.2] at w3o
  rw [HZ2.out, HE.out.2.2.2.2]
  have w3p := (w3o PB hPL).trans ((Below.heap_alloc V2 _ PB hPl).trans HP2.out)
  have w3r := (w3o RB hRL).trans ((Below.heap_alloc V2 _ RB (lt_of_block HR2.out)).trans HR2.out)
  have HB3 := hide (HB2.out.trans (w3b.mono HB2.out.size))
  have HL3 := hide w3h
  have HP3 := hide w3p
  have HR3 := hide w3r
  clear w3b w3h w3p w3r w3o w3s HLN HLB3 HB2 HP2 HR2 HZ2 HE e1 e3 e4 hPl
  have e1 : w3.cell? ⟨PB, 1, none⟩ = some (.int .u8 (P : Int)) := cell_at HP3.out 1 rfl
  have e3 : w3.cell? ⟨PB, 3, none⟩ = some (.int .u32 (S : Int)) := cell_at HP3.out 3 rfl
  have e4 : w3.cell? ⟨PB, 4, none⟩ = some (.int .u32 (D : Int)) := cell_at HP3.out 4 rfl
  have e5 : w3.cell? ⟨PB, 5, none⟩ = some (.slice a n cap) := cell_at HP3.out 5 rfl
  have HLe := HL3
  have HRe := HR3
  have HBe := HB3
  go_upto_region 14 with (fail)
  obtain ⟨LC, hLC⟩ : ∃ c, (#[.int .u8 (P : Int), .int .u32 (S : Int), .int .u32 (D : Int), .int .u16 0, .int .u16 0, .int .i64 1, .int .u16 0, .int .u16 0, .int .u32 0, .int .u32 0, .int .u8 0, .int .u16 0, .int .u16 0, .slice none 0 0, .slice none 0 0, .int .u16 0, .int .u16 0, .bool false, .slice none 0 0, .int .u8 0, .int .u8 0, .int .u32 0, .slice none 0 0] : Array Value) = c := ⟨_, rfl⟩
  have hLs : LC.size = 23 := by rw [← hLC]; rfl
  have hLo : LC.all (·.oneCell') = true := by rw [← hLC]; kernel_rfl
  have HLf := hide (show w3.heap[LB]? = some (.cells LC 65 (0, 0)) by rw [← hLC]; exact HLe.out)
  have HLC := hide hLC
  have HLs := hide hLs
  clear hLC hLs
  go_wp2_with (first
    | (refine ld_whole (o := ⟨some 77, _, _, _, _, _⟩) 65 (.tmp 4) rfl (by rfl) LB rfl LC 65 HLf.out Try.underlying65 (by rw [HLs.out]; kernel_rfl) ?_; try simp only [Act.put, List.setIfInBounds_toArray, List.set_cons_zero, List.set_cons_succ])
    | (refine st_part (o := ⟨none, _, _, _, _, _⟩) 65 (.tmp 2) (.tmp 77) rfl (by rfl) RB 0 rfl (#[.int .u8 0, .int .u32 0, .int .u32 0, .int .u16 0, .int .u16 0, .int .i64 0, .int .u16 0, .int .u16 0, .int .u32 0, .int .u32 0, .int .u8 0, .int .u16 0, .int .u16 0, .slice none 0 0, .slice none 0 0, .int .u16 0, .int .u16 0, .bool false, .slice none 0 0, .int .u8 0, .int .u8 0, .int .u32 0, .slice none 0 0]) 65 LC rfl HRe.out (by rw [HLs.out]; rfl) (by rw [HLs.out]; kernel_rfl) hLo HBe.out hwR ?_; rintro w9 w9h w9b w9o w9s; try simp only [Act.put, List.setIfInBounds_toArray, List.set_cons_zero, List.set_cons_succ]))
  rw [upd_whole (c := #[.int .u8 0, .int .u32 0, .int .u32 0, .int .u16 0, .int .u16 0, .int .i64 0, .int .u16 0, .int .u16 0, .int .u32 0, .int .u32 0, .int .u8 0, .int .u16 0, .int .u16 0, .slice none 0 0, .slice none 0 0, .int .u16 0, .int .u16 0, .bool false, .slice none 0 0, .int .u8 0, .int .u8 0, .int .u32 0, .slice none 0 0]) (cs := LC) (by rw [HLs.out]; rfl)] at w9h
  exact bodyPost_ret (v := .tuple #[.agg LC, .int .i64 11]) (results_cell_tmp Try.results29 _ w9 RB _ _ _ _ rfl w9h Try.underlying65 rfl (by rw [HLs.out]; kernel_rfl) _ rfl) rfl ⟨by rw [HLC.out], w9b⟩

set_option maxHeartbeats 2000000 in
theorem rd_tcp (w : World) (ttl pid : Int) (S D : Nat) (a : Option Addr) (n cap : Nat) (xs : List Int) (hLx : Lies w a xs n cap) (hl : xs.length = n) (hb : ∀ x ∈ xs, 0 ≤ x ∧ x ≤ 255) (hS : S ≤ 4294967295) (hD : D ≤ 4294967295) :
    Calls Try.prog 29 #[.agg #[.int .u8 ttl, .int .u8 6, .int .u16 pid, .int .u32 (S : Int), .int .u32 (D : Int), .slice a n cap]] w fun e w' => ∃ a1 c1 a2 c2, e = .returned (.tuple #[.agg #[.int .u8 6, .int .u32 (S : Int), .int .u32 (D : Int), .int .u16 ((segOf S D xs).p : Int), .int .u16 ((segOf S D xs).q : Int), .int .i64 1, .int .u16 ((segOf S D xs).p : Int), .int .u16 ((segOf S D xs).q : Int), .int .u32 ((segOf S D xs).u : Int), .int .u32 ((segOf S D xs).v : Int), .int .u8 ((segOf S D xs).f : Int), .int .u16 ((segOf S D xs).g : Int), .int .u16 ((segOf S D xs).h : Int), .slice a1 (segOf S D xs).os.length c1, .slice a2 (segOf S D xs).ds.length c2, .int .u16 0, .int .u16 0, .bool false, .slice none 0 0, .int .u8 0, .int .u8 0, .int .u32 0, .slice none 0 0], .int .i64 (segCode S D xs : Nat)]) ∧
      w'.ownsRow w.heap.size 5 1 (.slice a1 (segOf S D xs).os.length c1) (segOf S D xs).os.length ((segOf S D xs).os.map (Value.int .u8)) ∧ w'.ownsRow w.heap.size 5 1 (.slice a2 (segOf S D xs).ds.length c2) (segOf S D xs).ds.length ((segOf S D xs).ds.map (Value.int .u8)) ∧ Below w.heap.size w w' := by
  obtain ⟨P, hP⟩ : ∃ P : Nat, P = 6 := ⟨_, rfl⟩
  have hP6 : (P : Int) = 6 := by rw [hP]; rfl
  have d6 : ((P : Int) == 6) = true := by simp [hP]
  have HT := hide (fun (W : World) (hW : Below w.heap.size w W) => (readTCP_both S D xs n hl hb hS hD).1 W a cap (hLx.below hW (Nat.le_refl _)))
  obtain ⟨sg, hsg⟩ : ∃ sg, segOf S D xs = sg := ⟨_, rfl⟩
  obtain ⟨code, hcode⟩ : ∃ sg, segCode S D xs = sg := ⟨_, rfl⟩
  rw [hsg, hcode] at HT ⊢
  obtain ⟨p, q, u, v, f, g, h, os, ds⟩ := sg
  unfold SegAns TcpAns at HT
  dsimp only at HT ⊢
  obtain ⟨ol, hol⟩ : ∃ ol, os.length = ol := ⟨_, rfl⟩
  obtain ⟨dl, hdl⟩ : ∃ ol, ds.length = ol := ⟨_, rfl⟩
  rw [hol, hdl] at HT ⊢
  have HPP := hide hP
  suffices hh : Calls Try.prog 29 #[.agg #[.int .u8 ttl, .int .u8 (P : Int), .int .u16 pid, .int .u32 (S : Int), .int .u32 (D : Int), .slice a n cap]] w fun e w' => ∃ a1 c1 a2 c2, e = .returned (.tuple #[.agg #[.int .u8 (P : Int), .int .u32 (S : Int), .int .u32 (D : Int), .int .u16 (p : Int), .int .u16 (q : Int), .int .i64 1, .int .u16 (p : Int), .int .u16 (q : Int), .int .u32 (u : Int), .int .u32 (v : Int), .int .u8 (f : Int), .int .u16 (g : Int), .int .u16 (h : Int), .slice a1 ol c1, .slice a2 dl c2, .int .u16 0, .int .u16 0, .bool false, .slice none 0 0, .int .u8 0, .int .u8 0, .int .u32 0, .slice none 0 0], .int .i64 (code : Nat)]) ∧
      w'.ownsRow w.heap.size 5 1 (.slice a1 ol c1) ol (os.map (Value.int .u8)) ∧ w'.ownsRow w.heap.size 5 1 (.slice a2 dl c2) dl (ds.map (Value.int .u8)) ∧ Below w.heap.size w w' by
    rw [hP6] at hh
    exact hh
  clear hsg hcode hol hdl hP hP6 hLx hl hb
  obtain ⟨V1, hV1⟩ : ∃ V, w.alloc (.cells (#[.int .u8 ttl, .int .u8 (P : Int), .int .u16 pid, .int .u32 (S : Int), .int .u32 (D : Int), .slice a n cap]) 27) = V := ⟨_, rfl⟩
  obtain ⟨V2, hV2⟩ : ∃ V, V1.alloc (.cells (#[.int .u8 0, .int .u32 0, .int .u32 0, .int .u16 0, .int .u16 0, .int .i64 0, .int .u16 0, .int .u16 0, .int .u32 0, .int .u32 0, .int .u8 0, .int .u16 0, .int .u16 0, .slice none 0 0, .slice none 0 0, .int .u16 0, .int .u16 0, .bool false, .slice none 0 0, .int .u8 0, .int .u8 0, .int .u32 0, .slice none 0 0]) 65) = V := ⟨_, rfl⟩
  have hz1 : V1.heap.size = w.heap.size + 1 := by rw [← hV1]; simp
  have hz2 : V2.heap.size = w.heap.size + 1 + 1 := by rw [← hV2]; simp [hz1]
  have hb1 : Below w.heap.size w V1 := by rw [← hV1]; exact (Below.refl _ _).alloc (Nat.le_refl _) _
  have hb12 : Below V1.heap.size V1 V2 := by rw [← hV2]; exact (Below.refl _ _).alloc (Nat.le_refl _) _
  have hb2 := hb1.trans (hb12.mono hb1.size)
  have hp1 : V1.heap[w.heap.size]? = some (.cells (#[.int .u8 ttl, .int .u8 (P : Int), .int .u16 pid, .int .u32 (S : Int), .int .u32 (D : Int), .slice a n cap]) 27 (0, 0)) := by rw [← hV1]; exact heap_alloc_new _ _
  have hp2 := below_block hb12 hp1 (Nat.le_refl _)
  have hr2 : V2.heap[w.heap.size + 1]? = some (.cells (#[.int .u8 0, .int .u32 0, .int .u32 0, .int .u16 0, .int .u16 0, .int .i64 0, .int .u16 0, .int .u16 0, .int .u32 0, .int .u32 0, .int .u8 0, .int .u16 0, .int .u16 0, .slice none 0 0, .slice none 0 0, .int .u16 0, .int .u16 0, .bool false, .slice none 0 0, .int .u8 0, .int .u8 0, .int .u32 0, .slice none 0 0]) 65 (0, 0)) := by rw [← hV2, ← hz1]; exact heap_alloc_new _ _
  obtain ⟨PB, hPB⟩ : ∃ B, w.heap.size = B := ⟨_, rfl⟩
  obtain ⟨RB, hRB⟩ : ∃ B, w.heap.size + 1 = B := ⟨_, rfl⟩
  obtain ⟨LB, hLB⟩ : ∃ B, w.heap.size + 1 + 1 = B := ⟨_, rfl⟩
  rw [hPB] at hp2
  rw [hRB] at hr2
  have hPR : PB ≠ RB := by omega
  have hPL : PB ≠ LB := by omega
  have hRL : RB ≠ LB := by omega
  have hwP : w.heap.size ≤ PB := by omega
  have hwR : w.heap.size ≤ RB := by omega
  have hwL : w.heap.size ≤ LB := by omega
  have HE := hide (And.intro hV1 (And.intro hV2 (And.intro hPB (And.intro hRB hLB))))
  have HB2 := hide hb2
  have HP2 := hide hp2
  have HR2 := hide hr2
  have HZ2 := hide hz2
  have HLN := hide (heap_alloc_new V2 (.cells (#[.int .u8 0, .int .u32 0, .int .u32 0, .int .u16 0, .int .u16 0, .int .i64 0, .int .u16 0, .int .u16 0, .int .u32 0, .int .u32 0, .int .u8 0, .int .u16 0, .int .u16 0, .slice none 0 0, .slice none 0 0, .int .u16 0, .int .u16 0, .bool false, .slice none 0 0, .int .u8 0, .int .u8 0, .int .u32 0, .slice none 0 0]) 65))
  have HLB3 := hide ((Below.refl V2.heap.size V2).alloc (Nat.le_refl _) (.cells (#[.int .u8 0, .int .u32 0, .int .u32 0, .int .u16 0, .int .u16 0, .int .i64 0, .int .u16 0, .int .u16 0, .int .u32 0, .int .u32 0, .int .u8 0, .int .u16 0, .int .u16 0, .slice none 0 0, .slice none 0 0, .int .u16 0, .int .u16 0, .bool false, .slice none 0 0, .int .u8 0, .int .u8 0, .int .u32 0, .slice none 0 0]) 65))
  have e0 := cell_at hp2 0 rfl
  have e1 : V2.cell? ⟨PB, 1, none⟩ = some (.int .u8 (P : Int)) := cell_at hp2 1 rfl
  have e3 : V2.cell? ⟨PB, 3, none⟩ = some (.int .u32 (S : Int)) := cell_at hp2 3 rfl
  have e4 : V2.cell? ⟨PB, 4, none⟩ = some (.int .u32 (D : Int)) := cell_at hp2 4 rfl
  have hPl := lt_of_block hp2
  clear e0 hV1 hV2 hz1 hz2 hb1 hb12 hb2 hp1 hp2 hr2 hPB hRB hLB
  go_enter Try.func29, Try.ntmps29
  go_upto_region 1 with (fail)
  rw [HE.out.1, HE.out.2.1, HE.out.2.2.2.1, HE.out.2.2.1]
  go_upto_region 2 with ((refine st_part (o := ⟨none, _, _, _, _, _⟩) 65 (.tmp 4) (.tmp 13) rfl (by rfl) V2.heap.size 0 rfl (#[.int .u8 0, .int .u32 0, .int .u32 0, .int .u16 0, .int .u16 0, .int .i64 0, .int .u16 0, .int .u16 0, .int .u32 0, .int .u32 0, .int .u8 0, .int .u16 0, .int .u16 0, .slice none 0 0, .slice none 0 0, .int .u16 0, .int .u16 0, .bool false, .slice none 0 0, .int .u8 0, .int .u8 0, .int .u32 0, .slice none 0 0]) 65 (#[.int .u8 (P : Int), .int .u32 (S : Int), .int .u32 (D : Int), .int .u16 0, .int .u16 0, .int .i64 1, .int .u16 0, .int .u16 0, .int .u32 0, .int .u32 0, .int .u8 0, .int .u16 0, .int .u16 0, .slice none 0 0, .slice none 0 0, .int .u16 0, .int .u16 0, .bool false, .slice none 0 0, .int .u8 0, .int .u8 0, .int .u32 0, .slice none 0 0]) rfl HLN.out rfl (by kernel_rfl) (by kernel_rfl) HLB3.out (Nat.le_refl _) ?_; rintro w3 w3h w3b w3o w3s; try simp only [Act.put, List.setIfInBounds_toArray, List.set_cons_zero, List.set_cons_succ]))
  rw [upd_whole (c := #[.int .u8 0, .int .u32 0, .int .u32 0, .int .u16 0, .int .u16 0, .int .i64 0, .int .u16 0, .int .u16 0, .int .u32 0, .int .u32 0, .int .u8 0, .int .u16 0, .int .u16 0, .slice none 0 0, .slice none 0 0, .int .u16 0, .int .u16 0, .bool false, .slice none 0 0, .int .u8 0, .int .u8 0, .int .u32 0, .slice none 0 0]) (cs := #[.int .u8 (P : Int), .int .u32 (S : Int), .int .u32 (D : Int), .int .u16 0, .int .u16 0, .int .i64 1, .int .u16 0, .int .u16 0, .int .u32 0, .int .u32 0, .int .u8 0, .int .u16 0, .int .u16 0, .slice none 0 0, .slice none 0 0, .int .u16 0, .int .u16 0, .bool false, .slice none 0 0, .int .u8 0, .int .u8 0, .int .u32 0, .slice none 0 0]) rfl, HZ2.out, HE.out.2.2.2.2] at w3h
  rw [HZ2.out, HE.out.2.2.2.2] at w3o
  rw [HZ2.out, HE.out.2.2.2.2]
  have w3p := (w3o PB hPL).trans ((Below.heap_alloc V2 _ PB hPl).trans HP2.out)
  have w3r := (w3o RB hRL).trans ((Below.heap_alloc V2 _ RB (lt_of_block HR2.out)).trans HR2.out)
  have HB3 := hide (HB2.out.trans (w3b.mono HB2.out.size))
  have HL3 := hide w3h
  have HP3 := hide w3p
  have HR3 := hide w3r
  clear w3b w3h w3p w3r w3o w3s HLN HLB3 HB2 HP2 HR2 HZ2 HE e1 e3 e4 hPl
  have e1 : w3.cell? ⟨PB, 1, none⟩ = some (.int .u8 (P : Int)) := cell_at HP3.out 1 rfl
  have e3 : w3.cell? ⟨PB, 3, none⟩ = some (.int .u32 (S : Int)) := cell_at HP3.out 3 rfl
  have e4 : w3.cell? ⟨PB, 4, none⟩ = some (.int .u32 (D : Int)) := cell_at HP3.out 4 rfl
  have e5 : w3.cell? ⟨PB, 5, none⟩ = some (.slice a n cap) := cell_at HP3.out 5 rfl
  go_upto_region 5 with (fail)
  go_wp2_with fail
  refine (HT.out w3 HB3.out).mono ?_
  rintro e w4 ⟨a1, c1, a2, c2, rfl, o1, o2, b4⟩
  have HO := hide (And.intro o1 o2)
  have hL3l := lt_of_block HL3.out
  have hR3l := lt_of_block HR3.out
  have hw3 := HB3.out.size
  have HL4 := hide (below_block b4 HL3.out (Nat.le_refl _))
  have HR4 := hide (below_block b4 HR3.out (Nat.le_refl _))
  have HB4 := hide (HB3.out.trans (b4.mono HB3.out.size))
  have hLl := lt_of_block HL4.out
  clear b4 o1 o2 HL3 HR3 HB3 HP3 e1 e3 e4 e5 HT
  go_upto_region 6 with ((refine st_part (o := ⟨none, _, _, _, _, _⟩) 61 (.tmp 28) (.tmp 26) rfl (by rfl) LB 6 rfl (#[.int .u8 (P : Int), .int .u32 (S : Int), .int .u32 (D : Int), .int .u16 0, .int .u16 0, .int .i64 1, .int .u16 0, .int .u16 0, .int .u32 0, .int .u32 0, .int .u8 0, .int .u16 0, .int .u16 0, .slice none 0 0, .slice none 0 0, .int .u16 0, .int .u16 0, .bool false, .slice none 0 0, .int .u8 0, .int .u8 0, .int .u32 0, .slice none 0 0]) 65 (#[.int .u16 (p : Int), .int .u16 (q : Int), .int .u32 (u : Int), .int .u32 (v : Int), .int .u8 (f : Int), .int .u16 (g : Int), .int .u16 (h : Int), .slice a1 ol c1, .slice a2 dl c2]) rfl HL4.out rfl (by kernel_rfl) (by kernel_rfl) HB4.out hwL ?_; rintro w5 w5h w5b w5o w5s; try simp only [Act.put, List.setIfInBounds_toArray, List.set_cons_zero, List.set_cons_succ]))
  rw [show upd (#[.int .u8 (P : Int), .int .u32 (S : Int), .int .u32 (D : Int), .int .u16 0, .int .u16 0, .int .i64 1, .int .u16 0, .int .u16 0, .int .u32 0, .int .u32 0, .int .u8 0, .int .u16 0, .int .u16 0, .slice none 0 0, .slice none 0 0, .int .u16 0, .int .u16 0, .bool false, .slice none 0 0, .int .u8 0, .int .u8 0, .int .u32 0, .slice none 0 0]) 6 (#[.int .u16 (p : Int), .int .u16 (q : Int), .int .u32 (u : Int), .int .u32 (v : Int), .int .u8 (f : Int), .int .u16 (g : Int), .int .u16 (h : Int), .slice a1 ol c1, .slice a2 dl c2] : Array Value).toList = (#[.int .u8 (P : Int), .int .u32 (S : Int), .int .u32 (D : Int), .int .u16 0, .int .u16 0, .int .i64 1, .int .u16 (p : Int), .int .u16 (q : Int), .int .u32 (u : Int), .int .u32 (v : Int), .int .u8 (f : Int), .int .u16 (g : Int), .int .u16 (h : Int), .slice a1 ol c1, .slice a2 dl c2, .int .u16 0, .int .u16 0, .bool false, .slice none 0 0, .int .u8 0, .int .u8 0, .int .u32 0, .slice none 0 0]) by kernel_rfl] at w5h
  have HL5 := hide w5h
  have HR5 := hide ((w5o RB hRL).trans HR4.out)
  have HB5 := hide w5b
  have HG5 := hide (gb_part HB4.out w5b w5o w5s)
  clear w5h w5o w5s w5b HL4 HR4 HB4
  have q6 : w5.cell? ⟨LB, 6, none⟩ = some (.int .u16 (p : Int)) := cell_at HL5.out 6 rfl
  have q7 : w5.cell? ⟨LB, 7, none⟩ = some (.int .u16 (q : Int)) := cell_at HL5.out 7 rfl
  have q3 : w5.cell? ⟨LB, 3, none⟩ = some (.int .u16 0) := cell_at HL5.out 3 rfl
  have q4 : w5.cell? ⟨LB, 4, none⟩ = some (.int .u16 0) := cell_at HL5.out 4 rfl
  have qf := free_at HL5.out
  have hs3 := heap_setCell_same w5 LB 3 _ _ (.int .u16 (p : Int)) HL5.out
  have hs4 := heap_setCell_same _ LB 4 _ _ (.int .u16 (q : Int)) hs3
  obtain ⟨w6, hw6, HLe, HRe, HBe, HGe⟩ : ∃ wt, (w5.setCell ⟨LB, 3, none⟩ (.int .u16 (p : Int))).setCell ⟨LB, 4, none⟩ (.int .u16 (q : Int)) = wt ∧ Hid (wt.heap[LB]? = some (.cells (#[.int .u8 (P : Int), .int .u32 (S : Int), .int .u32 (D : Int), .int .u16 (p : Int), .int .u16 (q : Int), .int .i64 1, .int .u16 (p : Int), .int .u16 (q : Int), .int .u32 (u : Int), .int .u32 (v : Int), .int .u8 (f : Int), .int .u16 (g : Int), .int .u16 (h : Int), .slice a1 ol c1, .slice a2 dl c2, .int .u16 0, .int .u16 0, .bool false, .slice none 0 0, .int .u8 0, .int .u8 0, .int .u32 0, .slice none 0 0]) 65 (0, 0))) ∧ Hid (wt.heap[RB]? = some (.cells (#[.int .u8 0, .int .u32 0, .int .u32 0, .int .u16 0, .int .u16 0, .int .i64 0, .int .u16 0, .int .u16 0, .int .u32 0, .int .u32 0, .int .u8 0, .int .u16 0, .int .u16 0, .slice none 0 0, .slice none 0 0, .int .u16 0, .int .u16 0, .bool false, .slice none 0 0, .int .u8 0, .int .u8 0, .int .u32 0, .slice none 0 0]) 65 (0, 0))) ∧ Hid (Below w.heap.size w wt) ∧ Hid (w4.grownBy wt (some LB)) :=
    ⟨_, rfl, hide hs4, hide ((heap_setCell_other _ _ _ _ hRL).trans ((heap_setCell_other _ _ _ _ hRL).trans HR5.out)), hide ((HB5.out.setCell (p := ⟨LB, 3, none⟩) hwL _).setCell (p := ⟨LB, 4, none⟩) hwL _), hide (gb_put (gb_put HG5.out LB 3 _ rfl) LB 4 _ rfl)⟩
  clear hs3 hs4 HL5 HR5 HB5 HG5
  go_upto_region 14 with (fail)
  try rw [hw6]
  clear hw6 q6 q7 q3 q4 qf
  have HOe := hide (And.intro (owns_put HO.out.1 HGe.out hL3l) (owns_put HO.out.2 HGe.out hL3l))
  clear HO HGe
  obtain ⟨LC, hLC⟩ : ∃ c, (#[.int .u8 (P : Int), .int .u32 (S : Int), .int .u32 (D : Int), .int .u16 (p : Int), .int .u16 (q : Int), .int .i64 1, .int .u16 (p : Int), .int .u16 (q : Int), .int .u32 (u : Int), .int .u32 (v : Int), .int .u8 (f : Int), .int .u16 (g : Int), .int .u16 (h : Int), .slice a1 ol c1, .slice a2 dl c2, .int .u16 0, .int .u16 0, .bool false, .slice none 0 0, .int .u8 0, .int .u8 0, .int .u32 0, .slice none 0 0] : Array Value) = c := ⟨_, rfl⟩
  have hLs : LC.size = 23 := by rw [← hLC]; rfl
  have hLo : LC.all (·.oneCell') = true := by rw [← hLC]; kernel_rfl
  have HLf := hide (show w6.heap[LB]? = some (.cells LC 65 (0, 0)) by rw [← hLC]; exact HLe.out)
  have HLC := hide hLC
  have HLs := hide hLs
  clear hLC hLs
  go_wp2_with (first
    | (refine ld_whole (o := ⟨some 77, _, _, _, _, _⟩) 65 (.tmp 4) rfl (by rfl) LB rfl LC 65 HLf.out Try.underlying65 (by rw [HLs.out]; kernel_rfl) ?_; try simp only [Act.put, List.setIfInBounds_toArray, List.set_cons_zero, List.set_cons_succ])
    | (refine st_part (o := ⟨none, _, _, _, _, _⟩) 65 (.tmp 2) (.tmp 77) rfl (by rfl) RB 0 rfl (#[.int .u8 0, .int .u32 0, .int .u32 0, .int .u16 0, .int .u16 0, .int .i64 0, .int .u16 0, .int .u16 0, .int .u32 0, .int .u32 0, .int .u8 0, .int .u16 0, .int .u16 0, .slice none 0 0, .slice none 0 0, .int .u16 0, .int .u16 0, .bool false, .slice none 0 0, .int .u8 0, .int .u8 0, .int .u32 0, .slice none 0 0]) 65 LC rfl HRe.out (by rw [HLs.out]; rfl) (by rw [HLs.out]; kernel_rfl) hLo HBe.out hwR ?_; rintro w9 w9h w9b w9o w9s; try simp only [Act.put, List.setIfInBounds_toArray, List.set_cons_zero, List.set_cons_succ]))
  rw [upd_whole (c := #[.int .u8 0, .int .u32 0, .int .u32 0, .int .u16 0, .int .u16 0, .int .i64 0, .int .u16 0, .int .u16 0, .int .u32 0, .int .u32 0, .int .u8 0, .int .u16 0, .int .u16 0, .slice none 0 0, .slice none 0 0, .int .u16 0, .int .u16 0, .bool false, .slice none 0 0, .int .u8 0, .int .u8 0, .int .u32 0, .slice none 0 0]) (cs := LC) (by rw [HLs.out]; rfl)] at w9h
  exact bodyPost_ret (v := .tuple #[.agg LC, .int .i64 (code : Nat)]) (results_cell_tmp Try.results29 _ w9 RB _ _ _ _ rfl w9h Try.underlying65 rfl (by rw [HLs.out]; kernel_rfl) _ rfl) rfl ⟨a1, c1, a2, c2, by rw [HLC.out], owns_mono (owns_put HOe.out.1 (gb_part HBe.out w9b w9o w9s) hR3l) hw3, owns_mono (owns_put HOe.out.2 (gb_part HBe.out w9b w9o w9s) hR3l) hw3, w9b⟩

set_option maxHeartbeats 2000000 in
theorem rd_udp (w : World) (ttl pid : Int) (S D : Nat) (a : Option Addr) (n cap : Nat) (xs : List Int) (hLx : Lies w a xs n cap) (hl : xs.length = n) (hb : ∀ x ∈ xs, 0 ≤ x ∧ x ≤ 255) (hS : S ≤ 4294967295) (hD : D ≤ 4294967295) :
    Calls Try.prog 29 #[.agg #[.int .u8 ttl, .int .u8 17, .int .u16 pid, .int .u32 (S : Int), .int .u32 (D : Int), .slice a n cap]] w fun e w' => ∃ a2 c2, e = .returned (.tuple #[.agg #[.int .u8 17, .int .u32 (S : Int), .int .u32 (D : Int), .int .u16 ((dgmOf S D xs).p : Int), .int .u16 ((dgmOf S D xs).q : Int), .int .i64 1, .int .u16 0, .int .u16 0, .int .u32 0, .int .u32 0, .int .u8 0, .int .u16 0, .int .u16 0, .slice none 0 0, .slice none 0 0, .int .u16 ((dgmOf S D xs).p : Int), .int .u16 ((dgmOf S D xs).q : Int), .bool (dgmOf S D xs).pl, .slice a2 (dgmOf S D xs).ds.length c2, .int .u8 0, .int .u8 0, .int .u32 0, .slice none 0 0], .int .i64 (dgmCode S D xs : Nat)]) ∧
      w'.ownsRow w.heap.size 5 1 (.slice a2 (dgmOf S D xs).ds.length c2) (dgmOf S D xs).ds.length ((dgmOf S D xs).ds.map (Value.int .u8)) ∧ Below w.heap.size w w' := by
  obtain ⟨P, hP⟩ : ∃ P : Nat, P = 17 := ⟨_, rfl⟩
  have hP17 : (P : Int) = 17 := by rw [hP]; rfl
  have d6 : ((P : Int) == 6) = false := by simp [hP]
  have d17 : ((P : Int) == 17) = true := by simp [hP]
  have HT := hide (fun (W : World) (hW : Below w.heap.size w W) => (readUDP_both S D xs n hl hb hS hD).1 W a cap (hLx.below hW (Nat.le_refl _)))
  obtain ⟨sg, hsg⟩ : ∃ sg, dgmOf S D xs = sg := ⟨_, rfl⟩
  obtain ⟨code, hcode⟩ : ∃ sg, dgmCode S D xs = sg := ⟨_, rfl⟩
  rw [hsg, hcode] at HT ⊢
  obtain ⟨p, q, pl, ds⟩ := sg
  unfold DgmAns UdpAns at HT
  dsimp only at HT ⊢
  obtain ⟨dl, hdl⟩ : ∃ ol, ds.length = ol := ⟨_, rfl⟩
  rw [hdl] at HT ⊢
  have HPP := hide hP
  suffices hh : Calls Try.prog 29 #[.agg #[.int .u8 ttl, .int .u8 (P : Int), .int .u16 pid, .int .u32 (S : Int), .int .u32 (D : Int), .slice a n cap]] w fun e w' => ∃ a2 c2, e = .returned (.tuple #[.agg #[.int .u8 (P : Int), .int .u32 (S : Int), .int .u32 (D : Int), .int .u16 (p : Int), .int .u16 (q : Int), .int .i64 1, .int .u16 0, .int .u16 0, .int .u32 0, .int .u32 0, .int .u8 0, .int .u16 0, .int .u16 0, .slice none 0 0, .slice none 0 0, .int .u16 (p : Int), .int .u16 (q : Int), .bool pl, .slice a2 dl c2, .int .u8 0, .int .u8 0, .int .u32 0, .slice none 0 0], .int .i64 (code : Nat)]) ∧
      w'.ownsRow w.heap.size 5 1 (.slice a2 dl c2) dl (ds.map (Value.int .u8)) ∧ Below w.heap.size w w' by
    rw [hP17] at hh
    exact hh
  clear hsg hcode hdl hP hP17 hLx hl hb
  obtain ⟨V1, hV1⟩ : ∃ V, w.alloc (.cells (#[.int .u8 ttl, .int .u8 (P : Int), .int .u16 pid, .int .u32 (S : Int), .int .u32 (D : Int), .slice a n cap]) 27) = V := ⟨_, rfl⟩
  obtain ⟨V2, hV2⟩ : ∃ V, V1.alloc (.cells (#[.int .u8 0, .int .u32 0, .int .u32 0, .int .u16 0, .int .u16 0, .int .i64 0, .int .u16 0, .int .u16 0, .int .u32 0, .int .u32 0, .int .u8 0, .int .u16 0, .int .u16 0, .slice none 0 0, .slice none 0 0, .int .u16 0, .int .u16 0, .bool false, .slice none 0 0, .int .u8 0, .int .u8 0, .int .u32 0, .slice none 0 0]) 65) = V := ⟨_, rfl⟩
  have hz1 : V1.heap.size = w.heap.size + 1 := by rw [← hV1]; simp
  have hz2 : V2.heap.size = w.heap.size + 1 + 1 := by rw [← hV2]; simp [hz1]
  have hb1 : Below w.heap.size w V1 := by rw [← hV1]; exact (Below.refl _ _).alloc (Nat.le_refl _) _
  have hb12 : Below V1.heap.size V1 V2 := by rw [← hV2]; exact (Below.refl _ _).alloc (Nat.le_refl _) _
  have hb2 := hb1.trans (hb12.mono hb1.size)
  have hp1 : V1.heap[w.heap.size]? = some (.cells (#[.int .u8 ttl, .int .u8 (P : Int), .int .u16 pid, .int .u32 (S : Int), .int .u32 (D : Int), .slice a n cap]) 27 (0, 0)) := by rw [← hV1]; exact heap_alloc_new _ _
  have hp2 := below_block hb12 hp1 (Nat.le_refl _)
  have hr2 : V2.heap[w.heap.size + 1]? = some (.cells (#[.int .u8 0, .int .u32 0, .int .u32 0, .int .u16 0, .int .u16 0, .int .i64 0, .int .u16 0, .int .u16 0, .int .u32 0, .int .u32 0, .int .u8 0, .int .u16 0, .int .u16 0, .slice none 0 0, .slice none 0 0, .int .u16 0, .int .u16 0, .bool false, .slice none 0 0, .int .u8 0, .int .u8 0, .int .u32 0, .slice none 0 0]) 65 (0, 0)) := by rw [← hV2, ← hz1]; exact heap_alloc_new _ _
  obtain ⟨PB, hPB⟩ : ∃ B, w.heap.size = B := ⟨_, rfl⟩
  obtain ⟨RB, hRB⟩ : ∃ B, w.heap.size + 1 = B := ⟨_, rfl⟩
  obtain ⟨LB, hLB⟩ : ∃ B, w.heap.size + 1 + 1 = B := ⟨_, rfl⟩
  rw [hPB] at hp2
  rw [hRB] at hr2
  have hPR : PB ≠ RB := by omega
  have hPL : PB ≠ LB := by omega
  have hRL : RB ≠ LB := by omega
  have hwP : w.heap.size ≤ PB := by omega
  have hwR : w.heap.size ≤ RB := by omega
  have hwL : w.heap.size ≤ LB := by omega
  have HE := hide (And.intro hV1 (And.intro hV2 (And.intro hPB (And.intro hRB hLB))))
  have HB2 := hide hb2
  have HP2 := hide hp2
  have HR2 := hide hr2
  have HZ2 := hide hz2
  have HLN := hide (heap_alloc_new V2 (.cells (#[.int .u8 0, .int .u32 0, .int .u32 0, .int .u16 0, .int .u16 0, .int .i64 0, .int .u16 0, .int .u16 0, .int .u32 0, .int .u32 0, .int .u8 0, .int .u16 0, .int .u16 0, .slice none 0 0, .slice none 0 0, .int .u16 0, .int .u16 0, .bool false, .slice none 0 0, .int .u8 0, .int .u8 0, .int .u32 0, .slice none 0 0]) 65))
  have HLB3 := hide ((Below.refl V2.heap.size V2).alloc (Nat.le_refl _) (.cells (#[.int .u8 0, .int .u32 0, .int .u32 0, .int .u16 0, .int .u16 0, .int .i64 0, .int .u16 0, .int .u16 0, .int .u32 0, .int .u32 0, .int .u8 0, .int .u16 0, .int .u16 0, .slice none 0 0, .slice none 0 0, .int .u16 0, .int .u16 0, .bool false, .slice none 0 0, .int .u8 0, .int .u8 0, .int .u32 0, .slice none 0 0]) 65))
  have e0 := cell_at hp2 0 rfl
  have e1 : V2.cell? ⟨PB, 1, none⟩ = some (.int .u8 (P : Int)) := cell_at hp2 1 rfl
  have e3 : V2.cell? ⟨PB, 3, none⟩ = some (.int .u32 (S : Int)) := cell_at hp2 3 rfl
  have e4 : V2.cell? ⟨PB, 4, none⟩ = some (.int .u32 (D : Int)) := cell_at hp2 4 rfl
  have hPl := lt_of_block hp2
  clear e0 hV1 hV2 hz1 hz2 hb1 hb12 hb2 hp1 hp2 hr2 hPB hRB hLB
  go_enter Try.func29, Try.ntmps29
  go_upto_region 1 with (fail)
  rw [HE.out.1, HE.out.2.1, HE.out.2.2.2.1, HE.out.2.2.1]
  go_upto_region 2 with ((refine st_part (o := ⟨none, _, _, _, _, _⟩) 65 (.tmp 4) (.tmp 13) rfl (by rfl) V2.heap.size 0 rfl (#[.int .u8 0, .int .u32 0, .int .u32 0, .int .u16 0, .int .u16 0, .int .i64 0, .int .u16 0, .int .u16 0, .int .u32 0, .int .u32 0, .int .u8 0, .int .u16 0, .int .u16 0, .slice none 0 0, .slice none 0 0, .int .u16 0, .int .u16 0, .bool false, .slice none 0 0, .int .u8 0, .int .u8 0, .int .u32 0, .slice none 0 0]) 65 (#[.int .u8 (P : Int), .int .u32 (S : Int), .int .u32 (D : Int), .int .u16 0, .int .u16 0, .int .i64 1, .int .u16 0, .int .u16 0, .int .u32 0, .int .u32 0, .int .u8 0, .int .u16 0, .int .u16 0, .slice none 0 0, .slice none 0 0, .int .u16 0, .int .u16 0, .bool false, .slice none 0 0, .int .u8 0, .int .u8 0, .int .u32 0, .slice none 0 0]) rfl HLN.out rfl (by kernel_rfl) (by kernel_rfl) HLB3.out (Nat.le_refl _) ?_; rintro w3 w3h w3b w3o w3s; try simp only [Act.put, List.setIfInBounds_toArray, List.set_cons_zero, List.set_cons_succ]))
  rw [upd_whole (c := #[.int .u8 0, .int .u32 0, .int .u32 0, .int .u16 0, .int .u16 0, .int .i64 0, .int .u16 0, .int .u16 0, .int .u32 0, .int .u32 0, .int .u8 0, .int .u16 0, .int .u16 0, .slice none 0 0, .slice none 0 0, .int .u16 0, .int .u16 0, .bool false, .slice none 0 0, .int .u8 0, .int .u8 0, .int .u32 0, .slice none 0 0]) (cs := #[.int .u8 (P : Int), .int .u32 (S : Int), .int .u32 (D : Int), .int .u16 0, .int .u16 0, .int .i64 1, .int .u16 0, .int .u16 0, .int .u32 0, .int .u32 0, .int .u8 0, .int .u16 0, .int .u16 0, .slice none 0 0, .slice none 0 0, .int .u16 0, .int .u16 0, .bool false, .slice none 0 0, .int .u8 0, .int .u8 0, .int .u32 0, .slice none 0 0]) rfl, HZ2.out, HE.out.2.2.2.2] at w3h
  rw [HZ2.out, HE.out.2.2.2.2] at w3o
  rw [HZ2.out, HE.out.2.2.2.2]
  have w3p := (w3o PB hPL).trans ((Below.heap_alloc V2 _ PB hPl).trans HP2.out)
  have w3r := (w3o RB hRL).trans ((Below.heap_alloc V2 _ RB (lt_of_block HR2.out)).trans HR2.out)
  have HB3 := hide (HB2.out.trans (w3b.mono HB2.out.size))
  have HL3 := hide w3h
  have HP3 := hide w3p
  have HR3 := hide w3r
  clear w3b w3h w3p w3r w3o w3s HLN HLB3 HB2 HP2 HR2 HZ2 HE e1 e3 e4 hPl
  have e1 : w3.cell? ⟨PB, 1, none⟩ = some (.int .u8 (P : Int)) := cell_at HP3.out 1 rfl
  have e3 : w3.cell? ⟨PB, 3, none⟩ = some (.int .u32 (S : Int)) := cell_at HP3.out 3 rfl
  have e4 : w3.cell? ⟨PB, 4, none⟩ = some (.int .u32 (D : Int)) := cell_at HP3.out 4 rfl
  have e5 : w3.cell? ⟨PB, 5, none⟩ = some (.slice a n cap) := cell_at HP3.out 5 rfl
  go_upto_region 8 with (fail)
  go_wp2_with fail
  refine (HT.out w3 HB3.out).mono ?_
  rintro e w4 ⟨a2, c2, rfl, o2, b4⟩
  have HO := hide (And.intro o2 o2)
  have hL3l := lt_of_block HL3.out
  have hR3l := lt_of_block HR3.out
  have hw3 := HB3.out.size
  have HL4 := hide (below_block b4 HL3.out (Nat.le_refl _))
  have HR4 := hide (below_block b4 HR3.out (Nat.le_refl _))
  have HB4 := hide (HB3.out.trans (b4.mono HB3.out.size))
  have hLl := lt_of_block HL4.out
  clear b4 o2 HL3 HR3 HB3 HP3 e1 e3 e4 e5 HT
  go_upto_region 9 with ((refine st_part (o := ⟨none, _, _, _, _, _⟩) 63 (.tmp 51) (.tmp 49) rfl (by rfl) LB 15 rfl (#[.int .u8 (P : Int), .int .u32 (S : Int), .int .u32 (D : Int), .int .u16 0, .int .u16 0, .int .i64 1, .int .u16 0, .int .u16 0, .int .u32 0, .int .u32 0, .int .u8 0, .int .u16 0, .int .u16 0, .slice none 0 0, .slice none 0 0, .int .u16 0, .int .u16 0, .bool false, .slice none 0 0, .int .u8 0, .int .u8 0, .int .u32 0, .slice none 0 0]) 65 (#[.int .u16 (p : Int), .int .u16 (q : Int), .bool pl, .slice a2 dl c2]) rfl HL4.out rfl (by kernel_rfl) (by kernel_rfl) HB4.out hwL ?_; rintro w5 w5h w5b w5o w5s; try simp only [Act.put, List.setIfInBounds_toArray, List.set_cons_zero, List.set_cons_succ]))
  rw [show upd (#[.int .u8 (P : Int), .int .u32 (S : Int), .int .u32 (D : Int), .int .u16 0, .int .u16 0, .int .i64 1, .int .u16 0, .int .u16 0, .int .u32 0, .int .u32 0, .int .u8 0, .int .u16 0, .int .u16 0, .slice none 0 0, .slice none 0 0, .int .u16 0, .int .u16 0, .bool false, .slice none 0 0, .int .u8 0, .int .u8 0, .int .u32 0, .slice none 0 0]) 15 (#[.int .u16 (p : Int), .int .u16 (q : Int), .bool pl, .slice a2 dl c2] : Array Value).toList = (#[.int .u8 (P : Int), .int .u32 (S : Int), .int .u32 (D : Int), .int .u16 0, .int .u16 0, .int .i64 1, .int .u16 0, .int .u16 0, .int .u32 0, .int .u32 0, .int .u8 0, .int .u16 0, .int .u16 0, .slice none 0 0, .slice none 0 0, .int .u16 (p : Int), .int .u16 (q : Int), .bool pl, .slice a2 dl c2, .int .u8 0, .int .u8 0, .int .u32 0, .slice none 0 0]) by kernel_rfl] at w5h
  have HL5 := hide w5h
  have HR5 := hide ((w5o RB hRL).trans HR4.out)
  have HB5 := hide w5b
  have HG5 := hide (gb_part HB4.out w5b w5o w5s)
  clear w5h w5o w5s w5b HL4 HR4 HB4
  have q6 : w5.cell? ⟨LB, 15, none⟩ = some (.int .u16 (p : Int)) := cell_at HL5.out 15 rfl
  have q7 : w5.cell? ⟨LB, 16, none⟩ = some (.int .u16 (q : Int)) := cell_at HL5.out 16 rfl
  have q3 : w5.cell? ⟨LB, 3, none⟩ = some (.int .u16 0) := cell_at HL5.out 3 rfl
  have q4 : w5.cell? ⟨LB, 4, none⟩ = some (.int .u16 0) := cell_at HL5.out 4 rfl
  have qf := free_at HL5.out
  have hs3 := heap_setCell_same w5 LB 3 _ _ (.int .u16 (p : Int)) HL5.out
  have hs4 := heap_setCell_same _ LB 4 _ _ (.int .u16 (q : Int)) hs3
  obtain ⟨w6, hw6, HLe, HRe, HBe, HGe⟩ : ∃ wt, (w5.setCell ⟨LB, 3, none⟩ (.int .u16 (p : Int))).setCell ⟨LB, 4, none⟩ (.int .u16 (q : Int)) = wt ∧ Hid (wt.heap[LB]? = some (.cells (#[.int .u8 (P : Int), .int .u32 (S : Int), .int .u32 (D : Int), .int .u16 (p : Int), .int .u16 (q : Int), .int .i64 1, .int .u16 0, .int .u16 0, .int .u32 0, .int .u32 0, .int .u8 0, .int .u16 0, .int .u16 0, .slice none 0 0, .slice none 0 0, .int .u16 (p : Int), .int .u16 (q : Int), .bool pl, .slice a2 dl c2, .int .u8 0, .int .u8 0, .int .u32 0, .slice none 0 0]) 65 (0, 0))) ∧ Hid (wt.heap[RB]? = some (.cells (#[.int .u8 0, .int .u32 0, .int .u32 0, .int .u16 0, .int .u16 0, .int .i64 0, .int .u16 0, .int .u16 0, .int .u32 0, .int .u32 0, .int .u8 0, .int .u16 0, .int .u16 0, .slice none 0 0, .slice none 0 0, .int .u16 0, .int .u16 0, .bool false, .slice none 0 0, .int .u8 0, .int .u8 0, .int .u32 0, .slice none 0 0]) 65 (0, 0))) ∧ Hid (Below w.heap.size w wt) ∧ Hid (w4.grownBy wt (some LB)) :=
    ⟨_, rfl, hide hs4, hide ((heap_setCell_other _ _ _ _ hRL).trans ((heap_setCell_other _ _ _ _ hRL).trans HR5.out)), hide ((HB5.out.setCell (p := ⟨LB, 3, none⟩) hwL _).setCell (p := ⟨LB, 4, none⟩) hwL _), hide (gb_put (gb_put HG5.out LB 3 _ rfl) LB 4 _ rfl)⟩
  clear hs3 hs4 HL5 HR5 HB5 HG5
  go_upto_region 14 with (fail)
  try rw [hw6]
  clear hw6 q6 q7 q3 q4 qf
  have HOe := hide (And.intro (owns_put HO.out.1 HGe.out hL3l) (owns_put HO.out.2 HGe.out hL3l))
  clear HO HGe
  obtain ⟨LC, hLC⟩ : ∃ c, (#[.int .u8 (P : Int), .int .u32 (S : Int), .int .u32 (D : Int), .int .u16 (p : Int), .int .u16 (q : Int), .int .i64 1, .int .u16 0, .int .u16 0, .int .u32 0, .int .u32 0, .int .u8 0, .int .u16 0, .int .u16 0, .slice none 0 0, .slice none 0 0, .int .u16 (p : Int), .int .u16 (q : Int), .bool pl, .slice a2 dl c2, .int .u8 0, .int .u8 0, .int .u32 0, .slice none 0 0] : Array Value) = c := ⟨_, rfl⟩
  have hLs : LC.size = 23 := by rw [← hLC]; rfl
  have hLo : LC.all (·.oneCell') = true := by rw [← hLC]; kernel_rfl
  have HLf := hide (show w6.heap[LB]? = some (.cells LC 65 (0, 0)) by rw [← hLC]; exact HLe.out)
  have HLC := hide hLC
  have HLs := hide hLs
  clear hLC hLs
  go_wp2_with (first
    | (refine ld_whole (o := ⟨some 77, _, _, _, _, _⟩) 65 (.tmp 4) rfl (by rfl) LB rfl LC 65 HLf.out Try.underlying65 (by rw [HLs.out]; kernel_rfl) ?_; try simp only [Act.put, List.setIfInBounds_toArray, List.set_cons_zero, List.set_cons_succ])
    | (refine st_part (o := ⟨none, _, _, _, _, _⟩) 65 (.tmp 2) (.tmp 77) rfl (by rfl) RB 0 rfl (#[.int .u8 0, .int .u32 0, .int .u32 0, .int .u16 0, .int .u16 0, .int .i64 0, .int .u16 0, .int .u16 0, .int .u32 0, .int .u32 0, .int .u8 0, .int .u16 0, .int .u16 0, .slice none 0 0, .slice none 0 0, .int .u16 0, .int .u16 0, .bool false, .slice none 0 0, .int .u8 0, .int .u8 0, .int .u32 0, .slice none 0 0]) 65 LC rfl HRe.out (by rw [HLs.out]; rfl) (by rw [HLs.out]; kernel_rfl) hLo HBe.out hwR ?_; rintro w9 w9h w9b w9o w9s; try simp only [Act.put, List.setIfInBounds_toArray, List.set_cons_zero, List.set_cons_succ]))
  rw [upd_whole (c := #[.int .u8 0, .int .u32 0, .int .u32 0, .int .u16 0, .int .u16 0, .int .i64 0, .int .u16 0, .int .u16 0, .int .u32 0, .int .u32 0, .int .u8 0, .int .u16 0, .int .u16 0, .slice none 0 0, .slice none 0 0, .int .u16 0, .int .u16 0, .bool false, .slice none 0 0, .int .u8 0, .int .u8 0, .int .u32 0, .slice none 0 0]) (cs := LC) (by rw [HLs.out]; rfl)] at w9h
  exact bodyPost_ret (v := .tuple #[.agg LC, .int .i64 (code : Nat)]) (results_cell_tmp Try.results29 _ w9 RB _ _ _ _ rfl w9h Try.underlying65 rfl (by rw [HLs.out]; kernel_rfl) _ rfl) rfl ⟨a2, c2, by rw [HLC.out], owns_mono (owns_put HOe.out.2 (gb_part HBe.out w9b w9o w9s) hR3l) hw3, w9b⟩

def icFl (S D : Nat) (xs : List Int) : Fl := if msgCode xs = 0 then msgFl ⟨1, S, D, 0, 0⟩ (msgOf xs).p (msgOf xs).q (msgOf xs).r (msgOf xs).ds else ⟨1, S, D, 0, 0⟩
def icKind (xs : List Int) : Int := if msgCode xs = 0 then msgKind (msgOf xs).p else 1
def icErr (xs : List Int) : Nat := if msgCode xs = 0 then (if msgOk (msgOf xs).p (msgOf xs).q (msgOf xs).ds = true then 0 else 11) else msgCode xs
theorem msgOf_ok (xs : List Int) (hb : ∀ x ∈ xs, 0 ≤ x ∧ x ≤ 255) : (msgOf xs).p ≤ 255 ∧ (msgOf xs).q ≤ 255 ∧ (msgOf xs).r ≤ 4294967295 ∧ (∀ x ∈ (msgOf xs).ds, 0 ≤ x ∧ x ≤ 255) ∧ (msgOf xs).ds.length ≤ 1472 := by
  unfold msgOf
  split
  · rename_i h
    have h0 := fld_lt xs 0 1 hb
    have h1 := fld_lt xs 1 1 hb
    have h4 := fld_lt xs 4 4 hb
    simp at h0 h1 h4
    dsimp only
    refine ⟨by omega, by omega, by omega, fun x hx => hb x (List.mem_of_mem_drop hx), ?_⟩
    unfold msgCode at h
    split at h
    · omega
    · split at h
      · omega
      · rw [List.length_drop]; omega
  · exact ⟨by decide, by decide, by decide, fun x hx => by simp at hx, by simp⟩
set_option maxHeartbeats 4000000 in
theorem rd_icmp (w : World) (ttl pid : Int) (S D : Nat) (a : Option Addr) (n cap : Nat) (xs : List Int) (hLx : Lies w a xs n cap) (hl : xs.length = n) (hb : ∀ x ∈ xs, 0 ≤ x ∧ x ≤ 255) :
    Calls Try.prog 29 #[.agg #[.int .u8 ttl, .int .u8 1, .int .u16 pid, .int .u32 (S : Int), .int .u32 (D : Int), .slice a n cap]] w fun e w' => ∃ a2 c2, e = .returned (.tuple #[.agg #[.int .u8 ((icFl S D xs).p : Int), .int .u32 ((icFl S D xs).s : Int), .int .u32 ((icFl S D xs).d : Int), .int .u16 ((icFl S D xs).f : Int), .int .u16 ((icFl S D xs).t : Int), .int .i64 (icKind xs), .int .u16 0, .int .u16 0, .int .u32 0, .int .u32 0, .int .u8 0, .int .u16 0, .int .u16 0, .slice none 0 0, .slice none 0 0, .int .u16 0, .int .u16 0, .bool false, .slice none 0 0, .int .u8 ((msgOf xs).p : Int), .int .u8 ((msgOf xs).q : Int), .int .u32 ((msgOf xs).r : Int), .slice a2 (msgOf xs).ds.length c2], .int .i64 (icErr xs : Nat)]) ∧
      w'.ownsRow w.heap.size 5 1 (.slice a2 (msgOf xs).ds.length c2) (msgOf xs).ds.length ((msgOf xs).ds.map (Value.int .u8)) ∧ Below w.heap.size w w' := by
  obtain ⟨P, hP⟩ : ∃ P : Nat, P = 1 := ⟨_, rfl⟩
  have hP1 : (P : Int) = 1 := by rw [hP]; rfl
  have d6 : ((P : Int) == 6) = false := by simp [hP]
  have d17 : ((P : Int) == 17) = false := by simp [hP]
  have d1 : ((P : Int) == 1) = true := by simp [hP]
  have HT := hide (fun (W : World) (hW : Below w.heap.size w W) => (readICMP_both xs n hl hb).1 W a cap (hLx.below hW (Nat.le_refl _)))
  obtain ⟨k1, k2, k3, k4, k5⟩ := msgOf_ok xs hb
  unfold icFl icKind icErr
  obtain ⟨sg, hsg⟩ : ∃ sg, msgOf xs = sg := ⟨_, rfl⟩
  obtain ⟨code, hcode⟩ : ∃ sg, msgCode xs = sg := ⟨_, rfl⟩
  rw [hsg] at k1 k2 k3 k4 k5
  rw [hsg, hcode] at HT ⊢
  obtain ⟨p, q, r, ds⟩ := sg
  unfold MsgAns IcmpAns at HT
  dsimp only at HT k1 k2 k3 k4 k5 ⊢
  obtain ⟨dl, hdl⟩ : ∃ ol, ds.length = ol := ⟨_, rfl⟩
  rw [hdl] at HT k5 ⊢
  have HPP := hide hP
  have HDL := hide hdl
  have HK4 := hide k4
  obtain ⟨xf, hxf⟩ : ∃ y, (if code = 0 then msgFl ⟨1, S, D, 0, 0⟩ p q r ds else ⟨1, S, D, 0, 0⟩) = y := ⟨_, rfl⟩
  obtain ⟨xk, hxk⟩ : ∃ y, (if code = 0 then msgKind p else 1) = y := ⟨_, rfl⟩
  obtain ⟨xe, hxe⟩ : ∃ y, (if code = 0 then (if msgOk p q ds = true then 0 else 11) else code) = y := ⟨_, rfl⟩
  rw [hxf, hxk, hxe]
  suffices hh : Calls Try.prog 29 #[.agg #[.int .u8 ttl, .int .u8 (P : Int), .int .u16 pid, .int .u32 (S : Int), .int .u32 (D : Int), .slice a n cap]] w fun e w' => ∃ a2 c2, e = .returned (.tuple #[.agg #[.int .u8 (xf.p : Int), .int .u32 (xf.s : Int), .int .u32 (xf.d : Int), .int .u16 (xf.f : Int), .int .u16 (xf.t : Int), .int .i64 xk, .int .u16 0, .int .u16 0, .int .u32 0, .int .u32 0, .int .u8 0, .int .u16 0, .int .u16 0, .slice none 0 0, .slice none 0 0, .int .u16 0, .int .u16 0, .bool false, .slice none 0 0, .int .u8 (p : Int), .int .u8 (q : Int), .int .u32 (r : Int), .slice a2 dl c2], .int .i64 (xe : Nat)]) ∧
      w'.ownsRow w.heap.size 5 1 (.slice a2 dl c2) dl (ds.map (Value.int .u8)) ∧ Below w.heap.size w w' by
    rw [hP1] at hh
    exact hh
  have HX := hide (And.intro hxf (And.intro hxk hxe))
  clear hsg hcode hdl hP hP1 hLx hl hb k4 hxf hxk hxe
  obtain ⟨xp, xs', xd, xff, xt⟩ := xf
  dsimp only at HX ⊢
  by_cases hc0 : code = 0
  · have hce : ((code : Int) == 0) = true := by simp [hc0]
    have HC0 := hide hc0
    have HX2 := hide (show msgFl ⟨P, S, D, 0, 0⟩ p q r ds = ⟨xp, xs', xd, xff, xt⟩ ∧ msgKind p = xk ∧ (if msgOk p q ds = true then 0 else 11) = xe by
      have h := HX.out
      rw [if_pos hc0, if_pos hc0, if_pos hc0] at h
      rw [HPP.out]
      exact h)
    clear HX hc0
    obtain ⟨O, hO⟩ : ∃ y, msgOk p q ds = y := ⟨_, rfl⟩
    have HO1 := hide hO
    cases O
    all_goals
      clear hO
      obtain ⟨V1, hV1⟩ : ∃ V, w.alloc (.cells (#[.int .u8 ttl, .int .u8 (P : Int), .int .u16 pid, .int .u32 (S : Int), .int .u32 (D : Int), .slice a n cap]) 27) = V := ⟨_, rfl⟩
      obtain ⟨V2, hV2⟩ : ∃ V, V1.alloc (.cells (#[.int .u8 0, .int .u32 0, .int .u32 0, .int .u16 0, .int .u16 0, .int .i64 0, .int .u16 0, .int .u16 0, .int .u32 0, .int .u32 0, .int .u8 0, .int .u16 0, .int .u16 0, .slice none 0 0, .slice none 0 0, .int .u16 0, .int .u16 0, .bool false, .slice none 0 0, .int .u8 0, .int .u8 0, .int .u32 0, .slice none 0 0]) 65) = V := ⟨_, rfl⟩
      have hz1 : V1.heap.size = w.heap.size + 1 := by rw [← hV1]; simp
      have hz2 : V2.heap.size = w.heap.size + 1 + 1 := by rw [← hV2]; simp [hz1]
      have hb1 : Below w.heap.size w V1 := by rw [← hV1]; exact (Below.refl _ _).alloc (Nat.le_refl _) _
      have hb12 : Below V1.heap.size V1 V2 := by rw [← hV2]; exact (Below.refl _ _).alloc (Nat.le_refl _) _
      have hb2 := hb1.trans (hb12.mono hb1.size)
      have hp1 : V1.heap[w.heap.size]? = some (.cells (#[.int .u8 ttl, .int .u8 (P : Int), .int .u16 pid, .int .u32 (S : Int), .int .u32 (D : Int), .slice a n cap]) 27 (0, 0)) := by rw [← hV1]; exact heap_alloc_new _ _
      have hp2 := below_block hb12 hp1 (Nat.le_refl _)
      have hr2 : V2.heap[w.heap.size + 1]? = some (.cells (#[.int .u8 0, .int .u32 0, .int .u32 0, .int .u16 0, .int .u16 0, .int .i64 0, .int .u16 0, .int .u16 0, .int .u32 0, .int .u32 0, .int .u8 0, .int .u16 0, .int .u16 0, .slice none 0 0, .slice none 0 0, .int .u16 0, .int .u16 0, .bool false, .slice none 0 0, .int .u8 0, .int .u8 0, .int .u32 0, .slice none 0 0]) 65 (0, 0)) := by rw [← hV2, ← hz1]; exact heap_alloc_new _ _
      obtain ⟨PB, hPB⟩ : ∃ B, w.heap.size = B := ⟨_, rfl⟩
      obtain ⟨RB, hRB⟩ : ∃ B, w.heap.size + 1 = B := ⟨_, rfl⟩
      obtain ⟨LB, hLB⟩ : ∃ B, w.heap.size + 1 + 1 = B := ⟨_, rfl⟩
      rw [hPB] at hp2
      rw [hRB] at hr2
      have hPR : PB ≠ RB := by omega
      have hPL : PB ≠ LB := by omega
      have hRL : RB ≠ LB := by omega
      have hwP : w.heap.size ≤ PB := by omega
      have hwR : w.heap.size ≤ RB := by omega
      have hwL : w.heap.size ≤ LB := by omega
      have HE := hide (And.intro hV1 (And.intro hV2 (And.intro hPB (And.intro hRB hLB))))
      have HB2 := hide hb2
      have HP2 := hide hp2
      have HR2 := hide hr2
      have HZ2 := hide hz2
      have HLN := hide (heap_alloc_new V2 (.cells (#[.int .u8 0, .int .u32 0, .int .u32 0, .int .u16 0, .int .u16 0, .int .i64 0, .int .u16 0, .int .u16 0, .int .u32 0, .int .u32 0, .int .u8 0, .int .u16 0, .int .u16 0, .slice none 0 0, .slice none 0 0, .int .u16 0, .int .u16 0, .bool false, .slice none 0 0, .int .u8 0, .int .u8 0, .int .u32 0, .slice none 0 0]) 65))
      have HLB3 := hide ((Below.refl V2.heap.size V2).alloc (Nat.le_refl _) (.cells (#[.int .u8 0, .int .u32 0, .int .u32 0, .int .u16 0, .int .u16 0, .int .i64 0, .int .u16 0, .int .u16 0, .int .u32 0, .int .u32 0, .int .u8 0, .int .u16 0, .int .u16 0, .slice none 0 0, .slice none 0 0, .int .u16 0, .int .u16 0, .bool false, .slice none 0 0, .int .u8 0, .int .u8 0, .int .u32 0, .slice none 0 0]) 65))
      have e0 := cell_at hp2 0 rfl
      have e1 : V2.cell? ⟨PB, 1, none⟩ = some (.int .u8 (P : Int)) := cell_at hp2 1 rfl
      have e3 : V2.cell? ⟨PB, 3, none⟩ = some (.int .u32 (S : Int)) := cell_at hp2 3 rfl
      have e4 : V2.cell? ⟨PB, 4, none⟩ = some (.int .u32 (D : Int)) := cell_at hp2 4 rfl
      have hPl := lt_of_block hp2
      clear e0 hV1 hV2 hz1 hz2 hb1 hb12 hb2 hp1 hp2 hr2 hPB hRB hLB
      go_enter Try.func29, Try.ntmps29
      go_upto_region 1 with (fail)
      rw [HE.out.1, HE.out.2.1, HE.out.2.2.2.1, HE.out.2.2.1]
      go_upto_region 2 with ((refine st_part (o := ⟨none, _, _, _, _, _⟩) 65 (.tmp 4) (.tmp 13) rfl (by rfl) V2.heap.size 0 rfl (#[.int .u8 0, .int .u32 0, .int .u32 0, .int .u16 0, .int .u16 0, .int .i64 0, .int .u16 0, .int .u16 0, .int .u32 0, .int .u32 0, .int .u8 0, .int .u16 0, .int .u16 0, .slice none 0 0, .slice none 0 0, .int .u16 0, .int .u16 0, .bool false, .slice none 0 0, .int .u8 0, .int .u8 0, .int .u32 0, .slice none 0 0]) 65 (#[.int .u8 (P : Int), .int .u32 (S : Int), .int .u32 (D : Int), .int .u16 0, .int .u16 0, .int .i64 1, .int .u16 0, .int .u16 0, .int .u32 0, .int .u32 0, .int .u8 0, .int .u16 0, .int .u16 0, .slice none 0 0, .slice none 0 0, .int .u16 0, .int .u16 0, .bool false, .slice none 0 0, .int .u8 0, .int .u8 0, .int .u32 0, .slice none 0 0]) rfl HLN.out rfl (by kernel_rfl) (by kernel_rfl) HLB3.out (Nat.le_refl _) ?_; rintro w3 w3h w3b w3o w3s; try simp only [Act.put, List.setIfInBounds_toArray, List.set_cons_zero, List.set_cons_succ]))
      rw [upd_whole (c := #[.int .u8 0, .int .u32 0, .int .u32 0, .int .u16 0, .int .u16 0, .int .i64 0, .int .u16 0, .int .u16 0, .int .u32 0, .int .u32 0, .int .u8 0, .int .u16 0, .int .u16 0, .slice none 0 0, .slice none 0 0, .int .u16 0, .int .u16 0, .bool false, .slice none 0 0, .int .u8 0, .int .u8 0, .int .u32 0, .slice none 0 0]) (cs := #[.int .u8 (P : Int), .int .u32 (S : Int), .int .u32 (D : Int), .int .u16 0, .int .u16 0, .int .i64 1, .int .u16 0, .int .u16 0, .int .u32 0, .int .u32 0, .int .u8 0, .int .u16 0, .int .u16 0, .slice none 0 0, .slice none 0 0, .int .u16 0, .int .u16 0, .bool false, .slice none 0 0, .int .u8 0, .int .u8 0, .int .u32 0, .slice none 0 0]) rfl, HZ2.out, HE.out.2.2.2.2] at w3h
      rw [HZ2.out, HE.out.2.2.2.2] at w3o
      rw [HZ2.out, HE.out.2.2.2.2]
      have w3p := (w3o PB hPL).trans ((Below.heap_alloc V2 _ PB hPl).trans HP2.out)
      have w3r := (w3o RB hRL).trans ((Below.heap_alloc V2 _ RB (lt_of_block HR2.out)).trans HR2.out)
      have HB3 := hide (HB2.out.trans (w3b.mono HB2.out.size))
      have HL3 := hide w3h
      have HP3 := hide w3p
      have HR3 := hide w3r
      clear w3b w3h w3p w3r w3o w3s HLN HLB3 HB2 HP2 HR2 HZ2 HE e1 e3 e4 hPl
      have e1 : w3.cell? ⟨PB, 1, none⟩ = some (.int .u8 (P : Int)) := cell_at HP3.out 1 rfl
      have e3 : w3.cell? ⟨PB, 3, none⟩ = some (.int .u32 (S : Int)) := cell_at HP3.out 3 rfl
      have e4 : w3.cell? ⟨PB, 4, none⟩ = some (.int .u32 (D : Int)) := cell_at HP3.out 4 rfl
      have e5 : w3.cell? ⟨PB, 5, none⟩ = some (.slice a n cap) := cell_at HP3.out 5 rfl
      go_upto_region 11 with (fail)
      go_wp2_with fail
      refine (HT.out w3 HB3.out).mono ?_
      rintro e w4 ⟨a2, c2, rfl, o2, b4⟩
      have HO := hide o2
      have hL3l := lt_of_block HL3.out
      have hR3l := lt_of_block HR3.out
      have hw3 := HB3.out.size
      have HL4 := hide (below_block b4 HL3.out (Nat.le_refl _))
      have HR4 := hide (below_block b4 HR3.out (Nat.le_refl _))
      have HB4 := hide (HB3.out.trans (b4.mono HB3.out.size))
      have hLl := lt_of_block HL4.out
      clear b4 o2 HL3 HR3 HB3 HP3 e1 e3 e4 e5 HT
      go_upto_region 12 with ((refine st_part (o := ⟨none, _, _, _, _, _⟩) 55 (.tmp 70) (.tmp 68) rfl (by rfl) LB 19 rfl (#[.int .u8 (P : Int), .int .u32 (S : Int), .int .u32 (D : Int), .int .u16 0, .int .u16 0, .int .i64 1, .int .u16 0, .int .u16 0, .int .u32 0, .int .u32 0, .int .u8 0, .int .u16 0, .int .u16 0, .slice none 0 0, .slice none 0 0, .int .u16 0, .int .u16 0, .bool false, .slice none 0 0, .int .u8 0, .int .u8 0, .int .u32 0, .slice none 0 0]) 65 (#[.int .u8 (p : Int), .int .u8 (q : Int), .int .u32 (r : Int), .slice a2 dl c2]) rfl HL4.out rfl (by kernel_rfl) (by kernel_rfl) HB4.out hwL ?_; rintro w5 w5h w5b w5o w5s; try simp only [Act.put, List.setIfInBounds_toArray, List.set_cons_zero, List.set_cons_succ]))
      rw [show upd (#[.int .u8 (P : Int), .int .u32 (S : Int), .int .u32 (D : Int), .int .u16 0, .int .u16 0, .int .i64 1, .int .u16 0, .int .u16 0, .int .u32 0, .int .u32 0, .int .u8 0, .int .u16 0, .int .u16 0, .slice none 0 0, .slice none 0 0, .int .u16 0, .int .u16 0, .bool false, .slice none 0 0, .int .u8 0, .int .u8 0, .int .u32 0, .slice none 0 0]) 19 (#[.int .u8 (p : Int), .int .u8 (q : Int), .int .u32 (r : Int), .slice a2 dl c2] : Array Value).toList = (#[.int .u8 (P : Int), .int .u32 (S : Int), .int .u32 (D : Int), .int .u16 0, .int .u16 0, .int .i64 1, .int .u16 0, .int .u16 0, .int .u32 0, .int .u32 0, .int .u8 0, .int .u16 0, .int .u16 0, .slice none 0 0, .slice none 0 0, .int .u16 0, .int .u16 0, .bool false, .slice none 0 0, .int .u8 (p : Int), .int .u8 (q : Int), .int .u32 (r : Int), .slice a2 dl c2]) by kernel_rfl] at w5h
      have hgb := gb_part HB4.out w5b w5o w5s
      have HO5 := hide (owns_put HO.out hgb hL3l)
      have HR5 := hide ((w5o RB hRL).trans HR4.out)
      have hnn : ∀ b, a2 = some b → b.block ≠ LB := fun b e => by
        subst e
        have := (HO.out.lt b.block rfl).1
        omega
      have hM := readMsg_any w5 LB ⟨P, S, D, 0, 0⟩ 1 (.int .u16 0) (.int .u16 0) (.int .u32 0) (.int .u32 0) (.int .u8 0) (.int .u16 0) (.int .u16 0) (.slice none 0 0) (.slice none 0 0) (.int .u16 0) (.int .u16 0) (.bool false) (.slice none 0 0) p q r a2 ds dl c2 w5h (Lies.of_owns HO5.out) HDL.out HK4.out (by omega) k3 hnn w5b hwL
      rw [HO1.out, HX2.out.1, HX2.out.2.1] at hM
      have HM := hide hM
      have HX3 := hide HX2.out.2.2
      clear w5h w5o w5s w5b HL4 HR4 HB4 HO hM hgb hnn
      go_wp2_with fail
      refine HM.out.mono ?_
      rintro e w6 ⟨rfl, h6, b6, g6⟩
      have HLe := hide h6
      have HBe := hide b6
      have HRe := hide ((g6.block RB (lt_of_block HR5.out) (by intro e; cases e; exact hRL rfl)).trans HR5.out)
      have HOe := hide (owns_put HO5.out g6 hL3l)
      clear h6 b6 g6 HR5 HO5 HM
      go_upto_region 14 with (fail)
      obtain ⟨LC, hLC⟩ : ∃ c, (#[.int .u8 (xp : Int), .int .u32 (xs' : Int), .int .u32 (xd : Int), .int .u16 (xff : Int), .int .u16 (xt : Int), .int .i64 xk, .int .u16 0, .int .u16 0, .int .u32 0, .int .u32 0, .int .u8 0, .int .u16 0, .int .u16 0, .slice none 0 0, .slice none 0 0, .int .u16 0, .int .u16 0, .bool false, .slice none 0 0, .int .u8 (p : Int), .int .u8 (q : Int), .int .u32 (r : Int), .slice a2 dl c2] : Array Value) = c := ⟨_, rfl⟩
      have hLs : LC.size = 23 := by rw [← hLC]; rfl
      have hLo : LC.all (·.oneCell') = true := by rw [← hLC]; kernel_rfl
      have HLf := hide (show w6.heap[LB]? = some (.cells LC 65 (0, 0)) by rw [← hLC]; exact HLe.out)
      have HLC := hide hLC
      have HLs := hide hLs
      clear hLC hLs
      go_wp2_with (first
        | (refine ld_whole (o := ⟨some 77, _, _, _, _, _⟩) 65 (.tmp 4) rfl (by rfl) LB rfl LC 65 HLf.out Try.underlying65 (by rw [HLs.out]; kernel_rfl) ?_; try simp only [Act.put, List.setIfInBounds_toArray, List.set_cons_zero, List.set_cons_succ])
        | (refine st_part (o := ⟨none, _, _, _, _, _⟩) 65 (.tmp 2) (.tmp 77) rfl (by rfl) RB 0 rfl (#[.int .u8 0, .int .u32 0, .int .u32 0, .int .u16 0, .int .u16 0, .int .i64 0, .int .u16 0, .int .u16 0, .int .u32 0, .int .u32 0, .int .u8 0, .int .u16 0, .int .u16 0, .slice none 0 0, .slice none 0 0, .int .u16 0, .int .u16 0, .bool false, .slice none 0 0, .int .u8 0, .int .u8 0, .int .u32 0, .slice none 0 0]) 65 LC rfl HRe.out (by rw [HLs.out]; rfl) (by rw [HLs.out]; kernel_rfl) hLo HBe.out hwR ?_; rintro w9 w9h w9b w9o w9s; try simp only [Act.put, List.setIfInBounds_toArray, List.set_cons_zero, List.set_cons_succ]))
      rw [upd_whole (c := #[.int .u8 0, .int .u32 0, .int .u32 0, .int .u16 0, .int .u16 0, .int .i64 0, .int .u16 0, .int .u16 0, .int .u32 0, .int .u32 0, .int .u8 0, .int .u16 0, .int .u16 0, .slice none 0 0, .slice none 0 0, .int .u16 0, .int .u16 0, .bool false, .slice none 0 0, .int .u8 0, .int .u8 0, .int .u32 0, .slice none 0 0]) (cs := LC) (by rw [HLs.out]; rfl)] at w9h
      exact bodyPost_ret (v := .tuple #[.agg LC, .int .i64 _]) (results_cell_tmp Try.results29 _ w9 RB _ _ _ _ rfl w9h Try.underlying65 rfl (by rw [HLs.out]; kernel_rfl) _ rfl) rfl ⟨a2, c2, by rw [HLC.out, ← HX3.out, HO1.out]; first | rfl | (rw [HC0.out]; rfl), owns_mono (owns_put HOe.out (gb_part HBe.out w9b w9o w9s) hR3l) hw3, w9b⟩
  · have hce : ((code : Int) == 0) = false := by simp; omega
    have HX2 := hide (show P = xp ∧ S = xs' ∧ D = xd ∧ 0 = xff ∧ 0 = xt ∧ 1 = xk ∧ code = xe by
      have h := HX.out
      rw [if_neg hc0, if_neg hc0, if_neg hc0] at h
      obtain ⟨h1, h2, h3⟩ := h
      injection h1 with a1 a2 a3 a4 a5
      rw [HPP.out]
      exact ⟨a1, a2, a3, a4, a5, h2, h3⟩)
    clear HX hc0
    obtain ⟨V1, hV1⟩ : ∃ V, w.alloc (.cells (#[.int .u8 ttl, .int .u8 (P : Int), .int .u16 pid, .int .u32 (S : Int), .int .u32 (D : Int), .slice a n cap]) 27) = V := ⟨_, rfl⟩
    obtain ⟨V2, hV2⟩ : ∃ V, V1.alloc (.cells (#[.int .u8 0, .int .u32 0, .int .u32 0, .int .u16 0, .int .u16 0, .int .i64 0, .int .u16 0, .int .u16 0, .int .u32 0, .int .u32 0, .int .u8 0, .int .u16 0, .int .u16 0, .slice none 0 0, .slice none 0 0, .int .u16 0, .int .u16 0, .bool false, .slice none 0 0, .int .u8 0, .int .u8 0, .int .u32 0, .slice none 0 0]) 65) = V := ⟨_, rfl⟩
    have hz1 : V1.heap.size = w.heap.size + 1 := by rw [← hV1]; simp
    have hz2 : V2.heap.size = w.heap.size + 1 + 1 := by rw [← hV2]; simp [hz1]
    have hb1 : Below w.heap.size w V1 := by rw [← hV1]; exact (Below.refl _ _).alloc (Nat.le_refl _) _
    have hb12 : Below V1.heap.size V1 V2 := by rw [← hV2]; exact (Below.refl _ _).alloc (Nat.le_refl _) _
    have hb2 := hb1.trans (hb12.mono hb1.size)
    have hp1 : V1.heap[w.heap.size]? = some (.cells (#[.int .u8 ttl, .int .u8 (P : Int), .int .u16 pid, .int .u32 (S : Int), .int .u32 (D : Int), .slice a n cap]) 27 (0, 0)) := by rw [← hV1]; exact heap_alloc_new _ _
    have hp2 := below_block hb12 hp1 (Nat.le_refl _)
    have hr2 : V2.heap[w.heap.size + 1]? = some (.cells (#[.int .u8 0, .int .u32 0, .int .u32 0, .int .u16 0, .int .u16 0, .int .i64 0, .int .u16 0, .int .u16 0, .int .u32 0, .int .u32 0, .int .u8 0, .int .u16 0, .int .u16 0, .slice none 0 0, .slice none 0 0, .int .u16 0, .int .u16 0, .bool false, .slice none 0 0, .int .u8 0, .int .u8 0, .int .u32 0, .slice none 0 0]) 65 (0, 0)) := by rw [← hV2, ← hz1]; exact heap_alloc_new _ _
    obtain ⟨PB, hPB⟩ : ∃ B, w.heap.size = B := ⟨_, rfl⟩
    obtain ⟨RB, hRB⟩ : ∃ B, w.heap.size + 1 = B := ⟨_, rfl⟩
    obtain ⟨LB, hLB⟩ : ∃ B, w.heap.size + 1 + 1 = B := ⟨_, rfl⟩
    rw [hPB] at hp2
    rw [hRB] at hr2
    have hPR : PB ≠ RB := by omega
    have hPL : PB ≠ LB := by omega
    have hRL : RB ≠ LB := by omega
    have hwP : w.heap.size ≤ PB := by omega
    have hwR : w.heap.size ≤ RB := by omega
    have hwL : w.heap.size ≤ LB := by omega
    have HE := hide (And.intro hV1 (And.intro hV2 (And.intro hPB (And.intro hRB hLB))))
    have HB2 := hide hb2
    have HP2 := hide hp2
    have HR2 := hide hr2
    have HZ2 := hide hz2
    have HLN := hide (heap_alloc_new V2 (.cells (#[.int .u8 0, .int .u32 0, .int .u32 0, .int .u16 0, .int .u16 0, .int .i64 0, .int .u16 0, .int .u16 0, .int .u32 0, .int .u32 0, .int .u8 0, .int .u16 0, .int .u16 0, .slice none 0 0, .slice none 0 0, .int .u16 0, .int .u16 0, .bool false, .slice none 0 0, .int .u8 0, .int .u8 0, .int .u32 0, .slice none 0 0]) 65))
    have HLB3 := hide ((Below.refl V2.heap.size V2).alloc (Nat.le_refl _) (.cells (#[.int .u8 0, .int .u32 0, .int .u32 0, .int .u16 0, .int .u16 0, .int .i64 0, .int .u16 0, .int .u16 0, .int .u32 0, .int .u32 0, .int .u8 0, .int .u16 0, .int .u16 0, .slice none 0 0, .slice none 0 0, .int .u16 0, .int .u16 0, .bool false, .slice none 0 0, .int .u8 0, .int .u8 0, .int .u32 0, .slice none 0 0]) 65))
    have e0 := cell_at hp2 0 rfl
    have e1 : V2.cell? ⟨PB, 1, none⟩ = some (.int .u8 (P : Int)) := cell_at hp2 1 rfl
    have e3 : V2.cell? ⟨PB, 3, none⟩ = some (.int .u32 (S : Int)) := cell_at hp2 3 rfl
    have e4 : V2.cell? ⟨PB, 4, none⟩ = some (.int .u32 (D : Int)) := cell_at hp2 4 rfl
    have hPl := lt_of_block hp2
    clear e0 hV1 hV2 hz1 hz2 hb1 hb12 hb2 hp1 hp2 hr2 hPB hRB hLB
    go_enter Try.func29, Try.ntmps29
    go_upto_region 1 with (fail)
    rw [HE.out.1, HE.out.2.1, HE.out.2.2.2.1, HE.out.2.2.1]
    go_upto_region 2 with ((refine st_part (o := ⟨none, _, _, _, _, _⟩) 65 (.tmp 4) (.tmp 13) rfl (by rfl) V2.heap.size 0 rfl (#[.int .u8 0, .int .u32 0, .int .u32 0, .int .u16 0, .int .u16 0, .int .i64 0, .int .u16 0, .int .u16 0, .int .u32 0, .int .u32 0, .int .u8 0, .int .u16 0, .int .u16 0, .slice none 0 0, .slice none 0 0, .int .u16 0, .int .u16 0, .bool false, .slice none 0 0, .int .u8 0, .int .u8 0, .int .u32 0, .slice none 0 0]) 65 (#[.int .u8 (P : Int), .int .u32 (S : Int), .int .u32 (D : Int), .int .u16 0, .int .u16 0, .int .i64 1, .int .u16 0, .int .u16 0, .int .u32 0, .int .u32 0, .int .u8 0, .int .u16 0, .int .u16 0, .slice none 0 0, .slice none 0 0, .int .u16 0, .int .u16 0, .bool false, .slice none 0 0, .int .u8 0, .int .u8 0, .int .u32 0, .slice none 0 0]) rfl HLN.out rfl (by kernel_rfl) (by kernel_rfl) HLB3.out (Nat.le_refl _) ?_; rintro w3 w3h w3b w3o w3s; try simp only [Act.put, List.setIfInBounds_toArray, List.set_cons_zero, List.set_cons_succ]))
    rw [upd_whole (c := #[.int .u8 0, .int .u32 0, .int .u32 0, .int .u16 0, .int .u16 0, .int .i64 0, .int .u16 0, .int .u16 0, .int .u32 0, .int .u32 0, .int .u8 0, .int .u16 0, .int .u16 0, .slice none 0 0, .slice none 0 0, .int .u16 0, .int .u16 0, .bool false, .slice none 0 0, .int .u8 0, .int .u8 0, .int .u32 0, .slice none 0 0]) (cs := #[.int .u8 (P : Int), .int .u32 (S : Int), .int .u32 (D : Int), .int .u16 0, .int .u16 0, .int .i64 1, .int .u16 0, .int .u16 0, .int .u32 0, .int .u32 0, .int .u8 0, .int .u16 0, .int .u16 0, .slice none 0 0, .slice none 0 0, .int .u16 0, .int .u16 0, .bool false, .slice none 0 0, .int .u8 0, .int .u8 0, .int .u32 0, .slice none 0 0]) rfl, HZ2.out, HE.out.2.2.2.2] at w3h
    rw [HZ2.out, HE.out.2.2.2.2] at w3o
    rw [HZ2.out, HE.out.2.2.2.2]
    have w3p := (w3o PB hPL).trans ((Below.heap_alloc V2 _ PB hPl).trans HP2.out)
    have w3r := (w3o RB hRL).trans ((Below.heap_alloc V2 _ RB (lt_of_block HR2.out)).trans HR2.out)
    have HB3 := hide (HB2.out.trans (w3b.mono HB2.out.size))
    have HL3 := hide w3h
    have HP3 := hide w3p
    have HR3 := hide w3r
    clear w3b w3h w3p w3r w3o w3s HLN HLB3 HB2 HP2 HR2 HZ2 HE e1 e3 e4 hPl
    have e1 : w3.cell? ⟨PB, 1, none⟩ = some (.int .u8 (P : Int)) := cell_at HP3.out 1 rfl
    have e3 : w3.cell? ⟨PB, 3, none⟩ = some (.int .u32 (S : Int)) := cell_at HP3.out 3 rfl
    have e4 : w3.cell? ⟨PB, 4, none⟩ = some (.int .u32 (D : Int)) := cell_at HP3.out 4 rfl
    have e5 : w3.cell? ⟨PB, 5, none⟩ = some (.slice a n cap) := cell_at HP3.out 5 rfl
    go_upto_region 11 with (fail)
    go_wp2_with fail
    refine (HT.out w3 HB3.out).mono ?_
    rintro e w4 ⟨a2, c2, rfl, o2, b4⟩
    have HO := hide o2
    have hL3l := lt_of_block HL3.out
    have hR3l := lt_of_block HR3.out
    have hw3 := HB3.out.size
    have HL4 := hide (below_block b4 HL3.out (Nat.le_refl _))
    have HR4 := hide (below_block b4 HR3.out (Nat.le_refl _))
    have HB4 := hide (HB3.out.trans (b4.mono HB3.out.size))
    have hLl := lt_of_block HL4.out
    clear b4 o2 HL3 HR3 HB3 HP3 e1 e3 e4 e5 HT
    go_upto_region 12 with ((refine st_part (o := ⟨none, _, _, _, _, _⟩) 55 (.tmp 70) (.tmp 68) rfl (by rfl) LB 19 rfl (#[.int .u8 (P : Int), .int .u32 (S : Int), .int .u32 (D : Int), .int .u16 0, .int .u16 0, .int .i64 1, .int .u16 0, .int .u16 0, .int .u32 0, .int .u32 0, .int .u8 0, .int .u16 0, .int .u16 0, .slice none 0 0, .slice none 0 0, .int .u16 0, .int .u16 0, .bool false, .slice none 0 0, .int .u8 0, .int .u8 0, .int .u32 0, .slice none 0 0]) 65 (#[.int .u8 (p : Int), .int .u8 (q : Int), .int .u32 (r : Int), .slice a2 dl c2]) rfl HL4.out rfl (by kernel_rfl) (by kernel_rfl) HB4.out hwL ?_; rintro w5 w5h w5b w5o w5s; try simp only [Act.put, List.setIfInBounds_toArray, List.set_cons_zero, List.set_cons_succ]))
    rw [show upd (#[.int .u8 (P : Int), .int .u32 (S : Int), .int .u32 (D : Int), .int .u16 0, .int .u16 0, .int .i64 1, .int .u16 0, .int .u16 0, .int .u32 0, .int .u32 0, .int .u8 0, .int .u16 0, .int .u16 0, .slice none 0 0, .slice none 0 0, .int .u16 0, .int .u16 0, .bool false, .slice none 0 0, .int .u8 0, .int .u8 0, .int .u32 0, .slice none 0 0]) 19 (#[.int .u8 (p : Int), .int .u8 (q : Int), .int .u32 (r : Int), .slice a2 dl c2] : Array Value).toList = (#[.int .u8 (P : Int), .int .u32 (S : Int), .int .u32 (D : Int), .int .u16 0, .int .u16 0, .int .i64 1, .int .u16 0, .int .u16 0, .int .u32 0, .int .u32 0, .int .u8 0, .int .u16 0, .int .u16 0, .slice none 0 0, .slice none 0 0, .int .u16 0, .int .u16 0, .bool false, .slice none 0 0, .int .u8 (p : Int), .int .u8 (q : Int), .int .u32 (r : Int), .slice a2 dl c2]) by kernel_rfl] at w5h
    have hgb := gb_part HB4.out w5b w5o w5s
    have HOe := hide (owns_put HO.out hgb hL3l)
    have HRe := hide ((w5o RB hRL).trans HR4.out)
    have HLe := hide w5h
    have HBe := hide w5b
    clear w5h w5o w5s w5b HL4 HR4 HB4 HO hgb
    go_upto_region 14 with (fail)
    obtain ⟨LC, hLC⟩ : ∃ c, (#[.int .u8 (P : Int), .int .u32 (S : Int), .int .u32 (D : Int), .int .u16 0, .int .u16 0, .int .i64 1, .int .u16 0, .int .u16 0, .int .u32 0, .int .u32 0, .int .u8 0, .int .u16 0, .int .u16 0, .slice none 0 0, .slice none 0 0, .int .u16 0, .int .u16 0, .bool false, .slice none 0 0, .int .u8 (p : Int), .int .u8 (q : Int), .int .u32 (r : Int), .slice a2 dl c2] : Array Value) = c := ⟨_, rfl⟩
    have hLs : LC.size = 23 := by rw [← hLC]; rfl
    have hLo : LC.all (·.oneCell') = true := by rw [← hLC]; kernel_rfl
    have HLf := hide (show w5.heap[LB]? = some (.cells LC 65 (0, 0)) by rw [← hLC]; exact HLe.out)
    have HLC := hide hLC
    have HLs := hide hLs
    clear hLC hLs
    go_wp2_with (first
      | (refine ld_whole (o := ⟨some 77, _, _, _, _, _⟩) 65 (.tmp 4) rfl (by rfl) LB rfl LC 65 HLf.out Try.underlying65 (by rw [HLs.out]; kernel_rfl) ?_; try simp only [Act.put, List.setIfInBounds_toArray, List.set_cons_zero, List.set_cons_succ])
      | (refine st_part (o := ⟨none, _, _, _, _, _⟩) 65 (.tmp 2) (.tmp 77) rfl (by rfl) RB 0 rfl (#[.int .u8 0, .int .u32 0, .int .u32 0, .int .u16 0, .int .u16 0, .int .i64 0, .int .u16 0, .int .u16 0, .int .u32 0, .int .u32 0, .int .u8 0, .int .u16 0, .int .u16 0, .slice none 0 0, .slice none 0 0, .int .u16 0, .int .u16 0, .bool false, .slice none 0 0, .int .u8 0, .int .u8 0, .int .u32 0, .slice none 0 0]) 65 LC rfl HRe.out (by rw [HLs.out]; rfl) (by rw [HLs.out]; kernel_rfl) hLo HBe.out hwR ?_; rintro w9 w9h w9b w9o w9s; try simp only [Act.put, List.setIfInBounds_toArray, List.set_cons_zero, List.set_cons_succ]))
    rw [upd_whole (c := #[.int .u8 0, .int .u32 0, .int .u32 0, .int .u16 0, .int .u16 0, .int .i64 0, .int .u16 0, .int .u16 0, .int .u32 0, .int .u32 0, .int .u8 0, .int .u16 0, .int .u16 0, .slice none 0 0, .slice none 0 0, .int .u16 0, .int .u16 0, .bool false, .slice none 0 0, .int .u8 0, .int .u8 0, .int .u32 0, .slice none 0 0]) (cs := LC) (by rw [HLs.out]; rfl)] at w9h
    exact bodyPost_ret (v := .tuple #[.agg LC, .int .i64 (code : Nat)]) (results_cell_tmp Try.results29 _ w9 RB _ _ _ _ rfl w9h Try.underlying65 rfl (by rw [HLs.out]; kernel_rfl) _ rfl) rfl ⟨a2, c2, by rw [← HX2.out.1, ← HX2.out.2.1, ← HX2.out.2.2.1, ← HX2.out.2.2.2.1, ← HX2.out.2.2.2.2.1, ← HX2.out.2.2.2.2.2.1, ← HX2.out.2.2.2.2.2.2, ← HLC.out]; rfl, owns_mono (owns_put HOe.out (gb_part HBe.out w9b w9o w9s) hR3l) hw3, w9b⟩
end Go.Proofs.Ytgggcapgaikbeaa

/- Between which ends a packet goes: the program's answer. -/
namespace Go.Proofs.Ytgggcapgaikbeaa
open Go.RowKit
set_option linter.unusedVariables false
set_option linter.unusedSimpArgs false
set_option maxRecDepth 100000
def ofErr (P S D : Nat) (xs : List Int) : Nat := if P = 6 then segCode S D xs else if P = 17 then dgmCode S D xs else if P = 1 then icErr xs else 11
def ofFl (P S D : Nat) (xs : List Int) : Fl :=
  if ofErr P S D xs = 0 then (if P = 6 then ⟨6, S, D, (segOf S D xs).p, (segOf S D xs).q⟩ else if P = 17 then ⟨17, S, D, (dgmOf S D xs).p, (dgmOf S D xs).q⟩ else icFl S D xs) else zeroF
def ofKind (P S D : Nat) (xs : List Int) : Int := if ofErr P S D xs = 0 then (if P = 6 ∨ P = 17 then 1 else icKind xs) else 0
/-- What a load holds ahead. -/
structure LHead (LC : Array Value) (x : Fl) (k : Int) : Prop where
  size : LC.size = 23
  one : LC.all (·.oneCell') = true
  p : LC[0]? = some (.int .u8 (x.p : Int))
  s : LC[1]? = some (.int .u32 (x.s : Int))
  d : LC[2]? = some (.int .u32 (x.d : Int))
  f : LC[3]? = some (.int .u16 (x.f : Int))
  t : LC[4]? = some (.int .u16 (x.t : Int))
  k : LC[5]? = some (.int .i64 k)
theorem read_any (w : World) (ttl pid : Int) (P S D : Nat) (a : Option Addr) (n cap : Nat) (xs : List Int) (hLx : Lies w a xs n cap) (hl : xs.length = n) (hb : ∀ x ∈ xs, 0 ≤ x ∧ x ≤ 255) (hS : S ≤ 4294967295) (hD : D ≤ 4294967295) :
    Calls Try.prog 29 #[.agg #[.int .u8 ttl, .int .u8 (P : Int), .int .u16 pid, .int .u32 (S : Int), .int .u32 (D : Int), .slice a n cap]] w fun e w' => ∃ LC, e = .returned (.tuple #[.agg LC, .int .i64 (ofErr P S D xs : Nat)]) ∧ (∃ x k, LHead LC x k ∧ (ofErr P S D xs = 0 → x = ofFl P S D xs ∧ k = ofKind P S D xs)) ∧ Below w.heap.size w w' := by
  by_cases h6 : P = 6
  · subst h6
    refine (rd_tcp w ttl pid S D a n cap xs hLx hl hb hS hD).mono ?_
    rintro e w' ⟨a1, c1, a2, c2, rfl, _, _, hbb⟩
    have hee : ofErr 6 S D xs = segCode S D xs := by unfold ofErr; rw [if_pos rfl]
    rw [← hee]
    refine ⟨_, rfl, ⟨⟨6, S, D, (segOf S D xs).p, (segOf S D xs).q⟩, 1, ⟨rfl, by kernel_rfl, rfl, rfl, rfl, rfl, rfl, rfl⟩, fun h => ?_⟩, hbb⟩
    unfold ofFl ofKind; rw [if_pos h, if_pos h]; exact ⟨rfl, rfl⟩
  by_cases h17 : P = 17
  · subst h17
    refine (rd_udp w ttl pid S D a n cap xs hLx hl hb hS hD).mono ?_
    rintro e w' ⟨a2, c2, rfl, _, hbb⟩
    have hee : ofErr 17 S D xs = dgmCode S D xs := by unfold ofErr; rw [if_neg (by decide), if_pos rfl]
    rw [← hee]
    refine ⟨_, rfl, ⟨⟨17, S, D, (dgmOf S D xs).p, (dgmOf S D xs).q⟩, 1, ⟨rfl, by kernel_rfl, rfl, rfl, rfl, rfl, rfl, rfl⟩, fun h => ?_⟩, hbb⟩
    unfold ofFl ofKind; rw [if_pos h, if_pos h]; exact ⟨rfl, rfl⟩
  by_cases h1 : P = 1
  · subst h1
    refine (rd_icmp w ttl pid S D a n cap xs hLx hl hb).mono ?_
    rintro e w' ⟨a2, c2, rfl, _, hbb⟩
    have hee : ofErr 1 S D xs = icErr xs := by unfold ofErr; rw [if_neg (by decide), if_neg (by decide), if_pos rfl]
    rw [← hee]
    refine ⟨_, rfl, ⟨icFl S D xs, icKind xs, ⟨rfl, by kernel_rfl, rfl, rfl, rfl, rfl, rfl, rfl⟩, fun h => ?_⟩, hbb⟩
    unfold ofFl ofKind; rw [if_pos h, if_pos h]; exact ⟨rfl, rfl⟩
  · refine (rd_other w ttl pid P S D a n cap h6 h17 h1).mono ?_
    rintro e w' ⟨rfl, hbb⟩
    have he : ofErr P S D xs = 11 := by unfold ofErr; rw [if_neg h6, if_neg h17, if_neg h1]
    rw [he]
    refine ⟨_, rfl, ⟨⟨P, S, D, 0, 0⟩, 1, ⟨rfl, by kernel_rfl, rfl, rfl, rfl, rfl, rfl, rfl⟩, fun h => ?_⟩, hbb⟩
    cases h
theorem results_cell_tmp2 {P : Program} {fn : Func} {p q r : Tmp} {ty : TypeId} (h : fn.results = #[.cell p ty, .tmp q, .tmp r]) (tmps : Array Value) (w : World) (g : Nat) (t : TypeId) (cs : Array Value) (fr : Nat × Nat) (d : TypeDesc)
    (hp : tmps.getD p undef = .pointer (some ⟨g, 0, none⟩)) (hg : w.heap[g]? = some (.cells cs t fr))
    (hu : P.underlying ty = some d) (hd : (match d with | .struct _ | .array _ _ => true | _ => false) = true) (hi : (P.info? ty).map (·.size) = some cs.size) (v u : Value) (hv : tmps.getD q undef = v) (hu2 : tmps.getD r undef = u) :
    (results fn tmps).run P w = .ok (.tuple #[.agg cs, v, u]) w := by
  have hp' : tmps[p]?.getD undef = .pointer (some ⟨g, 0, none⟩) := by simpa using hp
  have hv' : tmps[q]?.getD undef = v := by simpa using hv
  have hu' : tmps[r]?.getD undef = u := by simpa using hu2
  simp [results, h, hp', hv', hu', asAddr, run_loadVar_row w g t ty cs fr d hg hu hd hi]
set_option maxHeartbeats 2000000 in
theorem of_any (w : World) (ttl pid : Int) (P S D : Nat) (a : Option Addr) (n cap : Nat) (xs : List Int) (hLx : Lies w a xs n cap) (hl : xs.length = n) (hb : ∀ x ∈ xs, 0 ≤ x ∧ x ≤ 255) (hS : S ≤ 4294967295) (hD : D ≤ 4294967295) :
    Calls Try.prog 15 #[.agg #[.int .u8 ttl, .int .u8 (P : Int), .int .u16 pid, .int .u32 (S : Int), .int .u32 (D : Int), .slice a n cap]] w fun e w' => e = .returned (.tuple #[(ofFl P S D xs).v, .int .i64 (ofKind P S D xs), .int .i64 (ofErr P S D xs : Nat)]) ∧ Below w.heap.size w w' := by
  have HT := hide (fun (W : World) (hW : Below w.heap.size w W) => read_any W ttl pid P S D a n cap xs (hLx.below hW (Nat.le_refl _)) hl hb hS hD)
  obtain ⟨er, her⟩ : ∃ y, ofErr P S D xs = y := ⟨_, rfl⟩
  have hfk0 : er ≠ 0 → ofFl P S D xs = zeroF ∧ ofKind P S D xs = 0 := fun h => by unfold ofFl ofKind; rw [her, if_neg h, if_neg h]; exact ⟨rfl, rfl⟩
  obtain ⟨y, hy⟩ : ∃ y, ofFl P S D xs = y := ⟨_, rfl⟩
  obtain ⟨k, hk⟩ : ∃ y, ofKind P S D xs = y := ⟨_, rfl⟩
  rw [hy, hk] at hfk0
  rw [her, hy, hk] at HT ⊢
  have HF0 := hide hfk0
  obtain ⟨V1, hV1⟩ : ∃ V, w.alloc (.cells (#[.int .u8 ttl, .int .u8 (P : Int), .int .u16 pid, .int .u32 (S : Int), .int .u32 (D : Int), .slice a n cap]) 27) = V := ⟨_, rfl⟩
  obtain ⟨V2, hV2⟩ : ∃ V, V1.alloc (.cells (#[.int .u8 0, .int .u32 0, .int .u32 0, .int .u16 0, .int .u16 0]) 29) = V := ⟨_, rfl⟩
  have hz1 : V1.heap.size = w.heap.size + 1 := by rw [← hV1]; simp
  have hb1 : Below w.heap.size w V1 := by rw [← hV1]; exact (Below.refl _ _).alloc (Nat.le_refl _) _
  have hb12 : Below V1.heap.size V1 V2 := by rw [← hV2]; exact (Below.refl _ _).alloc (Nat.le_refl _) _
  have hb2 := hb1.trans (hb12.mono hb1.size)
  have hp1 : V1.heap[w.heap.size]? = some (.cells (#[.int .u8 ttl, .int .u8 (P : Int), .int .u16 pid, .int .u32 (S : Int), .int .u32 (D : Int), .slice a n cap]) 27 (0, 0)) := by rw [← hV1]; exact heap_alloc_new _ _
  have hp2 := below_block hb12 hp1 (Nat.le_refl _)
  have hr2 : V2.heap[w.heap.size + 1]? = some (.cells (#[.int .u8 0, .int .u32 0, .int .u32 0, .int .u16 0, .int .u16 0]) 29 (0, 0)) := by rw [← hV2, ← hz1]; exact heap_alloc_new _ _
  obtain ⟨PB, hPB⟩ : ∃ B, w.heap.size = B := ⟨_, rfl⟩
  obtain ⟨RB, hRB⟩ : ∃ B, w.heap.size + 1 = B := ⟨_, rfl⟩
  rw [hPB] at hp2
  rw [hRB] at hr2
  have hwR : w.heap.size ≤ RB := by omega
  have HE := hide (And.intro hV1 (And.intro hV2 (And.intro hPB hRB)))
  have HB2 := hide hb2
  have HR2 := hide hr2
  have e0 : V2.cell? ⟨PB, 0, none⟩ = some (.int .u8 ttl) := cell_at hp2 0 rfl
  have e1 : V2.cell? ⟨PB, 1, none⟩ = some (.int .u8 (P : Int)) := cell_at hp2 1 rfl
  have e2 : V2.cell? ⟨PB, 2, none⟩ = some (.int .u16 pid) := cell_at hp2 2 rfl
  have e3 : V2.cell? ⟨PB, 3, none⟩ = some (.int .u32 (S : Int)) := cell_at hp2 3 rfl
  have e4 : V2.cell? ⟨PB, 4, none⟩ = some (.int .u32 (D : Int)) := cell_at hp2 4 rfl
  have e5 : V2.cell? ⟨PB, 5, none⟩ = some (.slice a n cap) := cell_at hp2 5 rfl
  clear hV1 hV2 hz1 hb1 hb12 hb2 hp1 hp2 hr2 hPB hRB hy hk her hfk0 hLx hl hb
  by_cases h0 : er = 0
  · have d0 : ((er : Int) != 0) = false := by simp [h0]
    have H0 := hide h0
    obtain ⟨yp, ys, yd, yf, yt⟩ := y
    unfold Fl.v
    dsimp only
    clear h0 HF0
    go_enter Try.func15, Try.ntmps15
    go_upto_region 1 with (fail)
    rw [HE.out.1, HE.out.2.1, HE.out.2.2.2, HE.out.2.2.1]
    clear HE
    go_wp2_with fail
    refine (HT.out V2 HB2.out).mono ?_
    rintro e w3 ⟨LC, rfl, ⟨x, kk, hh, hx⟩, b3⟩
    obtain ⟨hx1, hx2⟩ := hx H0.out
    subst hx1 hx2
    have HL := hide hh
    have hsz := hh.size
    have HR3 := hide (below_block b3 HR2.out (Nat.le_refl _))
    have HB3 := hide (HB2.out.trans (b3.mono HB2.out.size))
    have hst := run_storeCells_new (P := Try.prog) w3 65 (#[.int .u8 0, .int .u32 0, .int .u32 0, .int .u16 0, .int .u16 0, .int .i64 0, .int .u16 0, .int .u16 0, .int .u32 0, .int .u32 0, .int .u8 0, .int .u16 0, .int .u16 0, .slice none 0 0, .slice none 0 0, .int .u16 0, .int .u16 0, .bool false, .slice none 0 0, .int .u8 0, .int .u8 0, .int .u32 0, .slice none 0 0]) LC (by rw [hsz]; kernel_rfl) (by rw [hsz]; rfl) hh.one
    have HN4 := hide (heap_alloc_new w3 (.cells LC 65))
    have HB4 := hide (HB3.out.alloc HB3.out.size (.cells LC 65))
    have HR4 := hide ((Below.heap_alloc w3 (.cells LC 65) RB (lt_of_block HR3.out)).trans HR3.out)
    clear b3 e0 e1 e2 e3 e4 e5 HT HR2 HB2 hh
    go_upto_region 2 with (fail)
    clear hst hsz
    obtain ⟨w4, hw4, HL4, HR5, HB5, hne⟩ : ∃ wt, w3.alloc (.cells LC 65) = wt ∧ Hid (wt.heap[w3.heap.size]? = some (.cells LC 65 (0, 0))) ∧ Hid (wt.heap[RB]? = some (.cells (#[.int .u8 0, .int .u32 0, .int .u32 0, .int .u16 0, .int .u16 0]) 29 (0, 0))) ∧ Hid (Below w.heap.size w wt) ∧ RB ≠ w3.heap.size := ⟨_, rfl, HN4, HR4, HB4, by have := lt_of_block HR3.out; omega⟩
    rw [hw4]
    obtain ⟨LB, hLB⟩ : ∃ B, w3.heap.size = B := ⟨_, rfl⟩
    rw [hLB] at HL4 hne ⊢
    clear hw4 hLB HN4 HR4 HB4 HB3 HR3
    have q0 := cell_at HL4.out 0 HL.out.p
    have q1 := cell_at HL4.out 1 HL.out.s
    have q2 := cell_at HL4.out 2 HL.out.d
    have q3 := cell_at HL4.out 3 HL.out.f
    have q4 := cell_at HL4.out 4 HL.out.t
    have q5 := cell_at HL4.out 5 HL.out.k
    obtain ⟨x0, x1, x2, x3, x4, xf⟩ := five_cells HR5.out
    have hl4 := lt_of_block HL4.out
    have hl5 := lt_of_block HR5.out
    dsimp only at q0 q1 q2 q3 q4
    have hfb := FB.store (show FB w4 RB 0 0 0 0 0 from HR5.out) (yp : Int) (ys : Int) (yd : Int) (yf : Int) (yt : Int)
    obtain ⟨w10, h10, HFE, HB10⟩ : ∃ wt, (((((w4.setCell ⟨RB, 0, none⟩ (.int .u8 (yp : Int))).setCell ⟨RB, 1, none⟩ (.int .u32 (ys : Int))).setCell ⟨RB, 2, none⟩ (.int .u32 (yd : Int))).setCell ⟨RB, 3, none⟩ (.int .u16 (yf : Int))).setCell ⟨RB, 4, none⟩ (.int .u16 (yt : Int))).drew = wt ∧ Hid (FB wt RB yp ys yd yf yt) ∧ Hid (Below w.heap.size w wt) := ⟨_, rfl, hide hfb, hide (below5 HB5.out hwR _ _ _ _ _).drew⟩
    have H10 := hide h10
    clear h10
    clear hfb
    go_upto_region 4 with (fail)
    go_region_held3 (fun w' => w'.cell? ⟨LB, 0, none⟩ = some (.int .u8 (yp : Int)) ∧ w'.cell? ⟨LB, 1, none⟩ = some (.int .u32 (ys : Int)) ∧ w'.cell? ⟨LB, 2, none⟩ = some (.int .u32 (yd : Int)) ∧ w'.cell? ⟨LB, 3, none⟩ = some (.int .u16 (yf : Int)) ∧ w'.cell? ⟨LB, 4, none⟩ = some (.int .u16 (yt : Int)) ∧ w'.cell? ⟨LB, 5, none⟩ = some (.int .i64 kk)) ((go_keep; done)) (fail)
    all_goals
      go_wp2_with fail
      rw [H10.out]
      exact bodyPost_ret (v := .tuple #[.agg #[.int .u8 (yp : Int), .int .u32 (ys : Int), .int .u32 (yd : Int), .int .u16 (yf : Int), .int .u16 (yt : Int)], .int .i64 kk, .int .i64 0]) (results_cell_tmp2 Try.results15 _ w10 RB _ _ _ _ rfl HFE.out Try.underlying29 rfl (by kernel_rfl) _ _ rfl rfl) rfl ⟨by rw [H0.out]; rfl, HB10.out⟩
  · have d0 : ((er : Int) != 0) = true := by simp; omega
    obtain ⟨rfl, rfl⟩ := HF0.out h0
    clear h0
    go_enter Try.func15, Try.ntmps15
    go_upto_region 1 with (fail)
    rw [HE.out.1, HE.out.2.1, HE.out.2.2.2, HE.out.2.2.1]
    clear HE
    go_wp2_with fail
    refine (HT.out V2 HB2.out).mono ?_
    rintro e w3 ⟨LC, rfl, ⟨x, kk, hh, hx⟩, b3⟩
    have hsz := hh.size
    have HR3 := hide (below_block b3 HR2.out (Nat.le_refl _))
    have HB3 := hide (HB2.out.trans (b3.mono HB2.out.size))
    have hst := run_storeCells_new (P := Try.prog) w3 65 (#[.int .u8 0, .int .u32 0, .int .u32 0, .int .u16 0, .int .u16 0, .int .i64 0, .int .u16 0, .int .u16 0, .int .u32 0, .int .u32 0, .int .u8 0, .int .u16 0, .int .u16 0, .slice none 0 0, .slice none 0 0, .int .u16 0, .int .u16 0, .bool false, .slice none 0 0, .int .u8 0, .int .u8 0, .int .u32 0, .slice none 0 0]) LC (by rw [hsz]; kernel_rfl) (by rw [hsz]; rfl) hh.one
    have HB4 := hide (HB3.out.alloc HB3.out.size (.cells LC 65))
    have HR4 := hide ((Below.heap_alloc w3 (.cells LC 65) RB (lt_of_block HR3.out)).trans HR3.out)
    clear b3 e0 e1 e2 e3 e4 e5 HT HR2 HB2 hh hx HB3 HR3
    go_upto_region 2 with (fail)
    clear hst hsz
    obtain ⟨w4, hw4, HR5, HB5⟩ : ∃ wt, w3.alloc (.cells LC 65) = wt ∧ Hid (wt.heap[RB]? = some (.cells (#[.int .u8 0, .int .u32 0, .int .u32 0, .int .u16 0, .int .u16 0]) 29 (0, 0))) ∧ Hid (Below w.heap.size w wt) := ⟨_, rfl, HR4, HB4⟩
    rw [hw4]
    clear hw4 HR4 HB4
    obtain ⟨x0, x1, x2, x3, x4, xf⟩ := five_cells HR5.out
    have hfb := FB.store (show FB w4 RB 0 0 0 0 0 from HR5.out) 0 0 0 0 0
    obtain ⟨w5, hw5, H5, HB6⟩ : ∃ wt, ((((w4.setCell ⟨RB, 0, none⟩ (.int .u8 0)).setCell ⟨RB, 1, none⟩ (.int .u32 0)).setCell ⟨RB, 2, none⟩ (.int .u32 0)).setCell ⟨RB, 3, none⟩ (.int .u16 0)).setCell ⟨RB, 4, none⟩ (.int .u16 0) = wt ∧ Hid (FB wt RB 0 0 0 0 0) ∧ Hid (Below w.heap.size w wt) := ⟨_, rfl, hide hfb, hide (below5 HB5.out hwR _ _ _ _ _)⟩
    clear hfb
    go_wp2_with fail
    try rw [hw5]
    exact bodyPost_ret (v := .tuple #[.agg #[.int .u8 0, .int .u32 0, .int .u32 0, .int .u16 0, .int .u16 0], .int .i64 0, .int .i64 (er : Nat)]) (results_cell_tmp2 Try.results15 _ w5 RB _ _ _ _ rfl H5.out Try.underlying29 rfl (by kernel_rfl) _ _ rfl rfl) rfl ⟨rfl, HB6.out⟩
end Go.Proofs.Ytgggcapgaikbeaa
