/- Flows: an error tells of its packet as it was in another flow: the program. -/
import Derived.Test.YtgggcapgaikbeaaPk18
import Derived.Test.YtgggcapgaikbeaaPk19
import Derived.Deep.RegionHeld3
import Derived.Deep.DeepCutAuto
namespace Go.Proofs.Ytgggcapgaikbeaa
open Go.RowKit
set_option linter.unusedVariables false
set_option linter.unusedSimpArgs false
set_option maxRecDepth 100000
section
variable {P : Program} {ops : Array Oper} {Q : Exit → Act → World → Prop} {md : Region.Mode} {S : World → Prop} {t : Nat}
/-- Two operations may come up. -/
theorem wpAnyU_two {i j : Nat} {o p : Oper} {n : Nat} {listed : Array Bool} {a : Act} {w : World} (hr : Region.ready md ops listed = [i, j]) (ho : ops[i]? = some o) (hp : ops[j]? = some p)
    (h : ∀ K' : Act → World → Prop, Shut (∀ a w, (i < t → S w) → ((i < t → S w) → wpAnyU P md ops Q S t n (listed.setIfInBounds i true) a w) → K' a w) → if Region.wanted o (yielded ops a.tmps) = true then Oper.wp P o a w K' Q else K' (a.put o.dst undef) w)
    (h2 : ∀ K' : Act → World → Prop, Shut (∀ a w, (j < t → S w) → ((j < t → S w) → wpAnyU P md ops Q S t n (listed.setIfInBounds j true) a w) → K' a w) → if Region.wanted p (yielded ops a.tmps) = true then Oper.wp P p a w K' Q else K' (a.put p.dst undef) w) :
    wpAnyU P md ops Q S t (n + 1) listed a w := by
  refine ⟨fun h0 => ?_, fun k hk => ?_⟩
  · rw [hr] at h0; cases h0
  · rw [hr] at hk
    rcases List.mem_cons.1 hk with rfl | hk
    · exact wpOp_step ho (fun K' hK => h K' (fun a w hS hW => hK a w ⟨hS, hW hS⟩))
    · obtain rfl : k = j := by simpa using hk
      exact wpOp_step hp (fun K' hK => h2 K' (fun a w hS hW => hK a w ⟨hS, hW hS⟩))
end
theorem chg6 (w : World) (a0 a1 a2 a3 a4 a5 b0 b1 b2 b3 b4 b5 : Nat) : Calls Try.prog 85 #[.agg #[.int .u16 (a0 : Int), .int .u16 (a1 : Int), .int .u16 (a2 : Int), .int .u16 (a3 : Int), .int .u16 (a4 : Int), .int .u16 (a5 : Int)], .agg #[.int .u16 (b0 : Int), .int .u16 (b1 : Int), .int .u16 (b2 : Int), .int .u16 (b3 : Int), .int .u16 (b4 : Int), .int .u16 (b5 : Int)]] w fun e w' => e = .returned (.agg #[.int .u16 (a0 : Int), .int .u16 (b0 : Int), .int .u16 (a1 : Int), .int .u16 (b1 : Int), .int .u16 (a2 : Int), .int .u16 (b2 : Int), .int .u16 (a3 : Int), .int .u16 (b3 : Int), .int .u16 (a4 : Int), .int .u16 (b4 : Int), .int .u16 (a5 : Int), .int .u16 (b5 : Int)]) ∧ Below w.heap.size w w' := by
  have h := changes_any w (fun i => match i with | 0 => a0 | 1 => a1 | 2 => a2 | 3 => a3 | 4 => a4 | _ => a5) (fun i => match i with | 0 => b0 | 1 => b1 | 2 => b2 | 3 => b3 | 4 => b4 | _ => b5)
  exact h
def endF (x1 x2 x3 x4 : Nat) : Nat → Nat := fun i => match i with | 0 => x1 / 65536 | 1 => x1 % 65536 | 2 => x2 / 65536 | 3 => x2 % 65536 | 4 => x3 | _ => x4
theorem row_en {w : World} {X : Nat} {T : TypeId} {e0 e1 e2 e3 e4 e5 : Nat} (h : w.heap[X]? = some (.cells #[.int .u16 (e0 : Int), .int .u16 (e1 : Int), .int .u16 (e2 : Int), .int .u16 (e3 : Int), .int .u16 (e4 : Int), .int .u16 (e5 : Int)] T (0, 0))) : Row .u16 w (some ⟨X, 0, none⟩) ([e0, e1, e2, e3].map Int.ofNat) := by
  intro _
  refine ⟨X, 0, rfl, lt_of_block h, fun i hi => ?_⟩
  simp only [World.cell?, h]
  match i, hi with
  | 0, _ => rfl
  | 1, _ => rfl
  | 2, _ => rfl
  | 3, _ => rfl
theorem row_en4 {w : World} {X : Nat} {T : TypeId} {e0 e1 e2 e3 e4 e5 : Nat} (h : w.heap[X]? = some (.cells #[.int .u16 (e0 : Int), .int .u16 (e1 : Int), .int .u16 (e2 : Int), .int .u16 (e3 : Int), .int .u16 (e4 : Int), .int .u16 (e5 : Int)] T (0, 0))) : Row .u16 w (some ⟨X, 4, none⟩) ([e4, e5].map Int.ofNat) := by
  intro _
  refine ⟨X, 4, rfl, lt_of_block h, fun i hi => ?_⟩
  simp only [World.cell?, h]
  match i, hi with
  | 0, _ => rfl
  | 1, _ => rfl
theorem chg_lit (V : World) (x y : Nat) : Chg (V.alloc (.cells #[.int .u16 (x : Int), .int .u16 (y : Int)] 132)) (some ⟨V.heap.size, 0, none⟩) [((x : Int), (y : Int))] := by
  intro _
  refine ⟨V.heap.size, 0, rfl, by simp, fun i p hp => ?_⟩
  have h := heap_alloc_new V (.cells #[.int .u16 (x : Int), .int .u16 (y : Int)] 132)
  have hi : i < 1 := by have := (List.getElem?_eq_some_iff.1 hp).1; simpa using this
  simp only [World.cell?, h]
  match i, hi with
  | 0, _ => simp at hp; subst hp; exact ⟨rfl, rfl⟩
set_option maxHeartbeats 8000000 in
theorem retell_any (w : World) (base n c g : Nat) (xs : List Int) (u0 u1 u2 u3 u4 v0 v1 v2 v3 v4 : Nat) (hown : w.ownsRow base 5 1 (.slice (some ⟨g, 0, none⟩) n c) n (xs.map (Value.int .u8))) (hb : ∀ x ∈ xs, 0 ≤ x ∧ x ≤ 255) (hbs : base ≤ w.heap.size) (hgl : g < w.heap.size) (hn0 : 28 ≤ n) (hn : n ≤ 5000) (hu1 : u1 ≤ 4294967295) (hu2 : u2 ≤ 4294967295) (hu3 : u3 ≤ 65535) (hu4 : u4 ≤ 65535) (hv1 : v1 ≤ 4294967295) (hv2 : v2 ≤ 4294967295) (hv3 : v3 ≤ 65535) (hv4 : v4 ≤ 65535) (kd qq rr : Nat) (hkd : xs[20]? = some (kd : Int)) (hqq : (if kd = 8 then u3 else u4) = qq) (hrr : (if kd = 8 then v3 else v4) = rr) (hp : u0 = 1 ∨ u0 = 17 ∨ u0 = 6) :
    Calls Try.prog 56 #[.slice (some ⟨g, 0, none⟩) n c, .agg #[.int .u8 (u0 : Int), .int .u32 (u1 : Int), .int .u32 (u2 : Int), .int .u16 (u3 : Int), .int .u16 (u4 : Int)], .agg #[.int .u8 (v0 : Int), .int .u32 (v1 : Int), .int .u32 (v2 : Int), .int .u16 (v3 : Int), .int .u16 (v4 : Int)]] w fun e w' => e = .returned (.tuple #[]) ∧ w'.ownsRow base 5 1 (.slice (some ⟨g, 0, none⟩) n c) n ((rtl u0 n qq rr xs (endF u1 u2 u3 u4) (endF v1 v2 v3 v4)).map (Value.int .u8)) ∧ w.grownBy w' (some g) := by
  have HEU := hide (fun (W : World) => endsOf_any W u0 u1 u2 u3 u4 hu1 hu2)
  have HEV := hide (fun (W : World) => endsOf_any W v0 v1 v2 v3 v4 hv1 hv2)
  have HO0 := hide hown
  obtain ⟨a0, ha0⟩ : ∃ a, u1 / 65536 = a := ⟨_, rfl⟩
  obtain ⟨a1, ha1⟩ : ∃ a, u1 % 65536 = a := ⟨_, rfl⟩
  obtain ⟨a2, ha2⟩ : ∃ a, u2 / 65536 = a := ⟨_, rfl⟩
  obtain ⟨a3, ha3⟩ : ∃ a, u2 % 65536 = a := ⟨_, rfl⟩
  obtain ⟨b0, hb0⟩ : ∃ a, v1 / 65536 = a := ⟨_, rfl⟩
  obtain ⟨b1, hb1⟩ : ∃ a, v1 % 65536 = a := ⟨_, rfl⟩
  obtain ⟨b2, hb2⟩ : ∃ a, v2 / 65536 = a := ⟨_, rfl⟩
  obtain ⟨b3, hb3⟩ : ∃ a, v2 % 65536 = a := ⟨_, rfl⟩
  obtain ⟨a4, ha4⟩ : ∃ a, u3 = a := ⟨_, rfl⟩
  obtain ⟨a5, ha5⟩ : ∃ a, u4 = a := ⟨_, rfl⟩
  obtain ⟨b4, hb4⟩ : ∃ a, v3 = a := ⟨_, rfl⟩
  obtain ⟨b5, hb5⟩ : ∃ a, v4 = a := ⟨_, rfl⟩
  rw [ha0, ha1, ha2, ha3] at HEU
  rw [hb0, hb1, hb2, hb3] at HEV
  have HRG := hide (show (a0 ≤ 65535 ∧ a1 ≤ 65535 ∧ a2 ≤ 65535 ∧ a3 ≤ 65535 ∧ a4 ≤ 65535 ∧ a5 ≤ 65535) ∧ (b0 ≤ 65535 ∧ b1 ≤ 65535 ∧ b2 ≤ 65535 ∧ b3 ≤ 65535 ∧ b4 ≤ 65535 ∧ b5 ≤ 65535) by omega)
  have HHA := hide (And.intro ha0 (And.intro ha1 (And.intro ha2 (And.intro ha3 (And.intro hb0 (And.intro hb1 (And.intro hb2 hb3)))))))
  subst ha4 ha5 hb4 hb5
  have HP := hide hp
  clear hp
  clear ha0 ha1 ha2 ha3 hb0 hb1 hb2 hb3 hown hu1 hu2 hu3 hu4 hv1 hv2 hv3 hv4
  have HKD := hide hkd
  have HQ := hide (And.intro hqq hrr)
  clear hkd hqq hrr
  have hxl : xs.length = n := by have := HO0.out.1; simpa using this
  have HVB := hide (show (∀ v ∈ [b0, b1, b2, b3], v ≤ 65535) ∧ ∀ v ∈ [v3, v4], v ≤ 65535 by have := HRG.out; constructor <;> (simp; omega))
  have HCB := hide (show (∀ p ∈ ([((a0 : Int), (b0 : Int)), ((a1 : Int), (b1 : Int)), ((a2 : Int), (b2 : Int)), ((a3 : Int), (b3 : Int))] : List (Int × Int)), (0 ≤ p.1 ∧ p.1 ≤ 65535) ∧ 0 ≤ p.2 ∧ p.2 ≤ 65535) ∧ ∀ p ∈ ([((a0 : Int), (b0 : Int)), ((a1 : Int), (b1 : Int)), ((a2 : Int), (b2 : Int)), ((a3 : Int), (b3 : Int)), ((u3 : Int), (v3 : Int)), ((u4 : Int), (v4 : Int))] : List (Int × Int)), (0 ≤ p.1 ∧ p.1 ≤ 65535) ∧ 0 ≤ p.2 ∧ p.2 ≤ 65535 by have := HRG.out; constructor <;> (simp; omega))
  obtain ⟨V1, hV1⟩ : ∃ V, w.alloc (.cells #[.int .u8 (u0 : Int), .int .u32 (u1 : Int), .int .u32 (u2 : Int), .int .u16 (u3 : Int), .int .u16 (u4 : Int)] 29) = V := ⟨_, rfl⟩
  obtain ⟨V2, hV2⟩ : ∃ V, V1.alloc (.cells #[.int .u8 (v0 : Int), .int .u32 (v1 : Int), .int .u32 (v2 : Int), .int .u16 (v3 : Int), .int .u16 (v4 : Int)] 29) = V := ⟨_, rfl⟩
  have hz1 : V1.heap.size = w.heap.size + 1 := by rw [← hV1]; simp
  have hz2 : V2.heap.size = w.heap.size + 1 + 1 := by rw [← hV2]; simp [hz1]
  have hb1 : Below w.heap.size w V1 := by rw [← hV1]; exact (Below.refl _ _).alloc (Nat.le_refl _) _
  have hc2 : Below V1.heap.size V1 V2 := by rw [← hV2]; exact (Below.refl _ _).alloc (Nat.le_refl _) _
  have hb2 := hb1.trans (hc2.mono hb1.size)
  have hp1_1 : V1.heap[w.heap.size]? = some (.cells #[.int .u8 (u0 : Int), .int .u32 (u1 : Int), .int .u32 (u2 : Int), .int .u16 (u3 : Int), .int .u16 (u4 : Int)] 29 (0, 0)) := by rw [← hV1]; exact heap_alloc_new _ _
  have hp1_2 := below_block hc2 hp1_1 (Nat.le_refl _)
  have hp2_2 : V2.heap[w.heap.size + 1]? = some (.cells #[.int .u8 (v0 : Int), .int .u32 (v1 : Int), .int .u32 (v2 : Int), .int .u16 (v3 : Int), .int .u16 (v4 : Int)] 29 (0, 0)) := by rw [← hV2, ← hz1]; exact heap_alloc_new _ _
  obtain ⟨BU, hBU⟩ : ∃ B, w.heap.size = B := ⟨_, rfl⟩
  obtain ⟨BV, hBV⟩ : ∃ B, w.heap.size + 1 = B := ⟨_, rfl⟩
  have hw0 : w.heap.size ≤ BU ∧ w.heap.size ≤ BV := by omega
  have HU := hide (show V2.heap[BU]? = some (.cells #[.int .u8 (u0 : Int), .int .u32 (u1 : Int), .int .u32 (u2 : Int), .int .u16 (u3 : Int), .int .u16 (u4 : Int)] 29 (0, 0)) by rw [← hBU]; exact hp1_2)
  have NU : Hid (w.heap.size ≤ BU) := hide hw0.1
  have HV := hide (show V2.heap[BV]? = some (.cells #[.int .u8 (v0 : Int), .int .u32 (v1 : Int), .int .u32 (v2 : Int), .int .u16 (v3 : Int), .int .u16 (v4 : Int)] 29 (0, 0)) by rw [← hBV]; exact hp2_2)
  have NV : Hid (w.heap.size ≤ BV) := hide hw0.2
  have nqU_V : Hid (BU ≠ BV) := hide (by omega)
  have HB := hide hb2
  have HE := hide (And.intro (And.intro trivial trivial) (And.intro hV1 ( And.intro hV2 (And.intro hBU ( And.intro hBV (trivial))))))
  clear hw0 hV1 hz1 hb1 hV2 hz2 hb2 hc2 hp1_1 hp1_2 hp2_2 hBU hBV 
  go_enter Try.func56, Try.ntmps56
  go_upto_region 1 with (fail)
  rw [HE.out.2.1]
  try rw [HE.out.2.2.1]
  try rw [HE.out.2.2.2.2.1]
  try rw [HE.out.2.2.2.1]
  clear HE
  go_wp2_with ((refine ld_whole (o := ⟨some 10, _, _, _, _, _⟩) 29 (.tmp 5) rfl (by rfl) BV rfl #[.int .u8 (v0 : Int), .int .u32 (v1 : Int), .int .u32 (v2 : Int), .int .u16 (v3 : Int), .int .u16 (v4 : Int)] 29 HV.out Try.underlying29 (by kernel_rfl) ?_; try simp only [Act.put, List.setIfInBounds_toArray, List.set_cons_zero, List.set_cons_succ]))
  refine (HEV.out _).mono ?_
  rintro e w1 ⟨rfl, b⟩
  replace HU := hide (below_block b HU.out (Nat.le_refl _))
  replace HV := hide (below_block b HV.out (Nat.le_refl _))
  replace HB := hide (HB.out.trans (b.mono HB.out.size))
  clear b 
  obtain ⟨w2, hwn, wb, HN1⟩ : ∃ W, w1.alloc (.cells #[.int .u16 (b0 : Int), .int .u16 (b1 : Int), .int .u16 (b2 : Int), .int .u16 (b3 : Int), .int .u16 (v3 : Int), .int .u16 (v4 : Int)] 130) = W ∧ Below w1.heap.size w1 W ∧ Hid (W.heap[w1.heap.size]? = some (.cells #[.int .u16 (b0 : Int), .int .u16 (b1 : Int), .int .u16 (b2 : Int), .int .u16 (b3 : Int), .int .u16 (v3 : Int), .int .u16 (v4 : Int)] 130 (0, 0))) := ⟨_, rfl, (Below.refl w1.heap.size w1).alloc (Nat.le_refl _) _, hide (heap_alloc_new w1 _)⟩
  obtain ⟨BE, hBn⟩ : ∃ B, w1.heap.size = B := ⟨_, rfl⟩
  rw [hBn] at HN1
  have HW := hide (And.intro hwn hBn)
  have HBo := HB
  have nqU_E := hide (blk_ne HU.out hBn)
  have nqV_E := hide (blk_ne HV.out hBn)
  clear hwn hBn
  replace HU := hide (below_block wb HU.out (Nat.le_refl _))
  replace HV := hide (below_block wb HV.out (Nat.le_refl _))
  replace HB := hide (HB.out.trans (wb.mono HB.out.size))
  have HE := HN1
  have NE := hide (show w.heap.size ≤ BE by rw [← HW.out.2]; exact HBo.out.size)
  clear wb HN1 HBo
  go_upto_region 2 with (fail)
  rw [HW.out.1]
  try rw [HW.out.2]
  clear HW
  go_cut [7] (fun p wx => ∃ X, p = .pointer (some ⟨X, 0, none⟩) ∧ Hid (wx.heap[X]? = some (.cells #[.int .u16 (a0 : Int), .int .u16 (b0 : Int), .int .u16 (a1 : Int), .int .u16 (b1 : Int), .int .u16 (a2 : Int), .int .u16 (b2 : Int), .int .u16 (a3 : Int), .int .u16 (b3 : Int), .int .u16 (u3 : Int), .int .u16 (v3 : Int), .int .u16 (u4 : Int), .int .u16 (v4 : Int)] 133 (0, 0))) ∧ Hid (w2.heap.size ≤ X) ∧ Hid (Below w2.heap.size w2 wx))
  case first =>
    have HZ0 := hide (show Below w2.heap.size w2 w2.drew from (Below.refl _ _).drew)
    refine wp_region_U (S := fun w' => w'.cell? ⟨BU, 0, none⟩ = some (.int .u8 (u0 : Int)) ∧ w'.cell? ⟨BU, 1, none⟩ = some (.int .u32 (u1 : Int)) ∧ w'.cell? ⟨BU, 2, none⟩ = some (.int .u32 (u2 : Int)) ∧ w'.cell? ⟨BU, 3, none⟩ = some (.int .u16 (u3 : Int)) ∧ w'.cell? ⟨BU, 4, none⟩ = some (.int .u16 (u4 : Int)) ∧ w'.cell? ⟨BE, 0, none⟩ = some (.int .u16 (b0 : Int)) ∧ w'.cell? ⟨BE, 1, none⟩ = some (.int .u16 (b1 : Int)) ∧ w'.cell? ⟨BE, 2, none⟩ = some (.int .u16 (b2 : Int)) ∧ w'.cell? ⟨BE, 3, none⟩ = some (.int .u16 (b3 : Int)) ∧ w'.cell? ⟨BE, 4, none⟩ = some (.int .u16 (v3 : Int)) ∧ w'.cell? ⟨BE, 5, none⟩ = some (.int .u16 (v4 : Int))) (t := 5) (by kernel_rfl) (by exact ⟨cell_at (below_block HZ0.out HU.out (Nat.le_refl _)) 0 rfl, cell_at (below_block HZ0.out HU.out (Nat.le_refl _)) 1 rfl, cell_at (below_block HZ0.out HU.out (Nat.le_refl _)) 2 rfl, cell_at (below_block HZ0.out HU.out (Nat.le_refl _)) 3 rfl, cell_at (below_block HZ0.out HU.out (Nat.le_refl _)) 4 rfl, cell_at (below_block HZ0.out HE.out (Nat.le_refl _)) 0 rfl, cell_at (below_block HZ0.out HE.out (Nat.le_refl _)) 1 rfl, cell_at (below_block HZ0.out HE.out (Nat.le_refl _)) 2 rfl, cell_at (below_block HZ0.out HE.out (Nat.le_refl _)) 3 rfl, cell_at (below_block HZ0.out HE.out (Nat.le_refl _)) 4 rfl, cell_at (below_block HZ0.out HE.out (Nat.le_refl _)) 5 rfl⟩) (fun hHeld => ?_)
    refine wpAnyU_take (i := 0) (oi := { dst := some 12, op := Op.load 29 (Operand.tmp 4), type := 29, pos := "told.go:94", after := #[], guard := none }) (v := ?_) rfl (by kernel_rfl) (by kernel_rfl) (by kernel_rfl) (by kernel_rfl) (fun _ _ _ h => h) (Or.inl ⟨by rfl, ?_⟩) (by assumption) ?_
    rotate_left
    · intro wS hSw
      try dsimp only at hSw
      go_simp
      try with_reducible rfl
    try simp only [Act.put, List.setIfInBounds_toArray, List.set_cons_zero, List.set_cons_succ]
    refine wpAnyU_take (i := 2) (oi := { dst := some 14, op := Op.load 130 (Operand.tmp 6), type := 130, pos := "told.go:94", after := #[], guard := none }) (v := ?_) rfl (by kernel_rfl) (by kernel_rfl) (by kernel_rfl) (by kernel_rfl) (fun _ _ _ h => h) (Or.inl ⟨by rfl, ?_⟩) (by assumption) ?_
    rotate_left
    · intro wS hSw
      try dsimp only at hSw
      go_simp
      try with_reducible rfl
    try simp only [Act.put, List.setIfInBounds_toArray, List.set_cons_zero, List.set_cons_succ]
    refine wpAnyU_two (i := 1) (j := 4) (o := { dst := some 13, op := Op.call { callee := Callee.value (Operand.func 84), args := #[Operand.tmp 12], argTypes := #[29] }, type := 130, pos := "told.go:94", after := #[{ on := 0, ground := Ground.data }], guard := none }) (p := { dst := some 7, op := Op.alloc 133, type := 0, pos := "told.go:94", after := #[], guard := none }) (by kernel_rfl) rfl rfl (fun K hK => ?_) (fun K hK => ?_)
    ·
      go_simp
      go_at_call 84
      (with_reducible refine (HEU.out _).mono ?_)
      rintro e z3 ⟨rfl, b⟩
      have HZ3 := hide (show Below w2.heap.size w2 z3 from HZ0.out.trans (Below.mono b HZ0.out.size))
      clear b
      refine hK.out _ _ (fun _ => ⟨cell_at (below_block HZ3.out HU.out (Nat.le_refl _)) 0 rfl, cell_at (below_block HZ3.out HU.out (Nat.le_refl _)) 1 rfl, cell_at (below_block HZ3.out HU.out (Nat.le_refl _)) 2 rfl, cell_at (below_block HZ3.out HU.out (Nat.le_refl _)) 3 rfl, cell_at (below_block HZ3.out HU.out (Nat.le_refl _)) 4 rfl, cell_at (below_block HZ3.out HE.out (Nat.le_refl _)) 0 rfl, cell_at (below_block HZ3.out HE.out (Nat.le_refl _)) 1 rfl, cell_at (below_block HZ3.out HE.out (Nat.le_refl _)) 2 rfl, cell_at (below_block HZ3.out HE.out (Nat.le_refl _)) 3 rfl, cell_at (below_block HZ3.out HE.out (Nat.le_refl _)) 4 rfl, cell_at (below_block HZ3.out HE.out (Nat.le_refl _)) 5 rfl⟩) (fun hHeld3 => ?_)
      clear hK K
      try simp only [Act.put, List.setIfInBounds_toArray, List.set_cons_zero, List.set_cons_succ]
      refine wpAnyU_two (i := 3) (j := 4) (o := { dst := some 15, op := Op.call { callee := Callee.value (Operand.func 85), args := #[Operand.tmp 13, Operand.tmp 14], argTypes := #[130, 130] }, type := 133, pos := "told.go:94", after := #[{ on := 1, ground := Ground.data }, { on := 2, ground := Ground.data }, { on := 1, ground := Ground.chain }], guard := none }) (p := { dst := some 7, op := Op.alloc 133, type := 0, pos := "told.go:94", after := #[], guard := none }) (by kernel_rfl) rfl rfl (fun K hK => ?_) (fun K hK => ?_)
      ·
        go_simp
        go_at_call 85
        (with_reducible refine (chg6 _ a0 a1 a2 a3 u3 u4 b0 b1 b2 b3 v3 v4).mono ?_)
        rintro e z4 ⟨rfl, b⟩
        have HZ4 := hide (show Below w2.heap.size w2 z4 from HZ3.out.trans (Below.mono b HZ3.out.size))
        clear b
        refine hK.out _ _ (fun _ => ⟨cell_at (below_block HZ4.out HU.out (Nat.le_refl _)) 0 rfl, cell_at (below_block HZ4.out HU.out (Nat.le_refl _)) 1 rfl, cell_at (below_block HZ4.out HU.out (Nat.le_refl _)) 2 rfl, cell_at (below_block HZ4.out HU.out (Nat.le_refl _)) 3 rfl, cell_at (below_block HZ4.out HU.out (Nat.le_refl _)) 4 rfl, cell_at (below_block HZ4.out HE.out (Nat.le_refl _)) 0 rfl, cell_at (below_block HZ4.out HE.out (Nat.le_refl _)) 1 rfl, cell_at (below_block HZ4.out HE.out (Nat.le_refl _)) 2 rfl, cell_at (below_block HZ4.out HE.out (Nat.le_refl _)) 3 rfl, cell_at (below_block HZ4.out HE.out (Nat.le_refl _)) 4 rfl, cell_at (below_block HZ4.out HE.out (Nat.le_refl _)) 5 rfl⟩) (fun hHeld4 => ?_)
        clear hK K
        try simp only [Act.put, List.setIfInBounds_toArray, List.set_cons_zero, List.set_cons_succ]
        refine wpAnyU_one (i := 4) (o := { dst := some 7, op := Op.alloc 133, type := 0, pos := "told.go:94", after := #[], guard := none }) (by kernel_rfl) rfl (fun K hK => ?_)
        go_simp
        have HN5 := hide (show (z4.alloc (.cells #[.int .u16 0, .int .u16 0, .int .u16 0, .int .u16 0, .int .u16 0, .int .u16 0, .int .u16 0, .int .u16 0, .int .u16 0, .int .u16 0, .int .u16 0, .int .u16 0] 133)).heap[z4.heap.size]? = some (.cells #[.int .u16 0, .int .u16 0, .int .u16 0, .int .u16 0, .int .u16 0, .int .u16 0, .int .u16 0, .int .u16 0, .int .u16 0, .int .u16 0, .int .u16 0, .int .u16 0] 133 (0, 0)) from heap_alloc_new _ _)
        have HG5 : w2.heap.size ≤ z4.heap.size := HZ4.out.size
        have HZ5 : Hid (Below w2.heap.size w2 (z4.alloc (.cells #[.int .u16 0, .int .u16 0, .int .u16 0, .int .u16 0, .int .u16 0, .int .u16 0, .int .u16 0, .int .u16 0, .int .u16 0, .int .u16 0, .int .u16 0, .int .u16 0] 133))) := hide (HZ4.out.alloc HG5 (.cells #[.int .u16 0, .int .u16 0, .int .u16 0, .int .u16 0, .int .u16 0, .int .u16 0, .int .u16 0, .int .u16 0, .int .u16 0, .int .u16 0, .int .u16 0, .int .u16 0] 133))
        refine hK.out _ _ (fun _ => ⟨cell_at (below_block HZ5.out HU.out (Nat.le_refl _)) 0 rfl, cell_at (below_block HZ5.out HU.out (Nat.le_refl _)) 1 rfl, cell_at (below_block HZ5.out HU.out (Nat.le_refl _)) 2 rfl, cell_at (below_block HZ5.out HU.out (Nat.le_refl _)) 3 rfl, cell_at (below_block HZ5.out HU.out (Nat.le_refl _)) 4 rfl, cell_at (below_block HZ5.out HE.out (Nat.le_refl _)) 0 rfl, cell_at (below_block HZ5.out HE.out (Nat.le_refl _)) 1 rfl, cell_at (below_block HZ5.out HE.out (Nat.le_refl _)) 2 rfl, cell_at (below_block HZ5.out HE.out (Nat.le_refl _)) 3 rfl, cell_at (below_block HZ5.out HE.out (Nat.le_refl _)) 4 rfl, cell_at (below_block HZ5.out HE.out (Nat.le_refl _)) 5 rfl⟩) (fun hHeld5 => ?_)
        clear hK K
        try simp only [Act.put, List.setIfInBounds_toArray, List.set_cons_zero, List.set_cons_succ]
        refine wpAnyU_one (i := 5) (o := { dst := none, op := Op.store 133 (Operand.tmp 7) (Operand.tmp 15), type := 0, pos := "told.go:94", after := #[{ on := 4, ground := Ground.data }, { on := 3, ground := Ground.data }, { on := 3, ground := Ground.chain }, { on := 0, ground := Ground.phase }, { on := 1, ground := Ground.phase }, { on := 2, ground := Ground.phase }, { on := 3, ground := Ground.phase }, { on := 4, ground := Ground.phase }], guard := none }) (by kernel_rfl) rfl (fun K hK => ?_)
        rw [if_pos (by rfl)]
        refine wp_store_mid 133 (.tmp 7) (.tmp 15) rfl z4.heap.size 0 #[.int .u16 (a0 : Int), .int .u16 (b0 : Int), .int .u16 (a1 : Int), .int .u16 (b1 : Int), .int .u16 (a2 : Int), .int .u16 (b2 : Int), .int .u16 (a3 : Int), .int .u16 (b3 : Int), .int .u16 (u3 : Int), .int .u16 (v3 : Int), .int .u16 (u4 : Int), .int .u16 (v4 : Int)] rfl rfl (there_of HN5.out (Nat.le_of_ble_eq_true (by kernel_rfl))) (by kernel_rfl) (by kernel_rfl) ?_
        refine hK.out _ _ (fun h => absurd h (by decide)) (fun _ => ?_)
        clear hK K
        try simp only [Act.put, List.setIfInBounds_toArray, List.set_cons_zero, List.set_cons_succ]
        refine wpAnyU_done (by kernel_rfl) ?_ _
        have hX := heap_setCells z4.heap.size 133 (#[.int .u16 (a0 : Int), .int .u16 (b0 : Int), .int .u16 (a1 : Int), .int .u16 (b1 : Int), .int .u16 (a2 : Int), .int .u16 (b2 : Int), .int .u16 (a3 : Int), .int .u16 (b3 : Int), .int .u16 (u3 : Int), .int .u16 (v3 : Int), .int .u16 (u4 : Int), .int .u16 (v4 : Int)] : Array Value).toList 0 (z4.alloc (.cells #[.int .u16 0, .int .u16 0, .int .u16 0, .int .u16 0, .int .u16 0, .int .u16 0, .int .u16 0, .int .u16 0, .int .u16 0, .int .u16 0, .int .u16 0, .int .u16 0] 133)) #[.int .u16 0, .int .u16 0, .int .u16 0, .int .u16 0, .int .u16 0, .int .u16 0, .int .u16 0, .int .u16 0, .int .u16 0, .int .u16 0, .int .u16 0, .int .u16 0] HN5.out
        rw [upd_whole (by rfl)] at hX
        have hZ := below_setCells z4.heap.size HG5 (#[.int .u16 (a0 : Int), .int .u16 (b0 : Int), .int .u16 (a1 : Int), .int .u16 (b1 : Int), .int .u16 (a2 : Int), .int .u16 (b2 : Int), .int .u16 (a3 : Int), .int .u16 (b3 : Int), .int .u16 (u3 : Int), .int .u16 (v3 : Int), .int .u16 (u4 : Int), .int .u16 (v4 : Int)] : Array Value).toList 0 _ HZ5.out
        try go_wp2_with fail
        go_meet
        exact ⟨_, rfl, hide hX, hide (by assumption), hide hZ⟩
      ·
        go_simp
        have HN6 := hide (show (z3.alloc (.cells #[.int .u16 0, .int .u16 0, .int .u16 0, .int .u16 0, .int .u16 0, .int .u16 0, .int .u16 0, .int .u16 0, .int .u16 0, .int .u16 0, .int .u16 0, .int .u16 0] 133)).heap[z3.heap.size]? = some (.cells #[.int .u16 0, .int .u16 0, .int .u16 0, .int .u16 0, .int .u16 0, .int .u16 0, .int .u16 0, .int .u16 0, .int .u16 0, .int .u16 0, .int .u16 0, .int .u16 0] 133 (0, 0)) from heap_alloc_new _ _)
        have HG6 : w2.heap.size ≤ z3.heap.size := HZ3.out.size
        have HZ6 : Hid (Below w2.heap.size w2 (z3.alloc (.cells #[.int .u16 0, .int .u16 0, .int .u16 0, .int .u16 0, .int .u16 0, .int .u16 0, .int .u16 0, .int .u16 0, .int .u16 0, .int .u16 0, .int .u16 0, .int .u16 0] 133))) := hide (HZ3.out.alloc HG6 (.cells #[.int .u16 0, .int .u16 0, .int .u16 0, .int .u16 0, .int .u16 0, .int .u16 0, .int .u16 0, .int .u16 0, .int .u16 0, .int .u16 0, .int .u16 0, .int .u16 0] 133))
        refine hK.out _ _ (fun _ => ⟨cell_at (below_block HZ6.out HU.out (Nat.le_refl _)) 0 rfl, cell_at (below_block HZ6.out HU.out (Nat.le_refl _)) 1 rfl, cell_at (below_block HZ6.out HU.out (Nat.le_refl _)) 2 rfl, cell_at (below_block HZ6.out HU.out (Nat.le_refl _)) 3 rfl, cell_at (below_block HZ6.out HU.out (Nat.le_refl _)) 4 rfl, cell_at (below_block HZ6.out HE.out (Nat.le_refl _)) 0 rfl, cell_at (below_block HZ6.out HE.out (Nat.le_refl _)) 1 rfl, cell_at (below_block HZ6.out HE.out (Nat.le_refl _)) 2 rfl, cell_at (below_block HZ6.out HE.out (Nat.le_refl _)) 3 rfl, cell_at (below_block HZ6.out HE.out (Nat.le_refl _)) 4 rfl, cell_at (below_block HZ6.out HE.out (Nat.le_refl _)) 5 rfl⟩) (fun hHeld6 => ?_)
        clear hK K
        try simp only [Act.put, List.setIfInBounds_toArray, List.set_cons_zero, List.set_cons_succ]
        refine wpAnyU_one (i := 3) (o := { dst := some 15, op := Op.call { callee := Callee.value (Operand.func 85), args := #[Operand.tmp 13, Operand.tmp 14], argTypes := #[130, 130] }, type := 133, pos := "told.go:94", after := #[{ on := 1, ground := Ground.data }, { on := 2, ground := Ground.data }, { on := 1, ground := Ground.chain }], guard := none }) (by kernel_rfl) rfl (fun K hK => ?_)
        go_simp
        go_at_call 85
        (with_reducible refine (chg6 _ a0 a1 a2 a3 u3 u4 b0 b1 b2 b3 v3 v4).mono ?_)
        rintro e z7 ⟨rfl, b⟩
        have HZ7 := hide (show Below w2.heap.size w2 z7 from HZ6.out.trans (Below.mono b HZ6.out.size))
        have HN7 := hide (below_block b HN6.out (by first | exact Nat.le_refl _ | simp))
        clear b
        refine hK.out _ _ (fun _ => ⟨cell_at (below_block HZ7.out HU.out (Nat.le_refl _)) 0 rfl, cell_at (below_block HZ7.out HU.out (Nat.le_refl _)) 1 rfl, cell_at (below_block HZ7.out HU.out (Nat.le_refl _)) 2 rfl, cell_at (below_block HZ7.out HU.out (Nat.le_refl _)) 3 rfl, cell_at (below_block HZ7.out HU.out (Nat.le_refl _)) 4 rfl, cell_at (below_block HZ7.out HE.out (Nat.le_refl _)) 0 rfl, cell_at (below_block HZ7.out HE.out (Nat.le_refl _)) 1 rfl, cell_at (below_block HZ7.out HE.out (Nat.le_refl _)) 2 rfl, cell_at (below_block HZ7.out HE.out (Nat.le_refl _)) 3 rfl, cell_at (below_block HZ7.out HE.out (Nat.le_refl _)) 4 rfl, cell_at (below_block HZ7.out HE.out (Nat.le_refl _)) 5 rfl⟩) (fun hHeld7 => ?_)
        clear hK K
        try simp only [Act.put, List.setIfInBounds_toArray, List.set_cons_zero, List.set_cons_succ]
        refine wpAnyU_one (i := 5) (o := { dst := none, op := Op.store 133 (Operand.tmp 7) (Operand.tmp 15), type := 0, pos := "told.go:94", after := #[{ on := 4, ground := Ground.data }, { on := 3, ground := Ground.data }, { on := 3, ground := Ground.chain }, { on := 0, ground := Ground.phase }, { on := 1, ground := Ground.phase }, { on := 2, ground := Ground.phase }, { on := 3, ground := Ground.phase }, { on := 4, ground := Ground.phase }], guard := none }) (by kernel_rfl) rfl (fun K hK => ?_)
        rw [if_pos (by rfl)]
        refine wp_store_mid 133 (.tmp 7) (.tmp 15) rfl z3.heap.size 0 #[.int .u16 (a0 : Int), .int .u16 (b0 : Int), .int .u16 (a1 : Int), .int .u16 (b1 : Int), .int .u16 (a2 : Int), .int .u16 (b2 : Int), .int .u16 (a3 : Int), .int .u16 (b3 : Int), .int .u16 (u3 : Int), .int .u16 (v3 : Int), .int .u16 (u4 : Int), .int .u16 (v4 : Int)] rfl rfl (there_of HN7.out (Nat.le_of_ble_eq_true (by kernel_rfl))) (by kernel_rfl) (by kernel_rfl) ?_
        refine hK.out _ _ (fun h => absurd h (by decide)) (fun _ => ?_)
        clear hK K
        try simp only [Act.put, List.setIfInBounds_toArray, List.set_cons_zero, List.set_cons_succ]
        refine wpAnyU_done (by kernel_rfl) ?_ _
        have hX := heap_setCells z3.heap.size 133 (#[.int .u16 (a0 : Int), .int .u16 (b0 : Int), .int .u16 (a1 : Int), .int .u16 (b1 : Int), .int .u16 (a2 : Int), .int .u16 (b2 : Int), .int .u16 (a3 : Int), .int .u16 (b3 : Int), .int .u16 (u3 : Int), .int .u16 (v3 : Int), .int .u16 (u4 : Int), .int .u16 (v4 : Int)] : Array Value).toList 0 z7 #[.int .u16 0, .int .u16 0, .int .u16 0, .int .u16 0, .int .u16 0, .int .u16 0, .int .u16 0, .int .u16 0, .int .u16 0, .int .u16 0, .int .u16 0, .int .u16 0] HN7.out
        rw [upd_whole (by rfl)] at hX
        have hZ := below_setCells z3.heap.size HG6 (#[.int .u16 (a0 : Int), .int .u16 (b0 : Int), .int .u16 (a1 : Int), .int .u16 (b1 : Int), .int .u16 (a2 : Int), .int .u16 (b2 : Int), .int .u16 (a3 : Int), .int .u16 (b3 : Int), .int .u16 (u3 : Int), .int .u16 (v3 : Int), .int .u16 (u4 : Int), .int .u16 (v4 : Int)] : Array Value).toList 0 _ HZ7.out
        try go_wp2_with fail
        go_meet
        exact ⟨_, rfl, hide hX, hide (by assumption), hide hZ⟩
    ·
      go_simp
      have HN8 := hide (show (w2.alloc (.cells #[.int .u16 0, .int .u16 0, .int .u16 0, .int .u16 0, .int .u16 0, .int .u16 0, .int .u16 0, .int .u16 0, .int .u16 0, .int .u16 0, .int .u16 0, .int .u16 0] 133)).drew.heap[w2.heap.size]? = some (.cells #[.int .u16 0, .int .u16 0, .int .u16 0, .int .u16 0, .int .u16 0, .int .u16 0, .int .u16 0, .int .u16 0, .int .u16 0, .int .u16 0, .int .u16 0, .int .u16 0] 133 (0, 0)) from heap_alloc_new _ _)
      have HG8 : w2.heap.size ≤ w2.heap.size := HZ0.out.size
      have HZ8 : Hid (Below w2.heap.size w2 (w2.alloc (.cells #[.int .u16 0, .int .u16 0, .int .u16 0, .int .u16 0, .int .u16 0, .int .u16 0, .int .u16 0, .int .u16 0, .int .u16 0, .int .u16 0, .int .u16 0, .int .u16 0] 133)).drew) := hide (HZ0.out.alloc HG8 (.cells #[.int .u16 0, .int .u16 0, .int .u16 0, .int .u16 0, .int .u16 0, .int .u16 0, .int .u16 0, .int .u16 0, .int .u16 0, .int .u16 0, .int .u16 0, .int .u16 0] 133))
      refine hK.out _ _ (fun _ => ⟨cell_at (below_block HZ8.out HU.out (Nat.le_refl _)) 0 rfl, cell_at (below_block HZ8.out HU.out (Nat.le_refl _)) 1 rfl, cell_at (below_block HZ8.out HU.out (Nat.le_refl _)) 2 rfl, cell_at (below_block HZ8.out HU.out (Nat.le_refl _)) 3 rfl, cell_at (below_block HZ8.out HU.out (Nat.le_refl _)) 4 rfl, cell_at (below_block HZ8.out HE.out (Nat.le_refl _)) 0 rfl, cell_at (below_block HZ8.out HE.out (Nat.le_refl _)) 1 rfl, cell_at (below_block HZ8.out HE.out (Nat.le_refl _)) 2 rfl, cell_at (below_block HZ8.out HE.out (Nat.le_refl _)) 3 rfl, cell_at (below_block HZ8.out HE.out (Nat.le_refl _)) 4 rfl, cell_at (below_block HZ8.out HE.out (Nat.le_refl _)) 5 rfl⟩) (fun hHeld8 => ?_)
      clear hK K
      try simp only [Act.put, List.setIfInBounds_toArray, List.set_cons_zero, List.set_cons_succ]
      refine wpAnyU_one (i := 1) (o := { dst := some 13, op := Op.call { callee := Callee.value (Operand.func 84), args := #[Operand.tmp 12], argTypes := #[29] }, type := 130, pos := "told.go:94", after := #[{ on := 0, ground := Ground.data }], guard := none }) (by kernel_rfl) rfl (fun K hK => ?_)
      go_simp
      go_at_call 84
      (with_reducible refine (HEU.out _).mono ?_)
      rintro e z9 ⟨rfl, b⟩
      have HZ9 := hide (show Below w2.heap.size w2 z9 from HZ8.out.trans (Below.mono b HZ8.out.size))
      have HN9 := hide (below_block b HN8.out (by first | exact Nat.le_refl _ | simp))
      clear b
      refine hK.out _ _ (fun _ => ⟨cell_at (below_block HZ9.out HU.out (Nat.le_refl _)) 0 rfl, cell_at (below_block HZ9.out HU.out (Nat.le_refl _)) 1 rfl, cell_at (below_block HZ9.out HU.out (Nat.le_refl _)) 2 rfl, cell_at (below_block HZ9.out HU.out (Nat.le_refl _)) 3 rfl, cell_at (below_block HZ9.out HU.out (Nat.le_refl _)) 4 rfl, cell_at (below_block HZ9.out HE.out (Nat.le_refl _)) 0 rfl, cell_at (below_block HZ9.out HE.out (Nat.le_refl _)) 1 rfl, cell_at (below_block HZ9.out HE.out (Nat.le_refl _)) 2 rfl, cell_at (below_block HZ9.out HE.out (Nat.le_refl _)) 3 rfl, cell_at (below_block HZ9.out HE.out (Nat.le_refl _)) 4 rfl, cell_at (below_block HZ9.out HE.out (Nat.le_refl _)) 5 rfl⟩) (fun hHeld9 => ?_)
      clear hK K
      try simp only [Act.put, List.setIfInBounds_toArray, List.set_cons_zero, List.set_cons_succ]
      refine wpAnyU_one (i := 3) (o := { dst := some 15, op := Op.call { callee := Callee.value (Operand.func 85), args := #[Operand.tmp 13, Operand.tmp 14], argTypes := #[130, 130] }, type := 133, pos := "told.go:94", after := #[{ on := 1, ground := Ground.data }, { on := 2, ground := Ground.data }, { on := 1, ground := Ground.chain }], guard := none }) (by kernel_rfl) rfl (fun K hK => ?_)
      go_simp
      go_at_call 85
      (with_reducible refine (chg6 _ a0 a1 a2 a3 u3 u4 b0 b1 b2 b3 v3 v4).mono ?_)
      rintro e z10 ⟨rfl, b⟩
      have HZ10 := hide (show Below w2.heap.size w2 z10 from HZ9.out.trans (Below.mono b HZ9.out.size))
      have HN10 := hide (below_block b HN9.out (by first | exact Nat.le_refl _ | simp))
      clear b
      refine hK.out _ _ (fun _ => ⟨cell_at (below_block HZ10.out HU.out (Nat.le_refl _)) 0 rfl, cell_at (below_block HZ10.out HU.out (Nat.le_refl _)) 1 rfl, cell_at (below_block HZ10.out HU.out (Nat.le_refl _)) 2 rfl, cell_at (below_block HZ10.out HU.out (Nat.le_refl _)) 3 rfl, cell_at (below_block HZ10.out HU.out (Nat.le_refl _)) 4 rfl, cell_at (below_block HZ10.out HE.out (Nat.le_refl _)) 0 rfl, cell_at (below_block HZ10.out HE.out (Nat.le_refl _)) 1 rfl, cell_at (below_block HZ10.out HE.out (Nat.le_refl _)) 2 rfl, cell_at (below_block HZ10.out HE.out (Nat.le_refl _)) 3 rfl, cell_at (below_block HZ10.out HE.out (Nat.le_refl _)) 4 rfl, cell_at (below_block HZ10.out HE.out (Nat.le_refl _)) 5 rfl⟩) (fun hHeld10 => ?_)
      clear hK K
      try simp only [Act.put, List.setIfInBounds_toArray, List.set_cons_zero, List.set_cons_succ]
      refine wpAnyU_one (i := 5) (o := { dst := none, op := Op.store 133 (Operand.tmp 7) (Operand.tmp 15), type := 0, pos := "told.go:94", after := #[{ on := 4, ground := Ground.data }, { on := 3, ground := Ground.data }, { on := 3, ground := Ground.chain }, { on := 0, ground := Ground.phase }, { on := 1, ground := Ground.phase }, { on := 2, ground := Ground.phase }, { on := 3, ground := Ground.phase }, { on := 4, ground := Ground.phase }], guard := none }) (by kernel_rfl) rfl (fun K hK => ?_)
      rw [if_pos (by rfl)]
      refine wp_store_mid 133 (.tmp 7) (.tmp 15) rfl w2.heap.size 0 #[.int .u16 (a0 : Int), .int .u16 (b0 : Int), .int .u16 (a1 : Int), .int .u16 (b1 : Int), .int .u16 (a2 : Int), .int .u16 (b2 : Int), .int .u16 (a3 : Int), .int .u16 (b3 : Int), .int .u16 (u3 : Int), .int .u16 (v3 : Int), .int .u16 (u4 : Int), .int .u16 (v4 : Int)] rfl rfl (there_of HN10.out (Nat.le_of_ble_eq_true (by kernel_rfl))) (by kernel_rfl) (by kernel_rfl) ?_
      refine hK.out _ _ (fun h => absurd h (by decide)) (fun _ => ?_)
      clear hK K
      try simp only [Act.put, List.setIfInBounds_toArray, List.set_cons_zero, List.set_cons_succ]
      refine wpAnyU_done (by kernel_rfl) ?_ _
      have hX := heap_setCells w2.heap.size 133 (#[.int .u16 (a0 : Int), .int .u16 (b0 : Int), .int .u16 (a1 : Int), .int .u16 (b1 : Int), .int .u16 (a2 : Int), .int .u16 (b2 : Int), .int .u16 (a3 : Int), .int .u16 (b3 : Int), .int .u16 (u3 : Int), .int .u16 (v3 : Int), .int .u16 (u4 : Int), .int .u16 (v4 : Int)] : Array Value).toList 0 z10 #[.int .u16 0, .int .u16 0, .int .u16 0, .int .u16 0, .int .u16 0, .int .u16 0, .int .u16 0, .int .u16 0, .int .u16 0, .int .u16 0, .int .u16 0, .int .u16 0] HN10.out
      rw [upd_whole (by rfl)] at hX
      have hZ := below_setCells w2.heap.size HG8 (#[.int .u16 (a0 : Int), .int .u16 (b0 : Int), .int .u16 (a1 : Int), .int .u16 (b1 : Int), .int .u16 (a2 : Int), .int .u16 (b2 : Int), .int .u16 (a3 : Int), .int .u16 (b3 : Int), .int .u16 (u3 : Int), .int .u16 (v3 : Int), .int .u16 (u4 : Int), .int .u16 (v4 : Int)] : Array Value).toList 0 _ HZ10.out
      try go_wp2_with fail
      go_meet
      exact ⟨_, rfl, hide hX, hide (by assumption), hide hZ⟩
  case rest =>
  obtain ⟨BX, rfl, HX, NX, HBc⟩ := hcut
  obtain ⟨y0, rfl⟩ : ∃ wz, wz = wc := ⟨_, rfl⟩
  have hq0 := HB.out.size
  have neU : Hid (BU ≠ g) := hide (by have := NU.out; omega)
  have neV : Hid (BV ≠ g) := hide (by have := NV.out; omega)
  have neE : Hid (BE ≠ g) := hide (by have := NE.out; omega)
  have neX : Hid (BX ≠ g) := hide (by have := NX.out; omega)
  replace HU := hide (below_block HBc.out HU.out (Nat.le_refl _))
  replace HV := hide (below_block HBc.out HV.out (Nat.le_refl _))
  replace HE := hide (below_block HBc.out HE.out (Nat.le_refl _))
  replace HB := hide (HB.out.trans (HBc.out.mono HB.out.size))
  have HG := hide (gb_of_below (r := some g) HB.out)
  have HO := hide (owns_below HO0.out HB.out (Nat.le_refl _))
  clear hq0 HBc HB NU NV NE NX HEU HEV HO0
  go_wp2_with fail
  refine (flay_any base n c 12 g xs BE 0 [b0, b1, b2, b3] 4 6 _ HO.out (Nat.le_trans hbs HG.out.size) (row_en HE.out) neE.out rfl (by omega) (by omega) HVB.out.1).mono ?_
  rintro e y1 ⟨rfl, oy, gy⟩
  replace HU := hide (gb_other gy HU.out neU.out)
  replace HV := hide (gb_other gy HV.out neV.out)
  replace HE := hide (gb_other gy HE.out neE.out)
  replace HX := hide (gb_other gy HX.out neX.out)
  replace HG := hide (gb_trans HG.out gy)
  replace HO := hide oy
  clear oy gy
  obtain ⟨L1, hL1⟩ : ∃ L, layK xs 12 [b0, b1, b2, b3] 4 = L := ⟨_, rfl⟩
  rw [hL1] at HO
  have HL1 := hide (show (∀ x ∈ L1, 0 ≤ x ∧ x ≤ 255) ∧ L1.length = n by rw [← hL1]; exact ⟨layK_rng _ _ _ hb _, by rw [layK_len _ _ _ _ (by omega)]; omega⟩)
  have HD1 := hide hL1
  clear hL1
  go_wp2_with fail
  refine (mend_any base n c 10 g L1 (some ⟨BX, 0, none⟩) [((a0 : Int), (b0 : Int)), ((a1 : Int), (b1 : Int)), ((a2 : Int), (b2 : Int)), ((a3 : Int), (b3 : Int))] 4 6 _ HO.out HL1.out.1 (Nat.le_trans hbs HG.out.size) (Nat.lt_of_lt_of_le hgl HG.out.size) (chg_of HX.out 4 (by omega)) HCB.out.1 rfl (by omega) (by omega) (by omega)).mono ?_
  rintro e y2 ⟨rfl, oy, gy⟩
  replace HU := hide (gb_other gy HU.out neU.out)
  replace HV := hide (gb_other gy HV.out neV.out)
  replace HE := hide (gb_other gy HE.out neE.out)
  replace HX := hide (gb_other gy HX.out neX.out)
  replace HG := hide (gb_trans HG.out gy)
  obtain ⟨L2, hL2⟩ : ∃ L, mnd 10 [((a0 : Int), (b0 : Int)), ((a1 : Int), (b1 : Int)), ((a2 : Int), (b2 : Int)), ((a3 : Int), (b3 : Int))] L1 = L := ⟨_, rfl⟩
  replace HO := hide (show y2.ownsRow base 5 1 (.slice (some ⟨g, 0, none⟩) n c) n (L2.map (Value.int .u8)) by rw [← hL2]; exact oy)
  clear oy gy
  have HL2 := hide (show (∀ x ∈ L2, 0 ≤ x ∧ x ≤ 255) ∧ L2.length = n by rw [← hL2]; exact ⟨mnd_rng _ _ _ HL1.out.1, by rw [mnd_len _ _ _ (by have := HL1.out.2; omega)]; exact HL1.out.2⟩)
  have HK2 := hide (show L2[20]? = some (kd : Int) by rw [← hL2, mnd_at _ _ _ _ (by have := HL1.out.2; omega) (by omega), ← HD1.out, layK_at _ _ _ _ _ (by omega) (by omega)]; exact HKD.out)
  have HD2 := hide hL2
  clear hL2
  rcases HP.out with hp | hp | hp
  ·
    clear HP
    have HP := hide hp
    clear hp
    have q0 : ((u0 : Int) == 1) = true := by simp [HP.out]
    have qU_0 : y2.cell? ⟨BU, 0, none⟩ = some (.int .u8 (u0 : Int)) := cell_at HU.out 0 rfl
    go_upto_region 6 with (fail)
    clear q0 qU_0
    have HQ1 := hide (fun (W : World) => queryID_any kd u0 u1 u2 u3 u4 W)
    have HQ2 := hide (fun (W : World) => queryID_any kd v0 v1 v2 v3 v4 W)
    rw [HQ.out.1] at HQ1
    rw [HQ.out.2] at HQ2
    have hby : y2.cell? ⟨g, 20, none⟩ = some (.int .u8 (kd : Int)) := by rw [World.ownsRow.cellAt HO.out 20 (by omega), List.getElem?_map, HK2.out]; rfl
    have HBY := hide hby
    clear hby
    have hi20 : (20 : Int) < (n : Int) := by omega
    have hi21 : 20 < n := by omega
    go_cut [8, 9] (fun p p2 wx => p = .int .u16 (qq : Int) ∧ p2 = .int .u16 (rr : Int) ∧ Hid (Below y2.heap.size y2 wx))
    case first =>
      have k0U0 : y2.cell? ⟨BU, 0, none⟩ = some (.int .u8 (u0 : Int)) := cell_at HU.out 0 rfl
      have k0U1 : y2.cell? ⟨BU, 1, none⟩ = some (.int .u32 (u1 : Int)) := cell_at HU.out 1 rfl
      have k0U2 : y2.cell? ⟨BU, 2, none⟩ = some (.int .u32 (u2 : Int)) := cell_at HU.out 2 rfl
      have k0U3 : y2.cell? ⟨BU, 3, none⟩ = some (.int .u16 (u3 : Int)) := cell_at HU.out 3 rfl
      have k0U4 : y2.cell? ⟨BU, 4, none⟩ = some (.int .u16 (u4 : Int)) := cell_at HU.out 4 rfl
      have k0V0 : y2.cell? ⟨BV, 0, none⟩ = some (.int .u8 (v0 : Int)) := cell_at HV.out 0 rfl
      have k0V1 : y2.cell? ⟨BV, 1, none⟩ = some (.int .u32 (v1 : Int)) := cell_at HV.out 1 rfl
      have k0V2 : y2.cell? ⟨BV, 2, none⟩ = some (.int .u32 (v2 : Int)) := cell_at HV.out 2 rfl
      have k0V3 : y2.cell? ⟨BV, 3, none⟩ = some (.int .u16 (v3 : Int)) := cell_at HV.out 3 rfl
      have k0V4 : y2.cell? ⟨BV, 4, none⟩ = some (.int .u16 (v4 : Int)) := cell_at HV.out 4 rfl
      have k0G := HBY.out
      have hlG : g < y2.heap.size := Nat.lt_of_lt_of_le hgl HG.out.size
      have hlU := lt_of_block HU.out
      have hlV := lt_of_block HV.out
      have HBB := hide (Below.refl y2.heap.size y2)
      go_region_held3 (fun w' => w'.cell? ⟨BU, 0, none⟩ = some (.int .u8 (u0 : Int)) ∧ w'.cell? ⟨BU, 1, none⟩ = some (.int .u32 (u1 : Int)) ∧ w'.cell? ⟨BU, 2, none⟩ = some (.int .u32 (u2 : Int)) ∧ w'.cell? ⟨BU, 3, none⟩ = some (.int .u16 (u3 : Int)) ∧ w'.cell? ⟨BU, 4, none⟩ = some (.int .u16 (u4 : Int)) ∧ w'.cell? ⟨BV, 0, none⟩ = some (.int .u8 (v0 : Int)) ∧ w'.cell? ⟨BV, 1, none⟩ = some (.int .u32 (v1 : Int)) ∧ w'.cell? ⟨BV, 2, none⟩ = some (.int .u32 (v2 : Int)) ∧ w'.cell? ⟨BV, 3, none⟩ = some (.int .u16 (v3 : Int)) ∧ w'.cell? ⟨BV, 4, none⟩ = some (.int .u16 (v4 : Int)) ∧ w'.cell? ⟨g, 20, none⟩ = some (.int .u8 (kd : Int))) (go_keep) (first
          | (go_at_call 55; (with_reducible refine (HQ1.out _).mono ?_); rintro e z1 ⟨rfl, b⟩; (try replace b := below_of_drew b); have HBB := hide (HBB.out.trans (b.mono HBB.out.size)); have k1U0 := (bcell HBB.out BU 0 hlU).trans k0U0; have k1U1 := (bcell HBB.out BU 1 hlU).trans k0U1; have k1U2 := (bcell HBB.out BU 2 hlU).trans k0U2; have k1U3 := (bcell HBB.out BU 3 hlU).trans k0U3; have k1U4 := (bcell HBB.out BU 4 hlU).trans k0U4; have k1V0 := (bcell HBB.out BV 0 hlV).trans k0V0; have k1V1 := (bcell HBB.out BV 1 hlV).trans k0V1; have k1V2 := (bcell HBB.out BV 2 hlV).trans k0V2; have k1V3 := (bcell HBB.out BV 3 hlV).trans k0V3; have k1V4 := (bcell HBB.out BV 4 hlV).trans k0V4; have k1G := (bcell HBB.out g 20 hlG).trans k0G; clear b)
          | (go_at_call 55; (with_reducible refine (HQ2.out _).mono ?_); rintro e z2 ⟨rfl, b⟩; (try replace b := below_of_drew b); have HBB := hide (HBB.out.trans (b.mono HBB.out.size)); have k2U0 := (bcell HBB.out BU 0 hlU).trans k0U0; have k2U1 := (bcell HBB.out BU 1 hlU).trans k0U1; have k2U2 := (bcell HBB.out BU 2 hlU).trans k0U2; have k2U3 := (bcell HBB.out BU 3 hlU).trans k0U3; have k2U4 := (bcell HBB.out BU 4 hlU).trans k0U4; have k2V0 := (bcell HBB.out BV 0 hlV).trans k0V0; have k2V1 := (bcell HBB.out BV 1 hlV).trans k0V1; have k2V2 := (bcell HBB.out BV 2 hlV).trans k0V2; have k2V3 := (bcell HBB.out BV 3 hlV).trans k0V3; have k2V4 := (bcell HBB.out BV 4 hlV).trans k0V4; have k2G := (bcell HBB.out g 20 hlG).trans k0G; clear b)
          | fail)
      all_goals (try go_wp2_with fail)
      all_goals go_meet
      all_goals exact ⟨rfl, rfl, HBB⟩
    case rest =>
    obtain ⟨rfl, rfl, HBc⟩ := hcut
    obtain ⟨y3, rfl⟩ : ∃ wz, wz = wc := ⟨_, rfl⟩
    replace HG := hide (gb_trans HG.out (gb_of_below (r := some g) HBc.out))
    replace HO := hide (owns_below HO.out HBc.out (Nat.le_refl _))
    clear HBc HQ1 HQ2 HBY
    have hrr9 : rr ≤ 65535 := by
      rw [← HQ.out.2]
      have := HRG.out.2
      split <;> omega
    have hqq9 : qq ≤ 65535 := by
      rw [← HQ.out.1]
      have := HRG.out.1
      split <;> omega
    have HLY := hide (fun (W : World) (ho : (W.alloc (.cells #[.int .u16 (rr : Int)] 22)).ownsRow base 5 1 (.slice (some ⟨g, 0, none⟩) n c) n (L2.map (Value.int .u8))) (hs : base ≤ W.heap.size) (hgX : g < W.heap.size) => flay_any base n c 24 g L2 W.heap.size 0 [rr] 1 1 (W.alloc (.cells #[.int .u16 (rr : Int)] 22)) ho (Nat.le_trans hs (by simp)) (lit_u16 W rr) (by omega) rfl (by omega) (by omega) (by simp; omega))
    go_wp2_with fail
    refine (HLY.out y3 (owns_below HO.out ((Below.refl y3.heap.size y3).alloc (Nat.le_refl _) _) (Nat.le_refl _)) (Nat.le_trans hbs HG.out.size) (Nat.lt_of_lt_of_le hgl HG.out.size)).mono ?_
    rintro e y4 ⟨rfl, oy, gy⟩
    replace HG := hide (gb_trans HG.out (gb_trans (gb_of_below (r := some g) ((Below.refl y3.heap.size y3).alloc (Nat.le_refl _) _)) gy))
    obtain ⟨L3, hL3⟩ : ∃ L, layK L2 24 [rr] 1 = L := ⟨_, rfl⟩
    rw [hL3] at oy
    replace HO := hide oy
    clear oy gy HLY
    have HL3 := hide (show (∀ x ∈ L3, 0 ≤ x ∧ x ≤ 255) ∧ L3.length = n by rw [← hL3]; exact ⟨layK_rng _ _ _ HL2.out.1 _, by rw [layK_len _ _ _ _ (by have := HL2.out.2; omega)]; exact HL2.out.2⟩)
    have HD3 := hide hL3
    clear hL3
    have HMD := hide (fun (W : World) (ho : (W.alloc (.cells #[.int .u16 (qq : Int), .int .u16 (rr : Int)] 132)).ownsRow base 5 1 (.slice (some ⟨g, 0, none⟩) n c) n (L3.map (Value.int .u8))) (hs : base ≤ W.heap.size) (hgX : g < W.heap.size) => mend_any base n c 22 g L3 (some ⟨W.heap.size, 0, none⟩) [((qq : Int), (rr : Int))] 1 1 (W.alloc (.cells #[.int .u16 (qq : Int), .int .u16 (rr : Int)] 132)) ho HL3.out.1 (Nat.le_trans hs (by simp)) (Nat.lt_of_lt_of_le hgX (by simp)) (chg_lit W qq rr) (by intro p hp; simp at hp; subst hp; omega) rfl (by omega) (by omega) (by omega))
    clear hrr9 hqq9
    go_wp2_with fail
    refine (HMD.out y4 (owns_below HO.out ((Below.refl y4.heap.size y4).alloc (Nat.le_refl _) _) (Nat.le_refl _)) (Nat.le_trans hbs HG.out.size) (Nat.lt_of_lt_of_le hgl HG.out.size)).mono ?_
    rintro e y5 ⟨rfl, oy, gy⟩
    replace HG := hide (gb_trans HG.out (gb_trans (gb_of_below (r := some g) ((Below.refl y4.heap.size y4).alloc (Nat.le_refl _) _)) gy))
    have HO9 := hide oy
    clear oy gy HMD
    go_wp2_with fail
    refine bodyPost_ret (results_none rfl _ _ _) rfl ?_
    have hfin : mnd 22 [((qq : Int), (rr : Int))] L3 = rtl u0 n qq rr xs (endF u1 u2 u3 u4) (endF v1 v2 v3 v4) := by
      obtain ⟨z0, z1, z2, z3, z4, z5, z6, z7⟩ := HHA.out
      have e1 := HD1.out
      have e2 := HD2.out
      have e3 := HP.out
      subst z0 z1 z2 z3 z4 z5 z6 z7
      have e4 := HD3.out
      rw [← e4, ← e2, ← e1]
      unfold rtl
      rw [if_pos e3]
      rfl
    refine ⟨rfl, ?_, HG.out⟩
    rw [← hfin]
    exact HO9.out
  ·
    clear HP
    have HP := hide hp
    clear hp
    have q0 : ((u0 : Int) == 1) = false := by have := HP.out; simp; omega
    have q1 : ((u0 : Int) == 17) = true := by have := HP.out; simp; omega
    have qU_0 : y2.cell? ⟨BU, 0, none⟩ = some (.int .u8 (u0 : Int)) := cell_at HU.out 0 rfl
    go_wp2_with fail
    refine (flay_any base n c 20 g L2 BE 4 [v3, v4] 2 2 _ HO.out (Nat.le_trans hbs HG.out.size) (row_en4 HE.out) neE.out rfl (by omega) (by omega) HVB.out.2).mono ?_
    rintro e y3 ⟨rfl, oy, gy⟩
    clear qU_0
    replace HU := hide (gb_other gy HU.out neU.out)
    replace HV := hide (gb_other gy HV.out neV.out)
    replace HE := hide (gb_other gy HE.out neE.out)
    replace HX := hide (gb_other gy HX.out neX.out)
    replace HG := hide (gb_trans HG.out gy)
    obtain ⟨L3, hL3⟩ : ∃ L, layK L2 20 [v3, v4] 2 = L := ⟨_, rfl⟩
    rw [hL3] at oy
    replace HO := hide oy
    clear oy gy
    have HL3 := hide (show (∀ x ∈ L3, 0 ≤ x ∧ x ≤ 255) ∧ L3.length = n by rw [← hL3]; exact ⟨layK_rng _ _ _ HL2.out.1 _, by rw [layK_len _ _ _ _ (by have := HL2.out.2; omega)]; exact HL2.out.2⟩)
    have HD3 := hide hL3
    clear hL3
    have qU0 := cell_at HU.out 0 rfl
    go_wp2_with (first | (refine ld_arr (o := ⟨some 52, _, _, _, _, _⟩) 133 (.tmp 7) rfl (by rfl) BX rfl #[.int .u16 (a0 : Int), .int .u16 (b0 : Int), .int .u16 (a1 : Int), .int .u16 (b1 : Int), .int .u16 (a2 : Int), .int .u16 (b2 : Int), .int .u16 (a3 : Int), .int .u16 (b3 : Int), .int .u16 (u3 : Int), .int .u16 (v3 : Int), .int .u16 (u4 : Int), .int .u16 (v4 : Int)] 133 HX.out Try.underlying133 (by kernel_rfl) ?_; try simp only [Act.put, List.setIfInBounds_toArray, List.set_cons_zero, List.set_cons_succ]))
    refine (mendUDP_any base n c g L3 a0 a1 a2 a3 u3 u4 b0 b1 b2 b3 v3 v4 _ HO.out HL3.out.1 (Nat.le_trans hbs HG.out.size) (Nat.lt_of_lt_of_le hgl HG.out.size) hn0 hn HCB.out.2).mono ?_
    rintro e y4 ⟨rfl, oy, gy⟩
    replace HG := hide (gb_trans HG.out gy)
    have HO9 := hide oy
    clear oy gy qU0
    go_wp2_with fail
    go_end0
    have hfin : udpM L3 [((a0 : Int), (b0 : Int)), ((a1 : Int), (b1 : Int)), ((a2 : Int), (b2 : Int)), ((a3 : Int), (b3 : Int)), ((u3 : Int), (v3 : Int)), ((u4 : Int), (v4 : Int))] = rtl u0 n qq rr xs (endF u1 u2 u3 u4) (endF v1 v2 v3 v4) := by
      obtain ⟨z0, z1, z2, z3, z4, z5, z6, z7⟩ := HHA.out
      have e1 := HD1.out
      have e2 := HD2.out
      have e3 := HP.out
      subst z0 z1 z2 z3 z4 z5 z6 z7
      have e4 := HD3.out
      rw [← e4, ← e2, ← e1]
      unfold rtl
      rw [if_neg (by omega), if_pos e3]
      rfl
    refine ⟨rfl, ?_, HG.out⟩
    rw [← hfin]
    exact HO9.out
  ·
    by_cases h38 : 38 ≤ n
    ·
      clear HP
      have HP := hide hp
      clear hp
      have q0 : ((u0 : Int) == 1) = false := by have := HP.out; simp; omega
      have q1 : ((u0 : Int) == 17) = false := by have := HP.out; simp; omega
      have qU_0 : y2.cell? ⟨BU, 0, none⟩ = some (.int .u8 (u0 : Int)) := cell_at HU.out 0 rfl
      go_wp2_with fail
      refine (flay_any base n c 20 g L2 BE 4 [v3, v4] 2 2 _ HO.out (Nat.le_trans hbs HG.out.size) (row_en4 HE.out) neE.out rfl (by omega) (by omega) HVB.out.2).mono ?_
      rintro e y3 ⟨rfl, oy, gy⟩
      clear qU_0
      replace HU := hide (gb_other gy HU.out neU.out)
      replace HV := hide (gb_other gy HV.out neV.out)
      replace HE := hide (gb_other gy HE.out neE.out)
      replace HX := hide (gb_other gy HX.out neX.out)
      replace HG := hide (gb_trans HG.out gy)
      obtain ⟨L3, hL3⟩ : ∃ L, layK L2 20 [v3, v4] 2 = L := ⟨_, rfl⟩
      rw [hL3] at oy
      replace HO := hide oy
      clear oy gy
      have HL3 := hide (show (∀ x ∈ L3, 0 ≤ x ∧ x ≤ 255) ∧ L3.length = n by rw [← hL3]; exact ⟨layK_rng _ _ _ HL2.out.1 _, by rw [layK_len _ _ _ _ (by have := HL2.out.2; omega)]; exact HL2.out.2⟩)
      have HD3 := hide hL3
      clear hL3
      have qU0 := cell_at HU.out 0 rfl
      have q2 : decide ((38 : Int) ≤ (n : Int)) = true := by simp; omega
      have q3 : decide (38 ≤ n) = true := by simp; omega
      go_wp2_with fail
      refine (mend_any base n c 36 g L3 (some ⟨BX, 0, none⟩) [((a0 : Int), (b0 : Int)), ((a1 : Int), (b1 : Int)), ((a2 : Int), (b2 : Int)), ((a3 : Int), (b3 : Int)), ((u3 : Int), (v3 : Int)), ((u4 : Int), (v4 : Int))] 6 6 _ HO.out HL3.out.1 (Nat.le_trans hbs HG.out.size) (Nat.lt_of_lt_of_le hgl HG.out.size) (chg_of HX.out 6 (by omega)) HCB.out.2 rfl (by omega) (by omega) (by omega)).mono ?_
      rintro e y4 ⟨rfl, oy, gy⟩
      replace HG := hide (gb_trans HG.out gy)
      have HO9 := hide oy
      clear oy gy qU0
      go_wp2_with fail
      go_end0
      have hfin : mnd 36 [((a0 : Int), (b0 : Int)), ((a1 : Int), (b1 : Int)), ((a2 : Int), (b2 : Int)), ((a3 : Int), (b3 : Int)), ((u3 : Int), (v3 : Int)), ((u4 : Int), (v4 : Int))] L3 = rtl u0 n qq rr xs (endF u1 u2 u3 u4) (endF v1 v2 v3 v4) := by
        obtain ⟨z0, z1, z2, z3, z4, z5, z6, z7⟩ := HHA.out
        have e1 := HD1.out
        have e2 := HD2.out
        have e3 := HP.out
        subst z0 z1 z2 z3 z4 z5 z6 z7
        have e4 := HD3.out
        rw [← e4, ← e2, ← e1]
        unfold rtl
        rw [if_neg (by omega), if_neg (by omega), if_pos h38]
        rfl
      refine ⟨rfl, ?_, HG.out⟩
      rw [← hfin]
      exact HO9.out
    ·
      clear HP
      have HP := hide hp
      clear hp
      have q0 : ((u0 : Int) == 1) = false := by have := HP.out; simp; omega
      have q1 : ((u0 : Int) == 17) = false := by have := HP.out; simp; omega
      have qU_0 : y2.cell? ⟨BU, 0, none⟩ = some (.int .u8 (u0 : Int)) := cell_at HU.out 0 rfl
      go_wp2_with fail
      refine (flay_any base n c 20 g L2 BE 4 [v3, v4] 2 2 _ HO.out (Nat.le_trans hbs HG.out.size) (row_en4 HE.out) neE.out rfl (by omega) (by omega) HVB.out.2).mono ?_
      rintro e y3 ⟨rfl, oy, gy⟩
      clear qU_0
      replace HU := hide (gb_other gy HU.out neU.out)
      replace HV := hide (gb_other gy HV.out neV.out)
      replace HE := hide (gb_other gy HE.out neE.out)
      replace HX := hide (gb_other gy HX.out neX.out)
      replace HG := hide (gb_trans HG.out gy)
      obtain ⟨L3, hL3⟩ : ∃ L, layK L2 20 [v3, v4] 2 = L := ⟨_, rfl⟩
      rw [hL3] at oy
      replace HO := hide oy
      clear oy gy
      have HL3 := hide (show (∀ x ∈ L3, 0 ≤ x ∧ x ≤ 255) ∧ L3.length = n by rw [← hL3]; exact ⟨layK_rng _ _ _ HL2.out.1 _, by rw [layK_len _ _ _ _ (by have := HL2.out.2; omega)]; exact HL2.out.2⟩)
      have HD3 := hide hL3
      clear hL3
      have qU0 := cell_at HU.out 0 rfl
      have q2 : decide ((38 : Int) ≤ (n : Int)) = false := by simp; omega
      have q3 : decide (38 ≤ n) = false := by simp; omega
      go_wp2_with fail
      have HO9 := HO
      go_end0
      have hfin : L3 = rtl u0 n qq rr xs (endF u1 u2 u3 u4) (endF v1 v2 v3 v4) := by
        obtain ⟨z0, z1, z2, z3, z4, z5, z6, z7⟩ := HHA.out
        have e1 := HD1.out
        have e2 := HD2.out
        have e3 := HP.out
        subst z0 z1 z2 z3 z4 z5 z6 z7
        have e4 := HD3.out
        rw [← e4, ← e2, ← e1]
        unfold rtl
        rw [if_neg (by omega), if_neg (by omega), if_neg h38]
        rfl
      refine ⟨rfl, ?_, HG.out⟩
      rw [← hfin]
      exact HO9.out
end Go.Proofs.Ytgggcapgaikbeaa
