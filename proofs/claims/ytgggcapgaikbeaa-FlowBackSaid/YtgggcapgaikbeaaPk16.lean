/- An echo's packet, and an error's packet that tells of another: the laws' own helpers. -/
import Derived.Test.YtgggcapgaikbeaaPk15
import Derived.Test.YtgggcapgaikbeaaPk12
import Derived.Lib.SlBytesConst
import Derived.Test.YtgggcapgaikbeaaPk13
namespace Go.Proofs.Ytgggcapgaikbeaa
open Go.RowKit
set_option linter.unusedVariables false
set_option linter.unusedSimpArgs false
set_option maxRecDepth 100000
/-- A message's bytes with its sum. -/
def icmpB (p q r : Nat) (xs : List Int) : List Int := icmpG p q r xs (icmpK p q r xs).toNat
theorem icmpB_len (p q r : Nat) (xs : List Int) : (icmpB p q r xs).length = 8 + xs.length := icmpG_len ..
theorem rof_any (w : World) (ttl pid : Int) (P S D : Nat) (a : Option Addr) (n cap : Nat) (xs : List Int) (hLx : Lies w a xs n cap) (hl : xs.length = n) (hb : ∀ x ∈ xs, 0 ≤ x ∧ x ≤ 255) (hS : S ≤ 4294967295) (hD : D ≤ 4294967295) :
    Calls Try.prog 14 #[.agg #[.int .u8 ttl, .int .u8 (P : Int), .int .u16 pid, .int .u32 (S : Int), .int .u32 (D : Int), .slice a n cap]] w fun e w' => e = .returned (.tuple #[(ofFl P S D xs).v, .int .i64 (ofKind P S D xs), .int .i64 (ofErr P S D xs : Nat)]) ∧ Below w.heap.size w w' := by
  by_cases h6 : P = 6
  · exact rof_tcp w ttl pid P S D a n cap xs hLx hl hb hS hD h6
  by_cases h17 : P = 17
  · exact rof_udp w ttl pid P S D a n cap xs hLx hl hb hS hD h17
  by_cases h1 : P = 1
  · exact rof_icmp w ttl pid P S D a n cap xs hLx hl hb hS hD h1
  · exact rof_other w ttl pid P S D a n cap xs hLx hl hb hS hD h6 h17 h1
theorem results_cell1 {P : Program} {fn : Func} {p : Tmp} {ty : TypeId} (h : fn.results = #[.cell p ty]) (tmps : Array Value) (w : World) (g : Nat) (t : TypeId) (cs : Array Value) (fr : Nat × Nat) (d : TypeDesc)
    (hp : tmps.getD p undef = .pointer (some ⟨g, 0, none⟩)) (hg : w.heap[g]? = some (.cells cs t fr))
    (hu : P.underlying ty = some d) (hd : (match d with | .struct _ | .array _ _ => true | _ => false) = true) (hi : (P.info? ty).map (·.size) = some cs.size) :
    (results fn tmps).run P w = .ok (.agg cs) w := by
  have hp' : tmps[p]?.getD undef = .pointer (some ⟨g, 0, none⟩) := by simpa using hp
  simp [results, h, hp', asAddr, run_loadVar_row w g t ty cs fr d hg hu hd hi]
theorem row_one {w : World} {L : Nat} {x : Int} {fr : Nat × Nat} (h : w.heap[L]? = some (.cells #[.int .u8 x] 5 fr)) : Row .u8 w (some ⟨L, 0, none⟩) [x] := by
  intro _
  refine ⟨L, 0, rfl, lt_of_block h, fun i hi => ?_⟩
  simp only [World.cell?, h]
  match i, hi with
  | 0, _ => rfl
set_option maxHeartbeats 1600000 in
theorem echo_any (w : World) (src dst kind id : Nat) (hk : kind ≤ 255) (hid : id ≤ 65535) :
    Calls Try.prog 28 #[.int .u32 (src : Int), .int .u32 (dst : Int), .int .u8 (kind : Int), .int .u16 (id : Int)] w fun e w' => ∃ a c,
      e = .returned (.agg #[.int .u8 9, .int .u8 1, .int .u16 0, .int .u32 (src : Int), .int .u32 (dst : Int), .slice a 9 c]) ∧ Lies w' a (icmpB kind 0 (id * 65536) [120]) 9 c ∧ Below w.heap.size w w' := by
  obtain ⟨V1, hV1⟩ : ∃ V, w.alloc (.cells #[.int .u8 0, .int .u8 0, .int .u16 0, .int .u32 0, .int .u32 0, .slice none 0 0] 27) = V := ⟨_, rfl⟩
  obtain ⟨V2, hV2⟩ : ∃ V, V1.alloc (.cells #[.int .u8 120] 5 (1, 2)) = V := ⟨_, rfl⟩
  have hz1 : V1.heap.size = w.heap.size + 1 := by rw [← hV1]; simp
  have hb1 : Below w.heap.size w V1 := by rw [← hV1]; exact (Below.refl _ _).alloc (Nat.le_refl _) _
  have hb12 : Below V1.heap.size V1 V2 := by rw [← hV2]; exact (Below.refl _ _).alloc (Nat.le_refl _) _
  have hb2 := hb1.trans (hb12.mono hb1.size)
  have hp1 : V1.heap[w.heap.size]? = some (.cells #[.int .u8 0, .int .u8 0, .int .u16 0, .int .u32 0, .int .u32 0, .slice none 0 0] 27 (0, 0)) := by rw [← hV1]; exact heap_alloc_new _ _
  have hp2 := below_block hb12 hp1 (Nat.le_refl _)
  have hr2 : V2.heap[w.heap.size + 1]? = some (.cells #[.int .u8 120] 5 (1, 2)) := by rw [← hV2, ← hz1]; exact heap_alloc_new _ _
  obtain ⟨PB, hPB⟩ : ∃ B, w.heap.size = B := ⟨_, rfl⟩
  obtain ⟨RB, hRB⟩ : ∃ B, w.heap.size + 1 = B := ⟨_, rfl⟩
  have HR := hide (show V2.heap[RB]? = some (.cells #[.int .u8 120] 5 (1, 2)) by rw [← hRB]; exact hr2)
  have HP := hide (show V2.heap[PB]? = some (.cells #[.int .u8 0, .int .u8 0, .int .u16 0, .int .u32 0, .int .u32 0, .slice none 0 0] 27 (0, 0)) by rw [← hPB]; exact hp2)
  have HB2 := hide hb2
  have hsh : IntKind.u32.wrap ((id : Int) * 65536) = ((id * 65536 : Nat) : Int) := by rw [IntKind.wrap_u32]; omega
  have hcv : IntKind.u32.wrap (id : Int) = (id : Int) := by rw [IntKind.wrap_u32]; omega
  have hwP : w.heap.size ≤ PB := by omega
  have hM : Calls Try.prog 26 #[.agg #[.int .u8 (kind : Int), .int .u8 0, .int .u32 ((id : Int) * 65536), .slice (some ⟨RB, 0, none⟩) 1 1]] V2 fun e w' => ∃ a c,
      e = .returned (.tuple #[.slice a (8 + 1) c, .int .i64 0]) ∧ w'.ownsRow V2.heap.size 5 1 (.slice a (8 + 1) c) (8 + 1) ((icmpB kind 0 (id * 65536) [120]).map (Value.int .u8)) ∧ Below V2.heap.size V2 w' := by
    have h := rwicmp_ok V2 kind 0 (id * 65536) (some ⟨RB, 0, none⟩) [120] 1 1 (row_one HR.out) (fun h => by cases h) rfl (by simp) (by omega) hk (by omega) (by omega)
    rw [show ((id * 65536 : Nat) : Int) = (id : Int) * 65536 by omega] at h
    exact h
  have HM := hide hM
  clear hM
  have HE := hide (And.intro hV1 (And.intro hV2 (And.intro hPB (And.intro hRB hz1))))
  clear hV1 hV2 hz1 hb1 hb12 hb2 hp1 hp2 hr2 hPB hRB
  have kc := fun (W : World) (C : Array Value) (n c : Nat) => Lib.run_convert_bytes_const (P := Try.prog) W 25 5 C n c Try.underlying25 Try.underlying5
  go_enter Try.func28, Try.ntmps28
  go_upto_region 1 with (fail)
  try rw [HE.out.1]
  try rw [HE.out.2.2.1]
  go_wp2_with fail
  rw [HE.out.2.1, HE.out.2.2.2.2, HE.out.2.2.2.1]
  clear HE kc hsh hcv
  refine HM.out.mono ?_
  rintro e w4 ⟨a, c, rfl, o, b⟩
  have HO := hide o
  have HBB := hide (HB2.out.trans (b.mono HB2.out.size))
  have HP4 := hide (below_block b HP.out (Nat.le_refl _))
  have hlt := lt_of_block HP.out
  clear o b HP HR HM HB2
  go_wp2_with ((refine st_part (o := ⟨none, _, _, _, _, _⟩) 27 (.tmp 8) (.tmp 25) rfl (by rfl) PB 0 rfl #[.int .u8 0, .int .u8 0, .int .u16 0, .int .u32 0, .int .u32 0, .slice none 0 0] 27 #[.int .u8 9, .int .u8 1, .int .u16 0, .int .u32 (src : Int), .int .u32 (dst : Int), .slice a 9 c] rfl HP4.out rfl (by kernel_rfl) (by kernel_rfl) HBB.out hwP ?_; rintro w9 w9h w9b w9o w9s; try simp only [Act.put, List.setIfInBounds_toArray, List.set_cons_zero, List.set_cons_succ]))
  rw [upd_whole (by rfl)] at w9h
  exact bodyPost_ret (v := .agg #[.int .u8 9, .int .u8 1, .int .u16 0, .int .u32 (src : Int), .int .u32 (dst : Int), .slice a 9 c]) (results_cell1 Try.results28 _ w9 PB _ _ _ _ rfl w9h Try.underlying27 rfl (by kernel_rfl)) rfl ⟨a, c, rfl, Lies.of_owns (owns_put HO.out (gb_part HBB.out w9b w9o w9s) hlt), w9b⟩
end Go.Proofs.Ytgggcapgaikbeaa

/- An error's packet that tells of another: the laws' own helper. -/
namespace Go.Proofs.Ytgggcapgaikbeaa
open Go.RowKit
set_option linter.unusedVariables false
set_option linter.unusedSimpArgs false
set_option maxRecDepth 100000
theorem Lies.cut {w : World} {a : Option Addr} {xs : List Int} {n cap : Nat} (h : Lies w a xs n cap) (hl : xs.length = n) (m : Nat) (hm : m ≤ n) : Lies w a (xs.take m) m cap := by
  refine ⟨?_, h.no, Nat.le_trans hm h.le, h.max⟩
  intro hne
  obtain ⟨L, o, e, hlt, hc⟩ := h.row (fun e => hne (by rw [e]; exact List.take_nil))
  refine ⟨L, o, e, hlt, fun i hi => ?_⟩
  simp only [List.length_take] at hi
  have h1 := hc i (by omega)
  rw [List.getElem?_take_of_lt (by omega)]
  exact h1
set_option maxHeartbeats 1600000 in
theorem tells_any (w : World) (src dst tt P id s d : Nat) (da : Option Addr) (xs : List Int) (n dc m M : Nat) (hLx : Lies w da xs n dc) (hl : xs.length = n) (hb : ∀ x ∈ xs, 0 ≤ x ∧ x ≤ 255) (h1 : n ≤ 1480) (hm : m ≤ 1472) (hM : M = min (20 + n) m) (ht : tt ≤ 255) (hP : P ≤ 255) (hid : id ≤ 65535) (hs : s ≤ 4294967295) (hd : d ≤ 4294967295) :
    Calls Try.prog 16 #[.int .u32 (src : Int), .int .u32 (dst : Int), .agg #[.int .u8 (tt : Int), .int .u8 (P : Int), .int .u16 (id : Int), .int .u32 (s : Int), .int .u32 (d : Int), .slice da n dc], .int .i64 (m : Int)] w fun e w' => ∃ a c,
      e = .returned (.agg #[.int .u8 9, .int .u8 1, .int .u16 0, .int .u32 (src : Int), .int .u32 (dst : Int), .slice a (8 + M) c]) ∧ Lies w' a (icmpB 3 1 0 ((ipG tt P id s d xs).take M)) (8 + M) c ∧ Below w.heap.size w w' := by
  obtain ⟨V1, hV1⟩ : ∃ V, w.alloc (.cells #[.int .u8 (tt : Int), .int .u8 (P : Int), .int .u16 (id : Int), .int .u32 (s : Int), .int .u32 (d : Int), .slice da n dc] 27) = V := ⟨_, rfl⟩
  obtain ⟨V2, hV2⟩ : ∃ V, V1.alloc (.cells #[.int .u8 0, .int .u8 0, .int .u16 0, .int .u32 0, .int .u32 0, .slice none 0 0] 27) = V := ⟨_, rfl⟩
  have hz1 : V1.heap.size = w.heap.size + 1 := by rw [← hV1]; simp
  have hb1 : Below w.heap.size w V1 := by rw [← hV1]; exact (Below.refl _ _).alloc (Nat.le_refl _) _
  have hb12 : Below V1.heap.size V1 V2 := by rw [← hV2]; exact (Below.refl _ _).alloc (Nat.le_refl _) _
  have hb2 := hb1.trans (hb12.mono hb1.size)
  have hp1 : V1.heap[w.heap.size]? = some (.cells #[.int .u8 (tt : Int), .int .u8 (P : Int), .int .u16 (id : Int), .int .u32 (s : Int), .int .u32 (d : Int), .slice da n dc] 27 (0, 0)) := by rw [← hV1]; exact heap_alloc_new _ _
  have hp2 := below_block hb12 hp1 (Nat.le_refl _)
  have hr2 : V2.heap[w.heap.size + 1]? = some (.cells #[.int .u8 0, .int .u8 0, .int .u16 0, .int .u32 0, .int .u32 0, .slice none 0 0] 27 (0, 0)) := by rw [← hV2, ← hz1]; exact heap_alloc_new _ _
  have HL2 := hide (hLx.below hb2 (Nat.le_refl _))
  obtain ⟨BX, hBX⟩ : ∃ B, w.heap.size = B := ⟨_, rfl⟩
  obtain ⟨PB, hPB⟩ : ∃ B, w.heap.size + 1 = B := ⟨_, rfl⟩
  have HX := hide (show V2.heap[BX]? = some (.cells #[.int .u8 (tt : Int), .int .u8 (P : Int), .int .u16 (id : Int), .int .u32 (s : Int), .int .u32 (d : Int), .slice da n dc] 27 (0, 0)) by rw [← hBX]; exact hp2)
  have HP := hide (show V2.heap[PB]? = some (.cells #[.int .u8 0, .int .u8 0, .int .u16 0, .int .u32 0, .int .u32 0, .slice none 0 0] 27 (0, 0)) by rw [← hPB]; exact hr2)
  have HB2 := hide hb2
  have hwP : w.heap.size ≤ PB := by omega
  have HW := hide (fun (a : Option Addr) => rwip_ok V2 tt P id s d da xs n dc HL2.out.row HL2.out.no hl h1 ht hP hid hs hd)
  have hGL := ipG_len tt P id s d xs
  rw [hl] at hGL
  have HGL := hide hGL
  have HGR := hide (show ∀ x ∈ ipG tt P id s d xs, 0 ≤ x ∧ x ≤ 255 by
    intro x hx
    unfold ipG at hx
    rcases List.mem_append.1 hx with h | h
    · exact ipH_rng _ _ _ _ _ _ _ ht hP x h
    · exact hb x h)
  have HE := hide (And.intro hV1 (And.intro hV2 (And.intro hBX (And.intro hPB hz1))))
  clear hV1 hV2 hz1 hb1 hb12 hb2 hp1 hp2 hr2 hBX hPB hLx hb hGL
  go_enter Try.func16, Try.ntmps16
  go_upto_region 1 with (fail)
  rw [HE.out.1, HE.out.2.1]
  try rw [HE.out.2.2.2.2]
  try rw [HE.out.2.2.2.1]
  try rw [HE.out.2.2.1]
  clear HE
  go_wp2_with ((refine ld_whole (o := ⟨some 14, _, _, _, _, _⟩) 27 (.tmp 6) rfl (by rfl) BX rfl #[.int .u8 (tt : Int), .int .u8 (P : Int), .int .u16 (id : Int), .int .u32 (s : Int), .int .u32 (d : Int), .slice da n dc] 27 HX.out Try.underlying27 (by kernel_rfl) ?_; try simp only [Act.put, List.setIfInBounds_toArray, List.set_cons_zero, List.set_cons_succ]))
  refine (HW.out none).mono ?_
  rintro e w4 ⟨a4, c4, rfl, o, b⟩
  have HO := hide (Lies.of_owns o)
  have HBB := hide (HB2.out.trans (b.mono HB2.out.size))
  have HP4 := hide (below_block b HP.out (Nat.le_refl _))
  clear o b HP HX HW HL2 HB2
  have hc4 := HO.out.le
  have HIM := hide (fun (W : World) (a : Option Addr) (c : Nat) (hL : Lies W a ((ipG tt P id s d xs).take M) M c) => rwicmp_ok W 3 1 0 a ((ipG tt P id s d xs).take M) M c hL.row hL.no (by rw [List.length_take, HGL.out]; omega) (fun x hx => HGR.out x (List.mem_of_mem_take hx)) (by omega) (by omega) (by omega) (by omega))
  have HCUT := hide (HO.out.cut HGL.out M (by omega))
  have hwF : w.heap.size ≤ PB := hwP
  have hltP := lt_of_block HP4.out
  have hb24 := HBB.out.size
  have hfin : ∀ (a5 : Option Addr) (c5 : Nat) (w5 : World), w5.ownsRow w4.heap.size 5 1 (.slice a5 (8 + M) c5) (8 + M) ((icmpG 3 1 0 ((ipG tt P id s d xs).take M) (icmpK 3 1 0 ((ipG tt P id s d xs).take M)).toNat).map (Value.int .u8)) → Below w4.heap.size w4 w5 → Hid (w5.ownsRow w4.heap.size 5 1 (.slice a5 (8 + M) c5) (8 + M) ((icmpB 3 1 0 ((ipG tt P id s d xs).take M)).map (Value.int .u8))) ∧ Hid (Below w.heap.size w w5) ∧ Hid (w5.heap[PB]? = some (.cells #[.int .u8 0, .int .u8 0, .int .u16 0, .int .u32 0, .int .u32 0, .slice none 0 0] 27 (0, 0))) := fun a5 c5 w5 o b => ⟨hide o, hide (HBB.out.trans (b.mono HBB.out.size)), hide (below_block b HP4.out (Nat.le_refl _))⟩
  have HFIN := hide hfin
  clear hfin
  rcases Nat.lt_or_ge m (20 + n) with hmn | hmn
  · obtain rfl : M = m := by omega
    clear hM
    have q1 : (M : Int) < 20 + (n : Int) := by omega
    have q2 : (M : Int) ≤ 20 + (n : Int) := by omega
    have q3 : ¬ (20 + (n : Int) < (M : Int)) := by omega
    have q4 : ¬ (20 + (n : Int) ≤ (M : Int)) := by omega
    have q5 : (M : Int) ≤ (c4 : Int) := by omega
    go_wp2_with fail
    all_goals (try (exfalso; omega))
    refine (HIM.out w4 a4 c4 HCUT.out).mono ?_
    rintro e w5 ⟨a, c, rfl, o, b⟩
    obtain ⟨HO5, HB5, HP5⟩ := HFIN.out a c w5 o b
    clear o b HFIN HIM HCUT HBB HP4
    go_wp2_with ((refine st_part (o := ⟨none, _, _, _, _, _⟩) 27 (.tmp 8) (.tmp 32) rfl (by rfl) PB 0 rfl #[.int .u8 0, .int .u8 0, .int .u16 0, .int .u32 0, .int .u32 0, .slice none 0 0] 27 #[.int .u8 9, .int .u8 1, .int .u16 0, .int .u32 (src : Int), .int .u32 (dst : Int), .slice a (8 + M) c] rfl HP5.out rfl (by kernel_rfl) (by kernel_rfl) HB5.out hwP ?_; rintro w9 w9h w9b w9o w9s; try simp only [Act.put, List.setIfInBounds_toArray, List.set_cons_zero, List.set_cons_succ]))
    rw [upd_whole (by rfl)] at w9h
    exact bodyPost_ret (v := .agg #[.int .u8 9, .int .u8 1, .int .u16 0, .int .u32 (src : Int), .int .u32 (dst : Int), .slice a (8 + M) c]) (results_cell1 Try.results16 _ w9 PB _ _ _ _ rfl w9h Try.underlying27 rfl (by kernel_rfl)) rfl ⟨a, c, rfl, Lies.of_owns (owns_put HO5.out (gb_part HB5.out w9b w9o w9s) (by omega)), w9b⟩
  · obtain rfl : 20 + n = M := by omega
    clear hM
    have q1 : ¬ ((m : Int) < 20 + (n : Int)) := by omega
    have q2 : 20 + (n : Int) ≤ (m : Int) := by omega
    have q5 : 20 + (n : Int) ≤ (c4 : Int) := by omega
    go_wp2_with fail
    all_goals (try (exfalso; omega))
    refine (HIM.out w4 a4 c4 HCUT.out).mono ?_
    rintro e w5 ⟨a, c, rfl, o, b⟩
    obtain ⟨HO5, HB5, HP5⟩ := HFIN.out a c w5 o b
    clear o b HFIN HIM HCUT HBB HP4
    go_wp2_with ((refine st_part (o := ⟨none, _, _, _, _, _⟩) 27 (.tmp 8) (.tmp 32) rfl (by rfl) PB 0 rfl #[.int .u8 0, .int .u8 0, .int .u16 0, .int .u32 0, .int .u32 0, .slice none 0 0] 27 #[.int .u8 9, .int .u8 1, .int .u16 0, .int .u32 (src : Int), .int .u32 (dst : Int), .slice a (8 + (20 + n)) c] rfl HP5.out rfl (by kernel_rfl) (by kernel_rfl) HB5.out hwP ?_; rintro w9 w9h w9b w9o w9s; try simp only [Act.put, List.setIfInBounds_toArray, List.set_cons_zero, List.set_cons_succ]))
    rw [upd_whole (by rfl)] at w9h
    exact bodyPost_ret (v := .agg #[.int .u8 9, .int .u8 1, .int .u16 0, .int .u32 (src : Int), .int .u32 (dst : Int), .slice a (8 + (20 + n)) c]) (results_cell1 Try.results16 _ w9 PB _ _ _ _ rfl w9h Try.underlying27 rfl (by kernel_rfl)) rfl ⟨a, c, rfl, Lies.of_owns (owns_put HO5.out (gb_part HB5.out w9b w9o w9s) (by omega)), w9b⟩
end Go.Proofs.Ytgggcapgaikbeaa

/- The document's example of flow, in the laws' own words. -/
namespace Go.Proofs.Ytgggcapgaikbeaa
open Go.RowKit
set_option linter.unusedVariables false
set_option linter.unusedSimpArgs false
set_option maxRecDepth 100000
def spE : List Int := icmpB 8 0 (7 * 65536) [120]
def spT : List Int := icmpB 3 1 0 ((ipG 9 1 0 1 2 spE).take 28)
theorem spE_len : spE.length = 9 := by kernel_rfl
theorem spT_len : spT.length = 36 := by kernel_rfl
theorem spE_rng : ∀ x ∈ spE, 0 ≤ x ∧ x ≤ 255 := by decide +kernel
theorem spT_rng : ∀ x ∈ spT, 0 ≤ x ∧ x ≤ 255 := by decide +kernel
theorem spE_fl : ofFl 1 1 2 spE = ⟨1, 1, 2, 7, 0⟩ := by kernel_rfl
theorem spE_kind : ofKind 1 1 2 spE = 2 := by kernel_rfl
theorem spE_err : ofErr 1 1 2 spE = 0 := by kernel_rfl
theorem spT_fl : ofFl 1 3 1 spT = ⟨1, 2, 1, 0, 7⟩ := by kernel_rfl
theorem spT_kind : ofKind 1 3 1 spT = 3 := by kernel_rfl
theorem spT_err : ofErr 1 3 1 spT = 0 := by kernel_rfl
theorem spE_echo (w : World) : Calls Try.prog 28 #[.int .u32 1, .int .u32 2, .int .u8 8, .int .u16 7] w fun e w' => ∃ a c, e = .returned (.agg #[.int .u8 9, .int .u8 1, .int .u16 0, .int .u32 1, .int .u32 2, .slice a 9 c]) ∧ Lies w' a spE 9 c ∧ Below w.heap.size w w' := echo_any w 1 2 8 7 (by omega) (by omega)
theorem spE_of (w : World) (a : Option Addr) (c : Nat) (h : Lies w a spE 9 c) : Calls Try.prog 15 #[.agg #[.int .u8 9, .int .u8 1, .int .u16 0, .int .u32 1, .int .u32 2, .slice a 9 c]] w fun e w' => e = .returned (.tuple #[.agg #[.int .u8 1, .int .u32 1, .int .u32 2, .int .u16 7, .int .u16 0], .int .i64 2, .int .i64 0]) ∧ Below w.heap.size w w' := by
  have h1 := of_any w 9 0 1 1 2 a 9 c spE h spE_len spE_rng (by omega) (by omega)
  rw [spE_fl, spE_kind, spE_err] at h1
  exact h1
theorem spT_tells (w : World) (a : Option Addr) (c : Nat) (h : Lies w a spE 9 c) : Calls Try.prog 16 #[.int .u32 3, .int .u32 1, .agg #[.int .u8 9, .int .u8 1, .int .u16 0, .int .u32 1, .int .u32 2, .slice a 9 c], .int .i64 28] w fun e w' => ∃ a c, e = .returned (.agg #[.int .u8 9, .int .u8 1, .int .u16 0, .int .u32 3, .int .u32 1, .slice a 36 c]) ∧ Lies w' a spT 36 c ∧ Below w.heap.size w w' :=
  tells_any w 3 1 9 1 0 1 2 a spE 9 c 28 28 h spE_len spE_rng (by omega) (by omega) (by omega) (by omega) (by omega) (by omega) (by omega) (by omega)
theorem spT_of (w : World) (a : Option Addr) (c : Nat) (h : Lies w a spT 36 c) : Calls Try.prog 15 #[.agg #[.int .u8 9, .int .u8 1, .int .u16 0, .int .u32 3, .int .u32 1, .slice a 36 c]] w fun e w' => e = .returned (.tuple #[.agg #[.int .u8 1, .int .u32 2, .int .u32 1, .int .u16 0, .int .u16 7], .int .i64 3, .int .i64 0]) ∧ Below w.heap.size w w' := by
  have h1 := of_any w 9 0 1 3 1 a 36 c spT h spT_len spT_rng (by omega) (by omega)
  rw [spT_fl, spT_kind, spT_err] at h1
  exact h1
set_option maxHeartbeats 1600000 in
theorem speaks_any (w : World) : Calls Try.prog 10 #[] w fun e w' => e = .returned (.bool true) ∧ Below w.heap.size w w' := by
  go_enter Try.func10, Try.ntmps10
  go_wp2_with fail
  refine (spE_echo _).mono ?_
  rintro e w1 ⟨a, c, rfl, l, b⟩
  have HL := hide l
  have HB := hide b
  clear l b
  obtain ⟨w2, hwn, w2b, HN1⟩ : ∃ W, w1.alloc (.cells #[.int .u8 9, .int .u8 1, .int .u16 0, .int .u32 1, .int .u32 2, .slice a 9 c] 27) = W ∧ Below w1.heap.size w1 W ∧ Hid (W.heap[w1.heap.size]? = some (.cells #[.int .u8 9, .int .u8 1, .int .u16 0, .int .u32 1, .int .u32 2, .slice a 9 c] 27 (0, 0))) := ⟨_, rfl, (Below.refl w1.heap.size w1).alloc (Nat.le_refl _) _, hide (heap_alloc_new w1 _)⟩
  obtain ⟨B1, hB1⟩ : ∃ B, w1.heap.size = B := ⟨_, rfl⟩
  rw [hB1] at HN1 w2b
  have HW := hide (And.intro hwn hB1)
  have HE1 := hide hB1
  clear hwn hB1
  go_upto_region 2 with (fail)
  rw [HW.out.1, HW.out.2]
  have w2h := HN1.out
  have HP2 := hide w2h
  have HB2 := hide (HB.out.trans (w2b.mono (by rw [← HE1.out]; exact HB.out.size)))
  have HL2 := hide (HL.out.below w2b (Nat.le_of_eq HE1.out))
  clear w2h w2b HW HN1 HE1 HL HB
  go_wp2_with ((refine ld_whole (o := ⟨some 10, _, _, _, _, _⟩) 27 (.tmp 1) rfl (by rfl) B1 rfl #[.int .u8 9, .int .u8 1, .int .u16 0, .int .u32 1, .int .u32 2, .slice a 9 c] 27 HP2.out Try.underlying27 (by kernel_rfl) ?_; try simp only [Act.put, List.setIfInBounds_toArray, List.set_cons_zero, List.set_cons_succ]))
  refine (spE_of _ a c HL2.out).mono ?_
  rintro e w3 ⟨rfl, b3⟩
  have HB3 := hide (HB2.out.trans (b3.mono HB2.out.size))
  have HP3 := hide (below_block b3 HP2.out (Nat.le_refl _))
  have HL3 := hide (HL2.out.below b3 (Nat.le_refl _))
  clear b3 HB2 HP2 HL2
  obtain ⟨w4, hwn, w4b, HN1⟩ : ∃ W, w3.alloc (.cells #[.int .u8 1, .int .u32 1, .int .u32 2, .int .u16 7, .int .u16 0] 29) = W ∧ Below w3.heap.size w3 W ∧ Hid (W.heap[w3.heap.size]? = some (.cells #[.int .u8 1, .int .u32 1, .int .u32 2, .int .u16 7, .int .u16 0] 29 (0, 0))) := ⟨_, rfl, (Below.refl w3.heap.size w3).alloc (Nat.le_refl _) _, hide (heap_alloc_new w3 _)⟩
  obtain ⟨B2, hB1⟩ : ∃ B, w3.heap.size = B := ⟨_, rfl⟩
  rw [hB1] at HN1 w4b
  have HW := hide (And.intro hwn hB1)
  have HE1 := hide hB1
  clear hwn hB1
  go_upto_region 3 with (fail)
  rw [HW.out.1, HW.out.2]
  have w4h := HN1.out
  have HQ4 := hide w4h
  have HB4 := hide (HB3.out.trans (w4b.mono (by rw [← HE1.out]; exact HB3.out.size)))
  have HP4 := hide (below_block w4b HP3.out (Nat.le_of_eq HE1.out))
  have HL4 := hide (HL3.out.below w4b (Nat.le_of_eq HE1.out))
  clear w4h w4b HW HN1 HE1 HL3 HB3 HP3
  go_wp2_with ((refine ld_whole (o := ⟨some 16, _, _, _, _, _⟩) 27 (.tmp 1) rfl (by rfl) B1 rfl #[.int .u8 9, .int .u8 1, .int .u16 0, .int .u32 1, .int .u32 2, .slice a 9 c] 27 HP4.out Try.underlying27 (by kernel_rfl) ?_; try simp only [Act.put, List.setIfInBounds_toArray, List.set_cons_zero, List.set_cons_succ]))
  refine (spT_tells _ a c HL4.out).mono ?_
  rintro e w5 ⟨a5, c5, rfl, l5, b5⟩
  have HB5 := hide (HB4.out.trans (b5.mono HB4.out.size))
  have HQ5 := hide (below_block b5 HQ4.out (Nat.le_refl _))
  have HL5 := hide l5
  clear b5 l5 HB4 HP4 HQ4 HL4
  go_wp2_with fail
  refine (spT_of _ a5 c5 HL5.out).mono ?_
  rintro e w6 ⟨rfl, b6⟩
  have HB6 := hide (HB5.out.trans (b6.mono HB5.out.size))
  have HQ6 := hide (below_block b6 HQ5.out (Nat.le_refl _))
  clear b6 HB5 HQ5 HL5
  obtain ⟨w7, hwn, w7b, HN1⟩ : ∃ W, w6.alloc (.cells #[.int .u8 1, .int .u32 2, .int .u32 1, .int .u16 0, .int .u16 7] 29) = W ∧ Below w6.heap.size w6 W ∧ Hid (W.heap[w6.heap.size]? = some (.cells #[.int .u8 1, .int .u32 2, .int .u32 1, .int .u16 0, .int .u16 7] 29 (0, 0))) := ⟨_, rfl, (Below.refl w6.heap.size w6).alloc (Nat.le_refl _) _, hide (heap_alloc_new w6 _)⟩
  obtain ⟨B3, hB1⟩ : ∃ B, w6.heap.size = B := ⟨_, rfl⟩
  rw [hB1] at HN1 w7b
  have HW := hide (And.intro hwn hB1)
  have HE1 := hide hB1
  clear hwn hB1
  go_upto_region 4 with (fail)
  rw [HW.out.1, HW.out.2]
  have w7h := HN1.out
  have HR7 := hide w7h
  have HB7 := hide (HB6.out.trans (w7b.mono (by rw [← HE1.out]; exact HB6.out.size)))
  have HQ7 := hide (below_block w7b HQ6.out (Nat.le_of_eq HE1.out))
  clear w7h w7b HW HN1 HE1 HB6 HQ6
  go_wp2_with (first | (refine ld_whole (o := ⟨some 37, _, _, _, _, _⟩) 29 (.tmp 2) rfl (by rfl) B2 rfl #[.int .u8 1, .int .u32 1, .int .u32 2, .int .u16 7, .int .u16 0] 29 HQ7.out Try.underlying29 (by kernel_rfl) ?_; try simp only [Act.put, List.setIfInBounds_toArray, List.set_cons_zero, List.set_cons_succ]) | (refine ld_whole (o := ⟨some 42, _, _, _, _, _⟩) 29 (.tmp 5) rfl (by rfl) B3 rfl #[.int .u8 1, .int .u32 2, .int .u32 1, .int .u16 0, .int .u16 7] 29 HR7.out Try.underlying29 (by kernel_rfl) ?_; try simp only [Act.put, List.setIfInBounds_toArray, List.set_cons_zero, List.set_cons_succ]))
  go_ret
  exact ⟨rfl, HB7.out⟩
end Go.Proofs.Ytgggcapgaikbeaa

/- icmp: of which packets an error may be told. -/
namespace Go.Proofs.Ytgggcapgaikbeaa
open Go.RowKit
set_option linter.unusedVariables false
set_option linter.unusedSimpArgs false
set_option maxRecDepth 100000
def upN (a : Nat) : Nat := a / 268435456
def mayTo (s : Nat) : Bool := decide (s ≠ 0) && decide (upN s ≠ 14) && decide (upN s ≠ 15)
def isOneA (d : Nat) : Bool := decide (d ≠ 4294967295) && decide (upN d ≠ 14)
def mayOf (P : Nat) (xs : List Int) : Bool := decide (P ≠ 1) || (decide (msgCode xs = 0) && (decide ((msgOf xs).p = 0) || decide ((msgOf xs).p = 8)))
def icMay (P s d : Nat) (xs : List Int) : Bool := decide (xs.length ≤ 1480) && mayOf P xs && mayTo s && isOneA d
theorem ne_dec (a k : Nat) : ((a : Int) != (k : Int)) = decide (a ≠ k) := by by_cases h : a = k <;> simp [h, bne] <;> omega
theorem eq_dec (a k : Nat) : ((a : Int) == (k : Int)) = decide (a = k) := by by_cases h : a = k <;> simp [h] <;> omega
theorem upper_any (a : Nat) (w : World) (h : a ≤ 4294967295) : Calls Try.prog 76 #[.int .u32 (a : Int)] w fun e w' => e = .returned (.int .u32 (upN a : Nat)) ∧ w' = w := by
  have h1 : (a : Int) / 268435456 = ((upN a : Nat) : Int) := by unfold upN; omega
  go_enter Try.func76, Try.ntmps76
  go_wp2_with fail
  go_ret
  exact ⟨rfl, rfl⟩
theorem mayTo_any (s : Nat) (w : World) (h : s ≤ 4294967295) : Calls Try.prog 46 #[.int .u32 (s : Int)] w fun e w' => e = .returned (.bool (mayTo s)) ∧ w' = w := by
  obtain ⟨x, hx⟩ : ∃ x, decide (s ≠ 0) = x := ⟨_, rfl⟩
  obtain ⟨y, hy⟩ : ∃ x, decide (upN s ≠ 14) = x := ⟨_, rfl⟩
  obtain ⟨z, hz⟩ : ∃ x, decide (upN s ≠ 15) = x := ⟨_, rfl⟩
  have hx' : ((s : Int) != 0) = x := (ne_dec s 0).trans hx
  have hy' : (((upN s : Nat) : Int) != 14) = y := (ne_dec _ 14).trans hy
  have hz' : (((upN s : Nat) : Int) != 15) = z := (ne_dec _ 15).trans hz
  unfold mayTo
  rw [hx, hy, hz]
  have HU := hide (upper_any s w h)
  clear hx hy hz
  go_enter Try.func46, Try.ntmps46
  go_wp2_with (go_at_call 76; refine HU.out.mono ?_; rintro e w1 ⟨rfl, rfl⟩)
  all_goals
    go_ret
    exact ⟨by simp [*], rfl⟩
theorem isOne_any (s : Nat) (w : World) (h : s ≤ 4294967295) : Calls Try.prog 47 #[.int .u32 (s : Int)] w fun e w' => e = .returned (.bool (isOneA s)) ∧ w' = w := by
  obtain ⟨x, hx⟩ : ∃ x, decide (s ≠ 4294967295) = x := ⟨_, rfl⟩
  obtain ⟨y, hy⟩ : ∃ x, decide (upN s ≠ 14) = x := ⟨_, rfl⟩
  have hx' : ((s : Int) != 4294967295) = x := (ne_dec s 4294967295).trans hx
  have hy' : (((upN s : Nat) : Int) != 14) = y := (ne_dec _ 14).trans hy
  unfold isOneA
  rw [hx, hy]
  have HU := hide (upper_any s w h)
  clear hx hy
  go_enter Try.func47, Try.ntmps47
  go_wp2_with (go_at_call 76; refine HU.out.mono ?_; rintro e w1 ⟨rfl, rfl⟩)
  all_goals
    go_ret
    exact ⟨by simp [*], rfl⟩
set_option maxHeartbeats 1600000 in
theorem mayOf_any (w : World) (tt P id s d : Nat) (da : Option Addr) (xs : List Int) (n dc : Nat) (hLx : Lies w da xs n dc) (hl : xs.length = n) (hb : ∀ x ∈ xs, 0 ≤ x ∧ x ≤ 255) :
    Calls Try.prog 45 #[.agg #[.int .u8 (tt : Int), .int .u8 (P : Int), .int .u16 (id : Int), .int .u32 (s : Int), .int .u32 (d : Int), .slice da n dc]] w fun e w' => e = .returned (.bool (mayOf P xs)) ∧ Below w.heap.size w w' := by
  have HRI := hide (fun (W : World) (hL : Lies W da xs n dc) => (readICMP_both xs n hl hb).1 W da dc hL)
  obtain ⟨p1, hp1⟩ : ∃ x, decide (P ≠ 1) = x := ⟨_, rfl⟩
  have hp1' : ((P : Int) != 1) = p1 := (ne_dec P 1).trans hp1
  obtain ⟨c0, hc0⟩ : ∃ x, decide (msgCode xs = 0) = x := ⟨_, rfl⟩
  have hc0' : (((msgCode xs : Nat) : Int) == 0) = c0 := (eq_dec _ 0).trans hc0
  obtain ⟨t0, ht0⟩ : ∃ x, decide ((msgOf xs).p = 0) = x := ⟨_, rfl⟩
  have ht0' : ((((msgOf xs).p : Nat) : Int) == 0) = t0 := (eq_dec _ 0).trans ht0
  obtain ⟨t8, ht8⟩ : ∃ x, decide ((msgOf xs).p = 8) = x := ⟨_, rfl⟩
  have ht8' : ((((msgOf xs).p : Nat) : Int) == 8) = t8 := (eq_dec _ 8).trans ht8
  unfold mayOf
  rw [hp1, hc0, ht0, ht8]
  clear hp1 hc0 ht0 ht8
  unfold MsgAns at HRI
  generalize msgCode xs = mc at *
  generalize msgOf xs = mo at *
  obtain ⟨mp, mq, mr, mds⟩ := mo
  dsimp only at *
  obtain ⟨mp', hmp⟩ : ∃ x, (mp : Int) = x := ⟨_, rfl⟩
  obtain ⟨mc', hmc⟩ : ∃ x, (mc : Int) = x := ⟨_, rfl⟩
  rw [hmp] at HRI ht0' ht8'
  rw [hmc] at HRI hc0'
  clear hmp hmc
  obtain ⟨V1, hV1⟩ : ∃ V, w.alloc (.cells #[.int .u8 (tt : Int), .int .u8 (P : Int), .int .u16 (id : Int), .int .u32 (s : Int), .int .u32 (d : Int), .slice da n dc] 27) = V := ⟨_, rfl⟩
  have hz1 : V1.heap.size = w.heap.size + 1 := by rw [← hV1]; simp
  have hb1 : Below w.heap.size w V1 := by rw [← hV1]; exact (Below.refl _ _).alloc (Nat.le_refl _) _
  have hp1_1 : V1.heap[w.heap.size]? = some (.cells #[.int .u8 (tt : Int), .int .u8 (P : Int), .int .u16 (id : Int), .int .u32 (s : Int), .int .u32 (d : Int), .slice da n dc] 27 (0, 0)) := by rw [← hV1]; exact heap_alloc_new _ _
  obtain ⟨BX, hBX⟩ : ∃ B, w.heap.size = B := ⟨_, rfl⟩
  have hw0 : w.heap.size ≤ BX := by omega
  have HX := hide (show V1.heap[BX]? = some (.cells #[.int .u8 (tt : Int), .int .u8 (P : Int), .int .u16 (id : Int), .int .u32 (s : Int), .int .u32 (d : Int), .slice da n dc] 27 (0, 0)) by rw [← hBX]; exact hp1_1)
  have NX : Hid (w.heap.size ≤ BX) := hide hw0
  have RP := hide (hLx.below hb1 (Nat.le_refl _))
  have HB := hide hb1
  have HE := hide (And.intro (And.intro trivial trivial) (And.intro hV1 (And.intro hBX (trivial))))
  clear hw0 hV1 hz1 hb1  hp1_1 hBX hLx
  go_enter Try.func45, Try.ntmps45
  go_upto_region 1 with (fail)
  rw [HE.out.2.1]
  try rw [HE.out.2.2.1]
  clear HE
  have qX_1 : V1.cell? ⟨BX, 1, none⟩ = some (.int .u8 (P : Int)) := cell_at HX.out 1 rfl
  have qX_5 : V1.cell? ⟨BX, 5, none⟩ = some (.slice da n dc) := cell_at HX.out 5 rfl
  go_wp2_with fail
  · go_ret
    exact ⟨by simp [*], HB.out⟩
  · skip
    refine (HRI.out _ RP.out).mono ?_
    rintro e w1 ⟨a1, c1, rfl, o, b⟩
    clear qX_1 qX_5
    replace HX := hide (below_block b HX.out (Nat.le_refl _))
    replace RP := hide (RP.out.below b (Nat.le_refl _))
    replace HB := hide (HB.out.trans (b.mono HB.out.size))
    clear b o
    clear RP
    obtain ⟨w2, hwn, wb, HN1⟩ : ∃ W, w1.alloc (.cells #[.int .u8 mp', .int .u8 (mq : Int), .int .u32 (mr : Int), .slice a1 mds.length c1] 55) = W ∧ Below w1.heap.size w1 W ∧ Hid (W.heap[w1.heap.size]? = some (.cells #[.int .u8 mp', .int .u8 (mq : Int), .int .u32 (mr : Int), .slice a1 mds.length c1] 55 (0, 0))) := ⟨_, rfl, (Below.refl w1.heap.size w1).alloc (Nat.le_refl _) _, hide (heap_alloc_new w1 _)⟩
    obtain ⟨BM, hBn⟩ : ∃ B, w1.heap.size = B := ⟨_, rfl⟩
    rw [hBn] at HN1
    have HW := hide (And.intro hwn hBn)
    have HBo := HB
    clear hwn hBn
    replace HX := hide (below_block wb HX.out (Nat.le_refl _))
    replace HB := hide (HB.out.trans (wb.mono HB.out.size))
    have HM := HN1
    have NM := hide (show w.heap.size ≤ BM by rw [← HW.out.2]; exact HBo.out.size)
    clear wb HN1 HBo
    go_upto_region 4 with (fail)
    rw [HW.out.1]
    try rw [HW.out.2]
    clear HW
    have qM_0 : w2.cell? ⟨BM, 0, none⟩ = some (.int .u8 mp') := cell_at HM.out 0 rfl
    go_wp2_with fail
    all_goals
      go_ret
      exact ⟨by simp [*], HB.out⟩
set_option maxHeartbeats 1600000 in
theorem may_any (w : World) (tt P id s d : Nat) (da : Option Addr) (xs : List Int) (n dc : Nat) (hLx : Lies w da xs n dc) (hl : xs.length = n) (hb : ∀ x ∈ xs, 0 ≤ x ∧ x ≤ 255) (ht : tt ≤ 255) (hP : P ≤ 255) (hid : id ≤ 65535) (hs : s ≤ 4294967295) (hd : d ≤ 4294967295) :
    Calls Try.prog 24 #[.agg #[.int .u8 (tt : Int), .int .u8 (P : Int), .int .u16 (id : Int), .int .u32 (s : Int), .int .u32 (d : Int), .slice da n dc]] w fun e w' => e = .returned (.bool (icMay P s d xs)) ∧ Below w.heap.size w w' := by
  have HMO := hide (fun (W : World) (hL : Lies W da xs n dc) => mayOf_any W tt P id s d da xs n dc hL hl hb)
  have HMT := hide (fun (W : World) => mayTo_any s W hs)
  have HIO := hide (fun (W : World) => isOne_any d W hd)
  have HWO := hide (fun (W : World) (hL : Lies W da xs n dc) (hn : n ≤ 1480) => wip_ok W tt P id s d da xs n dc hL.row hL.no hl hn ht hP hid hs hd)
  obtain ⟨x1, hx1⟩ : ∃ x, mayOf P xs = x := ⟨_, rfl⟩
  obtain ⟨x2, hx2⟩ : ∃ x, mayTo s = x := ⟨_, rfl⟩
  obtain ⟨x3, hx3⟩ : ∃ x, isOneA d = x := ⟨_, rfl⟩
  unfold icMay
  rw [hl, hx1, hx2, hx3]
  rw [hx1] at HMO
  rw [hx2] at HMT
  rw [hx3] at HIO
  clear hx1 hx2 hx3
  rcases Nat.lt_or_ge 1480 n with hn | hn
  · skip
    have hdn : decide (n ≤ 1480) = false := by simp; omega
    rw [hdn]
    clear hdn
    obtain ⟨V1, hV1⟩ : ∃ V, w.alloc (.cells #[.int .u8 (tt : Int), .int .u8 (P : Int), .int .u16 (id : Int), .int .u32 (s : Int), .int .u32 (d : Int), .slice da n dc] 27) = V := ⟨_, rfl⟩
    have hz1 : V1.heap.size = w.heap.size + 1 := by rw [← hV1]; simp
    have hb1 : Below w.heap.size w V1 := by rw [← hV1]; exact (Below.refl _ _).alloc (Nat.le_refl _) _
    have hp1_1 : V1.heap[w.heap.size]? = some (.cells #[.int .u8 (tt : Int), .int .u8 (P : Int), .int .u16 (id : Int), .int .u32 (s : Int), .int .u32 (d : Int), .slice da n dc] 27 (0, 0)) := by rw [← hV1]; exact heap_alloc_new _ _
    obtain ⟨BX, hBX⟩ : ∃ B, w.heap.size = B := ⟨_, rfl⟩
    have hw0 : w.heap.size ≤ BX := by omega
    have HX := hide (show V1.heap[BX]? = some (.cells #[.int .u8 (tt : Int), .int .u8 (P : Int), .int .u16 (id : Int), .int .u32 (s : Int), .int .u32 (d : Int), .slice da n dc] 27 (0, 0)) by rw [← hBX]; exact hp1_1)
    have NX : Hid (w.heap.size ≤ BX) := hide hw0
    have RP := hide (hLx.below hb1 (Nat.le_refl _))
    have HB := hide hb1
    have HE := hide (And.intro (And.intro trivial trivial) (And.intro hV1 (And.intro hBX (trivial))))
    clear hw0 hV1 hz1 hb1  hp1_1 hBX hLx
    go_enter Try.func24, Try.ntmps24
    go_upto_region 1 with (fail)
    rw [HE.out.2.1]
    try rw [HE.out.2.2.1]
    clear HE
    go_wp2_with ((refine ld_whole (o := ⟨some 6, _, _, _, _, _⟩) 27 (.tmp 1) rfl (by rfl) BX rfl #[.int .u8 (tt : Int), .int .u8 (P : Int), .int .u16 (id : Int), .int .u32 (s : Int), .int .u32 (d : Int), .slice da n dc] 27 HX.out Try.underlying27 (by kernel_rfl) ?_; try simp only [Act.put, List.setIfInBounds_toArray, List.set_cons_zero, List.set_cons_succ]))
    refine (wip_long _ _ _ _ _ _ _ _ _ hn).mono ?_
    rintro e w1 ⟨rfl, b⟩
    replace HX := hide (below_block b HX.out (Nat.le_refl _))
    replace RP := hide (RP.out.below b (Nat.le_refl _))
    replace HB := hide (HB.out.trans (b.mono HB.out.size))
    clear b 
    go_wp2_with fail
    go_ret
    exact ⟨by simp, HB.out⟩
  · skip
    have hdn : decide (n ≤ 1480) = true := by simp; omega
    rw [hdn]
    clear hdn
    obtain ⟨V1, hV1⟩ : ∃ V, w.alloc (.cells #[.int .u8 (tt : Int), .int .u8 (P : Int), .int .u16 (id : Int), .int .u32 (s : Int), .int .u32 (d : Int), .slice da n dc] 27) = V := ⟨_, rfl⟩
    have hz1 : V1.heap.size = w.heap.size + 1 := by rw [← hV1]; simp
    have hb1 : Below w.heap.size w V1 := by rw [← hV1]; exact (Below.refl _ _).alloc (Nat.le_refl _) _
    have hp1_1 : V1.heap[w.heap.size]? = some (.cells #[.int .u8 (tt : Int), .int .u8 (P : Int), .int .u16 (id : Int), .int .u32 (s : Int), .int .u32 (d : Int), .slice da n dc] 27 (0, 0)) := by rw [← hV1]; exact heap_alloc_new _ _
    obtain ⟨BX, hBX⟩ : ∃ B, w.heap.size = B := ⟨_, rfl⟩
    have hw0 : w.heap.size ≤ BX := by omega
    have HX := hide (show V1.heap[BX]? = some (.cells #[.int .u8 (tt : Int), .int .u8 (P : Int), .int .u16 (id : Int), .int .u32 (s : Int), .int .u32 (d : Int), .slice da n dc] 27 (0, 0)) by rw [← hBX]; exact hp1_1)
    have NX : Hid (w.heap.size ≤ BX) := hide hw0
    have RP := hide (hLx.below hb1 (Nat.le_refl _))
    have HB := hide hb1
    have HE := hide (And.intro (And.intro trivial trivial) (And.intro hV1 (And.intro hBX (trivial))))
    clear hw0 hV1 hz1 hb1  hp1_1 hBX hLx
    go_enter Try.func24, Try.ntmps24
    go_upto_region 1 with (fail)
    rw [HE.out.2.1]
    try rw [HE.out.2.2.1]
    clear HE
    go_wp2_with ((refine ld_whole (o := ⟨some 6, _, _, _, _, _⟩) 27 (.tmp 1) rfl (by rfl) BX rfl #[.int .u8 (tt : Int), .int .u8 (P : Int), .int .u16 (id : Int), .int .u32 (s : Int), .int .u32 (d : Int), .slice da n dc] 27 HX.out Try.underlying27 (by kernel_rfl) ?_; try simp only [Act.put, List.setIfInBounds_toArray, List.set_cons_zero, List.set_cons_succ]))
    refine (HWO.out _ RP.out hn).mono ?_
    rintro e w1 ⟨a, c, rfl, o, b⟩
    replace HX := hide (below_block b HX.out (Nat.le_refl _))
    replace RP := hide (RP.out.below b (Nat.le_refl _))
    replace HB := hide (HB.out.trans (b.mono HB.out.size))
    clear b o
    go_wp2_with ((refine ld_whole (o := ⟨some 13, _, _, _, _, _⟩) 27 (.tmp 1) rfl (by rfl) BX rfl #[.int .u8 (tt : Int), .int .u8 (P : Int), .int .u16 (id : Int), .int .u32 (s : Int), .int .u32 (d : Int), .slice da n dc] 27 HX.out Try.underlying27 (by kernel_rfl) ?_; try simp only [Act.put, List.setIfInBounds_toArray, List.set_cons_zero, List.set_cons_succ]))
    refine (HMO.out _ RP.out).mono ?_
    rintro e w2 ⟨rfl, b⟩
    replace HX := hide (below_block b HX.out (Nat.le_refl _))
    replace RP := hide (RP.out.below b (Nat.le_refl _))
    replace HB := hide (HB.out.trans (b.mono HB.out.size))
    clear b 
    have qX_3 : w2.cell? ⟨BX, 3, none⟩ = some (.int .u32 (s : Int)) := cell_at HX.out 3 rfl
    have qX_4 : w2.cell? ⟨BX, 4, none⟩ = some (.int .u32 (d : Int)) := cell_at HX.out 4 rfl
    go_wp2_with (first | (go_at_call 46; refine (HMT.out _).mono ?_; rintro e w8 ⟨rfl, rfl⟩) | (go_at_call 47; refine (HIO.out _).mono ?_; rintro e w7 ⟨rfl, rfl⟩))
    all_goals
      go_ret
      exact ⟨by simp [*], HB.out⟩
end Go.Proofs.Ytgggcapgaikbeaa
