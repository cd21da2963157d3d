/- The law of flow's echoes. -/
import Derived.Test.YtbacodogklbiaaaFlEq
import Derived.Deep.RegionHeld3
namespace Go.Proofs.Ytbacodogklbiaaa
open Go.RowKit
set_option linter.unusedVariables false
set_option linter.unusedSimpArgs false
set_option maxRecDepth 100000
theorem q_of8 (w : World) (src dst id : Nat) (hid : id ≤ 65535) (hs : src ≤ 4294967295) (hd : dst ≤ 4294967295) (a : Option Addr) (c : Nat) (h : Lies w a (icmpB 8 0 (id * 65536) [120]) 9 c) : Calls Try.prog 11 #[.agg #[.int .u8 9, .int .u8 1, .int .u16 0, .int .u32 (src : Int), .int .u32 (dst : Int), .slice a 9 c]] w fun e w' => e = .returned (.tuple #[.agg #[.int .u8 1, .int .u32 (src : Int), .int .u32 (dst : Int), .int .u16 (id : Int), .int .u16 0], .int .i64 2, .int .i64 0]) ∧ Below w.heap.size w w' := by
  have h1 := of_any w 9 0 1 src dst a 9 c (icmpB 8 0 (id * 65536) [120]) h (icmpB_len ..) (icmpB_rng 8 0 _ _ (by omega) (by omega) (by simp)) (by omega) (by omega)
  obtain ⟨e1, e2, e3⟩ := echo_flow 8 src dst id hid (by omega)
  rw [e1, e2, e3] at h1
  exact h1
theorem q_of0 (w : World) (src dst id : Nat) (hid : id ≤ 65535) (hs : src ≤ 4294967295) (hd : dst ≤ 4294967295) (a : Option Addr) (c : Nat) (h : Lies w a (icmpB 0 0 (id * 65536) [120]) 9 c) : Calls Try.prog 11 #[.agg #[.int .u8 9, .int .u8 1, .int .u16 0, .int .u32 (dst : Int), .int .u32 (src : Int), .slice a 9 c]] w fun e w' => e = .returned (.tuple #[.agg #[.int .u8 1, .int .u32 (dst : Int), .int .u32 (src : Int), .int .u16 0, .int .u16 (id : Int)], .int .i64 2, .int .i64 0]) ∧ Below w.heap.size w w' := by
  have h1 := of_any w 9 0 1 dst src a 9 c (icmpB 0 0 (id * 65536) [120]) h (icmpB_len ..) (icmpB_rng 0 0 _ _ (by omega) (by omega) (by simp)) (by omega) (by omega)
  obtain ⟨e1, e2, e3⟩ := echo_flow 0 dst src id hid (by omega)
  rw [e1, e2, e3] at h1
  exact h1

theorem q_turn (w : World) (src dst id : Nat) : Calls Try.prog 13 #[.agg #[.int .u8 1, .int .u32 (src : Int), .int .u32 (dst : Int), .int .u16 (id : Int), .int .u16 0]] w fun e w' => e = .returned (.agg #[.int .u8 1, .int .u32 (dst : Int), .int .u32 (src : Int), .int .u16 0, .int .u16 (id : Int)]) ∧ Below w.heap.size w w' := turnP_any ⟨1, src, dst, id, 0⟩ w
set_option maxHeartbeats 1600000 in
theorem flowQueries_any (w : World) (src dst id : Nat) (hs : src ≤ 4294967295) (hd : dst ≤ 4294967295) (hid : id ≤ 65535) :
    Calls Try.prog 9 #[.int .u32 (src : Int), .int .u32 (dst : Int), .int .u16 (id : Int)] w fun e w' => e = .returned (.bool true) ∧ Below w.heap.size w w' := by
  go_enter Try.func9, Try.ntmps9
  go_wp2_with fail
  refine (speaks_any _).mono ?_
  rintro e w1 ⟨rfl, b1⟩
  have HB1 := hide b1
  clear b1
  go_wp2_with fail
  refine (echo_any w1 src dst 8 id (by omega) hid).mono ?_
  rintro e w2 ⟨a, c, rfl, l, b⟩
  have HL := hide l
  have HB2 := hide (HB1.out.trans (b.mono HB1.out.size))
  clear l b HB1
  go_wp2_with fail
  refine (q_of8 w2 src dst id hid hs hd a c HL.out).mono ?_
  rintro e w3 ⟨rfl, b⟩
  have HB3 := hide (HB2.out.trans (b.mono HB2.out.size))
  clear b HL HB2
  obtain ⟨w4, hwn, w4b, HN1⟩ : ∃ W, w3.alloc (.cells #[.int .u8 1, .int .u32 (src : Int), .int .u32 (dst : Int), .int .u16 (id : Int), .int .u16 0] 30) = W ∧ Below w3.heap.size w3 W ∧ Hid (W.heap[w3.heap.size]? = some (.cells #[.int .u8 1, .int .u32 (src : Int), .int .u32 (dst : Int), .int .u16 (id : Int), .int .u16 0] 30 (0, 0))) := ⟨_, rfl, (Below.refl w3.heap.size w3).alloc (Nat.le_refl _) _, hide (heap_alloc_new w3 _)⟩
  obtain ⟨B1, hB1⟩ : ∃ B, w3.heap.size = B := ⟨_, rfl⟩
  rw [hB1] at HN1 w4b
  have HW := hide (And.intro hwn hB1)
  have HE1 := hide hB1
  clear hwn hB1
  go_upto_region 4 with (fail)
  rw [HW.out.1, HW.out.2]
  have HQ4 := HN1
  have HB4 := hide (HB3.out.trans (w4b.mono (by rw [← HE1.out]; exact HB3.out.size)))
  clear w4b HW HN1 HE1 HB3
  go_wp2_with fail
  refine (echo_any w4 dst src 0 id (by omega) hid).mono ?_
  rintro e w5 ⟨a, c, rfl, l, b⟩
  have HL := hide l
  have HB5 := hide (HB4.out.trans (b.mono HB4.out.size))
  have HQ5 := hide (below_block b HQ4.out (Nat.le_refl _))
  clear l b HB4 HQ4
  go_wp2_with fail
  refine (q_of0 w5 src dst id hid hs hd a c HL.out).mono ?_
  rintro e w6 ⟨rfl, b⟩
  have HB6 := hide (HB5.out.trans (b.mono HB5.out.size))
  have HQ6 := hide (below_block b HQ5.out (Nat.le_refl _))
  clear b HL HB5 HQ5
  obtain ⟨w7, hwn, w7b, HN1⟩ : ∃ W, w6.alloc (.cells #[.int .u8 1, .int .u32 (dst : Int), .int .u32 (src : Int), .int .u16 0, .int .u16 (id : Int)] 30) = W ∧ Below w6.heap.size w6 W ∧ Hid (W.heap[w6.heap.size]? = some (.cells #[.int .u8 1, .int .u32 (dst : Int), .int .u32 (src : Int), .int .u16 0, .int .u16 (id : Int)] 30 (0, 0))) := ⟨_, rfl, (Below.refl w6.heap.size w6).alloc (Nat.le_refl _) _, hide (heap_alloc_new w6 _)⟩
  obtain ⟨B2, hB1⟩ : ∃ B, w6.heap.size = B := ⟨_, rfl⟩
  rw [hB1] at HN1 w7b
  have HW := hide (And.intro hwn hB1)
  have HE1 := hide hB1
  clear hwn hB1
  go_upto_region 5 with (fail)
  rw [HW.out.1, HW.out.2]
  have HR7 := HN1
  have HQ7 := hide (below_block w7b HQ6.out (Nat.le_of_eq HE1.out))
  have HB7 := hide (HB6.out.trans (w7b.mono (by rw [← HE1.out]; exact HB6.out.size)))
  clear w7b HW HN1 HE1 HB6 HQ6
  have ka0 : w7.cell? ⟨B1, 0, none⟩ = some (.int .u8 1) := cell_at HQ7.out 0 rfl
  have ka1 : w7.cell? ⟨B1, 1, none⟩ = some (.int .u32 (src : Int)) := cell_at HQ7.out 1 rfl
  have ka2 : w7.cell? ⟨B1, 2, none⟩ = some (.int .u32 (dst : Int)) := cell_at HQ7.out 2 rfl
  have ka3 : w7.cell? ⟨B1, 3, none⟩ = some (.int .u16 (id : Int)) := cell_at HQ7.out 3 rfl
  have ka4 : w7.cell? ⟨B1, 4, none⟩ = some (.int .u16 0) := cell_at HQ7.out 4 rfl
  have kb0 : w7.cell? ⟨B2, 0, none⟩ = some (.int .u8 1) := cell_at HR7.out 0 rfl
  have kb1 : w7.cell? ⟨B2, 1, none⟩ = some (.int .u32 (dst : Int)) := cell_at HR7.out 1 rfl
  have kb2 : w7.cell? ⟨B2, 2, none⟩ = some (.int .u32 (src : Int)) := cell_at HR7.out 2 rfl
  have kb3 : w7.cell? ⟨B2, 3, none⟩ = some (.int .u16 0) := cell_at HR7.out 3 rfl
  have kb4 : w7.cell? ⟨B2, 4, none⟩ = some (.int .u16 (id : Int)) := cell_at HR7.out 4 rfl
  have hla := lt_of_block HQ7.out
  have hlb := lt_of_block HR7.out
  go_region_held3 (fun w' => w'.cell? ⟨B1, 0, none⟩ = some (.int .u8 1) ∧ w'.cell? ⟨B1, 1, none⟩ = some (.int .u32 (src : Int)) ∧ w'.cell? ⟨B1, 2, none⟩ = some (.int .u32 (dst : Int)) ∧ w'.cell? ⟨B1, 3, none⟩ = some (.int .u16 (id : Int)) ∧ w'.cell? ⟨B1, 4, none⟩ = some (.int .u16 0) ∧ w'.cell? ⟨B2, 0, none⟩ = some (.int .u8 1) ∧ w'.cell? ⟨B2, 1, none⟩ = some (.int .u32 (dst : Int)) ∧ w'.cell? ⟨B2, 2, none⟩ = some (.int .u32 (src : Int)) ∧ w'.cell? ⟨B2, 3, none⟩ = some (.int .u16 0) ∧ w'.cell? ⟨B2, 4, none⟩ = some (.int .u16 (id : Int))) (go_keep) (first
    | (go_at_call 13; (with_reducible refine (q_turn _ src dst id).mono ?_); rintro e w8 ⟨rfl, b⟩; (try replace b := below_of_drew b); have ma0 := (bcell b B1 0 hla).trans ka0; have ma1 := (bcell b B1 1 hla).trans ka1; have ma2 := (bcell b B1 2 hla).trans ka2; have ma3 := (bcell b B1 3 hla).trans ka3; have ma4 := (bcell b B1 4 hla).trans ka4; have mb0 := (bcell b B2 0 hlb).trans kb0; have mb1 := (bcell b B2 1 hlb).trans kb1; have mb2 := (bcell b B2 2 hlb).trans kb2; have mb3 := (bcell b B2 3 hlb).trans kb3; have mb4 := (bcell b B2 4 hlb).trans kb4; have HB8 := hide (HB7.out.trans (b.mono HB7.out.size)); clear b)
    | fail)
  all_goals (try go_wp2_with fail)
  go_ret
  exact ⟨rfl, HB8.out⟩
end Go.Proofs.Ytbacodogklbiaaa
