/- inet: InetTurned. -/
import Derived.Test.YtlipckpacdioiaaDoorIKit
namespace Go.Proofs.YtlipckpacdioiaaDoor
open Go.RowKit
set_option linter.unusedVariables false
set_option linter.unusedSimpArgs false
set_option maxRecDepth 100000
def pkV (tt P id s d : Nat) (da : Option Addr) (n dc : Nat) : Array Value := #[.int .u8 (tt : Int), .int .u8 (P : Int), .int .u16 (id : Int), .int .u32 (s : Int), .int .u32 (d : Int), .slice da n dc]
/-- A packet in a box: its cells. -/
theorem pk_cells {w : World} {B tt P id s d n dc : Nat} {da : Option Addr} {t : TypeId} (h : w.heap[B]? = some (.cells (pkV tt P id s d da n dc) t (0, 0))) : w.cell? ⟨B, 0, none⟩ = some (.int .u8 (tt : Int)) ∧ w.cell? ⟨B, 1, none⟩ = some (.int .u8 (P : Int)) ∧ w.cell? ⟨B, 2, none⟩ = some (.int .u16 (id : Int)) ∧ w.cell? ⟨B, 3, none⟩ = some (.int .u32 (s : Int)) ∧ w.cell? ⟨B, 4, none⟩ = some (.int .u32 (d : Int)) ∧ w.cell? ⟨B, 5, none⟩ = some (.slice da n dc) :=
  ⟨cell_at h 0 rfl, cell_at h 1 rfl, cell_at h 2 rfl, cell_at h 3 rfl, cell_at h 4 rfl, cell_at h 5 rfl⟩
def WrOk (L : List Int) (n : Nat) (w : World) (e : Ending) (w' : World) : Prop := ∃ a c, e = .returned (.tuple #[.slice a n c, .int .i64 0]) ∧ w'.ownsRow w.heap.size 5 1 (.slice a n c) n (L.map (Value.int .u8)) ∧ Below w.heap.size w w'
theorem write_ok (w : World) (tt P id s d : Nat) (da : Option Addr) (xs : List Int) (n dc : Nat) (hk : PkOk tt P id s d) (hL : Lies w da xs n dc) (hl : xs.length = n) (h1 : n ≤ 1480) :
    Calls Tryd.prog 10 #[.agg (pkV tt P id s d da n dc)] w (WrOk (ipG tt P id s d xs) (20 + n) w) :=
  wip_ok w tt P id s d da xs n dc hL.row hL.no hl h1 hk.ht hk.hP hk.hid hk.hs hk.hd
def LongOk (w : World) (e : Ending) (w' : World) : Prop := e = .returned (.tuple #[.slice none 0 0, .int .i64 14]) ∧ Below w.heap.size w w'
theorem write_long (w : World) (tt P id s d : Nat) (da : Option Addr) (n dc : Nat) (h1 : 1480 < n) :
    Calls Tryd.prog 10 #[.agg (pkV tt P id s d da n dc)] w (LongOk w) := wip_long w tt P id s d da n dc h1
def Yes (w : World) (e : Ending) (w' : World) : Prop := e = .returned (.bool true) ∧ Below w.heap.size w w'
/-- A row of one's own, opened. -/
theorem own_open {w : World} {base n c : Nat} {a : Option Addr} {xs : List Int} (h : w.ownsRow base 5 1 (.slice a n c) n (xs.map (Value.int .u8))) (hn : 0 < n) : ∃ g, a = some ⟨g, 0, none⟩ ∧ base ≤ g ∧ g < w.heap.size ∧ ∀ i, w.frozen? ⟨g, i, none⟩ = false := by
  rcases h.2 with ⟨_, h0⟩ | ⟨g, c', cur, hv, hg, hh, _⟩
  · omega
  · obtain ⟨rfl, rfl⟩ : a = some ⟨g, 0, none⟩ ∧ c = c' := by simpa using hv
    exact ⟨g, rfl, hg, lt_of_block hh, fun i => by simp [World.frozen?, hh]⟩
set_option maxHeartbeats 4000000 in
theorem inetTurned_any (w : World) (tt P id s d : Nat) (da : Option Addr) (xs : List Int) (n dc : Nat) (bit : Int) (hk : PkOk tt P id s d) (hL : Lies w da xs n dc) (hl : xs.length = n) (hb : ∀ x ∈ xs, 0 ≤ x ∧ x ≤ 255) (hp : PT w) :
    Calls Tryd.prog 5 #[.agg (pkV tt P id s d da n dc), .int .i64 bit] w (Yes w) := by
  obtain ⟨v, hvb, hv⟩ := and_maskI bit 65535 (by omega)
  obtain ⟨k, hkk⟩ : ∃ k, v % 160 = k := ⟨_, rfl⟩
  obtain ⟨i, hi⟩ : ∃ i, k / 8 = i := ⟨_, rfl⟩
  obtain ⟨t, ht⟩ : ∃ t, k % 8 = t := ⟨_, rfl⟩
  have hi20 : i < 20 := by omega
  have ht8 : t < 8 := by omega
  have r1 : (v : Int) % 160 = (k : Int) := by omega
  have r2 : (k : Int) / 8 = (i : Int) := by omega
  have r3 : (k : Int) % 8 = (t : Int) := by omega
  clear hkk hi ht
  have hv' : bits .and .i64 bit 65535 = (v : Int) := hv
  clear hv
  obtain ⟨wq, hqq, hbel, hnew⟩ : ∃ V, w.alloc (.cells (pkV tt P id s d da n dc) 27) = V ∧ Below w.heap.size w V ∧ V.heap[w.heap.size]? = some (.cells (pkV tt P id s d da n dc) 27 (0, 0)) := ⟨_, rfl, (Below.refl _ _).alloc (Nat.le_refl _) _, heap_alloc_new _ _⟩
  have HS := hide (speaks_any wq (hp.below hbel (Nat.le_refl _)))
  have HQ := hide hqq
  have HB := hide hbel
  have HN := hide hnew
  have HLq := hide (hL.below hbel (Nat.le_refl _))
  have HK := hide hk
  have HL := hide hl
  have HXB := hide hb
  obtain ⟨B, hB⟩ : ∃ B, w.heap.size = B := ⟨_, rfl⟩
  rw [hB] at HN
  have HBB := hide hB
  clear hqq hbel hnew hL hl hb hp hk hB
  unfold pkV at HQ
  go_enter Tryd.func5, Tryd.ntmps5
  unfold pkV
  go_upto_region 1 with (fail)
  rw [HQ.out]
  rw [HBB.out]
  clear HQ
  go_wp2_with fail
  refine HS.out.mono ?_
  rintro e w1 ⟨rfl, b1⟩
  have HB1 := hide (HB.out.trans (b1.mono HB.out.size))
  have HN1 := hide (below_block b1 HN.out (Nat.le_refl _))
  have HL1 := hide (HLq.out.below b1 (Nat.le_refl _))
  clear b1 HS HB HN HLq
  obtain ⟨z0, z1, z2, z3, z4, z5⟩ := pk_cells HN1.out
  by_cases hn : n ≤ 1480
  · have HW := hide (write_ok w1 tt P id s d da xs n dc HK.out HL1.out HL.out hn)
    unfold pkV at HW
    go_wp2_with fail
    refine HW.out.mono ?_
    rintro e w2 ⟨a2, c2, rfl, o2, b2⟩
    obtain ⟨g, rfl, hg1, hg2, hgf⟩ := own_open o2 (by omega)
    have HB2 := hide (HB1.out.trans (b2.mono HB1.out.size))
    have HG := hide (ipG_ipM tt P id s d xs)
    have hxi : ∃ x : Nat, (ipG tt P id s d xs)[i]? = some (x : Int) ∧ x ≤ 255 := by
      have hm : (ipG tt P id s d xs)[i]? = (ipM tt P id s d 16384 (ipMK tt P id s d 16384 xs.length) xs.length)[i]? := by
        rw [HG.out, List.getElem?_append_left (by rw [ipM_len]; exact hi20)]
      have hr := ipM_rng tt P id s d 16384 (ipMK tt P id s d 16384 xs.length) xs.length HK.out.ht HK.out.hP
      obtain ⟨y, hy⟩ : ∃ y, (ipM tt P id s d 16384 (ipMK tt P id s d 16384 xs.length) xs.length)[i]? = some y := ⟨_, List.getElem?_eq_getElem (by rw [ipM_len]; exact hi20)⟩
      have h := hr y (List.mem_of_getElem? hy)
      exact ⟨y.toNat, by rw [hm, hy]; congr 1; omega, by omega⟩
    obtain ⟨x, hx, hx2⟩ := hxi
    have hxx : x ^^^ 2 ^ t ≤ 255 := by
      have h256 : (2 : Nat) ^ t < 2 ^ 8 := Nat.pow_lt_pow_right (by omega) ht8
      have := Nat.xor_lt_two_pow (n := 8) (show x < 2 ^ 8 by omega) h256
      omega
    have gi := o2.cellAt i (by omega)
    rw [List.getElem?_map, hx] at gi
    have gfi := hgf i
    have HO2 := hide (owns_store (v := ((x ^^^ 2 ^ t : Nat) : Int)) o2 (show i < 20 + n by omega))
    have HX := hide hx
    clear b2 o2 hx HW z0 z1 z2 z3 z4 z5
    go_wp2_with fail
    have hpw : ((2 : Int) ^ t % 256) = ((2 ^ t : Nat) : Int) := by
      have h256 : (2 : Nat) ^ t < 2 ^ 8 := Nat.pow_lt_pow_right (by omega) ht8
      have e1 : (2 : Int) ^ t = ((2 ^ t : Nat) : Int) := by simp
      rw [e1]
      generalize 2 ^ t = z at *
      omega
    have hxr : bits .xor .u8 (x : Int) ((2 : Int) ^ t % 256) = ((x ^^^ 2 ^ t : Nat) : Int) := by
      rw [hpw]
      have h256 : (2 : Nat) ^ t < 2 ^ 8 := Nat.pow_lt_pow_right (by omega) ht8
      exact u8_xor_nat x (2 ^ t) (by omega) (by omega)
    rw [hxr]
    obtain ⟨w3, hw3⟩ : ∃ V, w2.setCell ⟨g, i, none⟩ (.int .u8 ((x ^^^ 2 ^ t : Nat) : Int)) = V := ⟨_, rfl⟩
    have HB3 := hide (HB2.out.setCell (p := ⟨g, i, none⟩) (show w.heap.size ≤ g from Nat.le_trans HB1.out.size hg1) (.int .u8 ((x ^^^ 2 ^ t : Nat) : Int)))
    rw [hw3] at HO2 HB3 ⊢
    have hRD := rd_turn ((ipG tt P id s d xs).set i ((x ^^^ 2 ^ t : Nat) : Int)) (20 + n) c2 (by rw [List.length_set, ipG_len, HL.out]) (by omega) (by
        intro y hy
        rcases List.mem_or_eq_of_mem_set hy with h | h
        · rw [HG.out] at h
          rcases List.mem_append.1 h with h | h
          · exact ipM_rng _ _ _ _ _ _ _ _ HK.out.ht HK.out.hP y h
          · exact HXB.out y h
        · omega)
      (by
        rw [HG.out]
        refine turn_sum tt P id s d 16384 xs.length HK.out xs i t hi20 ht8 x ?_ hxx
        have := HX.out
        rw [HG.out, List.getElem?_append_left (by rw [ipM_len]; exact hi20)] at this
        exact this) w3 _ (Lies.of_owns HO2.out)
    have HRD := hide hRD
    clear hRD hxr hpw gi gfi hw3 HO2 HX HB2 hg1 hg2 hgf
    refine HRD.out.mono ?_
    rintro e w4 ⟨F, hF0, rfl, b4⟩
    have HB4 := hide (HB3.out.trans (b4.mono HB3.out.size))
    have hFn : ((F : Int) != 0) = true := by simp; omega
    clear b4 hF0
    unfold noP
    go_wp2_with fail
    go_ret
    exact ⟨rfl, HB4.out.alloc HB4.out.size _⟩
  · have HW := hide (write_long w1 tt P id s d da n dc (by omega))
    unfold pkV at HW
    go_wp2_with fail
    refine HW.out.mono ?_
    rintro e w2 ⟨rfl, b2⟩
    have HB2 := hide (HB1.out.trans (b2.mono HB1.out.size))
    have y5 := (pk_cells (below_block b2 HN1.out (Nat.le_refl _))).2.2.2.2.2
    clear b2 z0 z1 z2 z3 z4 z5
    have hd : decide ((1480 : Int) < (n : Int)) = true := by simp; omega
    go_wp2_with fail
    go_ret
    exact ⟨rfl, HB2.out⟩
end Go.Proofs.YtlipckpacdioiaaDoor
