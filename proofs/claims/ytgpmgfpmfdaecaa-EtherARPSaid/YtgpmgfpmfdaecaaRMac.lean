/- What the document's mac answers. -/
import Derived.Test.YtgpmgfpmfdaecaaEMac
namespace Go.Proofs.Ytgpmgfpmfdaecaa
open Go.RowKit
set_option linter.unusedVariables false
set_option linter.unusedSimpArgs false
/-- An address of which the first k bytes are laid. -/
def macC (g : Nat → UInt8) : Nat → Array Value
  | 0 => #[.int .u8 0, .int .u8 0, .int .u8 0, .int .u8 0, .int .u8 0, .int .u8 0]
  | 1 => #[.int .u8 ((g 0).toNat : Int), .int .u8 0, .int .u8 0, .int .u8 0, .int .u8 0, .int .u8 0]
  | 2 => #[.int .u8 ((g 0).toNat : Int), .int .u8 ((g 1).toNat : Int), .int .u8 0, .int .u8 0, .int .u8 0, .int .u8 0]
  | 3 => #[.int .u8 ((g 0).toNat : Int), .int .u8 ((g 1).toNat : Int), .int .u8 ((g 2).toNat : Int), .int .u8 0, .int .u8 0, .int .u8 0]
  | 4 => #[.int .u8 ((g 0).toNat : Int), .int .u8 ((g 1).toNat : Int), .int .u8 ((g 2).toNat : Int), .int .u8 ((g 3).toNat : Int), .int .u8 0, .int .u8 0]
  | 5 => #[.int .u8 ((g 0).toNat : Int), .int .u8 ((g 1).toNat : Int), .int .u8 ((g 2).toNat : Int), .int .u8 ((g 3).toNat : Int), .int .u8 ((g 4).toNat : Int), .int .u8 0]
  | _ => #[.int .u8 ((g 0).toNat : Int), .int .u8 ((g 1).toNat : Int), .int .u8 ((g 2).toNat : Int), .int .u8 ((g 3).toNat : Int), .int .u8 ((g 4).toNat : Int), .int .u8 ((g 5).toNat : Int)]
theorem macC_step {w : World} {g : Nat → UInt8} {b k : Nat} {t : TypeId} (hk : k < 6) (h : w.heap[b]? = some (.cells (macC g k) t (0, 0))) : (w.setCell ⟨b, k, none⟩ (.int .u8 ((g k).toNat : Int))).heap[b]? = some (.cells (macC g (k + 1)) t (0, 0)) := by
  have hlt := lt_of_block h
  have h' : w.heap[b] = .cells (macC g k) t (0, 0) := by simpa [Array.getElem?_eq_getElem hlt] using h
  show (w.heap.modify b _)[b]? = _
  rw [Array.getElem?_eq_getElem (by simpa using hlt), Array.getElem_modify_self, h']
  match k, hk with
  | 0, _ => rfl
  | 1, _ => rfl
  | 2, _ => rfl
  | 3, _ => rfl
  | 4, _ => rfl
  | 5, _ => rfl
theorem macC_cell {w : World} {g : Nat → UInt8} {b k : Nat} {t : TypeId} (hk : k < 6) (h : w.heap[b]? = some (.cells (macC g k) t (0, 0))) : w.cell? ⟨b, k, none⟩ = some (.int .u8 0) := by
  simp only [World.cell?, h]
  match k, hk with
  | 0, _ => rfl
  | 1, _ => rfl
  | 2, _ => rfl
  | 3, _ => rfl
  | 4, _ => rfl
  | 5, _ => rfl
set_option maxRecDepth 100000 in
set_option maxHeartbeats 1600000 in
theorem mac_any (w : World) (a : Option Addr) (xs : List Int) (n cap : Nat) (g : Nat → UInt8) (hr : Row .u8 w a xs) (hn : xs.length = n) (h6 : 6 ≤ n) (hg : xs.take 6 = [((g 0).toNat : Int), ((g 1).toNat : Int), ((g 2).toNat : Int), ((g 3).toNat : Int), ((g 4).toNat : Int), ((g 5).toNat : Int)]) :
    Calls Try.prog 31 #[.slice a n cap] w fun e w' => e = .returned (.agg #[.int .u8 ((g 0).toNat : Int), .int .u8 ((g 1).toNat : Int), .int .u8 ((g 2).toNat : Int), .int .u8 ((g 3).toNat : Int), .int .u8 ((g 4).toNat : Int), .int .u8 ((g 5).toNat : Int)]) ∧ Below w.heap.size w w' := by
  have hx : ∀ i, i < 6 → xs[i]?.getD 0 = ((g i).toNat : Int) := fun i hi => by
    rw [← List.getElem?_take_of_lt hi, hg]
    match i, hi with
    | 0, _ => rfl
    | 1, _ => rfl
    | 2, _ => rfl
    | 3, _ => rfl
    | 4, _ => rfl
    | 5, _ => rfl
  obtain ⟨b, off, rfl, hbl, hc⟩ := hr.at (i := 0) (by omega)
  have HC := hide hc
  have HX := hide hx
  have HL := hide hn
  clear hr hc hx hg hn
  go_enter Try.func31, Try.ntmps31
  go_wp2_with fail
  obtain ⟨R, Mb, wq, hR, hMb, hq, hbel, hRh, hMh⟩ : ∃ R Mb wq, w.heap.size = R ∧ w.heap.size + 1 = Mb ∧ (w.alloc (.cells #[.int .u8 0, .int .u8 0, .int .u8 0, .int .u8 0, .int .u8 0, .int .u8 0] 25)).alloc (.cells #[.int .u8 0, .int .u8 0, .int .u8 0, .int .u8 0, .int .u8 0, .int .u8 0] 25) = wq ∧ Below w.heap.size w wq ∧
      wq.heap[R]? = some (.cells #[.int .u8 0, .int .u8 0, .int .u8 0, .int .u8 0, .int .u8 0, .int .u8 0] 25 (0, 0)) ∧ wq.heap[Mb]? = some (.cells (macC g 0) 25 (0, 0)) :=
    ⟨_, _, _, rfl, rfl, rfl, ((Below.refl _ _).alloc (Nat.le_refl _) _).alloc (by simp) _, (Below.heap_alloc _ _ _ (by simp)).trans (heap_alloc_new w _), by
      have := heap_alloc_new (w.alloc (.cells #[.int .u8 0, .int .u8 0, .int .u8 0, .int .u8 0, .int .u8 0, .int .u8 0] 25)) (.cells #[.int .u8 0, .int .u8 0, .int .u8 0, .int .u8 0, .int .u8 0, .int .u8 0] 25)
      simpa [macC] using this⟩
  rw [hq, hMb, hR]
  have HR := hide hR
  have hRM : R < Mb := by omega
  have hwM : w.heap.size ≤ Mb := by omega
  have hwR : w.heap.size ≤ R := by omega
  have HRh := hide hRh
  clear hq hMb hR hRh
  go_loopw [4] (fun i wr => ∃ k : Nat, k ≤ 6 ∧ i = .int .i64 k ∧ Hid (wr.heap[Mb]? = some (.cells (macC g k) 25 (0, 0))) ∧ Hid (wr.heap[R]? = some (.cells #[.int .u8 0, .int .u8 0, .int .u8 0, .int .u8 0, .int .u8 0, .int .u8 0] 25 (0, 0))) ∧ Below w.heap.size w wr) (fun i _ => 6 - (intOf i).toNat)
  case atStart => exact ⟨0, by omega, rfl, hide hMh, HRh, hbel⟩
  case round =>
    clear hMh hbel HRh
    obtain ⟨k, hk, rfl, HM, HRr, hbel⟩ := hrel
    by_cases hlt : k < 6
    · have cx : wr.cell? ⟨b, off + k, none⟩ = some (.int .u8 ((g k).toNat : Int)) := by
        rw [← HX.out k hlt]
        exact (hbel.cell (p := ⟨b, off + k, none⟩) hbl).trans (HC.out k (by have := HL.out; omega))
      have cm := macC_cell hlt HM.out
      have fm : wr.frozen? ⟨Mb, k, none⟩ = false := by simp [World.frozen?, HM.out]
      have hkn : k < n := by omega
      go_wp2
      go_roundw
      case rel => exact ⟨k + 1, by omega, by go_num, hide (macC_step hlt HM.out), hide ((Below.heap_setCell _ _ _ _ (by simp; omega)).trans HRr.out), hbel.setCell hwM _⟩
      case measure => simp [intOf]; omega
    · obtain rfl : k = 6 := by omega
      have hM6 : wr.heap[Mb]? = some (.cells #[.int .u8 ((g 0).toNat : Int), .int .u8 ((g 1).toNat : Int), .int .u8 ((g 2).toNat : Int), .int .u8 ((g 3).toNat : Int), .int .u8 ((g 4).toNat : Int), .int .u8 ((g 5).toNat : Int)] 25 (0, 0)) := HM.out
      obtain ⟨m0, m1, m2, m3, m4, m5⟩ : wr.cell? ⟨Mb, 0, none⟩ = some (.int .u8 ((g 0).toNat : Int)) ∧ wr.cell? ⟨Mb, 1, none⟩ = some (.int .u8 ((g 1).toNat : Int)) ∧ wr.cell? ⟨Mb, 2, none⟩ = some (.int .u8 ((g 2).toNat : Int)) ∧ wr.cell? ⟨Mb, 3, none⟩ = some (.int .u8 ((g 3).toNat : Int)) ∧ wr.cell? ⟨Mb, 4, none⟩ = some (.int .u8 ((g 4).toNat : Int)) ∧ wr.cell? ⟨Mb, 5, none⟩ = some (.int .u8 ((g 5).toNat : Int)) := by simp [World.cell?, hM6]
      obtain ⟨r0, r1, r2, r3, r4, r5⟩ : wr.cell? ⟨R, 0, none⟩ = some (.int .u8 0) ∧ wr.cell? ⟨R, 1, none⟩ = some (.int .u8 0) ∧ wr.cell? ⟨R, 2, none⟩ = some (.int .u8 0) ∧ wr.cell? ⟨R, 3, none⟩ = some (.int .u8 0) ∧ wr.cell? ⟨R, 4, none⟩ = some (.int .u8 0) ∧ wr.cell? ⟨R, 5, none⟩ = some (.int .u8 0) := by simp [World.cell?, HRr.out]
      have rf : ∀ i, wr.frozen? ⟨R, i, none⟩ = false := fun i => by simp [World.frozen?, HRr.out]
      clear hM6
      go_wp2
      refine bodyPost_ret (v := .agg #[.int .u8 ((g 0).toNat : Int), .int .u8 ((g 1).toNat : Int), .int .u8 ((g 2).toNat : Int), .int .u8 ((g 3).toNat : Int), .int .u8 ((g 4).toNat : Int), .int .u8 ((g 5).toNat : Int)]) (by simp [results, Try.results31, go_sem, r0, r1, r2, r3, r4, r5]) rfl ⟨rfl, ?_⟩
      repeat (with_reducible refine Below.setCell ?_ (by assumption) _)
      exact hbel
end Go.Proofs.Ytgpmgfpmfdaecaa
