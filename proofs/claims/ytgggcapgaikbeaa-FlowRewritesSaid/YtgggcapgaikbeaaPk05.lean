/- An Eye whose bytes suffice; numbers within bytes. -/
import Derived.Test.YtgggcapgaikbeaaPk03
import Derived.Test.YtgggcapgaikbeaaPk01
import Derived.Test.YtgggcapgaikbeaaPk02
import Derived.Test.YtgggcapgaikbeaaPk04
namespace Go.Proofs.Ytgggcapgaikbeaa
open Go.RowKit
set_option linter.unusedVariables false
set_option linter.unusedSimpArgs false
set_option maxRecDepth 100000
theorem EyeAt.lt {w : World} {E B : Nat} {rest : List Int} {bad : Bool} (h : EyeAt w E B rest bad) : E < w.heap.size := by
  obtain ⟨_, v, hE, _⟩ := h
  exact lt_of_block hE
theorem EyeAt.below {w w' : World} {E B D : Nat} {rest : List Int} {bad : Bool} (h : EyeAt w E B rest bad) (hb : Below D w w') (hB : w.heap.size ≤ D) : EyeAt w' E B rest bad := by
  have hE := h.lt
  obtain ⟨hBs, v, hv, hL⟩ := h
  refine ⟨Nat.le_trans hBs hb.size, v, (hb.block E (by omega)).trans hv, ?_⟩
  rcases hL with hL | ⟨b, off, c, h1, h2, h3, h4, h5, h6⟩
  · exact .inl hL
  · exact .inr ⟨b, off, c, h1, h2, h3, h4, h5, fun i hi => (hb.cell (p := ⟨b, off + i, none⟩) (show b < D by omega)).trans (h6 i hi)⟩
theorem EyeAt.set {w : World} {E B g i : Nat} {rest : List Int} {bad : Bool} {v : Value} (h : EyeAt w E B rest bad) (h1 : B ≤ g) (h2 : E ≠ g) : EyeAt (w.setCell ⟨g, i, none⟩ v) E B rest bad := by
  obtain ⟨hBs, u, hv, hL⟩ := h
  refine ⟨by simpa using hBs, u, (Below.heap_setCell _ _ _ _ h2).trans hv, ?_⟩
  rcases hL with hL | ⟨b, off, c, h1', h2', h3, h4, h5, h6⟩
  · exact .inl hL
  · exact .inr ⟨b, off, c, h1', h2', h3, h4, h5, fun i hi => (cell_set_ne w g _ v (show b ≠ g by omega)).trans (h6 i hi)⟩
theorem gb_of_below {w w' : World} {r : Option Nat} (h : Below w.heap.size w w') : w.grownBy w' r := ⟨h.os, h.tape, h.output, h.size, fun i hi _ => h.block i hi⟩
theorem bytesOk_any (E B : Nat) (rest : List Int) (bad : Bool) (k : Nat) (w : World) (h : EyeAt w E B rest bad) (hl : rest.length ≤ 1099511627776) (hk : k ≤ rest.length) :
    Calls Try.prog 71 #[.pointer (some ⟨E, 0, none⟩), .int .i64 (k : Int)] w fun e w' => ∃ a c, e = .returned (.slice a k c) ∧ w'.ownsRow w.heap.size 5 1 (.slice a k c) k ((rest.take k).map (Value.int .u8)) ∧ EyeAt w' E B (rest.drop k) bad ∧ w.grownBy w' (some E) := by
  have hh := eyeBytes_any E B rest bad (k : Int) w h hl (by omega)
  rw [Int.toNat_natCast, if_pos hk, if_pos hk, if_pos hk, show decide (rest.length < k) = false from by simp; omega, Bool.or_false] at hh
  refine hh.mono ?_
  rintro e w' ⟨w1, a, c, rfl, hown, heye, hg, hb⟩
  exact ⟨a, c, rfl, owns_mono hown hg.size, heye.below hb (Nat.le_refl _), gb_trans hg (gb_of_below hb)⟩

/-- The number of k bytes from K on. -/
def fld (xs : List Int) (K k : Nat) : Nat := (valB ((xs.drop K).take k)).toNat
theorem fld_eq (xs : List Int) (K k : Nat) (hb : ∀ x ∈ xs, 0 ≤ x ∧ x ≤ 255) : valB ((xs.drop K).take k) = (fld xs K k : Int) := by
  have := (valB_rng (xs.drop K) (fun x hx => hb x (List.mem_of_mem_drop hx)) k).1
  unfold fld; omega
theorem fld_lt (xs : List Int) (K k : Nat) (hb : ∀ x ∈ xs, 0 ≤ x ∧ x ≤ 255) : fld xs K k < 256 ^ k := by
  have h := valB_rng (xs.drop K) (fun x hx => hb x (List.mem_of_mem_drop hx)) k
  unfold fld
  have h2 : ((256 : Int) ^ k) = ((256 ^ k : Nat) : Int) := by simp
  rw [h2] at h
  omega
theorem eyeNum_at (E B K k : Nat) (xs : List Int) (w : World) (h : EyeAt w E B (xs.drop K) false) (hb : ∀ x ∈ xs, 0 ≤ x ∧ x ≤ 255) (hl : xs.length ≤ 1099511627776) (hk : k ≤ 8) (hk2 : K + k ≤ xs.length) :
    Calls Try.prog 69 #[.pointer (some ⟨E, 0, none⟩), .int .i64 k] w fun e w' => e = .returned (.int .u64 (fld xs K k)) ∧ EyeAt w' E B (xs.drop (K + k)) false ∧ w.grownBy w' (some E) := by
  have h1 := eyeNum_ok E B (xs.drop K) k w h (fun x hx => hb x (List.mem_of_mem_drop hx)) (by rw [List.length_drop]; omega) hk (by rw [List.length_drop]; omega)
  rw [fld_eq xs K k hb, List.drop_drop] at h1
  exact h1
theorem half_at (E B K : Nat) (xs : List Int) (w : World) (h : EyeAt w E B (xs.drop K) false) (hb : ∀ x ∈ xs, 0 ≤ x ∧ x ≤ 255) (hl : xs.length ≤ 1099511627776) (hk2 : K + 2 ≤ xs.length) :
    Calls Try.prog 70 #[.pointer (some ⟨E, 0, none⟩)] w fun e w' => e = .returned (.int .u16 (fld xs K 2)) ∧ EyeAt w' E B (xs.drop (K + 2)) false ∧ w.grownBy w' (some E) := by
  have h1 := half_any E B (xs.drop K) w h (fun x hx => hb x (List.mem_of_mem_drop hx)) (by rw [List.length_drop]; omega) (by rw [List.length_drop]; omega)
  rw [fld_eq xs K 2 hb, List.drop_drop] at h1
  exact h1
theorem bytes_at (E B K k : Nat) (xs : List Int) (w : World) (h : EyeAt w E B (xs.drop K) false) (hl : xs.length ≤ 1099511627776) (hk2 : K + k ≤ xs.length) :
    Calls Try.prog 71 #[.pointer (some ⟨E, 0, none⟩), .int .i64 (k : Int)] w fun e w' => ∃ a c, e = .returned (.slice a k c) ∧ w'.ownsRow w.heap.size 5 1 (.slice a k c) k (((xs.drop K).take k).map (Value.int .u8)) ∧ EyeAt w' E B (xs.drop (K + k)) false ∧ w.grownBy w' (some E) := by
  have h1 := bytesOk_any E B (xs.drop K) false k w h (by rw [List.length_drop]; omega) (by rw [List.length_drop]; omega)
  rw [List.drop_drop] at h1
  exact h1
theorem left_at (E B K : Nat) (xs : List Int) (n : Nat) (w : World) (h : EyeAt w E B (xs.drop K) false) (hl : xs.length = n) :
    Calls Try.prog 72 #[.pointer (some ⟨E, 0, none⟩)] w fun e w' => e = .returned (.int .i64 ((n - K : Nat) : Int)) ∧ w = w' := by
  have h1 := left_any E B (xs.drop K) false w h
  rw [List.length_drop, hl] at h1
  exact h1
/-- A block that is not the Eye's stays. -/
theorem gb_block {w w' : World} {E R : Nat} {o : Obj} (h : w.grownBy w' (some E)) (ho : w.heap[R]? = some o) (hne : R ≠ E) : w'.heap[R]? = some o :=
  (h.block R (lt_of_block ho) (by intro e; injection e with e; exact hne e)).trans ho
theorem below_block {w w' : World} {R B : Nat} {o : Obj} (h : Below B w w') (ho : w.heap[R]? = some o) (hB : w.heap.size ≤ B) : w'.heap[R]? = some o :=
  (h.block R (Nat.lt_of_lt_of_le (lt_of_block ho) hB)).trans ho
theorem row_gb {k : IntKind} {w w' : World} {a : Option Addr} {xs : List Int} {E : Nat} (h : Row k w a xs) (hg : w.grownBy w' (some E)) (hE : ∀ b, a = some b → b.block ≠ E) : Row k w' a xs := by
  intro hne
  obtain ⟨b, off, rfl, hlt, hc⟩ := h hne
  exact ⟨b, off, rfl, Nat.lt_of_lt_of_le hlt hg.size, fun i hi => (World.cell?_of_block (hg.block b hlt (by intro e; injection e with e; exact hE _ rfl e))).trans (hc i hi)⟩
theorem owns_set {w : World} {base : Nat} {v : Value} {n : Nat} {xs : List Value} {g i : Nat} {u : Value} (h : w.ownsRow base 5 1 v n xs) (hg : g < base) : (w.setCell ⟨g, i, none⟩ u).ownsRow base 5 1 v n xs := by
  refine ⟨h.1, ?_⟩
  rcases h.2 with h | ⟨r, cap, cur, hv, hr, hh, rest⟩
  · exact .inl h
  · exact .inr ⟨r, cap, cur, hv, hr, (Below.heap_setCell _ _ _ _ (by intro e; simp at e; omega)).trans hh, rest⟩
theorem row_set {k : IntKind} {w : World} {a : Option Addr} {xs : List Int} {g i : Nat} {v : Value} (h : Row k w a xs) (hE : ∀ b, a = some b → b.block ≠ g) : Row k (w.setCell ⟨g, i, none⟩ v) a xs := by
  intro hne
  obtain ⟨b, off, rfl, hlt, hc⟩ := h hne
  exact ⟨b, off, rfl, by simpa using hlt, fun i hi => (cell_set_ne w g _ v (show b ≠ g from hE _ rfl)).trans (hc i hi)⟩
theorem row_take {k : IntKind} {w : World} {a : Option Addr} {xs : List Int} (h : Row k w a xs) (m : Nat) : Row k w a (xs.take m) := by
  intro hne
  have hx : xs ≠ [] := by rintro rfl; simp at hne
  obtain ⟨b, off, rfl, hlt, hc⟩ := h hx
  exact ⟨b, off, rfl, hlt, fun i hi => by rw [List.length_take] at hi; rw [hc i (by omega), List.getElem?_take_of_lt (by omega)]⟩
theorem pseudo17_any (src dst size : Nat) (w : World) (h1 : src ≤ 4294967295) (h2 : dst ≤ 4294967295) (h4 : size ≤ 1000000) :
    Calls Try.prog 81 #[.int .u32 src, .int .u32 dst, .int .u8 17, .int .i64 size] w fun e w' => ∃ a c, e = .returned (.slice a 12 c) ∧
      w'.ownsRow w.heap.size 5 1 (.slice a 12 c) 12 ((psB src dst 17 size).map (Value.int .u8)) ∧ Below w.heap.size w w' := pseudo_any src dst 17 size w h1 h2 (by omega) h4
theorem pseudo6_any (src dst size : Nat) (w : World) (h1 : src ≤ 4294967295) (h2 : dst ≤ 4294967295) (h4 : size ≤ 1000000) :
    Calls Try.prog 81 #[.int .u32 src, .int .u32 dst, .int .u8 6, .int .i64 size] w fun e w' => ∃ a c, e = .returned (.slice a 12 c) ∧
      w'.ownsRow w.heap.size 5 1 (.slice a 12 c) 12 ((psB src dst 6 size).map (Value.int .u8)) ∧ Below w.heap.size w w' := pseudo_any src dst 6 size w h1 h2 (by omega) h4
theorem four_cells {w : World} {F : Nat} {t : TypeId} {u v x y : Value} (h : w.heap[F]? = some (.cells #[u, v, x, y] t (0, 0))) : w.cell? ⟨F, 0, none⟩ = some u ∧ w.cell? ⟨F, 1, none⟩ = some v ∧ w.cell? ⟨F, 2, none⟩ = some x ∧ w.cell? ⟨F, 3, none⟩ = some y ∧ ∀ i, w.frozen? ⟨F, i, none⟩ = false := by
  simp [World.cell?, World.frozen?, h]
theorem four_set {w : World} {b i : Nat} {u v x y z : Value} {t : TypeId} (h : w.heap[b]? = some (.cells #[u, v, x, y] t (0, 0))) : (w.setCell ⟨b, i, none⟩ z).heap[b]? = some (.cells (#[u, v, x, y].setIfInBounds i z) t (0, 0)) := by
  have hlt := lt_of_block h
  have h' : w.heap[b] = .cells #[u, v, x, y] t (0, 0) := by simpa [Array.getElem?_eq_getElem hlt] using h
  show (w.heap.modify b _)[b]? = _
  rw [Array.getElem?_eq_getElem (by simpa using hlt), Array.getElem_modify_self, h']
  rfl
end Go.Proofs.Ytgggcapgaikbeaa

/- What trans.ReadTCP answers. -/
namespace Go.Proofs.Ytgggcapgaikbeaa
open Go.RowKit
set_option linter.unusedVariables false
set_option linter.unusedSimpArgs false
set_option maxRecDepth 100000
theorem nine_cells {w : World} {F : Nat} {t : TypeId} {a b c d e f g h i : Value} (hh : w.heap[F]? = some (.cells #[a, b, c, d, e, f, g, h, i] t (0, 0))) :
    (w.cell? ⟨F, 0, none⟩ = some a ∧ w.cell? ⟨F, 1, none⟩ = some b ∧ w.cell? ⟨F, 2, none⟩ = some c ∧ w.cell? ⟨F, 3, none⟩ = some d ∧ w.cell? ⟨F, 4, none⟩ = some e ∧ w.cell? ⟨F, 5, none⟩ = some f ∧ w.cell? ⟨F, 6, none⟩ = some g ∧ w.cell? ⟨F, 7, none⟩ = some h ∧ w.cell? ⟨F, 8, none⟩ = some i) ∧ ∀ j, w.frozen? ⟨F, j, none⟩ = false := by
  simp [World.cell?, World.frozen?, hh]
theorem nine_set {w : World} {b i : Nat} {u1 u2 u3 u4 u5 u6 u7 u8 u9 z : Value} {t : TypeId} (h : w.heap[b]? = some (.cells #[u1, u2, u3, u4, u5, u6, u7, u8, u9] t (0, 0))) : (w.setCell ⟨b, i, none⟩ z).heap[b]? = some (.cells (#[u1, u2, u3, u4, u5, u6, u7, u8, u9].setIfInBounds i z) t (0, 0)) := by
  have hlt := lt_of_block h
  have h' : w.heap[b] = .cells #[u1, u2, u3, u4, u5, u6, u7, u8, u9] t (0, 0) := by simpa [Array.getElem?_eq_getElem hlt] using h
  show (w.heap.modify b _)[b]? = _
  rw [Array.getElem?_eq_getElem (by simpa using hlt), Array.getElem_modify_self, h']
  rfl
theorem set_ne_block {w : World} {F R i : Nat} {z : Value} {o : Obj} (h : w.heap[R]? = some o) (hne : R ≠ F) : (w.setCell ⟨F, i, none⟩ z).heap[R]? = some o := (Below.heap_setCell _ _ _ _ hne).trans h

set_option maxHeartbeats 800000 in
theorem rtcp_short (w : World) (s d : Int) (a : Option Addr) (n cap : Nat) (h : n < 20) :
    Calls Try.prog 52 #[.int .u32 s, .int .u32 d, .slice a n cap] w fun e w' => e = .returned (.tuple #[.agg #[.int .u16 0, .int .u16 0, .int .u32 0, .int .u32 0, .int .u8 0, .int .u16 0, .int .u16 0, .slice none 0 0, .slice none 0 0], .int .i64 10]) ∧ Below w.heap.size w w' := by
  go_enter Try.func52, Try.ntmps52
  go_wp2_with fail
  refine (fit_short n 20 _ h).mono ?_
  rintro e w1 ⟨rfl, rfl⟩
  go_wp2
  refine bodyPost_ret (v := .tuple #[.agg #[.int .u16 0, .int .u16 0, .int .u32 0, .int .u32 0, .int .u8 0, .int .u16 0, .int .u16 0, .slice none 0 0, .slice none 0 0], .int .i64 10]) (by simp [results, Try.results52, go_sem]) rfl ⟨rfl, ?_⟩
  repeat (first | exact Below.refl _ _ | refine Below.setCell ?_ (Nat.le_refl _) _ | exact Below.alloc (Below.refl _ _) (Nat.le_refl _) _)

set_option maxHeartbeats 800000 in
theorem rtcp_long (w : World) (s d : Int) (a : Option Addr) (n cap : Nat) (h : 1480 < n) :
    Calls Try.prog 52 #[.int .u32 s, .int .u32 d, .slice a n cap] w fun e w' => e = .returned (.tuple #[.agg #[.int .u16 0, .int .u16 0, .int .u32 0, .int .u32 0, .int .u8 0, .int .u16 0, .int .u16 0, .slice none 0 0, .slice none 0 0], .int .i64 14]) ∧ Below w.heap.size w w' := by
  go_enter Try.func52, Try.ntmps52
  go_wp2_with fail
  refine (fit_long n 20 _ (by omega) h).mono ?_
  rintro e w1 ⟨rfl, rfl⟩
  go_wp2
  refine bodyPost_ret (v := .tuple #[.agg #[.int .u16 0, .int .u16 0, .int .u32 0, .int .u32 0, .int .u8 0, .int .u16 0, .int .u16 0, .slice none 0 0, .slice none 0 0], .int .i64 14]) (by simp [results, Try.results52, go_sem]) rfl ⟨rfl, ?_⟩
  repeat (first | exact Below.refl _ _ | refine Below.setCell ?_ (Nat.le_refl _) _ | exact Below.alloc (Below.refl _ _) (Nat.le_refl _) _)

set_option maxHeartbeats 3000000 in
theorem rtcp_form (w : World) (src dst : Nat) (a : Option Addr) (xs : List Int) (n cap p q u v hb f g ck h H : Nat) (hr : Row .u8 w a xs) (hno : a = none → cap = 0) (hl : xs.length = n) (hbb : ∀ x ∈ xs, 0 ≤ x ∧ x ≤ 255) (h1 : 20 ≤ n) (h2 : n ≤ 1480)
    (HV0 : Hid (fld xs 0 2 = p)) (HV2 : Hid (fld xs 2 2 = q)) (HV4 : Hid (fld xs 4 4 = u)) (HV8 : Hid (fld xs 8 4 = v)) (HV12 : Hid (fld xs 12 1 = hb)) (HV13 : Hid (fld xs 13 1 = f)) (HV14 : Hid (fld xs 14 2 = g)) (HV16 : Hid (fld xs 16 2 = ck)) (HV18 : Hid (fld xs 18 2 = h)) (HH : Hid (4 * (hb / 16) = H)) (hf : H < 20 ∨ n < H) :
    Calls Try.prog 52 #[.int .u32 src, .int .u32 dst, .slice a n cap] w fun e w' => e = .returned (.tuple #[.agg #[.int .u16 0, .int .u16 0, .int .u32 0, .int .u32 0, .int .u8 0, .int .u16 0, .int .u16 0, .slice none 0 0, .slice none 0 0], .int .i64 11]) ∧ Below w.heap.size w w' := by
  have HR := hide hr
  have HNO := hide hno
  have hl1 : 20 ≤ xs.length := by omega
  have hl2 : xs.length ≤ 1480 := by omega
  have HL := hide hl
  have HB := hide hbb
  have hb_p := fld_lt xs 0 2 hbb
  rw [HV0.out] at hb_p
  have hb_q := fld_lt xs 2 2 hbb
  rw [HV2.out] at hb_q
  have hb_u := fld_lt xs 4 4 hbb
  rw [HV4.out] at hb_u
  have hb_v := fld_lt xs 8 4 hbb
  rw [HV8.out] at hb_v
  have hb_hb := fld_lt xs 12 1 hbb
  rw [HV12.out] at hb_hb
  have hb_f := fld_lt xs 13 1 hbb
  rw [HV13.out] at hb_f
  have hb_g := fld_lt xs 14 2 hbb
  rw [HV14.out] at hb_g
  have hb_ck := fld_lt xs 16 2 hbb
  rw [HV16.out] at hb_ck
  have hb_h := fld_lt xs 18 2 hbb
  rw [HV18.out] at hb_h
  have hH : 4 * (hb / 16) = H := HH.out
  have hHb : H ≤ 60 := by omega
  have hHe : (hb : Int) / 16 * 4 = (H : Int) := by omega
  have hHw : IntKind.i64.wrap ((hb : Int) / 16) = (hb : Int) / 16 := IntWalk.i64_in _ (by omega)
  have hHx : IntKind.i64.wrap (H : Int) = (H : Int) := IntWalk.i64_in _ (by omega)
  have hwu : IntKind.u32.wrap (u : Int) = (u : Int) := by rw [IntKind.wrap_u32]; omega
  have hwv : IntKind.u32.wrap (v : Int) = (v : Int) := by rw [IntKind.wrap_u32]; omega
  have hwf : IntKind.u8.wrap (f : Int) = (f : Int) := by rw [IntKind.wrap_u8]; omega
  clear hr hno hl hbb hH
  go_enter Try.func52, Try.ntmps52
  go_wp2_with fail
  refine (fit_ok n 20 _ h1 h2).mono ?_
  rintro e wz ⟨rfl, rfl⟩
  go_wp2_with fail
  obtain ⟨R, wq, hR, hq1, hbel, hRh⟩ : ∃ R wq, w.heap.size = R ∧ w.alloc (.cells #[.int .u16 0, .int .u16 0, .int .u32 0, .int .u32 0, .int .u8 0, .int .u16 0, .int .u16 0, .slice none 0 0, .slice none 0 0] 61) = wq ∧ Below w.heap.size w wq ∧ wq.heap[R]? = some (.cells #[.int .u16 0, .int .u16 0, .int .u32 0, .int .u32 0, .int .u8 0, .int .u16 0, .int .u16 0, .slice none 0 0, .slice none 0 0] 61 (0, 0)) :=
    ⟨_, _, rfl, rfl, (Below.refl _ _).alloc (Nat.le_refl _) _, heap_alloc_new w _⟩
  rw [hq1, hR]
  have HRW := hide hR
  have HRq := hide (HR.out.below hbel (Nat.le_refl _))
  clear hq1 hR
  have hne := newEye_any a xs cap wq HRq.out (by omega)
  rw [HL.out] at hne
  have HNE := hide hne
  clear hne
  refine HNE.out.mono ?_
  rintro e w1 ⟨E, rfl, hE, heye, hb1⟩
  have hRE : R < E := Nat.lt_of_lt_of_le (lt_of_block hRh) hE
  have hR1 := hide (below_block hb1 hRh (Nat.le_refl _))
  have hB1 := hide (hbel.trans (hb1.mono hbel.size))
  have HR1 := hide (HRq.out.below hb1 (Nat.le_refl _))
  have HE1 := hide (show EyeAt w1 E E (xs.drop 0) false by simpa using heye)
  have hbE : ∀ b, a = some b → xs ≠ [] → b.block < wq.heap.size := by
    rintro b rfl hne
    obtain ⟨b', off, e, hlt, _⟩ := HRq.out hne
    cases e; exact hlt
  have hxne : xs ≠ [] := by intro e; rw [e] at hl1; simp at hl1
  have HBE := hide (fun b (e : a = some b) => (show b.block ≠ E by have := hbE b e hxne; omega))
  clear hbel hRh heye hb1 hE hbE hxne
  have hh1 := half_at E E 0 xs w1 HE1.out HB.out (by omega) (by omega)
  rw [HV0.out] at hh1
  have HH1 := hide hh1
  clear hh1
  go_wp2_with fail
  refine HH1.out.mono ?_
  rintro e w2 ⟨rfl, he2, hg2⟩
  have HE2 := hide he2
  have HG2 := hide hg2
  clear he2 hg2
  have hh2 := half_at E E 2 xs w2 HE2.out HB.out (by omega) (by omega)
  rw [HV2.out] at hh2
  have HH2 := hide hh2
  clear hh2
  go_wp2_with fail
  refine HH2.out.mono ?_
  rintro e w3 ⟨rfl, he3, hg3⟩
  have HE3 := hide he3
  have HG3 := hide hg3
  clear he3 hg3
  have hh3 := eyeNum_at E E 4 4 xs w3 HE3.out HB.out (by omega) (by omega) (by omega)
  rw [HV4.out] at hh3
  have HH3 := hide hh3
  clear hh3
  go_wp2_with fail
  refine HH3.out.mono ?_
  rintro e w4 ⟨rfl, he4, hg4⟩
  have HE4 := hide he4
  have HG4 := hide hg4
  clear he4 hg4
  have hh4 := eyeNum_at E E 8 4 xs w4 HE4.out HB.out (by omega) (by omega) (by omega)
  rw [HV8.out] at hh4
  have HH4 := hide hh4
  clear hh4
  go_wp2_with fail
  refine HH4.out.mono ?_
  rintro e w5 ⟨rfl, he5, hg5⟩
  have HE5 := hide he5
  have HG5 := hide hg5
  clear he5 hg5
  go_wp2_with fail
  obtain ⟨F, wf, hF, hq1, hbf, hFh⟩ : ∃ F wf, w5.heap.size = F ∧ w5.alloc (.cells #[.int .u16 (p : Int), .int .u16 (q : Int), .int .u32 (u : Int), .int .u32 (v : Int), .int .u8 0, .int .u16 0, .int .u16 0, .slice none 0 0, .slice none 0 0] 61) = wf ∧ Below w5.heap.size w5 wf ∧ wf.heap[F]? = some (.cells #[.int .u16 (p : Int), .int .u16 (q : Int), .int .u32 (u : Int), .int .u32 (v : Int), .int .u8 0, .int .u16 0, .int .u16 0, .slice none 0 0, .slice none 0 0] 61 (0, 0)) :=
    ⟨_, _, rfl, rfl, (Below.refl _ _).alloc (Nat.le_refl _) _, heap_alloc_new w5 _⟩
  rw [hq1, hF]
  have hEF : E < F := by have := HE5.out.lt; omega
  have HEf := hide (HE5.out.below hbf (Nat.le_refl _))
  have hG1f := gb_trans (gb_trans HG2.out (gb_trans HG3.out (gb_trans HG4.out HG5.out))) (gb_of_below hbf)
  have hRf := hide (gb_block hG1f hR1.out (by omega))
  have HRf := hide (row_gb HR1.out hG1f HBE.out)
  have hB0 := hB1.out
  have hBf := hide (hB0.trans (grownBy_below hG1f (show w.heap.size ≤ E by have := HRW.out; omega) hB0.size))
  have HFh := hide hFh
  have hwFs : w.heap.size ≤ F := by have := HRW.out; omega
  clear hq1 hF hbf hFh hG1f hB0 HE1 HE2 HE3 HE4 HE5 HG2 HG3 HG4 HG5 hR1 HR1 hB1 HH1 HH2 HH3 HH4 HNE
  have hh6 := eyeNum_at E E 12 1 xs wf HEf.out HB.out (by omega) (by omega) (by omega)
  rw [HV12.out] at hh6
  have HH6 := hide hh6
  clear hh6
  go_wp2_with fail
  refine HH6.out.mono ?_
  rintro e w7 ⟨rfl, he7, hg7⟩
  have HE7 := hide he7
  have HG7 := hide hg7
  clear he7 hg7
  obtain ⟨⟨r0, r1, r2, r3, r4, r5, r6, r7, r8⟩, rf⟩ := nine_cells (gb_block HG7.out hRf.out (by omega))
  have hBz := hide (hBf.out.trans (grownBy_below HG7.out (show w.heap.size ≤ E by have := HRW.out; omega) hBf.out.size))
  have hRw : w.heap.size ≤ R := by have := HRW.out; omega
  rcases hf with hf | hf
  · have hd1 : decide ((H : Int) < 20) = true := by simp; omega
    go_wp2
    refine bodyPost_ret (v := .tuple #[.agg #[.int .u16 0, .int .u16 0, .int .u32 0, .int .u32 0, .int .u8 0, .int .u16 0, .int .u16 0, .slice none 0 0, .slice none 0 0], .int .i64 11]) (by simp [results, Try.results52, go_sem, r0, r1, r2, r3, r4, r5, r6, r7, r8]) rfl ⟨rfl, ?_⟩
    repeat (with_reducible refine Below.setCell ?_ (by assumption) _)
    exact hBz.out
  · have hd1 : decide ((H : Int) < 20) = false := by simp; omega
    have hd2 : decide ((n : Int) < (H : Int)) = true := by simp; omega
    go_wp2
    refine bodyPost_ret (v := .tuple #[.agg #[.int .u16 0, .int .u16 0, .int .u32 0, .int .u32 0, .int .u8 0, .int .u16 0, .int .u16 0, .slice none 0 0, .slice none 0 0], .int .i64 11]) (by simp [results, Try.results52, go_sem, r0, r1, r2, r3, r4, r5, r6, r7, r8]) rfl ⟨rfl, ?_⟩
    repeat (with_reducible refine Below.setCell ?_ (by assumption) _)
    exact hBz.out

set_option maxHeartbeats 3000000 in
theorem rtcp_bad (w : World) (src dst : Nat) (a : Option Addr) (xs : List Int) (n cap p q u v hb f g ck h H : Nat) (hr : Row .u8 w a xs) (hno : a = none → cap = 0) (hl : xs.length = n) (hbb : ∀ x ∈ xs, 0 ≤ x ∧ x ≤ 255) (h1 : 20 ≤ n) (h2 : n ≤ 1480)
    (HV0 : Hid (fld xs 0 2 = p)) (HV2 : Hid (fld xs 2 2 = q)) (HV4 : Hid (fld xs 4 4 = u)) (HV8 : Hid (fld xs 8 4 = v)) (HV12 : Hid (fld xs 12 1 = hb)) (HV13 : Hid (fld xs 13 1 = f)) (HV14 : Hid (fld xs 14 2 = g)) (HV16 : Hid (fld xs 16 2 = ck)) (HV18 : Hid (fld xs 18 2 = h)) (HH : Hid (4 * (hb / 16) = H)) (hf1 : 20 ≤ H) (hf2 : H ≤ n) (hsrc : src ≤ 4294967295) (hdst : dst ≤ 4294967295) (HCS : Hid ((csum (psB src dst 6 n ++ xs) == 0) = false)) :
    Calls Try.prog 52 #[.int .u32 src, .int .u32 dst, .slice a n cap] w fun e w' => e = .returned (.tuple #[.agg #[.int .u16 0, .int .u16 0, .int .u32 0, .int .u32 0, .int .u8 0, .int .u16 0, .int .u16 0, .slice none 0 0, .slice none 0 0], .int .i64 12]) ∧ Below w.heap.size w w' := by
  have HR := hide hr
  have HNO := hide hno
  have hl1 : 20 ≤ xs.length := by omega
  have hl2 : xs.length ≤ 1480 := by omega
  have HL := hide hl
  have HB := hide hbb
  have hb_p := fld_lt xs 0 2 hbb
  rw [HV0.out] at hb_p
  have hb_q := fld_lt xs 2 2 hbb
  rw [HV2.out] at hb_q
  have hb_u := fld_lt xs 4 4 hbb
  rw [HV4.out] at hb_u
  have hb_v := fld_lt xs 8 4 hbb
  rw [HV8.out] at hb_v
  have hb_hb := fld_lt xs 12 1 hbb
  rw [HV12.out] at hb_hb
  have hb_f := fld_lt xs 13 1 hbb
  rw [HV13.out] at hb_f
  have hb_g := fld_lt xs 14 2 hbb
  rw [HV14.out] at hb_g
  have hb_ck := fld_lt xs 16 2 hbb
  rw [HV16.out] at hb_ck
  have hb_h := fld_lt xs 18 2 hbb
  rw [HV18.out] at hb_h
  have hH : 4 * (hb / 16) = H := HH.out
  have hHb : H ≤ 60 := by omega
  have hHe : (hb : Int) / 16 * 4 = (H : Int) := by omega
  have hHw : IntKind.i64.wrap ((hb : Int) / 16) = (hb : Int) / 16 := IntWalk.i64_in _ (by omega)
  have hHx : IntKind.i64.wrap (H : Int) = (H : Int) := IntWalk.i64_in _ (by omega)
  have hwu : IntKind.u32.wrap (u : Int) = (u : Int) := by rw [IntKind.wrap_u32]; omega
  have hwv : IntKind.u32.wrap (v : Int) = (v : Int) := by rw [IntKind.wrap_u32]; omega
  have hwf : IntKind.u8.wrap (f : Int) = (f : Int) := by rw [IntKind.wrap_u8]; omega
  clear hr hno hl hbb hH
  go_enter Try.func52, Try.ntmps52
  go_wp2_with fail
  refine (fit_ok n 20 _ h1 h2).mono ?_
  rintro e wz ⟨rfl, rfl⟩
  go_wp2_with fail
  obtain ⟨R, wq, hR, hq1, hbel, hRh⟩ : ∃ R wq, w.heap.size = R ∧ w.alloc (.cells #[.int .u16 0, .int .u16 0, .int .u32 0, .int .u32 0, .int .u8 0, .int .u16 0, .int .u16 0, .slice none 0 0, .slice none 0 0] 61) = wq ∧ Below w.heap.size w wq ∧ wq.heap[R]? = some (.cells #[.int .u16 0, .int .u16 0, .int .u32 0, .int .u32 0, .int .u8 0, .int .u16 0, .int .u16 0, .slice none 0 0, .slice none 0 0] 61 (0, 0)) :=
    ⟨_, _, rfl, rfl, (Below.refl _ _).alloc (Nat.le_refl _) _, heap_alloc_new w _⟩
  rw [hq1, hR]
  have HRW := hide hR
  have HRq := hide (HR.out.below hbel (Nat.le_refl _))
  clear hq1 hR
  have hne := newEye_any a xs cap wq HRq.out (by omega)
  rw [HL.out] at hne
  have HNE := hide hne
  clear hne
  refine HNE.out.mono ?_
  rintro e w1 ⟨E, rfl, hE, heye, hb1⟩
  have hRE : R < E := Nat.lt_of_lt_of_le (lt_of_block hRh) hE
  have hR1 := hide (below_block hb1 hRh (Nat.le_refl _))
  have hB1 := hide (hbel.trans (hb1.mono hbel.size))
  have HR1 := hide (HRq.out.below hb1 (Nat.le_refl _))
  have HE1 := hide (show EyeAt w1 E E (xs.drop 0) false by simpa using heye)
  have hbE : ∀ b, a = some b → xs ≠ [] → b.block < wq.heap.size := by
    rintro b rfl hne
    obtain ⟨b', off, e, hlt, _⟩ := HRq.out hne
    cases e; exact hlt
  have hxne : xs ≠ [] := by intro e; rw [e] at hl1; simp at hl1
  have HBE := hide (fun b (e : a = some b) => (show b.block ≠ E by have := hbE b e hxne; omega))
  clear hbel hRh heye hb1 hE hbE hxne
  have hh1 := half_at E E 0 xs w1 HE1.out HB.out (by omega) (by omega)
  rw [HV0.out] at hh1
  have HH1 := hide hh1
  clear hh1
  go_wp2_with fail
  refine HH1.out.mono ?_
  rintro e w2 ⟨rfl, he2, hg2⟩
  have HE2 := hide he2
  have HG2 := hide hg2
  clear he2 hg2
  have hh2 := half_at E E 2 xs w2 HE2.out HB.out (by omega) (by omega)
  rw [HV2.out] at hh2
  have HH2 := hide hh2
  clear hh2
  go_wp2_with fail
  refine HH2.out.mono ?_
  rintro e w3 ⟨rfl, he3, hg3⟩
  have HE3 := hide he3
  have HG3 := hide hg3
  clear he3 hg3
  have hh3 := eyeNum_at E E 4 4 xs w3 HE3.out HB.out (by omega) (by omega) (by omega)
  rw [HV4.out] at hh3
  have HH3 := hide hh3
  clear hh3
  go_wp2_with fail
  refine HH3.out.mono ?_
  rintro e w4 ⟨rfl, he4, hg4⟩
  have HE4 := hide he4
  have HG4 := hide hg4
  clear he4 hg4
  have hh4 := eyeNum_at E E 8 4 xs w4 HE4.out HB.out (by omega) (by omega) (by omega)
  rw [HV8.out] at hh4
  have HH4 := hide hh4
  clear hh4
  go_wp2_with fail
  refine HH4.out.mono ?_
  rintro e w5 ⟨rfl, he5, hg5⟩
  have HE5 := hide he5
  have HG5 := hide hg5
  clear he5 hg5
  go_wp2_with fail
  obtain ⟨F, wf, hF, hq1, hbf, hFh⟩ : ∃ F wf, w5.heap.size = F ∧ w5.alloc (.cells #[.int .u16 (p : Int), .int .u16 (q : Int), .int .u32 (u : Int), .int .u32 (v : Int), .int .u8 0, .int .u16 0, .int .u16 0, .slice none 0 0, .slice none 0 0] 61) = wf ∧ Below w5.heap.size w5 wf ∧ wf.heap[F]? = some (.cells #[.int .u16 (p : Int), .int .u16 (q : Int), .int .u32 (u : Int), .int .u32 (v : Int), .int .u8 0, .int .u16 0, .int .u16 0, .slice none 0 0, .slice none 0 0] 61 (0, 0)) :=
    ⟨_, _, rfl, rfl, (Below.refl _ _).alloc (Nat.le_refl _) _, heap_alloc_new w5 _⟩
  rw [hq1, hF]
  have hEF : E < F := by have := HE5.out.lt; omega
  have HEf := hide (HE5.out.below hbf (Nat.le_refl _))
  have hG1f := gb_trans (gb_trans HG2.out (gb_trans HG3.out (gb_trans HG4.out HG5.out))) (gb_of_below hbf)
  have hRf := hide (gb_block hG1f hR1.out (by omega))
  have HRf := hide (row_gb HR1.out hG1f HBE.out)
  have hB0 := hB1.out
  have hBf := hide (hB0.trans (grownBy_below hG1f (show w.heap.size ≤ E by have := HRW.out; omega) hB0.size))
  have HFh := hide hFh
  have hwFs : w.heap.size ≤ F := by have := HRW.out; omega
  clear hq1 hF hbf hFh hG1f hB0 HE1 HE2 HE3 HE4 HE5 HG2 HG3 HG4 HG5 hR1 HR1 hB1 HH1 HH2 HH3 HH4 HNE
  have hh6 := eyeNum_at E E 12 1 xs wf HEf.out HB.out (by omega) (by omega) (by omega)
  rw [HV12.out] at hh6
  have HH6 := hide hh6
  clear hh6
  go_wp2_with fail
  refine HH6.out.mono ?_
  rintro e w7 ⟨rfl, he7, hg7⟩
  have HE7 := hide he7
  have HG7 := hide hg7
  clear he7 hg7
  have hd1 : decide ((H : Int) < 20) = false := by simp; omega
  have hd2 : decide ((n : Int) < (H : Int)) = false := by simp; omega
  have hR7 := hide (gb_block HG7.out hRf.out (by omega))
  have hF7 := hide (gb_block HG7.out HFh.out (by omega))
  have HR7 := hide (row_gb HRf.out HG7.out HBE.out)
  have hB7 := hide (hBf.out.trans (grownBy_below HG7.out (show w.heap.size ≤ E by have := HRW.out; omega) hBf.out.size))
  have HPS := hide (pseudo6_any src dst n w7 hsrc hdst (by omega))
  clear HG7 hRf HFh HRf hBf HEf
  go_wp2_with fail
  refine HPS.out.mono ?_
  rintro e w8 ⟨a8, c8, rfl, o8, b8⟩
  have hR8 := hide (below_block b8 hR7.out (Nat.le_refl _))
  have hF8 := hide (below_block b8 hF7.out (Nat.le_refl _))
  have HE8 := hide (HE7.out.below b8 (Nat.le_refl _))
  have hB8 := hide (hB7.out.trans (b8.mono hB7.out.size))
  have hrows := hide (rows_cons (c := c8) (Row.of_owns o8) (none_cap o8) (rows_cons (c := cap) (HR7.out.below b8 (Nat.le_refl _)) HNO.out (rows_nil w8)))
  clear o8 b8 HE7 hR7 hF7 HR7 hB7 HPS HH6
  go_wp2_with fail
  have hfl : flat [(a8, psB src dst 6 n, c8), (a, xs, cap)] = psB src dst 6 n ++ xs := by simp [flat]
  have hrt := rightL w8 [(a8, psB src dst 6 n, c8), (a, xs, cap)] #[.slice a8 12 c8, .slice a n cap] 2 _ rfl rfl (by simp [Part.v, psB_len, HL.out]) hrows.out (by rw [hfl, List.length_append, psB_len]; omega)
    (by rw [hfl]; intro x hx; rcases List.mem_append.1 hx with h | h; exact psB_rng _ _ _ _ (by omega) x h; exact HB.out x h) (by omega)
  rw [hfl, HCS.out] at hrt
  have HRT := hide hrt
  clear hrt hfl
  refine HRT.out.mono ?_
  rintro e w9 ⟨rfl, b9⟩
  have hR9 := hide (below_block b9 hR8.out (Nat.le_refl _))
  have hF9 := hide (below_block b9 hF8.out (Nat.le_refl _))
  have HE9 := hide (HE8.out.below b9 (Nat.le_refl _))
  have hB9 := hide (hB8.out.trans (b9.mono hB8.out.size))
  clear b9 HE8 hR8 hF8 hB8 hrows HRT
  have hRw : w.heap.size ≤ R := by have := HRW.out; omega
  obtain ⟨⟨r0, r1, r2, r3, r4, r5, r6, r7, r8⟩, rf⟩ := nine_cells hR9.out
  have hBz := hB9
  go_wp2
  refine bodyPost_ret (v := .tuple #[.agg #[.int .u16 0, .int .u16 0, .int .u32 0, .int .u32 0, .int .u8 0, .int .u16 0, .int .u16 0, .slice none 0 0, .slice none 0 0], .int .i64 12]) (by simp [results, Try.results52, go_sem, r0, r1, r2, r3, r4, r5, r6, r7, r8]) rfl ⟨rfl, ?_⟩
  repeat (with_reducible refine Below.setCell ?_ (by assumption) _)
  exact hBz.out
end Go.Proofs.Ytgggcapgaikbeaa

/- What the document's ReadTCP answers of bytes that are no segment; its Eye at a place. -/
namespace Go.Proofs.Ytgggcapgaikbeaa
open Go.RowKit
set_option linter.unusedVariables false
set_option linter.unusedSimpArgs false
set_option maxRecDepth 100000
theorem rEye_at (E K k : Nat) (a : Option Addr) (xs : List Int) (n cap : Nat) (w : World) (h : REye w E a n cap K false) (hr : Row .u8 w a xs) (hb : ∀ x ∈ xs, 0 ≤ x ∧ x ≤ 255) (hxn : xs.length = n) (hnc : n ≤ cap) (hcm : cap ≤ 9223372036854775807) (hnil : a = none → cap = 0) (hn : n ≤ 5000) (hk : k ≤ 8) (hk2 : K + k ≤ n) :
    Calls Try.prog 51 #[.pointer (some ⟨E, 0, none⟩), .int .i64 k] w fun e w' => e = .returned (.int .u64 (fld xs K k)) ∧ REye w' E a n cap (K + k) false ∧ w.grownBy w' (some E) := by
  have h1 := refEyeNum_any E a xs n cap K false k w h hr hb hxn hnc hcm hnil (by omega) hn
  have hs : sz (k : Int) = k := by unfold sz; omega
  rw [hs, if_pos (by omega), if_pos (by omega), show decide (n - K < k) = false by simp; omega, fld_eq xs K k hb] at h1
  exact h1
theorem fld_one (xs : List Int) (K : Nat) (hb : ∀ x ∈ xs, 0 ≤ x ∧ x ≤ 255) (hK : K < xs.length) : xs[K]?.getD 0 = (fld xs K 1 : Int) := by
  rw [← fld_eq xs K 1 hb, List.drop_eq_getElem_cons hK, List.getElem?_eq_getElem hK]
  show xs[K] = 256 * 0 + xs[K]
  omega

set_option maxHeartbeats 800000 in
theorem rrtcp_short (w : World) (s d : Int) (a : Option Addr) (n cap : Nat) (h : n < 20) :
    Calls Try.prog 33 #[.int .u32 s, .int .u32 d, .slice a n cap] w fun e w' => e = .returned (.tuple #[.agg #[.int .u16 0, .int .u16 0, .int .u32 0, .int .u32 0, .int .u8 0, .int .u16 0, .int .u16 0, .slice none 0 0, .slice none 0 0], .int .i64 10]) ∧ Below w.heap.size w w' := by
  go_enter Try.func33, Try.ntmps33
  go_wp2
  refine bodyPost_ret (v := .tuple #[.agg #[.int .u16 0, .int .u16 0, .int .u32 0, .int .u32 0, .int .u8 0, .int .u16 0, .int .u16 0, .slice none 0 0, .slice none 0 0], .int .i64 10]) (by simp [results, Try.results33, go_sem]) rfl ⟨rfl, ?_⟩
  repeat (first | exact Below.refl _ _ | refine Below.setCell ?_ (Nat.le_refl _) _ | exact Below.alloc (Below.refl _ _) (Nat.le_refl _) _)

set_option maxHeartbeats 800000 in
theorem rrtcp_long (w : World) (s d : Int) (a : Option Addr) (n cap : Nat) (h : 1480 < n) :
    Calls Try.prog 33 #[.int .u32 s, .int .u32 d, .slice a n cap] w fun e w' => e = .returned (.tuple #[.agg #[.int .u16 0, .int .u16 0, .int .u32 0, .int .u32 0, .int .u8 0, .int .u16 0, .int .u16 0, .slice none 0 0, .slice none 0 0], .int .i64 14]) ∧ Below w.heap.size w w' := by
  go_enter Try.func33, Try.ntmps33
  go_wp2
  refine bodyPost_ret (v := .tuple #[.agg #[.int .u16 0, .int .u16 0, .int .u32 0, .int .u32 0, .int .u8 0, .int .u16 0, .int .u16 0, .slice none 0 0, .slice none 0 0], .int .i64 14]) (by simp [results, Try.results33, go_sem]) rfl ⟨rfl, ?_⟩
  repeat (first | exact Below.refl _ _ | refine Below.setCell ?_ (Nat.le_refl _) _ | exact Below.alloc (Below.refl _ _) (Nat.le_refl _) _)

set_option maxHeartbeats 1600000 in
theorem rrtcp_form (w : World) (src dst : Nat) (a : Option Addr) (xs : List Int) (n cap hb H : Nat) (hr : Row .u8 w a xs) (hno : a = none → cap = 0) (hl : xs.length = n) (hbb : ∀ x ∈ xs, 0 ≤ x ∧ x ≤ 255) (h1 : 20 ≤ n) (h2 : n ≤ 1480) (HV12 : Hid (fld xs 12 1 = hb)) (HH : Hid (4 * (hb / 16) = H)) (hf : H < 20 ∨ n < H) :
    Calls Try.prog 33 #[.int .u32 src, .int .u32 dst, .slice a n cap] w fun e w' => e = .returned (.tuple #[.agg #[.int .u16 0, .int .u16 0, .int .u32 0, .int .u32 0, .int .u8 0, .int .u16 0, .int .u16 0, .slice none 0 0, .slice none 0 0], .int .i64 11]) ∧ Below w.heap.size w w' := by
  have HR := hide hr
  have hl1 : 20 ≤ xs.length := by omega
  have HL := hide hl
  have HB := hide hbb
  have HNO := hide hno
  obtain ⟨b0, o0, rfl, hlt0, hc0⟩ := hr (by intro e; subst e; simp at hl1)
  have c12 := hc0 12 (by omega)
  rw [fld_one xs 12 hbb (by omega), HV12.out] at c12
  have hbl := fld_lt xs 12 1 hbb
  rw [HV12.out] at hbl
  have hH : 4 * (hb / 16) = H := HH.out
  have hHe : 4 * ((hb : Int) / 16) = (H : Int) := by omega
  have hHw : IntKind.i64.wrap ((hb : Int) / 16) = (hb : Int) / 16 := IntWalk.i64_in _ (by omega)
  have hHx : IntKind.i64.wrap (H : Int) = (H : Int) := IntWalk.i64_in _ (by omega)
  clear hr hno hl hbb hH hc0
  have hn1 : ¬ ((n : Int) < 20) := by omega
  have hn2 : ¬ ((1480 : Int) < (n : Int)) := by omega
  have h12 : (12 : Int) < (n : Int) := by omega
  rcases hf with hf | hf
  · have hd1 : decide ((H : Int) < 20) = true := by simp; omega
    go_enter Try.func33, Try.ntmps33
    go_wp2
    refine bodyPost_ret (v := .tuple #[.agg #[.int .u16 0, .int .u16 0, .int .u32 0, .int .u32 0, .int .u8 0, .int .u16 0, .int .u16 0, .slice none 0 0, .slice none 0 0], .int .i64 11]) (by simp [results, Try.results33, go_sem]) rfl ⟨rfl, ?_⟩
    repeat (first | exact Below.refl _ _ | refine Below.setCell ?_ (Nat.le_refl _) _ | exact Below.alloc (Below.refl _ _) (Nat.le_refl _) _)
  · have hd1 : decide ((H : Int) < 20) = false := by simp; omega
    have hd2 : decide ((n : Int) < (H : Int)) = true := by simp; omega
    go_enter Try.func33, Try.ntmps33
    go_wp2
    refine bodyPost_ret (v := .tuple #[.agg #[.int .u16 0, .int .u16 0, .int .u32 0, .int .u32 0, .int .u8 0, .int .u16 0, .int .u16 0, .slice none 0 0, .slice none 0 0], .int .i64 11]) (by simp [results, Try.results33, go_sem]) rfl ⟨rfl, ?_⟩
    repeat (first | exact Below.refl _ _ | refine Below.setCell ?_ (Nat.le_refl _) _ | exact Below.alloc (Below.refl _ _) (Nat.le_refl _) _)

set_option maxHeartbeats 1600000 in
theorem rrtcp_bad (w : World) (src dst : Nat) (a : Option Addr) (xs : List Int) (n cap hb H : Nat) (hr : Row .u8 w a xs) (hno : a = none → cap = 0) (hl : xs.length = n) (hbb : ∀ x ∈ xs, 0 ≤ x ∧ x ≤ 255) (h1 : 20 ≤ n) (h2 : n ≤ 1480) (HV12 : Hid (fld xs 12 1 = hb)) (HH : Hid (4 * (hb / 16) = H)) (hf1 : 20 ≤ H) (hf2 : H ≤ n) (hsrc : src ≤ 4294967295) (hdst : dst ≤ 4294967295) (HCS : Hid (csum (psB src dst 6 n ++ xs) ≠ 0)) :
    Calls Try.prog 33 #[.int .u32 src, .int .u32 dst, .slice a n cap] w fun e w' => e = .returned (.tuple #[.agg #[.int .u16 0, .int .u16 0, .int .u32 0, .int .u32 0, .int .u8 0, .int .u16 0, .int .u16 0, .slice none 0 0, .slice none 0 0], .int .i64 12]) ∧ Below w.heap.size w w' := by
  have HR := hide hr
  have hl1 : 20 ≤ xs.length := by omega
  have HL := hide hl
  have HB := hide hbb
  have HNO := hide hno
  obtain ⟨b0, o0, rfl, hlt0, hc0⟩ := hr (by intro e; subst e; simp at hl1)
  have c12 := hc0 12 (by omega)
  rw [fld_one xs 12 hbb (by omega), HV12.out] at c12
  have hbl := fld_lt xs 12 1 hbb
  rw [HV12.out] at hbl
  have hH : 4 * (hb / 16) = H := HH.out
  have hHe : 4 * ((hb : Int) / 16) = (H : Int) := by omega
  have hHw : IntKind.i64.wrap ((hb : Int) / 16) = (hb : Int) / 16 := IntWalk.i64_in _ (by omega)
  have hHx : IntKind.i64.wrap (H : Int) = (H : Int) := IntWalk.i64_in _ (by omega)
  clear hr hno hl hbb hH hc0
  have hn1 : ¬ ((n : Int) < 20) := by omega
  have hn2 : ¬ ((1480 : Int) < (n : Int)) := by omega
  have h12 : (12 : Int) < (n : Int) := by omega
  have hd1 : decide ((H : Int) < 20) = false := by simp; omega
  have hd2 : decide ((n : Int) < (H : Int)) = false := by simp; omega
  have hb1 : Below w.heap.size w (w.alloc (.cells #[.int .u16 0, .int .u16 0, .int .u32 0, .int .u32 0, .int .u8 0, .int .u16 0, .int .u16 0, .slice none 0 0, .slice none 0 0] 61)) := (Below.refl _ _).alloc (Nat.le_refl _) _
  have hrs := rsum_any src dst 6 n cap (some ⟨b0, o0, none⟩) xs (w.alloc (.cells #[.int .u16 0, .int .u16 0, .int .u32 0, .int .u32 0, .int .u8 0, .int .u16 0, .int .u16 0, .slice none 0 0, .slice none 0 0] 61)) (HR.out.below hb1 (Nat.le_refl _)) HNO.out HL.out HB.out hsrc hdst (by omega) (by omega)
  obtain ⟨K, HK⟩ : ∃ K, Hid (csum (psB src dst 6 n ++ xs) = K) := ⟨_, rfl⟩
  rw [HK.out] at hrs HCS
  have hKn : (K != 0) = true := by have := HCS.out; simpa using this
  have HRS := hide hrs
  have HB1 := hide hb1
  have hz := heap_alloc_new w (.cells #[.int .u16 0, .int .u16 0, .int .u32 0, .int .u32 0, .int .u8 0, .int .u16 0, .int .u16 0, .slice none 0 0, .slice none 0 0] 61)
  have HZ := hide hz
  clear hrs hb1 hz
  go_enter Try.func33, Try.ntmps33
  go_wp2_with fail
  refine HRS.out.mono ?_
  rintro e w2 ⟨rfl, b2⟩
  obtain ⟨⟨r0, r1, r2, r3, r4, r5, r6, r7, r8⟩, rf⟩ := nine_cells (below_block b2 HZ.out (Nat.le_refl _))
  have HB2 := hide (HB1.out.trans (b2.mono HB1.out.size))
  have hw0 : w.heap.size ≤ w.heap.size := Nat.le_refl _
  clear b2 c12
  go_wp2
  refine bodyPost_ret (v := .tuple #[.agg #[.int .u16 0, .int .u16 0, .int .u32 0, .int .u32 0, .int .u8 0, .int .u16 0, .int .u16 0, .slice none 0 0, .slice none 0 0], .int .i64 12]) (by simp [results, Try.results33, go_sem, r0, r1, r2, r3, r4, r5, r6, r7, r8]) rfl ⟨rfl, ?_⟩
  repeat (with_reducible refine Below.setCell ?_ (by assumption) _)
  exact HB2.out
end Go.Proofs.Ytgggcapgaikbeaa
