/- Numbers within what an error tells: the program's and the document's. -/
import Derived.Test.YtgggcapgaikbeaaPk09
namespace Go.Proofs.Ytgggcapgaikbeaa
open Go.RowKit
set_option linter.unusedVariables false
set_option linter.unusedSimpArgs false
set_option maxRecDepth 100000
theorem Lies.below {w w' : World} {a : Option Addr} {xs : List Int} {n cap B : Nat} (h : Lies w a xs n cap) (hb : Below B w w') (hB : w.heap.size ≤ B) : Lies w' a xs n cap := ⟨h.row.below hb hB, h.no, h.le, h.max⟩
theorem sub_row {w : World} {a : Option Addr} {xs : List Int} (hr : Row .u8 w a xs) {K m : Nat} (hKm : K + m ≤ xs.length) (hm : 0 < m) : ∃ b off, a = some ⟨b, off, none⟩ ∧ Row .u8 w (some ⟨b, off + K, none⟩) ((xs.drop K).take m) := by
  obtain ⟨b, off, rfl, hlt, hc⟩ := hr.at (i := K) (by omega)
  refine ⟨b, off, rfl, fun _ => ⟨b, off + K, rfl, hlt, fun i hi => ?_⟩⟩
  rw [List.length_take, List.length_drop] at hi
  have := hc (K + i) (by omega)
  rw [Nat.add_assoc, this, List.getElem?_take_of_lt (by omega), List.getElem?_drop]
theorem fld_take (xs : List Int) (K k m : Nat) (h : k ≤ m) : fld ((xs.drop K).take m) 0 k = fld xs K k := by
  unfold fld
  rw [List.drop_zero, List.take_take, Nat.min_eq_left h]
set_option maxHeartbeats 400000 in
theorem fhalf_any (w : World) (a : Option Addr) (xs : List Int) (n cap K : Nat) (hL : Lies w a xs n cap) (hl : xs.length = n) (hb : ∀ x ∈ xs, 0 ≤ x ∧ x ≤ 255) (hn : n ≤ 5000) (hK : K + 2 ≤ n) :
    Calls Try.prog 98 #[.slice a n cap, .int .i64 (K : Int)] w fun e w' => e = .returned (.int .u16 (fld xs K 2 : Nat)) ∧ Below w.heap.size w w' := by
  obtain ⟨b, off, rfl, hrow⟩ := sub_row hL.row (K := K) (m := 2) (by omega) (by omega)
  have hlen : ((xs.drop K).take 2).length = 2 := by rw [List.length_take, List.length_drop]; omega
  have hbs : ∀ x ∈ (xs.drop K).take 2, 0 ≤ x ∧ x ≤ 255 := fun x hx => hb x (List.mem_of_mem_drop (List.mem_of_mem_take hx))
  have hne := newEye_any (some ⟨b, off + K, none⟩) ((xs.drop K).take 2) (cap - K) w hrow (by omega)
  rw [hlen] at hne
  have HNE := hide hne
  have hcap := hL.le
  have hmax := hL.max
  have hf := fld_take xs K 2 2 (Nat.le_refl _)
  have hlt := fld_lt xs K 2 hb
  obtain ⟨v, hv⟩ : ∃ v, fld xs K 2 = v := ⟨_, rfl⟩
  rw [hv] at hf hlt ⊢
  have HEN := hide (fun (E B : Nat) (W : World) (h : EyeAt W E B ((xs.drop K).take 2) false) => eyeNum_at E B 0 2 ((xs.drop K).take 2) W h hbs (by omega) (by omega) (by omega))
  rw [hf] at HEN
  have hvv : v ≤ 65535 := by simp at hlt; omega
  have h1 : IntKind.i64.wrap ((K : Int) + 2) = ((K + 2 : Nat) : Int) := by rw [IntKind.wrap_i64]; omega
  have h2 : K ≠ cap := by omega
  have h3 : ¬ cap = K := by omega
  clear hne hf hlt hv hb hbs hL hrow hlen hl
  go_enter Try.func98, Try.ntmps98
  go_wp2_with fail
  refine HNE.out.mono ?_
  rintro e w1 ⟨E, rfl, hE, heye, b1⟩
  have HB := hide b1
  have HEN2 := hide (HEN.out E E w1 heye)
  clear b1 heye HEN HNE
  go_wp2_with fail
  refine HEN2.out.mono ?_
  rintro e w2 ⟨rfl, _, g2⟩
  have HB2 := hide (HB.out.grown g2 HB.out.size (fun k e => by cases e; exact hE))
  clear g2 HEN2
  go_wp2_with fail
  go_ret
  exact ⟨rfl, HB2.out⟩
set_option maxHeartbeats 400000 in
theorem faddr_any (w : World) (a : Option Addr) (xs : List Int) (n cap K : Nat) (hL : Lies w a xs n cap) (hl : xs.length = n) (hb : ∀ x ∈ xs, 0 ≤ x ∧ x ≤ 255) (hn : n ≤ 5000) (hK : K + 4 ≤ n) :
    Calls Try.prog 99 #[.slice a n cap, .int .i64 (K : Int)] w fun e w' => e = .returned (.int .u32 (fld xs K 4 : Nat)) ∧ Below w.heap.size w w' := by
  obtain ⟨b, off, rfl, hrow⟩ := sub_row hL.row (K := K) (m := 4) (by omega) (by omega)
  have hlen : ((xs.drop K).take 4).length = 4 := by rw [List.length_take, List.length_drop]; omega
  have hbs : ∀ x ∈ (xs.drop K).take 4, 0 ≤ x ∧ x ≤ 255 := fun x hx => hb x (List.mem_of_mem_drop (List.mem_of_mem_take hx))
  have hne := newEye_any (some ⟨b, off + K, none⟩) ((xs.drop K).take 4) (cap - K) w hrow (by omega)
  rw [hlen] at hne
  have HNE := hide hne
  have hcap := hL.le
  have hmax := hL.max
  have hf := fld_take xs K 4 4 (Nat.le_refl _)
  have hlt := fld_lt xs K 4 hb
  obtain ⟨v, hv⟩ : ∃ v, fld xs K 4 = v := ⟨_, rfl⟩
  rw [hv] at hf hlt ⊢
  have HEN := hide (fun (E B : Nat) (W : World) (h : EyeAt W E B ((xs.drop K).take 4) false) => eyeNum_at E B 0 4 ((xs.drop K).take 4) W h hbs (by omega) (by omega) (by omega))
  rw [hf] at HEN
  have hvv : v ≤ 4294967295 := by simp at hlt; omega
  have h1 : IntKind.i64.wrap ((K : Int) + 4) = ((K + 4 : Nat) : Int) := by rw [IntKind.wrap_i64]; omega
  have h2 : K ≠ cap := by omega
  have h3 : ¬ cap = K := by omega
  clear hne hf hlt hv hb hbs hL hrow hlen hl
  go_enter Try.func99, Try.ntmps99
  go_wp2_with fail
  refine HNE.out.mono ?_
  rintro e w1 ⟨E, rfl, hE, heye, b1⟩
  have HB := hide b1
  have HEN2 := hide (HEN.out E E w1 heye)
  clear b1 heye HEN HNE
  go_wp2_with fail
  refine HEN2.out.mono ?_
  rintro e w2 ⟨rfl, _, g2⟩
  have HB2 := hide (HB.out.grown g2 HB.out.size (fun k e => by cases e; exact hE))
  clear g2 HEN2
  go_wp2_with fail
  go_ret
  exact ⟨rfl, HB2.out⟩
set_option maxHeartbeats 400000 in
theorem word_any (w : World) (a : Option Addr) (xs : List Int) (n cap K : Nat) (hL : Lies w a xs n cap) (hl : xs.length = n) (hb : ∀ x ∈ xs, 0 ≤ x ∧ x ≤ 255) (hn : n ≤ 5000) (hK : K + 2 ≤ n) :
    Calls Try.prog 62 #[.slice a n cap, .int .i64 (K : Int)] w fun e w' => e = .returned (.int .u16 (fld xs K 2 : Nat)) ∧ ∃ q, w' = w.drewN q := by
  obtain ⟨b, off, rfl, hlt, hc⟩ := hL.row.at (i := K) (by omega)
  have c0 := hc K (by omega)
  have c1 := hc (K + 1) (by omega)
  rw [fld_one xs K hb (by omega)] at c0
  rw [fld_one xs (K + 1) hb (by omega)] at c1
  have hp := fld_pair xs K hb (by omega)
  have b0 := fld_lt xs K 1 hb
  have b1 := fld_lt xs (K + 1) 1 hb
  obtain ⟨x, hx⟩ : ∃ v, fld xs K 1 = v := ⟨_, rfl⟩
  obtain ⟨y, hy⟩ : ∃ v, fld xs (K + 1) 1 = v := ⟨_, rfl⟩
  obtain ⟨v, hv⟩ : ∃ v, fld xs K 2 = v := ⟨_, rfl⟩
  rw [hx] at c0 hp b0
  rw [hy] at c1 hp b1
  rw [hv] at hp ⊢
  have HP := hide hp
  have hcap := hL.le
  have hmax := hL.max
  have h1 : IntKind.i64.wrap ((K : Int) + 1) = (K : Int) + 1 := by rw [IntKind.wrap_i64]; omega
  have hwx : IntKind.u16.wrap (x : Int) = (x : Int) := by rw [IntKind.wrap_u16]; omega
  have hwy : IntKind.u16.wrap (y : Int) = (y : Int) := by rw [IntKind.wrap_u16]; omega
  have h2 : IntKind.u16.wrap (256 * (x : Int)) = 256 * (x : Int) := by rw [IntKind.wrap_u16]; omega
  have h3 : IntKind.u16.wrap (256 * (x : Int) + (y : Int)) = (v : Int) := by rw [IntKind.wrap_u16]; omega
  have h4 : (0 : Int) ≤ (K : Int) := by omega
  have h5 : (K : Int) < (n : Int) := by omega
  have h6 : (0 : Int) ≤ (K : Int) + 1 := by omega
  have h7 : (K : Int) + 1 < (n : Int) := by omega
  have h9 : ((K : Int) + 1).toNat = K + 1 := by omega
  clear hp hx hy hv hc hL hl hb
  go_enter Try.func62, Try.ntmps62
  go_wp2_with fail
  go_quiet (fail)
  go_wp2_with fail
  go_ret
  exact ⟨rfl, _, rfl⟩
theorem fld_four (xs : List Int) (K : Nat) (hb : ∀ x ∈ xs, 0 ≤ x ∧ x ≤ 255) (hK : K + 4 ≤ xs.length) : fld xs K 4 = 65536 * fld xs K 2 + fld xs (K + 2) 2 := by
  have h : ∀ k, k ≤ 4 → valB ((xs.drop K).take k) = (fld xs K k : Int) := fun k _ => fld_eq xs K k hb
  have s : ∀ k, k < 4 → valB ((xs.drop K).take (k + 1)) = 256 * valB ((xs.drop K).take k) + (xs.drop K)[k]?.getD 0 := fun k hk => valB_snoc _ _ (by rw [List.length_drop]; omega)
  have t : ∀ k, k < 2 → valB ((xs.drop (K + 2)).take (k + 1)) = 256 * valB ((xs.drop (K + 2)).take k) + (xs.drop (K + 2))[k]?.getD 0 := fun k hk => valB_snoc _ _ (by rw [List.length_drop]; omega)
  have h2 := fld_eq xs (K + 2) 2 hb
  have e0 := t 0 (by omega)
  have e1 := t 1 (by omega)
  have s2 := s 2 (by omega)
  have s3 := s 3 (by omega)
  have i2 := h 2 (by omega)
  have i4 := h 4 (by omega)
  simp only [List.getElem?_drop] at e0 e1 s2 s3
  rw [show K + 2 + 0 = K + 2 by omega] at e0
  rw [show K + 2 + 1 = K + 3 by omega] at e1
  have z : valB ((xs.drop (K + 2)).take 0) = 0 := by simp [valB]
  simp only [Nat.zero_add, Nat.reduceAdd] at e0 e1 s2 s3
  omega
set_option maxHeartbeats 400000 in
theorem raddr_any (w : World) (a : Option Addr) (xs : List Int) (n cap K : Nat) (hL : Lies w a xs n cap) (hl : xs.length = n) (hb : ∀ x ∈ xs, 0 ≤ x ∧ x ≤ 255) (hn : n ≤ 5000) (hK : K + 4 ≤ n) :
    Calls Try.prog 65 #[.slice a n cap, .int .i64 (K : Int)] w fun e w' => e = .returned (.int .u32 (fld xs K 4 : Nat)) ∧ ∃ q, w' = w.drewN q := by
  have hp := fld_four xs K hb (by omega)
  have b0 := fld_lt xs K 2 hb
  have b1 := fld_lt xs (K + 2) 2 hb
  have H1 := hide (word_any w a xs n cap K hL hl hb hn (by omega))
  have H2 := hide (fun q => word_any (w.drewN q) a xs n cap (K + 2) (hL.below (bdrewN (Below.refl w.heap.size w) q) (Nat.le_refl _)) hl hb hn (by omega))
  obtain ⟨x, hx⟩ : ∃ v, fld xs K 2 = v := ⟨_, rfl⟩
  obtain ⟨y, hy⟩ : ∃ v, fld xs (K + 2) 2 = v := ⟨_, rfl⟩
  obtain ⟨v, hv⟩ : ∃ v, fld xs K 4 = v := ⟨_, rfl⟩
  rw [hx] at hp b0 H1
  rw [hy] at hp b1 H2
  rw [hv] at hp ⊢
  have h1 : IntKind.i64.wrap ((K : Int) + 2) = ((K + 2 : Nat) : Int) := by rw [IntKind.wrap_i64]; omega
  have h2 : IntKind.u32.wrap (65536 * (x : Int)) = 65536 * (x : Int) := by rw [IntKind.wrap_u32]; omega
  have h3 : IntKind.u32.wrap (65536 * (x : Int) + (y : Int)) = (v : Int) := by rw [IntKind.wrap_u32]; omega
  clear hp hx hy hv hL hl hb
  go_enter Try.func65, Try.ntmps65
  go_wp2_with fail
  refine H1.out.mono ?_
  rintro e w1 ⟨rfl, q, rfl⟩
  go_wp2_with fail
  refine (H2.out q).mono ?_
  rintro e w1 ⟨rfl, q2, rfl⟩
  go_wp2_with fail
  go_ret
  exact ⟨rfl, _, rfl⟩
end Go.Proofs.Ytgggcapgaikbeaa

/- What an error tells: the program's reading. -/
namespace Go.Proofs.Ytgggcapgaikbeaa
open Go.RowKit
set_option linter.unusedVariables false
set_option linter.unusedSimpArgs false
set_option maxRecDepth 100000
def qok (k c : Nat) : Bool := decide (c = 0) && (decide (k = 8) || decide (k = 0))
def qfrom (k c id : Nat) : Nat := if k = 8 ∧ c = 0 then id else 0
def qto (k c id : Nat) : Nat := if k = 0 ∧ c = 0 then id else 0
theorem query_any (k c id : Nat) (w : World) :
    Calls Try.prog 83 #[.int .u8 (k : Int), .int .u8 (c : Int), .int .u16 (id : Int)] w fun e w' => e = .returned (.tuple #[.int .u16 (qfrom k c id : Nat), .int .u16 (qto k c id : Nat), .bool (qok k c)]) ∧ w' = w := by
  obtain ⟨F, hF⟩ : ∃ v, qfrom k c id = v := ⟨_, rfl⟩
  obtain ⟨T, hT⟩ : ∃ v, qto k c id = v := ⟨_, rfl⟩
  obtain ⟨O, hO⟩ : ∃ v, qok k c = v := ⟨_, rfl⟩
  rw [hF, hT, hO]
  unfold qfrom at hF
  unfold qto at hT
  unfold qok at hO
  by_cases hc : c = 0
  · have c1 : ((c : Int) == 0) = true := by simp [hc]
    by_cases h8 : k = 8
    · have k1 : ((k : Int) == 8) = true := by simp [h8]
      have HE := hide (show F = id ∧ T = 0 ∧ O = true by refine ⟨by rw [← hF, if_pos ⟨h8, hc⟩], by rw [← hT, if_neg (by omega)], by rw [← hO]; simp [hc, h8]⟩)
      clear hF hT hO hc h8
      go_enter Try.func83, Try.ntmps83
      go_wp2_with fail
      go_ret3
      exact ⟨by rw [HE.out.1, HE.out.2.1, HE.out.2.2]; rfl, rfl⟩
    · have k1 : ((k : Int) == 8) = false := by simp; omega
      by_cases h0 : k = 0
      · have k2 : ((k : Int) == 0) = true := by simp [h0]
        have HE := hide (show F = 0 ∧ T = id ∧ O = true by refine ⟨by rw [← hF, if_neg (by omega)], by rw [← hT, if_pos ⟨h0, hc⟩], by rw [← hO]; simp [hc, h0]⟩)
        clear hF hT hO hc h8 h0
        go_enter Try.func83, Try.ntmps83
        go_wp2_with fail
        go_ret3
        exact ⟨by rw [HE.out.1, HE.out.2.1, HE.out.2.2]; rfl, rfl⟩
      · have k2 : ((k : Int) == 0) = false := by simp; omega
        have HE := hide (show F = 0 ∧ T = 0 ∧ O = false by refine ⟨by rw [← hF, if_neg (by omega)], by rw [← hT, if_neg (by omega)], by rw [← hO]; simp [h0, h8]⟩)
        clear hF hT hO hc h8 h0
        go_enter Try.func83, Try.ntmps83
        go_wp2_with fail
        go_ret3
        exact ⟨by rw [HE.out.1, HE.out.2.1, HE.out.2.2]; rfl, rfl⟩
  · have c1 : ((c : Int) == 0) = false := by simp; omega
    have HE := hide (show F = 0 ∧ T = 0 ∧ O = false by refine ⟨by rw [← hF, if_neg (by omega)], by rw [← hT, if_neg (by omega)], by rw [← hO]; simp [hc]⟩)
    obtain ⟨x, hx⟩ : ∃ x, ((k : Int) == 8) = x := ⟨_, rfl⟩
    obtain ⟨y, hy⟩ : ∃ x, ((k : Int) == 0) = x := ⟨_, rfl⟩
    clear hF hT hO hc
    cases x <;> cases y <;>
    · go_enter Try.func83, Try.ntmps83
      go_wp2_with fail
      go_ret3
      exact ⟨by rw [HE.out.1, HE.out.2.1, HE.out.2.2]; rfl, rfl⟩
/-- What an error tells of its packet. -/
def thead (xs : List Int) (n : Nat) : Bool := decide (28 ≤ n) && decide (fld xs 0 1 = 69) && decide (fld xs 6 2 % 8192 = 0)
def tfrom (xs : List Int) : Nat := if fld xs 9 1 = 6 ∨ fld xs 9 1 = 17 then fld xs 20 2 else if fld xs 9 1 = 1 then qfrom (fld xs 20 1) (fld xs 21 1) (fld xs 24 2) else 0
def tto (xs : List Int) : Nat := if fld xs 9 1 = 6 ∨ fld xs 9 1 = 17 then fld xs 22 2 else if fld xs 9 1 = 1 then qto (fld xs 20 1) (fld xs 21 1) (fld xs 24 2) else 0
def tins (xs : List Int) : Bool := if fld xs 9 1 = 6 ∨ fld xs 9 1 = 17 then true else if fld xs 9 1 = 1 then qok (fld xs 20 1) (fld xs 21 1) else false
def zeroF : Fl := ⟨0, 0, 0, 0, 0⟩
def tfl (xs : List Int) (n : Nat) : Fl := if thead xs n = true then ⟨fld xs 9 1, fld xs 12 4, fld xs 16 4, tfrom xs, tto xs⟩ else zeroF
def tok (xs : List Int) (n : Nat) : Bool := thead xs n && tins xs
/-- A flow's box. -/
def FB (w : World) (R : Nat) (p s d f t : Int) : Prop := w.heap[R]? = some (.cells #[.int .u8 p, .int .u32 s, .int .u32 d, .int .u16 f, .int .u16 t] 29 (0, 0))
theorem FB.below {w w' : World} {R B : Nat} {p s d f t : Int} (h : FB w R p s d f t) (hb : Below B w w') (hB : w.heap.size ≤ B) : FB w' R p s d f t := below_block hb h hB
theorem FB.set3 {w : World} {R : Nat} {p s d f t : Int} (h : FB w R p s d f t) (x : Int) : FB (w.setCell ⟨R, 3, none⟩ (.int .u16 x)) R p s d x t := heap_setCell_same w R 3 _ _ _ h
theorem FB.set4 {w : World} {R : Nat} {p s d f t : Int} (h : FB w R p s d f t) (x : Int) : FB (w.setCell ⟨R, 4, none⟩ (.int .u16 x)) R p s d f x := heap_setCell_same w R 4 _ _ _ h
theorem FB.store {w : World} {R : Nat} {p s d f t : Int} (h : FB w R p s d f t) (p' s' d' f' t' : Int) : FB (((((w.setCell ⟨R, 0, none⟩ (.int .u8 p')).setCell ⟨R, 1, none⟩ (.int .u32 s')).setCell ⟨R, 2, none⟩ (.int .u32 d')).setCell ⟨R, 3, none⟩ (.int .u16 f')).setCell ⟨R, 4, none⟩ (.int .u16 t')) R p' s' d' f' t' := by
  have h0 := heap_setCell_same w R 0 _ _ (.int .u8 p') h
  have h1 := heap_setCell_same _ R 1 _ _ (.int .u32 s') h0
  have h2 := heap_setCell_same _ R 2 _ _ (.int .u32 d') h1
  have h3 := heap_setCell_same _ R 3 _ _ (.int .u16 f') h2
  exact heap_setCell_same _ R 4 _ _ (.int .u16 t') h3
theorem below5 {W w : World} {B R : Nat} (h : Below B W w) (hR : B ≤ R) (a b c d e : Value) : Below B W (((((w.setCell ⟨R, 0, none⟩ a).setCell ⟨R, 1, none⟩ b).setCell ⟨R, 2, none⟩ c).setCell ⟨R, 3, none⟩ d).setCell ⟨R, 4, none⟩ e) :=
  ((((h.setCell (p := ⟨R, 0, none⟩) hR a).setCell (p := ⟨R, 1, none⟩) hR b).setCell (p := ⟨R, 2, none⟩) hR c).setCell (p := ⟨R, 3, none⟩) hR d).setCell (p := ⟨R, 4, none⟩) hR e
/-- The head isn't one. -/
theorem told_head (w : World) (a : Option Addr) (xs : List Int) (n cap : Nat) (hL : Lies w a xs n cap) (hl : xs.length = n) (hb : ∀ x ∈ xs, 0 ≤ x ∧ x ≤ 255) (hn : n ≤ 5000) (hh : thead xs n = false) :
    Calls Try.prog 82 #[.slice a n cap] w fun e w' => e = .returned (.tuple #[zeroF.v, .bool false]) ∧ Below w.heap.size w w' := by
  have hR := (Below.refl w.heap.size w).alloc (Nat.le_refl _) (.cells #[.int .u8 0, .int .u32 0, .int .u32 0, .int .u16 0, .int .u16 0] 29)
  have hend : ∀ (W : World), Below (w.alloc (.cells #[.int .u8 0, .int .u32 0, .int .u32 0, .int .u16 0, .int .u16 0] 29)).heap.size (w.alloc (.cells #[.int .u8 0, .int .u32 0, .int .u32 0, .int .u16 0, .int .u16 0] 29)) W → ∃ W2, ((((W.setCell ⟨w.heap.size, 0, none⟩ (.int .u8 0)).setCell ⟨w.heap.size, 1, none⟩ (.int .u32 0)).setCell ⟨w.heap.size, 2, none⟩ (.int .u32 0)).setCell ⟨w.heap.size, 3, none⟩ (.int .u16 0)).setCell ⟨w.heap.size, 4, none⟩ (.int .u16 0) = W2 ∧ FB W2 w.heap.size 0 0 0 0 0 ∧ Below w.heap.size w W2 := fun W hW =>
    ⟨_, rfl, FB.store (below_block hW (heap_alloc_new w _) (Nat.le_refl _)) 0 0 0 0 0, below5 (hR.trans (hW.mono hR.size)) (Nat.le_refl _) _ _ _ _ _⟩
  obtain ⟨V, hV⟩ : ∃ V, zeroF.v = V := ⟨_, rfl⟩
  rw [hV]
  have HV := hide (show Value.agg #[.int .u8 0, .int .u32 0, .int .u32 0, .int .u16 0, .int .u16 0] = V from hV)
  clear hV
  by_cases h28 : n < 28
  · have d1 : decide ((n : Int) < 28) = true := by simp; omega
    clear hh hl
    have HEND := hide hend
    clear hend hR
    go_enter Try.func82, Try.ntmps82
    go_wp2_with fail
    refine bodyPost_ret (v := .tuple #[V, .bool false]) (by rw [← HV.out]; simp [results, Try.results82, go_sem]) rfl ⟨rfl, ?_⟩
    repeat (first | exact Below.refl _ _ | refine Below.setCell ?_ (Nat.le_refl _) _ | refine Below.setCell ?_ (by simp; omega) _ | refine Below.alloc ?_ (by first | (simp; done) | (simp; omega)) _)
  · have d1 : decide ((n : Int) < 28) = false := by simp; omega
    obtain ⟨b, off, rfl, hlt, hc⟩ := hL.row.at (i := 0) (by omega)
    have c0 := hc 0 (by omega)
    rw [fld_one xs 0 hb (by omega)] at c0
    by_cases h69 : fld xs 0 1 = 69
    · have d2 : ((fld xs 0 1 : Int) != 69) = false := by rw [h69]; rfl
      have hz : ¬ fld xs 6 2 % 8192 = 0 := by
        intro h0
        unfold thead at hh
        rw [show decide (28 ≤ n) = true by simp; omega, show decide (fld xs 0 1 = 69) = true by simpa using h69, show decide (fld xs 6 2 % 8192 = 0) = true by simpa using h0] at hh
        cases hh
      have hlt6 := fld_lt xs 6 2 hb
      have H6 := hide (fun (W : World) (hW : Below w.heap.size w W) => (show Calls Try.prog 98 #[.slice (some ⟨b, off, none⟩) n cap, .int .i64 6] W _ from fhalf_any W (some ⟨b, off, none⟩) xs n cap 6 (hL.below hW (Nat.le_refl _)) hl hb hn (by omega)))
      obtain ⟨v, hv⟩ : ∃ v, fld xs 6 2 = v := ⟨_, rfl⟩
      rw [hv] at hz hlt6 H6
      have d3 : (bits .and .u16 (v : Int) 8191 != 0) = true := by
        have : bits .and .u16 (v : Int) 8191 = ((v % 8192 : Nat) : Int) := by
          rw [show (8191 : Int) = ((8191 : Nat) : Int) from rfl, u16_and_nat _ _ (by simp at hlt6; omega) (by omega), show 8191 = 2 ^ 13 - 1 from rfl, Nat.and_two_pow_sub_one_eq_mod]
        rw [this]; simp; omega
      obtain ⟨u, hu⟩ : ∃ v, fld xs 0 1 = v := ⟨_, rfl⟩
      rw [hu] at c0 d2
      have HR := hide hR
      have HEND := hide hend
      rw [Nat.add_zero] at c0
      clear hh hl hz hlt6 hv hu h69 hc hb hL hend hR
      go_enter Try.func82, Try.ntmps82
      go_wp2_with fail
      refine (H6.out _ HR.out).mono ?_
      rintro e w1 ⟨rfl, b1⟩
      obtain ⟨W2, hW2, hfb, hbb⟩ := HEND.out w1 b1
      obtain ⟨x0, x1, x2, x3, x4, xf⟩ := five_cells (below_block b1 (heap_alloc_new w (.cells #[.int .u8 0, .int .u32 0, .int .u32 0, .int .u16 0, .int .u16 0] 29)) (Nat.le_refl _))
      obtain ⟨y0, y1, y2, y3, y4, yf⟩ := five_cells hfb
      have HB := hide hbb
      clear b1 hfb hbb HEND H6 HR
      go_wp2_with fail
      try rw [hW2]
      refine bodyPost_ret (v := .tuple #[V, .bool false]) (by rw [← HV.out]; simp [results, Try.results82, go_sem, y0, y1, y2, y3, y4]) rfl ⟨rfl, HB.out⟩
    · have d2 : ((fld xs 0 1 : Int) != 69) = true := by simp; omega
      obtain ⟨u, hu⟩ : ∃ v, fld xs 0 1 = v := ⟨_, rfl⟩
      rw [hu] at c0 d2
      rw [Nat.add_zero] at c0
      clear hh hl hu h69 hc hb hL hend hR
      go_enter Try.func82, Try.ntmps82
      go_wp2_with fail
      refine bodyPost_ret (v := .tuple #[V, .bool false]) (by rw [← HV.out]; simp [results, Try.results82, go_sem]) rfl ⟨rfl, ?_⟩
      repeat (first | exact Below.refl _ _ | refine Below.setCell ?_ (Nat.le_refl _) _ | refine Below.setCell ?_ (by simp; omega) _ | refine Below.alloc ?_ (by first | (simp; done) | (simp; omega)) _)
end Go.Proofs.Ytgggcapgaikbeaa

/- What an error tells: the program's reading, where the head is one. -/
namespace Go.Proofs.Ytgggcapgaikbeaa
open Go.RowKit
set_option linter.unusedVariables false
set_option linter.unusedSimpArgs false
set_option maxRecDepth 100000
/-- What stands behind the first flow. -/
structure TG (w : World) (R B : Nat) (p s d f t : Int) (W : World) : Prop where
  lt : R < B
  le : w.heap.size ≤ R
  fb : FB W B p s d f t
  fr : FB W R 0 0 0 0 0
  below : Below w.heap.size w W
theorem TG.below' {w W W2 : World} {R B : Nat} {p s d f t : Int} (h : TG w R B p s d f t W) (hb : Below W.heap.size W W2) : TG w R B p s d f t W2 :=
  ⟨h.lt, h.le, h.fb.below hb (Nat.le_refl _), h.fr.below hb (Nat.le_refl _), h.below.trans (hb.mono h.below.size)⟩
theorem FB.other {w : World} {R R2 i : Nat} {p s d f t : Int} {v : Value} (h : FB w R p s d f t) (hne : R ≠ R2) : FB (w.setCell ⟨R2, i, none⟩ v) R p s d f t := by
  unfold FB; rw [heap_setCell_other _ _ _ _ hne]; exact h
theorem TG.store {w W : World} {R B : Nat} {p s d f t : Int} (h : TG w R B p s d f t W) (p' s' d' f' t' : Int) : TG w R B p' s' d' f' t' (((((W.setCell ⟨B, 0, none⟩ (.int .u8 p')).setCell ⟨B, 1, none⟩ (.int .u32 s')).setCell ⟨B, 2, none⟩ (.int .u32 d')).setCell ⟨B, 3, none⟩ (.int .u16 f')).setCell ⟨B, 4, none⟩ (.int .u16 t')) := by
  have hne : R ≠ B := by have := h.lt; omega
  exact ⟨h.lt, h.le, h.fb.store p' s' d' f' t', ((((h.fr.other hne).other hne).other hne).other hne).other hne, below5 h.below (by have := h.lt; have := h.le; omega) _ _ _ _ _⟩
theorem TG.ports {w W : World} {R B : Nat} {p s d f t : Int} (h : TG w R B p s d f t W) (f' t' : Int) : TG w R B p s d f' t' ((W.setCell ⟨B, 3, none⟩ (.int .u16 f')).setCell ⟨B, 4, none⟩ (.int .u16 t')) := by
  have hne : R ≠ B := by have := h.lt; omega
  have hle : w.heap.size ≤ B := by have := h.lt; have := h.le; omega
  exact ⟨h.lt, h.le, (h.fb.set3 f').set4 t', (h.fr.other hne).other hne, (h.below.setCell (p := ⟨B, 3, none⟩) hle _).setCell (p := ⟨B, 4, none⟩) hle _⟩
/-- The answer is stored. -/
theorem TG.answer {w W : World} {R B : Nat} {p s d f t : Int} (h : TG w R B p s d f t W) : ∃ W2, ((((W.setCell ⟨R, 0, none⟩ (.int .u8 p)).setCell ⟨R, 1, none⟩ (.int .u32 s)).setCell ⟨R, 2, none⟩ (.int .u32 d)).setCell ⟨R, 3, none⟩ (.int .u16 f)).setCell ⟨R, 4, none⟩ (.int .u16 t) = W2 ∧ FB W2 R p s d f t ∧ Below w.heap.size w W2 :=
  ⟨_, rfl, h.fr.store p s d f t, below5 h.below h.le _ _ _ _ _⟩
theorem TG.alloc {w W : World} {R : Nat} (hR : w.heap.size ≤ R) (hfr : FB W R 0 0 0 0 0) (hb : Below w.heap.size w W) (p s d f t : Int) : TG w R W.heap.size p s d f t (W.alloc (.cells #[.int .u8 p, .int .u32 s, .int .u32 d, .int .u16 f, .int .u16 t] 29)) :=
  ⟨lt_of_block hfr, hR, heap_alloc_new _ _, hfr.below ((Below.refl _ _).alloc (Nat.le_refl _) _) (Nat.le_refl _), hb.alloc hb.size _⟩
set_option maxHeartbeats 4000000 in
theorem told_good (w : World) (a : Option Addr) (xs : List Int) (n cap : Nat) (hL : Lies w a xs n cap) (hl : xs.length = n) (hb : ∀ x ∈ xs, 0 ≤ x ∧ x ≤ 255) (hn : n ≤ 5000) (hh : thead xs n = true) :
    Calls Try.prog 82 #[.slice a n cap] w fun e w' => e = .returned (.tuple #[(tfl xs n).v, .bool (tins xs)]) ∧ Below w.heap.size w w' := by
  unfold tfl
  rw [if_pos hh]
  unfold thead at hh
  simp only [Bool.and_eq_true, decide_eq_true_eq] at hh
  obtain ⟨⟨h28, h69⟩, h6⟩ := hh
  have d1 : decide ((n : Int) < 28) = false := by simp; omega
  obtain ⟨b, off, rfl, hlt, hc⟩ := hL.row.at (i := 0) (by omega)
  have c0 := hc 0 (by omega)
  have c9 := hc 9 (by omega)
  have c20 := hc 20 (by omega)
  have c21 := hc 21 (by omega)
  rw [fld_one xs 0 hb (by omega), h69] at c0
  rw [fld_one xs 9 hb (by omega)] at c9
  rw [fld_one xs 20 hb (by omega)] at c20
  rw [fld_one xs 21 hb (by omega)] at c21
  rw [Nat.add_zero] at c0
  have hlt6 := fld_lt xs 6 2 hb
  have d3 : (bits .and .u16 (fld xs 6 2 : Int) 8191 != 0) = false := by
    have : bits .and .u16 (fld xs 6 2 : Int) 8191 = ((fld xs 6 2 % 8192 : Nat) : Int) := by
      rw [show (8191 : Int) = ((8191 : Nat) : Int) from rfl, u16_and_nat _ _ (by simp at hlt6; omega) (by omega), show 8191 = 2 ^ 13 - 1 from rfl, Nat.and_two_pow_sub_one_eq_mod]
    rw [this, h6]; rfl
  have H2 := hide (fun (W : World) (K : Nat) (k : Int) (hk : (K : Int) = k) (hK : K + 2 ≤ n) (hW : Below w.heap.size w W) => (show Calls Try.prog 98 #[.slice (some ⟨b, off, none⟩) n cap, .int .i64 k] W _ from hk ▸ fhalf_any W (some ⟨b, off, none⟩) xs n cap K (hL.below hW (Nat.le_refl _)) hl hb hn hK))
  have H4 := hide (fun (W : World) (K : Nat) (k : Int) (hk : (K : Int) = k) (hK : K + 4 ≤ n) (hW : Below w.heap.size w W) => (show Calls Try.prog 99 #[.slice (some ⟨b, off, none⟩) n cap, .int .i64 k] W _ from hk ▸ faddr_any W (some ⟨b, off, none⟩) xs n cap K (hL.below hW (Nat.le_refl _)) hl hb hn hK))
  have hR := (Below.refl w.heap.size w).alloc (Nat.le_refl _) (.cells #[.int .u8 0, .int .u32 0, .int .u32 0, .int .u16 0, .int .u16 0] 29)
  have hfR : FB (w.alloc (.cells #[.int .u8 0, .int .u32 0, .int .u32 0, .int .u16 0, .int .u16 0] 29)) w.heap.size 0 0 0 0 0 := heap_alloc_new w _
  obtain ⟨R, w0, hw, hw0, HR0, HB0, hRw⟩ : ∃ R w0, w.heap.size = R ∧ w.alloc (.cells #[.int .u8 0, .int .u32 0, .int .u32 0, .int .u16 0, .int .u16 0] 29) = w0 ∧ Hid (FB w0 R 0 0 0 0 0) ∧ Hid (Below w.heap.size w w0) ∧ w.heap.size ≤ R := ⟨_, _, rfl, rfl, hide hfR, hide hR, Nat.le_refl _⟩
  have HW0 := hide (And.intro hw hw0)
  obtain ⟨P, hP⟩ : ∃ v, fld xs 9 1 = v := ⟨_, rfl⟩
  obtain ⟨Sx, hS⟩ : ∃ v, fld xs 12 4 = v := ⟨_, rfl⟩
  obtain ⟨D, hD⟩ : ∃ v, fld xs 16 4 = v := ⟨_, rfl⟩
  obtain ⟨ty, hty⟩ : ∃ v, fld xs 20 1 = v := ⟨_, rfl⟩
  obtain ⟨co, hco⟩ : ∃ v, fld xs 21 1 = v := ⟨_, rfl⟩
  have HP := hide (And.intro hP (And.intro hS (And.intro hD (And.intro hty hco))))
  rw [hP] at c9
  rw [hty] at c20
  rw [hco] at c21
  rw [hP, hS, hD]
  obtain ⟨FF, hFF⟩ : ∃ v, tfrom xs = v := ⟨_, rfl⟩
  obtain ⟨TT, hTT⟩ : ∃ v, tto xs = v := ⟨_, rfl⟩
  obtain ⟨OO, hOO⟩ : ∃ v, tins xs = v := ⟨_, rfl⟩
  rw [hFF, hTT, hOO]
  have HFTO := hide (show (if P = 6 ∨ P = 17 then fld xs 20 2 else if P = 1 then qfrom ty co (fld xs 24 2) else 0) = FF ∧ (if P = 6 ∨ P = 17 then fld xs 22 2 else if P = 1 then qto ty co (fld xs 24 2) else 0) = TT ∧ (if P = 6 ∨ P = 17 then true else if P = 1 then qok ty co else false) = OO by
    rw [← hFF, ← hTT, ← hOO]; unfold tfrom tto tins; rw [hP, hty, hco]; exact ⟨rfl, rfl, rfl⟩)
  unfold Fl.v
  dsimp only
  have HC := hide (show ∀ W, Below w.heap.size w W → W.cell? ⟨b, off + 9, none⟩ = some (.int .u8 (P : Int)) ∧ W.cell? ⟨b, off + 20, none⟩ = some (.int .u8 (ty : Int)) ∧ W.cell? ⟨b, off + 21, none⟩ = some (.int .u8 (co : Int)) ∧ b < W.heap.size from fun W hW =>
    ⟨(hW.cell (p := ⟨b, _, none⟩) hlt).trans c9, (hW.cell (p := ⟨b, _, none⟩) hlt).trans c20, (hW.cell (p := ⟨b, _, none⟩) hlt).trans c21, Nat.lt_of_lt_of_le hlt hW.size⟩)
  have c0' := (HB0.out.cell (p := ⟨b, off, none⟩) hlt).trans c0
  have i9 : (9 : Int) < (n : Int) := by omega
  have i20 : (20 : Int) < (n : Int) := by omega
  have i21 : (21 : Int) < (n : Int) := by omega
  clear hw hw0 hFF hTT hOO hP hS hD hty hco c0 c9 c20 c21 hR hfR hc hb hl hL h69 h6 hlt6
  go_enter Try.func82, Try.ntmps82
  go_upto_region 1 with (fail)
  rw [HW0.out.2, HW0.out.1]
  clear HW0
  go_wp2_with fail
  refine (H2.out _ 6 6 rfl (by omega) HB0.out).mono ?_
  rintro e w1 ⟨rfl, b1⟩
  have HR1 := hide (HR0.out.below b1 (Nat.le_refl _))
  have HB1 := hide (HB0.out.trans (b1.mono HB0.out.size))
  clear b1 c0' HR0 HB0
  go_upto_region 3 with (fail)
  go_cut [4, 5] from 6 (fun v4 v5 wz => ∃ B, v4 = .pointer (some ⟨B, 0, none⟩) ∧ v5 = .bool false ∧ Hid (TG w R B P Sx D 0 0 wz))
  case first =>
    obtain ⟨k9, k20, k21, kb⟩ := HC.out w1 HB1.out
    have H12 := hide (fun (W : World) (hW : Below w.heap.size w W) => H4.out W 12 12 rfl (by omega) hW)
    have H16 := hide (fun (W : World) (hW : Below w.heap.size w W) => H4.out W 16 16 rfl (by omega) hW)
    rw [HP.out.2.1] at H12
    rw [HP.out.2.2.1] at H16
    have hs1 := HB1.out.size
    have HBd := hide HB1.out.drew
    have HBa := hide ((HB1.out.alloc HB1.out.size (.cells #[.int .u8 0, .int .u32 0, .int .u32 0, .int .u16 0, .int .u16 0] 29)).drew)
    clear k20 k21
    go_region_held3 (fun w' => w'.cell? ⟨b, off + 9, none⟩ = some (.int .u8 (P : Int))) ((first | (with_reducible exact (HC.out _ HB6.out).1) | (with_reducible exact (HC.out _ HB5.out).1) | (with_reducible exact (HC.out _ (HB6.out.alloc HB6.out.size _)).1) | (with_reducible exact (HC.out _ (HB5.out.alloc HB5.out.size _)).1) | (with_reducible exact (HC.out _ (below5 HB6.out (by omega) _ _ _ _ _)).1) | (go_keep; done))) (first
      | (go_at_call 99; (with_reducible refine (H12.out _ HBd.out).mono ?_); rintro _ w5 ⟨rfl, b5⟩; have HB5 := hide (HBd.out.trans (b5.mono HBd.out.size)); have HK5 := hide b5; have hb5 := (HC.out _ HB5.out).2.2.2; have hs5 := HB5.out.size; clear b5)
      | (go_at_call 99; (with_reducible refine (H12.out _ HBa.out).mono ?_); rintro _ w5 ⟨rfl, b5⟩; have HB5 := hide (HBa.out.trans (b5.mono HBa.out.size)); have HZ5 := hide (((TG.alloc hRw HR1.out HB1.out 0 0 0 0 0).below' (Below.refl _ _).drew).below' b5); have hb5 := (HC.out _ HB5.out).2.2.2; have hs5 := HB5.out.size; clear b5)
      | (go_at_call 99; (with_reducible refine (H16.out _ HB5.out).mono ?_); rintro _ w6 ⟨rfl, b6⟩; have HB6 := hide (HB5.out.trans (b6.mono HB5.out.size)); have HK6 := hide b6; (try (have HZ6 := hide (HZ5.out.below' b6); obtain ⟨q0, q1, q2, q3, q4, qf⟩ := five_cells HZ6.out.fb)); have hb6 := (HC.out _ HB6.out).2.2.2; clear b6)
      | (go_at_call 99; (with_reducible refine (H16.out _ (HB5.out.alloc HB5.out.size (.cells #[.int .u8 0, .int .u32 0, .int .u32 0, .int .u16 0, .int .u16 0] 29))).mono ?_); rintro _ w6 ⟨rfl, b6⟩; have HB6 := hide ((HB5.out.alloc HB5.out.size (.cells #[.int .u8 0, .int .u32 0, .int .u32 0, .int .u16 0, .int .u16 0] 29)).trans (b6.mono (HB5.out.alloc HB5.out.size (.cells #[.int .u8 0, .int .u32 0, .int .u32 0, .int .u16 0, .int .u16 0] 29)).size)); have HZ6 := hide ((TG.alloc hRw ((HR1.out.below (Below.refl _ _).drew (Nat.le_refl _)).below HK5.out (Nat.le_refl _)) HB5.out 0 0 0 0 0).below' b6); have hb6 := (HC.out _ HB6.out).2.2.2; obtain ⟨q0, q1, q2, q3, q4, qf⟩ := five_cells HZ6.out.fb; clear b6)
      | fail)
    all_goals
      go_wp2_with fail
      go_meet
      case rel =>
        first
        | exact ⟨_, rfl, rfl, hide (HZ6.out.store P Sx D 0 0)⟩
        | exact ⟨_, rfl, rfl, hide (TG.alloc hRw (((HR1.out.below (Below.refl _ _).drew (Nat.le_refl _)).below HK5.out (Nat.le_refl _)).below HK6.out (Nat.le_refl _)) HB6.out P Sx D 0 0)⟩
  case rest =>
    clear HR1 HB1
    obtain ⟨B, rfl, rfl, HT⟩ := hcut
    have hne : R ≠ B := by have := HT.out.lt; omega
    have hBw : w.heap.size ≤ B := by have := HT.out.lt; omega
    obtain ⟨x0, x1, x2, x3, x4, xf⟩ := five_cells HT.out.fb
    by_cases h617 : P = 6 ∨ P = 17
    · have HV := hide (show FF = fld xs 20 2 ∧ TT = fld xs 22 2 ∧ OO = true by
        have h := HFTO.out
        rw [if_pos h617, if_pos h617, if_pos h617] at h
        exact ⟨h.1.symm, h.2.1.symm, h.2.2.symm⟩)
      have H20 := hide (fun (W : World) (hW : Below w.heap.size w W) => H2.out W 20 20 rfl (by omega) hW)
      have H22 := hide (fun (W : World) (hW : Below w.heap.size w W) => H2.out W 22 22 rfl (by omega) hW)
      rw [← HV.out.1] at H20
      rw [← HV.out.2.1] at H22
      have hcase : (((P : Int) == 6) = true) ∨ (((P : Int) == 6) = false ∧ ((P : Int) == 17) = true) := by
        rcases h617 with h | h
        · left; simp [h]
        · right; exact ⟨by simp; omega, by simp [h]⟩
      clear h617
      rcases hcase with d6 | ⟨d6, d17⟩
      all_goals
        go_wp2_with fail
        refine (H20.out _ HT.out.below).mono ?_
        rintro e w7 ⟨rfl, b7⟩
        have HT7 := hide (HT.out.below' b7)
        clear b7 x0 x1 x2 x3 x4 xf
        go_wp2_with fail
        refine (H22.out _ HT7.out.below).mono ?_
        rintro e w8 ⟨rfl, b8⟩
        have HT8 := hide (HT7.out.below' b8)
        clear b8
        obtain ⟨x0, x1, x2, x3, x4, xf⟩ := five_cells HT8.out.fb
        obtain ⟨w9, h9, HT9⟩ : ∃ wt, (w8.setCell ⟨B, 3, none⟩ (.int .u16 (FF : Int))).setCell ⟨B, 4, none⟩ (.int .u16 (TT : Int)) = wt ∧ Hid (TG w R B P Sx D FF TT wt) := ⟨_, rfl, hide (HT8.out.ports FF TT)⟩
        go_upto_region 10 with (fail)
        try rw [h9]
        clear h9 x0 x1 x2 x3 x4 xf HT HT7 HT8
        obtain ⟨x0, x1, x2, x3, x4, xf⟩ := five_cells HT9.out.fb
        obtain ⟨y0, y1, y2, y3, y4, yf⟩ := five_cells HT9.out.fr
        obtain ⟨w10, h10, hfb, hbb⟩ := HT9.out.answer
        obtain ⟨z0, z1, z2, z3, z4, zf⟩ := five_cells hfb
        have HB10 := hide hbb
        clear hfb hbb
        go_wp2_with fail
        try rw [h10]
        refine bodyPost_ret (v := .tuple #[.agg #[.int .u8 (P : Int), .int .u32 (Sx : Int), .int .u32 (D : Int), .int .u16 (FF : Int), .int .u16 (TT : Int)], .bool true]) (by simp [results, Try.results82, go_sem, z0, z1, z2, z3, z4]) rfl ⟨by rw [HV.out.2.2], HB10.out⟩
    · have d6 : ((P : Int) == 6) = false := by simp; omega
      have d17 : ((P : Int) == 17) = false := by simp; omega
      by_cases h1 : P = 1
      · have d1' : ((P : Int) == 1) = true := by simp [h1]
        have HV := hide (show FF = qfrom ty co (fld xs 24 2) ∧ TT = qto ty co (fld xs 24 2) ∧ OO = qok ty co by
          have h := HFTO.out
          rw [if_neg h617, if_neg h617, if_neg h617, if_pos h1, if_pos h1, if_pos h1] at h
          exact ⟨h.1.symm, h.2.1.symm, h.2.2.symm⟩)
        have H24 := hide (fun (W : World) (hW : Below w.heap.size w W) => H2.out W 24 24 rfl (by omega) hW)
        have HQ := hide (fun W : World => query_any ty co (fld xs 24 2) W)
        rw [← HV.out.1, ← HV.out.2.1, ← HV.out.2.2] at HQ
        generalize fld xs 24 2 = id at *
        clear h617 h1
        go_upto_region 9 with (fail)
        obtain ⟨k9, k20, k21, kb⟩ := HC.out _ HT.out.below
        have HTd := hide (HT.out.below' (Below.refl _ _).drew)
        clear k9
        go_region_held3 (fun w' => w'.cell? ⟨b, off + 20, none⟩ = some (.int .u8 (ty : Int)) ∧ w'.cell? ⟨b, off + 21, none⟩ = some (.int .u8 (co : Int))) ((first | (with_reducible exact And.intro (HC.out _ HT7.out.below).2.1 (HC.out _ HT7.out.below).2.2.1) | (with_reducible exact And.intro (HC.out _ (HT7.out.below.setCell (p := ⟨B, 3, none⟩) hBw _)).2.1 (HC.out _ (HT7.out.below.setCell (p := ⟨B, 3, none⟩) hBw _)).2.2.1) | (with_reducible exact And.intro (HC.out _ ((HT7.out.below.setCell (p := ⟨B, 3, none⟩) hBw _).setCell (p := ⟨B, 4, none⟩) hBw _)).2.1 (HC.out _ ((HT7.out.below.setCell (p := ⟨B, 3, none⟩) hBw _).setCell (p := ⟨B, 4, none⟩) hBw _)).2.2.1) | (go_keep; done))) (first
          | (go_at_call 98; (with_reducible refine (H24.out _ HTd.out.below).mono ?_); rintro _ w7 ⟨rfl, b7⟩; have HT7 := hide (HTd.out.below' b7); obtain ⟨z0, z1, z2, z3, z4, zf⟩ := five_cells HT7.out.fb; clear b7)
          | (go_at_call 83; (with_reducible refine (HQ.out _).mono ?_); rintro _ w8 ⟨rfl, rfl⟩)
          | fail)
        all_goals
          have HT9 := HT7.out.ports FF TT
          obtain ⟨w9, h9, HT9⟩ : ∃ wt, _ = wt ∧ Hid (TG w R B P Sx D FF TT wt) := ⟨_, rfl, hide HT9⟩
          rw [h9]
          clear h9 x0 x1 x2 x3 x4 xf HT HT7 HTd z0 z1 z2 z3 z4 zf
          obtain ⟨x0, x1, x2, x3, x4, xf⟩ := five_cells HT9.out.fb
          obtain ⟨y0, y1, y2, y3, y4, yf⟩ := five_cells HT9.out.fr
          obtain ⟨w10, h10, hfb, hbb⟩ := HT9.out.answer
          obtain ⟨z0, z1, z2, z3, z4, zf⟩ := five_cells hfb
          have HB10 := hide hbb
          clear hfb hbb
          go_wp2_with fail
          try rw [h10]
          refine bodyPost_ret (v := .tuple #[.agg #[.int .u8 (P : Int), .int .u32 (Sx : Int), .int .u32 (D : Int), .int .u16 (FF : Int), .int .u16 (TT : Int)], .bool OO]) (by simp [results, Try.results82, go_sem, z0, z1, z2, z3, z4]) rfl ⟨rfl, HB10.out⟩
      · have d1' : ((P : Int) == 1) = false := by simp; omega
        have HV := hide (show FF = 0 ∧ TT = 0 ∧ OO = false by
          have h := HFTO.out
          rw [if_neg h617, if_neg h617, if_neg h617, if_neg h1, if_neg h1, if_neg h1] at h
          exact ⟨h.1.symm, h.2.1.symm, h.2.2.symm⟩)
        clear h617 h1
        obtain ⟨y0, y1, y2, y3, y4, yf⟩ := five_cells HT.out.fr
        obtain ⟨w10, h10, hfb, hbb⟩ := HT.out.answer
        obtain ⟨z0, z1, z2, z3, z4, zf⟩ := five_cells hfb
        have HB10 := hide hbb
        clear hfb hbb
        go_wp2_with fail
        try rw [h10]
        refine bodyPost_ret (v := .tuple #[.agg #[.int .u8 (P : Int), .int .u32 (Sx : Int), .int .u32 (D : Int), .int .u16 0, .int .u16 0], .bool false]) (by simp [results, Try.results82, go_sem, z0, z1, z2, z3, z4]) rfl ⟨by rw [HV.out.1, HV.out.2.1, HV.out.2.2]; rfl, HB10.out⟩
end Go.Proofs.Ytgggcapgaikbeaa

/- What an error tells: the document's reading. -/
namespace Go.Proofs.Ytgggcapgaikbeaa
open Go.RowKit
set_option linter.unusedVariables false
set_option linter.unusedSimpArgs false
set_option maxRecDepth 100000
def innFl (xs : List Int) (n : Nat) : Fl := if tok xs n = true then tfl xs n else zeroF
/-- The answer none. -/
theorem TG.none {w W : World} {R : Nat} (hR : w.heap.size ≤ R) (hfr : FB W R 0 0 0 0 0) (hb : Below w.heap.size w W) : ∃ W2, ((((W.setCell ⟨R, 0, none⟩ (.int .u8 0)).setCell ⟨R, 1, none⟩ (.int .u32 0)).setCell ⟨R, 2, none⟩ (.int .u32 0)).setCell ⟨R, 3, none⟩ (.int .u16 0)).setCell ⟨R, 4, none⟩ (.int .u16 0) = W2 ∧ FB W2 R 0 0 0 0 0 ∧ Below w.heap.size w W2 :=
  ⟨_, rfl, hfr.store 0 0 0 0 0, below5 hb hR _ _ _ _ _⟩
theorem belowDA {B : Nat} {w w1 : World} (h : Below B w w1) (hs : B ≤ w1.heap.size) (k : Nat) (o : Obj) : Below B w ((w1.drewN k).alloc o) := (bdrewN h k).alloc hs o
theorem belowDAD {B : Nat} {w w1 : World} (h : Below B w w1) (hs : B ≤ w1.heap.size) (k m : Nat) (o : Obj) : Below B w (((w1.drewN k).alloc o).drewN m) := bdrewN ((bdrewN h k).alloc hs o) m
theorem belowAD {B : Nat} {w w1 : World} (h : Below B w w1) (hs : B ≤ w1.heap.size) (m : Nat) (o : Obj) : Below B w ((w1.alloc o).drewN m) := bdrewN (h.alloc hs o) m
theorem TG.allocD {w W : World} {R : Nat} (hR : w.heap.size ≤ R) (hfr : FB W R 0 0 0 0 0) (hb : Below w.heap.size w W) (k : Nat) (p s d f t : Int) : TG w R W.heap.size p s d f t ((W.drewN k).alloc (.cells #[.int .u8 p, .int .u32 s, .int .u32 d, .int .u16 f, .int .u16 t] 29)) :=
  TG.alloc (W := W.drewN k) hR hfr (bdrewN hb k) p s d f t
theorem TG.drewN {w W : World} {R B : Nat} {p s d f t : Int} (h : TG w R B p s d f t W) (k : Nat) : TG w R B p s d f t (W.drewN k) := h.below' (bdrewN (Below.refl _ _) k)
set_option maxHeartbeats 4000000 in
theorem inner_any (w : World) (a : Option Addr) (xs : List Int) (n cap : Nat) (hL : Lies w a xs n cap) (hl : xs.length = n) (hb : ∀ x ∈ xs, 0 ≤ x ∧ x ≤ 255) (hn : n ≤ 5000) :
    Calls Try.prog 39 #[.slice a n cap] w fun e w' => e = .returned (.tuple #[(innFl xs n).v, .bool (tok xs n)]) ∧ Below w.heap.size w w' := by
  have hR := (Below.refl w.heap.size w).alloc (Nat.le_refl _) (.cells #[.int .u8 0, .int .u32 0, .int .u32 0, .int .u16 0, .int .u16 0] 29)
  have hfR : FB (w.alloc (.cells #[.int .u8 0, .int .u32 0, .int .u32 0, .int .u16 0, .int .u16 0] 29)) w.heap.size 0 0 0 0 0 := heap_alloc_new w _
  obtain ⟨R, w0, hw, hw0, HR0, HB0, hRw⟩ : ∃ R w0, w.heap.size = R ∧ w.alloc (.cells #[.int .u8 0, .int .u32 0, .int .u32 0, .int .u16 0, .int .u16 0] 29) = w0 ∧ Hid (FB w0 R 0 0 0 0 0) ∧ Hid (Below w.heap.size w w0) ∧ w.heap.size ≤ R := ⟨_, _, rfl, rfl, hide hfR, hide hR, Nat.le_refl _⟩
  have HW0 := hide (And.intro hw hw0)
  clear hw hw0 hR hfR
  obtain ⟨V, hV⟩ : ∃ V, (innFl xs n).v = V := ⟨_, rfl⟩
  obtain ⟨O, hO⟩ : ∃ V, tok xs n = V := ⟨_, rfl⟩
  rw [hV, hO]
  unfold innFl at hV
  rw [hO] at hV
  have HVO := hide (And.intro hV hO)
  clear hV hO
  have hno : O = false → V = .agg #[.int .u8 0, .int .u32 0, .int .u32 0, .int .u16 0, .int .u16 0] := fun h => by
    have := HVO.out.1
    rw [h, if_neg (by decide)] at this
    exact this.symm
  have HNO := hide hno
  clear hno
  by_cases h28 : n < 28
  · have d1 : decide ((n : Int) < 28) = true := by simp; omega
    have HO := hide (show O = false by rw [← HVO.out.2]; unfold tok thead; rw [show decide (28 ≤ n) = false by simp; omega]; rfl)
    obtain ⟨y0, y1, y2, y3, y4, yf⟩ := five_cells HR0.out
    obtain ⟨w10, h10, hfb, hbb⟩ := TG.none hRw HR0.out HB0.out
    obtain ⟨z0, z1, z2, z3, z4, zf⟩ := five_cells hfb
    have HB10 := hide hbb
    clear hfb hbb
    go_enter Try.func39, Try.ntmps39
    go_upto_region 1 with (fail)
    rw [HW0.out.2, HW0.out.1]
    clear HW0
    go_wp2_with fail
    try rw [h10]
    refine bodyPost_ret (v := .tuple #[.agg #[.int .u8 0, .int .u32 0, .int .u32 0, .int .u16 0, .int .u16 0], .bool false]) (by simp [results, Try.results39, go_sem, z0, z1, z2, z3, z4]) rfl ⟨by rw [HNO.out HO.out, HO.out], HB10.out⟩
  · have d1 : decide ((n : Int) < 28) = false := by simp; omega
    obtain ⟨b, off, rfl, hlt, hc⟩ := hL.row.at (i := 0) (by omega)
    have c0 := hc 0 (by omega)
    have c9 := hc 9 (by omega)
    have c20 := hc 20 (by omega)
    have c21 := hc 21 (by omega)
    rw [fld_one xs 0 hb (by omega), Nat.add_zero] at c0
    rw [fld_one xs 9 hb (by omega)] at c9
    rw [fld_one xs 20 hb (by omega)] at c20
    rw [fld_one xs 21 hb (by omega)] at c21
    have H2 := hide (fun (W : World) (K : Nat) (k : Int) (hk : (K : Int) = k) (hK : K + 2 ≤ n) (hW : Below w.heap.size w W) => (show Calls Try.prog 62 #[.slice (some ⟨b, off, none⟩) n cap, .int .i64 k] W _ from hk ▸ word_any W (some ⟨b, off, none⟩) xs n cap K (hL.below hW (Nat.le_refl _)) hl hb hn hK))
    have H4 := hide (fun (W : World) (K : Nat) (k : Int) (hk : (K : Int) = k) (hK : K + 4 ≤ n) (hW : Below w.heap.size w W) => (show Calls Try.prog 65 #[.slice (some ⟨b, off, none⟩) n cap, .int .i64 k] W _ from hk ▸ raddr_any W (some ⟨b, off, none⟩) xs n cap K (hL.below hW (Nat.le_refl _)) hl hb hn hK))
    have hlt6 := fld_lt xs 6 2 hb
    obtain ⟨b0, hb0⟩ : ∃ v, fld xs 0 1 = v := ⟨_, rfl⟩
    obtain ⟨v6, hv6⟩ : ∃ v, fld xs 6 2 = v := ⟨_, rfl⟩
    obtain ⟨P, hP⟩ : ∃ v, fld xs 9 1 = v := ⟨_, rfl⟩
    obtain ⟨Sx, hS⟩ : ∃ v, fld xs 12 4 = v := ⟨_, rfl⟩
    obtain ⟨D, hD⟩ : ∃ v, fld xs 16 4 = v := ⟨_, rfl⟩
    obtain ⟨ty, hty⟩ : ∃ v, fld xs 20 1 = v := ⟨_, rfl⟩
    obtain ⟨co, hco⟩ : ∃ v, fld xs 21 1 = v := ⟨_, rfl⟩
    have HP := hide (And.intro hP (And.intro hS (And.intro hD (And.intro hty (And.intro hco (And.intro hb0 hv6))))))
    rw [hb0] at c0
    rw [hP] at c9
    rw [hty] at c20
    rw [hco] at c21
    rw [hv6] at hlt6
    have HC := hide (show ∀ W, Below w.heap.size w W → W.cell? ⟨b, off + 9, none⟩ = some (.int .u8 (P : Int)) ∧ W.cell? ⟨b, off + 20, none⟩ = some (.int .u8 (ty : Int)) ∧ W.cell? ⟨b, off + 21, none⟩ = some (.int .u8 (co : Int)) ∧ b < W.heap.size from fun W hW =>
      ⟨(hW.cell (p := ⟨b, _, none⟩) hlt).trans c9, (hW.cell (p := ⟨b, _, none⟩) hlt).trans c20, (hW.cell (p := ⟨b, _, none⟩) hlt).trans c21, Nat.lt_of_lt_of_le hlt hW.size⟩)
    have c0' := (HB0.out.cell (p := ⟨b, off, none⟩) hlt).trans c0
    have i9 : (9 : Int) < (n : Int) := by omega
    have i20 : (20 : Int) < (n : Int) := by omega
    have i21 : (21 : Int) < (n : Int) := by omega
    clear hb0 hv6 hP hS hD hty hco c0 c9 c20 c21 hc hb hl hL
    by_cases h69 : b0 = 69
    · have d2 : ((b0 : Int) != 69) = false := by rw [h69]; rfl
      by_cases h6 : v6 % 8192 = 0
      · have d3 : ((v6 : Int) % 8192 == 0) = true := by simp; omega
        have HH := hide (show thead xs n = true by unfold thead; rw [HP.out.2.2.2.2.2.1, HP.out.2.2.2.2.2.2]; simp [h69, h6]; omega)
        obtain ⟨FR, hFR⟩ : ∃ v, tfrom xs = v := ⟨_, rfl⟩
        obtain ⟨TT, hTT⟩ : ∃ v, tto xs = v := ⟨_, rfl⟩
        have hyes : O = true → V = .agg #[.int .u8 (P : Int), .int .u32 (Sx : Int), .int .u32 (D : Int), .int .u16 (FR : Int), .int .u16 (TT : Int)] := fun h => by
          have := HVO.out.1
          rw [if_pos h] at this
          unfold tfl at this
          rw [if_pos HH.out, HP.out.1, HP.out.2.1, HP.out.2.2.1, hFR, hTT] at this
          exact this.symm
        have HYES := hide hyes
        have hins : O = (if P = 6 ∨ P = 17 then true else if P = 1 then qok ty co else false) := by
          rw [← HVO.out.2]; unfold tok tins; rw [HH.out, HP.out.1, HP.out.2.2.2.1, HP.out.2.2.2.2.1]; rfl
        have HFT := hide (show (if P = 6 ∨ P = 17 then fld xs 20 2 else if P = 1 then qfrom ty co (fld xs 24 2) else 0) = FR ∧ (if P = 6 ∨ P = 17 then fld xs 22 2 else if P = 1 then qto ty co (fld xs 24 2) else 0) = TT by
          rw [← hFR, ← hTT]; unfold tfrom tto; rw [HP.out.1, HP.out.2.2.2.1, HP.out.2.2.2.2.1]; exact ⟨rfl, rfl⟩)
        have HINS := hide hins
        clear hyes hins hFR hTT h69 h6
        go_enter Try.func39, Try.ntmps39
        go_upto_region 1 with (fail)
        rw [HW0.out.2, HW0.out.1]
        clear HW0
        go_wp2_with fail
        have h2 := H2.out w0 6 6 rfl (by omega) HB0.out
        rw [HP.out.2.2.2.2.2.2] at h2
        refine h2.mono ?_
        clear h2
        rintro e w1 ⟨rfl, q, rfl⟩
        obtain ⟨w1, hw1, HR1, HB1⟩ : ∃ wt, w0.drewN q = wt ∧ Hid (FB wt R 0 0 0 0 0) ∧ Hid (Below w.heap.size w wt) := ⟨_, rfl, hide HR0.out, hide (bdrewN HB0.out q)⟩
        rw [hw1]
        clear hw1 c0' HR0 HB0
        go_upto_region 3 with (fail)
        go_cut [4] from 5 (fun v4 wz => ∃ B, v4 = .pointer (some ⟨B, 0, none⟩) ∧ Hid (TG w R B P Sx D 0 0 wz))
        case first =>
          obtain ⟨k9, k20, k21, kb⟩ := HC.out w1 HB1.out
          have H12 := hide (fun (W : World) (hW : Below w.heap.size w W) => H4.out W 12 12 rfl (by omega) hW)
          have H16 := hide (fun (W : World) (hW : Below w.heap.size w W) => H4.out W 16 16 rfl (by omega) hW)
          rw [HP.out.2.1] at H12
          rw [HP.out.2.2.1] at H16
          have hs1 := HB1.out.size
          have HBd := hide HB1.out.drew
          have HBa := hide ((HB1.out.alloc HB1.out.size (.cells #[.int .u8 0, .int .u32 0, .int .u32 0, .int .u16 0, .int .u16 0] 29)).drew)
          have tc : ∀ k, ((w1.drewN k).alloc (.cells #[.int .u8 0, .int .u32 0, .int .u32 0, .int .u16 0, .int .u16 0] 29)).cell? ⟨w1.heap.size, 0, none⟩ = some (.int .u8 0) ∧ ((w1.drewN k).alloc (.cells #[.int .u8 0, .int .u32 0, .int .u32 0, .int .u16 0, .int .u16 0] 29)).cell? ⟨w1.heap.size, 1, none⟩ = some (.int .u32 0) ∧ ((w1.drewN k).alloc (.cells #[.int .u8 0, .int .u32 0, .int .u32 0, .int .u16 0, .int .u16 0] 29)).cell? ⟨w1.heap.size, 2, none⟩ = some (.int .u32 0) ∧ ((w1.drewN k).alloc (.cells #[.int .u8 0, .int .u32 0, .int .u32 0, .int .u16 0, .int .u16 0] 29)).cell? ⟨w1.heap.size, 3, none⟩ = some (.int .u16 0) ∧ ((w1.drewN k).alloc (.cells #[.int .u8 0, .int .u32 0, .int .u32 0, .int .u16 0, .int .u16 0] 29)).cell? ⟨w1.heap.size, 4, none⟩ = some (.int .u16 0) ∧ ∀ i, ((w1.drewN k).alloc (.cells #[.int .u8 0, .int .u32 0, .int .u32 0, .int .u16 0, .int .u16 0] 29)).frozen? ⟨w1.heap.size, i, none⟩ = false := fun k => five_cells (heap_alloc_new (w1.drewN k) (.cells #[.int .u8 0, .int .u32 0, .int .u32 0, .int .u16 0, .int .u16 0] 29))
          have t0 := fun k => (tc k).1
          have t1 := fun k => (tc k).2.1
          have t2 := fun k => (tc k).2.2.1
          have t3 := fun k => (tc k).2.2.2.1
          have t4 := fun k => (tc k).2.2.2.2.1
          have tf := fun k => (tc k).2.2.2.2.2
          clear tc
          clear k20 k21
          go_region_held3 (fun w' => w'.cell? ⟨b, off + 9, none⟩ = some (.int .u8 (P : Int))) ((first | (go_keep; done) | (with_reducible exact (HC.out _ (below5 (belowDA HB1.out hs1 _ _) hs1 _ _ _ _ _)).1) | (with_reducible exact (HC.out _ (below5 (belowDAD HB1.out hs1 _ _ _) hs1 _ _ _ _ _)).1) | (with_reducible exact (HC.out _ (below5 (belowAD HB1.out hs1 _ _) hs1 _ _ _ _ _)).1))) (first
            | (go_at_call 65; (with_reducible refine (H12.out _ ?hbel).mono ?_); (case hbel => (repeat (first | exact HB1.out | refine bdrewN ?_ _ | refine Below.drew ?_ | refine Below.alloc ?_ (Nat.le_trans HB1.out.size (by simp)) _ | refine Below.alloc ?_ HB1.out.size _))); rintro _ w5 ⟨rfl, q5, rfl⟩)
            | (go_at_call 65; (with_reducible refine (H16.out _ ?hbel).mono ?_); (case hbel => (repeat (first | exact HB1.out | refine bdrewN ?_ _ | refine Below.drew ?_ | refine Below.alloc ?_ (Nat.le_trans HB1.out.size (by simp)) _ | refine Below.alloc ?_ HB1.out.size _))); rintro _ w5 ⟨rfl, q6, rfl⟩)
            | fail)
          all_goals
            go_wp2_with fail
            go_meet
            case rel =>
              first
              | exact ⟨_, rfl, hide ((TG.allocD hRw HR1.out HB1.out _ 0 0 0 0 0).store P Sx D 0 0)⟩
              | exact ⟨_, rfl, hide (((TG.allocD hRw HR1.out HB1.out _ 0 0 0 0 0).drewN _).store P Sx D 0 0)⟩
              | exact ⟨_, rfl, hide (((TG.alloc hRw HR1.out HB1.out 0 0 0 0 0).drewN _).store P Sx D 0 0)⟩
              | exact ⟨_, rfl, hide ((TG.alloc hRw HR1.out HB1.out P Sx D 0 0).drewN _)⟩
        case rest =>
          clear HR1 HB1
          obtain ⟨B, rfl, HT⟩ := hcut
          have hne : R ≠ B := by have := HT.out.lt; omega
          have hBw : w.heap.size ≤ B := by have := HT.out.lt; omega
          obtain ⟨k9, k20, k21, kb⟩ := HC.out _ HT.out.below
          obtain ⟨x0, x1, x2, x3, x4, xf⟩ := five_cells HT.out.fb
          by_cases h617 : P = 6 ∨ P = 17
          · have HO := hide (show O = true by rw [HINS.out, if_pos h617])
            have HV := hide (show FR = fld xs 20 2 ∧ TT = fld xs 22 2 by
              have h := HFT.out
              rw [if_pos h617, if_pos h617] at h
              exact ⟨h.1.symm, h.2.symm⟩)
            have H20 := hide (fun (W : World) (hW : Below w.heap.size w W) => H2.out W 20 20 rfl (by omega) hW)
            have H22 := hide (fun (W : World) (hW : Below w.heap.size w W) => H2.out W 22 22 rfl (by omega) hW)
            rw [← HV.out.1] at H20
            rw [← HV.out.2] at H22
            have hcase : (((P : Int) == 6) = true) ∨ (((P : Int) == 6) = false ∧ ((P : Int) == 17) = true) := by
              rcases h617 with h | h
              · left; simp [h]
              · right; exact ⟨by simp; omega, by simp [h]⟩
            clear h617
            rcases hcase with d6 | ⟨d6, d17⟩
            all_goals
              go_wp2_with fail
              refine (H20.out _ HT.out.below).mono ?_
              rintro e w7 ⟨rfl, q7, rfl⟩
              obtain ⟨w7, h7, HT7⟩ : ∃ wt, wc.drewN q7 = wt ∧ Hid (TG w R B P Sx D 0 0 wt) := ⟨_, rfl, hide (HT.out.drewN q7)⟩
              rw [h7]
              clear h7 x0 x1 x2 x3 x4 xf k9 k20 k21 kb
              obtain ⟨x0, x1, x2, x3, x4, xf⟩ := five_cells HT7.out.fb
              have HT8 := hide (show TG w R B P Sx D FR 0 (w7.setCell ⟨B, 3, none⟩ (.int .u16 (FR : Int))) from
                ⟨HT7.out.lt, HT7.out.le, HT7.out.fb.set3 FR, HT7.out.fr.other hne, HT7.out.below.setCell (p := ⟨B, 3, none⟩) hBw _⟩)
              go_wp2_with fail
              refine (H22.out _ HT8.out.below).mono ?_
              rintro e w8 ⟨rfl, q8, rfl⟩
              obtain ⟨w8, h8, HT8⟩ : ∃ wt, (w7.setCell ⟨B, 3, none⟩ (.int .u16 (FR : Int))).drewN q8 = wt ∧ Hid (TG w R B P Sx D FR 0 wt) := ⟨_, rfl, hide (HT8.out.drewN q8)⟩
              rw [h8]
              clear h8 x0 x1 x2 x3 x4 xf HT HT7
              obtain ⟨x0, x1, x2, x3, x4, xf⟩ := five_cells HT8.out.fb
              obtain ⟨w9, h9, HT9⟩ : ∃ wt, w8.setCell ⟨B, 4, none⟩ (.int .u16 (TT : Int)) = wt ∧ Hid (TG w R B P Sx D FR TT wt) := ⟨_, rfl, hide ⟨HT8.out.lt, HT8.out.le, HT8.out.fb.set4 TT, HT8.out.fr.other hne, HT8.out.below.setCell (p := ⟨B, 4, none⟩) hBw _⟩⟩
              go_upto_region 7 with (fail)
              try rw [h9]
              clear h9 x0 x1 x2 x3 x4 xf HT8
              obtain ⟨x0, x1, x2, x3, x4, xf⟩ := five_cells HT9.out.fb
              obtain ⟨y0, y1, y2, y3, y4, yf⟩ := five_cells HT9.out.fr
              obtain ⟨w10, h10, hfb, hbb⟩ := HT9.out.answer
              obtain ⟨z0, z1, z2, z3, z4, zf⟩ := five_cells hfb
              have HB10 := hide hbb
              clear hfb hbb
              go_wp2_with fail
              try rw [h10]
              refine bodyPost_ret (v := .tuple #[.agg #[.int .u8 (P : Int), .int .u32 (Sx : Int), .int .u32 (D : Int), .int .u16 (FR : Int), .int .u16 (TT : Int)], .bool true]) (by simp [results, Try.results39, go_sem, z0, z1, z2, z3, z4]) rfl ⟨by rw [HYES.out HO.out, HO.out], HB10.out⟩
          · have d6 : ((P : Int) == 6) = false := by simp; omega
            have d17 : ((P : Int) == 17) = false := by simp; omega
            by_cases h1 : P = 1
            · have e1 : ((P : Int) != 1) = false := by simp [h1]
              have hO2 : O = qok ty co := by rw [HINS.out, if_neg h617, if_pos h1]
              have HF2 := hide (show qfrom ty co (fld xs 24 2) = FR ∧ qto ty co (fld xs 24 2) = TT by
                have h := HFT.out
                rw [if_neg h617, if_neg h617, if_pos h1, if_pos h1] at h
                exact h)
              have H24 := hide (fun (W : World) (hW : Below w.heap.size w W) => H2.out W 24 24 rfl (by omega) hW)
              generalize fld xs 24 2 = id at *
              clear h617 h1
              by_cases hco : co = 0
              · have e2 : ((co : Int) != 0) = false := by simp [hco]
                by_cases h8 : ty = 8
                · have HO := hide (show O = true by rw [hO2]; simp [qok, hco, h8])
                  have HV := hide (show FR = id ∧ TT = 0 by
                    have h := HF2.out
                    unfold qfrom qto at h
                    rw [if_pos ⟨h8, hco⟩, if_neg (by omega)] at h
                    exact ⟨h.1.symm, h.2.symm⟩)
                  have e3 : ((ty : Int) != 0) = true := by simp; omega
                  have e4 : ((ty : Int) != 8) = false := by simp [h8]
                  have e5 : ((ty : Int) == 8) = true := by simp [h8]
                  clear h8 hco hO2
                  go_wp2_with fail
                  refine (H24.out _ HT.out.below).mono ?_
                  rintro e w7 ⟨rfl, q7, rfl⟩
                  obtain ⟨w8, h7, HT8⟩ : ∃ wt, wc.drewN q7 = wt ∧ Hid (TG w R B P Sx D 0 0 wt) := ⟨_, rfl, hide (HT.out.drewN q7)⟩
                  rw [h7]
                  clear h7 x0 x1 x2 x3 x4 xf k9 k20 k21 kb
                  obtain ⟨x0, x1, x2, x3, x4, xf⟩ := five_cells HT8.out.fb
                  obtain ⟨w9, h9, HT9⟩ : ∃ wt, w8.setCell ⟨B, 3, none⟩ (.int .u16 (id : Int)) = wt ∧ Hid (TG w R B P Sx D id 0 wt) := ⟨_, rfl, hide ⟨HT8.out.lt, HT8.out.le, HT8.out.fb.set3 id, HT8.out.fr.other hne, HT8.out.below.setCell (p := ⟨B, 3, none⟩) hBw _⟩⟩
                  go_upto_region 13 with (fail)
                  try rw [h9]
                  clear h9 x0 x1 x2 x3 x4 xf HT8 HT
                  obtain ⟨x0, x1, x2, x3, x4, xf⟩ := five_cells HT9.out.fb
                  obtain ⟨y0, y1, y2, y3, y4, yf⟩ := five_cells HT9.out.fr
                  obtain ⟨w10, h10, hfb, hbb⟩ := HT9.out.answer
                  obtain ⟨z0, z1, z2, z3, z4, zf⟩ := five_cells hfb
                  have HB10 := hide hbb
                  clear hfb hbb
                  go_wp2_with fail
                  try rw [h10]
                  refine bodyPost_ret (v := .tuple #[.agg #[.int .u8 (P : Int), .int .u32 (Sx : Int), .int .u32 (D : Int), .int .u16 (id : Int), .int .u16 (0)], .bool true]) (by simp [results, Try.results39, go_sem, z0, z1, z2, z3, z4]) rfl ⟨by rw [HYES.out HO.out, HO.out]; rw [HV.out.1, HV.out.2]; rfl, HB10.out⟩
                · have e4 : ((ty : Int) != 8) = true := by simp; omega
                  have e5 : ((ty : Int) == 8) = false := by simp; omega
                  by_cases h0 : ty = 0
                  · have HO := hide (show O = true by rw [hO2]; simp [qok, hco, h0])
                    have HV := hide (show FR = 0 ∧ TT = id by
                      have h := HF2.out
                      unfold qfrom qto at h
                      rw [if_neg (by omega), if_pos ⟨h0, hco⟩] at h
                      exact ⟨h.1.symm, h.2.symm⟩)
                    have e3 : ((ty : Int) != 0) = false := by simp [h0]
                    clear h8 hco hO2 h0
                    go_wp2_with fail
                    refine (H24.out _ HT.out.below).mono ?_
                    rintro e w7 ⟨rfl, q7, rfl⟩
                    obtain ⟨w8, h7, HT8⟩ : ∃ wt, wc.drewN q7 = wt ∧ Hid (TG w R B P Sx D 0 0 wt) := ⟨_, rfl, hide (HT.out.drewN q7)⟩
                    rw [h7]
                    clear h7 x0 x1 x2 x3 x4 xf k9 k20 k21 kb
                    obtain ⟨x0, x1, x2, x3, x4, xf⟩ := five_cells HT8.out.fb
                    obtain ⟨w9, h9, HT9⟩ : ∃ wt, w8.setCell ⟨B, 4, none⟩ (.int .u16 (id : Int)) = wt ∧ Hid (TG w R B P Sx D 0 id wt) := ⟨_, rfl, hide ⟨HT8.out.lt, HT8.out.le, HT8.out.fb.set4 id, HT8.out.fr.other hne, HT8.out.below.setCell (p := ⟨B, 4, none⟩) hBw _⟩⟩
                    go_upto_region 13 with (fail)
                    try rw [h9]
                    clear h9 x0 x1 x2 x3 x4 xf HT8 HT
                    obtain ⟨x0, x1, x2, x3, x4, xf⟩ := five_cells HT9.out.fb
                    obtain ⟨y0, y1, y2, y3, y4, yf⟩ := five_cells HT9.out.fr
                    obtain ⟨w10, h10, hfb, hbb⟩ := HT9.out.answer
                    obtain ⟨z0, z1, z2, z3, z4, zf⟩ := five_cells hfb
                    have HB10 := hide hbb
                    clear hfb hbb
                    go_wp2_with fail
                    try rw [h10]
                    refine bodyPost_ret (v := .tuple #[.agg #[.int .u8 (P : Int), .int .u32 (Sx : Int), .int .u32 (D : Int), .int .u16 (0), .int .u16 (id : Int)], .bool true]) (by simp [results, Try.results39, go_sem, z0, z1, z2, z3, z4]) rfl ⟨by rw [HYES.out HO.out, HO.out]; rw [HV.out.1, HV.out.2]; rfl, HB10.out⟩
                  · have e3 : ((ty : Int) != 0) = true := by simp; omega
                    have HO := hide (show O = false by rw [hO2]; simp [qok, h8, h0])
                    clear h8 hco hO2 h0
                    obtain ⟨y0, y1, y2, y3, y4, yf⟩ := five_cells HT.out.fr
                    obtain ⟨w10, h10, hfb, hbb⟩ := TG.none HT.out.le HT.out.fr HT.out.below
                    obtain ⟨z0, z1, z2, z3, z4, zf⟩ := five_cells hfb
                    have HB10 := hide hbb
                    clear hfb hbb
                    go_wp2_with fail
                    try rw [h10]
                    refine bodyPost_ret (v := .tuple #[.agg #[.int .u8 0, .int .u32 0, .int .u32 0, .int .u16 0, .int .u16 0], .bool false]) (by simp [results, Try.results39, go_sem, z0, z1, z2, z3, z4]) rfl ⟨by rw [HNO.out HO.out, HO.out], HB10.out⟩
              · have e2 : ((co : Int) != 0) = true := by simp; omega
                have HO := hide (show O = false by rw [hO2]; simp [qok, hco])
                clear hco hO2
                obtain ⟨y0, y1, y2, y3, y4, yf⟩ := five_cells HT.out.fr
                obtain ⟨w10, h10, hfb, hbb⟩ := TG.none HT.out.le HT.out.fr HT.out.below
                obtain ⟨z0, z1, z2, z3, z4, zf⟩ := five_cells hfb
                have HB10 := hide hbb
                clear hfb hbb
                go_wp2_with fail
                try rw [h10]
                refine bodyPost_ret (v := .tuple #[.agg #[.int .u8 0, .int .u32 0, .int .u32 0, .int .u16 0, .int .u16 0], .bool false]) (by simp [results, Try.results39, go_sem, z0, z1, z2, z3, z4]) rfl ⟨by rw [HNO.out HO.out, HO.out], HB10.out⟩
            · have e1 : ((P : Int) != 1) = true := by simp; omega
              have HO := hide (show O = false by rw [HINS.out, if_neg h617, if_neg h1])
              clear h617 h1
              obtain ⟨y0, y1, y2, y3, y4, yf⟩ := five_cells HT.out.fr
              obtain ⟨w10, h10, hfb, hbb⟩ := TG.none HT.out.le HT.out.fr HT.out.below
              obtain ⟨z0, z1, z2, z3, z4, zf⟩ := five_cells hfb
              have HB10 := hide hbb
              clear hfb hbb
              go_wp2_with fail
              try rw [h10]
              refine bodyPost_ret (v := .tuple #[.agg #[.int .u8 0, .int .u32 0, .int .u32 0, .int .u16 0, .int .u16 0], .bool false]) (by simp [results, Try.results39, go_sem, z0, z1, z2, z3, z4]) rfl ⟨by rw [HNO.out HO.out, HO.out], HB10.out⟩
      · have d3 : ((v6 : Int) % 8192 == 0) = false := by simp; omega
        have d4 : ((v6 : Int) % 8192 != 0) = true := by simp; omega
        have HO := hide (show O = false by rw [← HVO.out.2]; unfold tok thead; rw [HP.out.2.2.2.2.2.2]; simp [h6])
        clear h69 h6
        go_enter Try.func39, Try.ntmps39
        go_upto_region 1 with (fail)
        rw [HW0.out.2, HW0.out.1]
        clear HW0
        go_wp2_with fail
        have h2 := H2.out w0 6 6 rfl (by omega) HB0.out
        rw [HP.out.2.2.2.2.2.2] at h2
        refine h2.mono ?_
        clear h2
        rintro e w1 ⟨rfl, q, rfl⟩
        obtain ⟨w1, hw1, HR1, HB1⟩ : ∃ wt, w0.drewN q = wt ∧ Hid (FB wt R 0 0 0 0 0) ∧ Hid (Below w.heap.size w wt) := ⟨_, rfl, hide HR0.out, hide (bdrewN HB0.out q)⟩
        rw [hw1]
        clear hw1 c0' HR0 HB0
        obtain ⟨y0, y1, y2, y3, y4, yf⟩ := five_cells HR1.out
        obtain ⟨w10, h10, hfb, hbb⟩ := TG.none hRw HR1.out HB1.out
        obtain ⟨z0, z1, z2, z3, z4, zf⟩ := five_cells hfb
        have HB10 := hide hbb
        clear hfb hbb
        go_wp2_with fail
        try rw [h10]
        refine bodyPost_ret (v := .tuple #[.agg #[.int .u8 0, .int .u32 0, .int .u32 0, .int .u16 0, .int .u16 0], .bool false]) (by simp [results, Try.results39, go_sem, z0, z1, z2, z3, z4]) rfl ⟨by rw [HNO.out HO.out, HO.out], HB10.out⟩
    · have d2 : ((b0 : Int) != 69) = true := by simp; omega
      have HO := hide (show O = false by rw [← HVO.out.2]; unfold tok thead; rw [HP.out.2.2.2.2.2.1]; simp [h69])
      clear h69
      go_enter Try.func39, Try.ntmps39
      go_upto_region 1 with (fail)
      rw [HW0.out.2, HW0.out.1]
      clear HW0
      obtain ⟨y0, y1, y2, y3, y4, yf⟩ := five_cells HR0.out
      obtain ⟨w10, h10, hfb, hbb⟩ := TG.none hRw HR0.out HB0.out
      obtain ⟨z0, z1, z2, z3, z4, zf⟩ := five_cells hfb
      have HB10 := hide hbb
      clear hfb hbb
      go_wp2_with fail
      try rw [h10]
      refine bodyPost_ret (v := .tuple #[.agg #[.int .u8 0, .int .u32 0, .int .u32 0, .int .u16 0, .int .u16 0], .bool false]) (by simp [results, Try.results39, go_sem, z0, z1, z2, z3, z4]) rfl ⟨by rw [HNO.out HO.out, HO.out], HB10.out⟩
end Go.Proofs.Ytgggcapgaikbeaa
