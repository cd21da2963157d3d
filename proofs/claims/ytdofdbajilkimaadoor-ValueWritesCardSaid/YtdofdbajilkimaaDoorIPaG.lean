/- inet: the program's reading of any text as an address. -/
import Derived.Test.YtdofdbajilkimaaDoorIText
import Derived.Test.YtdofdbajilkimaaDoorITx
namespace Go.Proofs.YtdofdbajilkimaaDoor
open Go.RowKit Go.Lib
set_option linter.unusedVariables false
set_option linter.unusedSimpArgs false
set_option maxRecDepth 100000
/-- What the library's code reads of the package's variables. -/
structure ET (w : World) : Prop where
  pt : PT w
  e1 : ∃ ev, w.cell? ⟨0, 0, none⟩ = some ev ∧ (ev = .nilIface ∨ ∃ te pe, ev = .iface te pe)
  e2 : ∃ ev, w.cell? ⟨1, 0, none⟩ = some ev ∧ (ev = .nilIface ∨ ∃ te pe, ev = .iface te pe)
theorem ET.below {w w' : World} {K : Nat} (h : ET w) (hb : Below K w w') (hK : w.heap.size ≤ K) : ET w' := by
  obtain ⟨e1, he1, hv1⟩ := h.e1
  obtain ⟨e2, he2, hv2⟩ := h.e2
  exact ⟨h.pt.below hb hK, ⟨e1, (hb.cell (p := ⟨0, 0, none⟩) (Nat.lt_of_lt_of_le (World.block_lt_of_cell? w _ he1) hK)).trans he1, hv1⟩, ⟨e2, (hb.cell (p := ⟨1, 0, none⟩) (Nat.lt_of_lt_of_le (World.block_lt_of_cell? w _ he2) hK)).trans he2, hv2⟩⟩
def addrV (o : Option Nat) : Value := match o with
  | some v => .tuple #[.int .u32 (v : Int), .bool true]
  | none => .tuple #[.int .u32 0, .bool false]
theorem or_low (x n : Nat) (hn : n < 256) : bits BinOp.or IntKind.u32 ((x * 256 % 4294967296 : Nat) : Int) (n : Int) = (((x * 256 + n) % 4294967296 : Nat) : Int) := by
  have h1 : x * 256 % 4294967296 = (x % 16777216) * 256 := by omega
  have h2 : (x * 256 + n) % 4294967296 = (x % 16777216) * 256 + n := by omega
  rw [h1, h2]
  obtain ⟨q, hq⟩ : ∃ q, x % 16777216 = q := ⟨_, rfl⟩
  have hq2 : q < 16777216 := by omega
  rw [hq]
  have := bits_join .u32 32 (by decide) (fun n h0 h1 => by rw [IntKind.wrap_u32]; omega) 8 ((q : Int) * 256) (n : Int) (by omega) (by omega) (by omega) (by omega) (by omega) (by omega)
  rw [show ((q * 256 : Nat) : Int) = (q : Int) * 256 by omega, this]
  omega
theorem txt_four (x y z u : Nat) (hx : x ≤ 255) (hy : y ≤ 255) (hz : z ≤ 255) (hu : u ≤ 255) : txt (qb (256 * (256 * (256 * x + y) + z) + u)) 4 = txt4 x y z u := by
  have h0 : qb (256 * (256 * (256 * x + y) + z) + u) 0 = x := by unfold qb; simp only [Nat.reduceSub, Nat.reducePow]; omega
  have h1 : qb (256 * (256 * (256 * x + y) + z) + u) 1 = y := by unfold qb; simp only [Nat.reduceSub, Nat.reducePow]; omega
  have h2 : qb (256 * (256 * (256 * x + y) + z) + u) 2 = z := by unfold qb; simp only [Nat.reduceSub, Nat.reducePow]; omega
  have h3 : qb (256 * (256 * (256 * x + y) + z) + u) 3 = u := by unfold qb; simp only [Nat.reduceSub, Nat.reducePow]; omega
  have e : ∀ n : Nat, n ≤ 255 → Lib.itoa (n : Int) = dg n := fun n h => itoa_dg ⟨n, by omega⟩
  generalize 256 * (256 * (256 * x + y) + z) + u = v at *
  simp [txt, h0, h1, h2, h3, e x hx, e y hy, e z hz, e u hu, txt4]
theorem addr_txt (v : Nat) (hv : v ≤ 4294967295) : addrD (txt (qb v) 4) = some v := by
  obtain ⟨x, hx⟩ : ∃ x, v / 16777216 = x := ⟨_, rfl⟩
  obtain ⟨y, hy⟩ : ∃ y, v / 65536 % 256 = y := ⟨_, rfl⟩
  obtain ⟨z, hz⟩ : ∃ z, v / 256 % 256 = z := ⟨_, rfl⟩
  obtain ⟨u, hu⟩ : ∃ u, v % 256 = u := ⟨_, rfl⟩
  have e : v = 256 * (256 * (256 * x + y) + z) + u := by omega
  rw [e, txt_four x y z u (by omega) (by omega) (by omega) (by omega), addrD_text x y z u (by omega) (by omega) (by omega) (by omega)]
theorem addr_txt_only (l : List UInt8) (v : Nat) (h : addrD l = some v) : l = txt (qb v) 4 := by
  obtain ⟨x, y, z, u, hx, hy, hz, hu, rfl, rfl⟩ := addrD_only l v h
  exact (txt_four x y z u hx hy hz hu).symm
set_option maxHeartbeats 2000000 in
theorem parse_gen (s : ByteArray) (w : World) (hE : ET w) (hs : s.size ≤ 1000) :
    Calls Tryd.prog 24 #[.string s] w fun e w' => e = .returned (addrV (addrD s.data.toList)) ∧ Below w.heap.size w w' := by
  obtain ⟨n, hn⟩ : ∃ n, s.size = n := ⟨_, rfl⟩
  obtain ⟨r, hr⟩ : ∃ r, addrD s.data.toList = r := ⟨_, rfl⟩
  rw [hr]
  by_cases h15 : 15 < n
  · have d1 : decide ((15 : Int) < (n : Int)) = true := by simp; omega
    have HE := hide (show r = none by
      cases r with
      | none => rfl
      | some v =>
        have := (acc_of_text _ v hr).2.2
        have h2 : s.data.toList.length = s.size := by simp
        omega)
    clear h15 hr hs hE
    go_enter Tryd.func24, Tryd.ntmps24
    go_wp2_with fail
    go_ret2
    exact ⟨by rw [HE.out]; rfl, Below.refl _ _⟩
  have d1 : decide ((15 : Int) < (n : Int)) = false := by simp; omega
  obtain ⟨m, hm⟩ := hE.pt.2
  have hsp := Tryd.strings_Split s ⟨#[46]⟩ m w (by omega) hm (by decide)
  have hall := Lib.splitB_all ⟨#[46]⟩ (by decide) 0 _ s rfl
  have hsz := split_size ⟨#[46]⟩ (Lib.countB s ⟨#[46]⟩) s
  have hacc : ∀ v, r = some v → accP (Lib.splitB ⟨#[46]⟩ 0 (Lib.countB s ⟨#[46]⟩) s) = some v ∧ v < 4294967296 := fun v hv => by
    have h := acc_of_text s.data.toList v (hr.trans hv)
    rw [show bs s.data.toList = s by cases s; simp [bs]] at h
    exact ⟨h.1, h.2.1⟩
  obtain ⟨ps, hps⟩ : ∃ ps, Lib.splitB ⟨#[46]⟩ 0 (Lib.countB s ⟨#[46]⟩) s = ps := ⟨_, rfl⟩
  obtain ⟨N, hN⟩ : ∃ N, Lib.countB s ⟨#[46]⟩ + 1 = N := ⟨_, rfl⟩
  have hN2 : N ≤ 1001 := by have := Lib.countB_le ⟨#[46]⟩ (by decide) s.size s (Nat.le_refl _); omega
  rw [hps] at hsp hall hsz hacc
  rw [hN] at hsp hall
  have HSP := hide hsp
  have HPS := hide (And.intro hall (And.intro hsz hacc))
  have HE := hide hE
  have HS := hide (And.intro hs hr)
  clear hsp hall hsz hacc hps hN hE hs hr hm h15
  go_enter Tryd.func24, Tryd.ntmps24
  go_wp2_with fail
  refine HSP.out.mono ?_
  rintro e w1 ⟨rfl, hw1⟩
  have HB1 := hide (show Below w.heap.size w w1 from hw1 ▸ (Below.refl _ _).alloc (Nat.le_refl _) _)
  have hr1 : w1.heap[w.heap.size]? = some (.cells (ps.map Value.string).toArray 9 (0, 0)) := by subst hw1; exact Array.getElem?_push_size
  obtain ⟨R, hR⟩ : ∃ R, w.heap.size = R := ⟨_, rfl⟩
  rw [hR] at hr1
  have HR := hide (And.intro hr1 hR)
  have HE1 := hide (HE.out.below HB1.out (Nat.le_refl _))
  simp only [hR]
  clear hw1 hr1 hR HSP
  go_wp2_with fail
  go_loopw [4, 15] (fun av i wr => ∃ k A : Nat, k ≤ N ∧ i = .int .i64 k ∧ av = .int .u32 A ∧ Hid (accP (ps.take k) = some A ∧ A ≤ 4294967295 ∧ Below w1.heap.size w1 wr)) (fun _ i _ => N - (Lib.intOf i).toNat)
  case atStart => exact ⟨0, 0, Nat.zero_le _, rfl, rfl, hide ⟨rfl, by omega, Below.refl _ _⟩⟩
  case round =>
    obtain ⟨k, A, hk, rfl, rfl, HI⟩ := hrel
    have hk4 : (0 : Int) ≤ (k : Int) := by omega
    have hA4 : (0 : Int) ≤ (A : Int) := by omega
    have hA5 : (A : Int) ≤ 4294967295 := by have := HI.out.2.1; omega
    by_cases hlt : k < N
    · have d2 : decide (k < N) = true := by simp; omega
      obtain ⟨p, hp⟩ : ∃ p, ps[k]? = some p := ⟨_, List.getElem?_eq_getElem (by have := HPS.out.1; omega)⟩
      have hc : wr.cell? ⟨R, k, none⟩ = some (.string p) := by
        refine (HI.out.2.2.cell (p := ⟨R, k, none⟩) (lt_of_block HR.out.1)).trans ?_
        have := HR.out.1
        simp [World.cell?, this, hp]
      have hps : p.size ≤ 1000 := by have := HPS.out.2.1 p (List.mem_of_getElem? hp); have := HS.out.1; omega
      have hsucc := acc_succ ps k p hp
      rw [HI.out.1] at hsucc
      have hHE := HE1.out.below HI.out.2.2 (Nat.le_refl _)
      cases hpu : Lib.parseUintB 8 p.data.toList with
      | ok u =>
        have hu := Lib.parseUintB_le hpu
        have HC := hide (Tryd.strconv_ParseUint_10_at8_ok p (by omega) u hpu wr)
        have hs2 : accP (ps.take (k + 1)) = some ((A * 256 + u) % 4294967296) := by rw [hsucc]; simp [accS, hpu]
        have ho := or_low A u (by omega)
        rw [show ((A * 256 % 4294967296 : Nat) : Int) = (A : Int) * 256 % 4294967296 by omega] at ho
        have HO := hide ho
        clear ho
        have HS2 := hide hs2
        clear hsucc hs2
        go_wp2_with fail
        (with_reducible refine HC.out.mono ?_)
        rintro e w2 ⟨rfl, hw2⟩
        have HB2 := hide (show Below w1.heap.size w1 w2 from by
          have hb := HI.out.2.2
          have hs : w1.heap.size ≤ wr.heap.size := hb.size
          rcases hw2 with rfl | rfl
          · exact hb
          · exact hb.trans ((Lib.bytesWorld_below wr 5 p).mono hs))
        clear hw2
        go_wp2_with fail
        refine ⟨⟨k + 1, (A * 256 + u) % 4294967296, hlt, ?_, ?_, hide ⟨HS2.out, by omega, HB2.out⟩⟩, ?_⟩
        · push_cast; rfl
        · rw [HO.out]
        · simp only [Lib.intOf]; omega
      | «syntax» =>
        obtain ⟨ev, hev, hvv⟩ := hHE.e1
        have HC := hide (Tryd.strconv_ParseUint_10_at8_syntax p (by omega) hpu ev wr hev hvv)
        have hnone : r = none := by
          cases r with
          | none => rfl
          | some v =>
            have h1 := (HPS.out.2.2 v rfl).1
            have h2 := acc_stop ps (k + 1) (by rw [hsucc]; simp [accS, hpu])
            rw [h1] at h2; cases h2
        have HN := hide hnone
        clear hsucc hnone hev hvv
        go_wp2_with fail
        (with_reducible refine HC.out.mono ?_)
        rintro e w2 ⟨NB, rfl, -, -, hw2⟩
        have HB2 := hide (show Below w.heap.size w w2 from by
          have hb := HI.out.2.2
          have h0 := HB1.out.size
          have hs : w1.heap.size ≤ wr.heap.size := hb.size
          exact HB1.out.trans ((hb.mono h0).trans (hw2.mono (by omega))))
        clear hw2
        go_wp2_with fail
        refine bodyPost_ret (v := .tuple #[.int .u32 0, .bool false]) (by simp [results, Tryd.results24, go_sem]) rfl ⟨by rw [HN.out]; rfl, HB2.out⟩
      | range =>
        obtain ⟨ev, hev, hvv⟩ := hHE.e2
        have HC := hide (Tryd.strconv_ParseUint_10_at8_range p (by omega) hpu ev wr hev hvv)
        have hnone : r = none := by
          cases r with
          | none => rfl
          | some v =>
            have h1 := (HPS.out.2.2 v rfl).1
            have h2 := acc_stop ps (k + 1) (by rw [hsucc]; simp [accS, hpu])
            rw [h1] at h2; cases h2
        have HN := hide hnone
        clear hsucc hnone hev hvv
        go_wp2_with fail
        (with_reducible refine HC.out.mono ?_)
        rintro e w2 ⟨NB, rfl, -, -, hw2⟩
        have HB2 := hide (show Below w.heap.size w w2 from by
          have hb := HI.out.2.2
          have h0 := HB1.out.size
          have hs : w1.heap.size ≤ wr.heap.size := hb.size
          exact HB1.out.trans ((hb.mono h0).trans (hw2.mono (by omega))))
        clear hw2
        go_wp2_with fail
        refine bodyPost_ret (v := .tuple #[.int .u32 0, .bool false]) (by simp [results, Tryd.results24, go_sem]) rfl ⟨by rw [HN.out]; rfl, HB2.out⟩
    · have hkN : k = N := by omega
      subst hkN
      have d2 : decide (k < k) = false := by simp
      have hacc : accP ps = some A := by have := HI.out.1; rwa [List.take_of_length_le (by have := HPS.out.1; omega)] at this
      have HA := hide (And.intro hacc HI.out.2.1)
      have HEr := hide (HE1.out.below HI.out.2.2 (Nat.le_refl _))
      have HTX := hide (text_any A wr HI.out.2.1 HEr.out.pt)
      have HB2 := hide (show Below w.heap.size w wr from HB1.out.trans (HI.out.2.2.mono HB1.out.size))
      obtain ⟨X, hX⟩ : ∃ X, (⟨(txt (qb A) 4).toArray⟩ : ByteArray) = X := ⟨_, rfl⟩
      rw [hX] at HTX
      have HX := hide hX
      clear hX hacc HI
      go_wp2_with fail
      refine HTX.out.mono ?_
      rintro e w3 ⟨rfl, hb3⟩
      have HB3 := hide (show Below w.heap.size w w3 from HB2.out.trans (hb3.mono HB2.out.size))
      clear hb3
      by_cases hXs : X = s
      · have hne : (X.toList == s.toList) = true := by rw [hXs]; simp
        have HR2 := hide (show r = some A from by
          have h := addr_txt A HA.out.2
          rw [← HS.out.2, ← hXs, ← HX.out]
          exact h)
        go_wp2_with fail
        refine bodyPost_ret (v := .tuple #[.int .u32 (A : Int), .bool true]) (by simp [results, Tryd.results24, go_sem]) rfl ⟨by rw [HR2.out]; rfl, HB3.out⟩
      · have hne : (X.toList == s.toList) = false := by rw [beq_eq_false_iff_ne]; intro h; exact hXs (by cases X; cases s; simpa [ByteArray.toList_eq] using h)
        have HR2 := hide (show r = none from by
          cases r with
          | none => rfl
          | some v =>
            have h1 := (HPS.out.2.2 v rfl).1
            have h2 := addr_txt_only _ _ HS.out.2
            rw [HA.out.1] at h1
            obtain rfl := Option.some.inj h1
            exact absurd (by rw [← HX.out, ← h2]) hXs)
        go_wp2_with fail
        refine bodyPost_ret (v := .tuple #[.int .u32 0, .bool false]) (by simp [results, Tryd.results24, go_sem]) rfl ⟨by rw [HR2.out]; rfl, HB3.out⟩
end Go.Proofs.YtdofdbajilkimaaDoor
