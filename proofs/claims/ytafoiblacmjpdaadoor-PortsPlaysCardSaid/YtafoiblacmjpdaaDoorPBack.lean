/- Ports: PortsBack. -/
import Derived.Test.YtafoiblacmjpdaaDoorPLow
import Derived.Test.YtafoiblacmjpdaaDoorPOut
namespace Go.Proofs.YtafoiblacmjpdaaDoor
open Go.RowKit Go.Deep
set_option linter.unusedVariables false
set_option linter.unusedSimpArgs false
set_option maxRecDepth 100000
/-- Take, by any port. -/
theorem take_any (B p k C : Nat) (t : Nat → Bool) (hC : C = 64512) (hp2 : p ≤ 65535) (hk : k ≤ 1000000) (w : World) (h : PAt w B t (k : Int)) (hc : cnt t C = k) :
    Calls Tryd.prog 10 #[.pointer (some ⟨B, 0, none⟩), .int .u16 (p : Int)] w fun e w' => ∃ (b : Bool) (t' : Nat → Bool) (k' : Nat), e = .returned (.bool b) ∧ PAt w' B t' (k' : Int) ∧ cnt t' C = k' ∧ k' ≤ k + 1 ∧ OnlyB B w w' := by
  by_cases hl : p < 1024
  · exact (take_low B p t (k : Int) hl w h).mono fun e w' ⟨h1, h2, h3⟩ => ⟨false, t, k, h1, h2, hc, by omega, h3⟩
  · obtain ⟨q, hq⟩ : ∃ q, p - 1024 = q := ⟨_, rfl⟩
    cases ht : t q with
    | true => exact (take_has B p q t (k : Int) (by omega) hp2 hq ht w h).mono fun e w' ⟨h1, h2, h3⟩ => ⟨false, t, k, h1, h2, hc, by omega, h3⟩
    | false => exact (take_new B p q t (k : Int) (by omega) hp2 hq ht (by omega) (by omega) w h).mono fun e w' ⟨h1, h2, h3⟩ => ⟨true, put t q true, k + 1, h1, h2, by rw [cnt_put_true t C q (by omega) ht, hc], by omega, h3⟩
def Adds (t : Nat → Bool) (ps : List Nat) : Nat → Bool := fun q => t q || decide (q ∈ ps)
theorem adds_nil (t : Nat → Bool) : Adds t [] = t := by funext q; simp [Adds]
theorem adds_put (t : Nat → Bool) (ps : List Nat) (p : Nat) : put (Adds t ps) p true = Adds t (ps ++ [p]) := by
  funext q
  unfold put Adds
  by_cases e : q = p
  · rw [if_pos e, e]; simp
  · rw [if_neg e]; simp [e]
theorem adds_give (t : Nat → Bool) (r : List Nat) (p : Nat) (h0 : t p = false) (hr : p ∉ r) : put (Adds t (p :: r)) p false = Adds t r := by
  funext q
  unfold put Adds
  by_cases e : q = p
  · rw [if_pos e, e, h0]; simp [hr]
  · rw [if_neg e]; simp [e]
theorem Row.lower {k : IntKind} {w w' : World} {a : Option Addr} {xs : List Int} {K : Nat} (h : Row k w a xs) (hb : Below K w w') (hn : ∀ b, a = some b → b.block < K) : Row k w' a xs := by
  intro hne
  obtain ⟨b, off, e, hlt, hc⟩ := h hne
  exact ⟨b, off, e, Nat.lt_of_lt_of_le hlt hb.size, fun i hi => (hb.cell (p := ⟨b, off + i, none⟩) (hn ⟨b, off, none⟩ e)).trans (hc i hi)⟩
theorem owns_only {w w' : World} {base B : Nat} {e : TypeId} {size : Nat} {v : Value} {n : Nat} {xs : List Value} (h : w.ownsRow base e size v n xs) (hb : OnlyB B w w') (hB : B < base) : w'.ownsRow base e size v n xs := by
  refine ⟨h.1, ?_⟩
  rcases h.2 with h | ⟨g, cap, cur, hv, hg, hh, r⟩
  · exact .inl h
  · exact .inr ⟨g, cap, cur, hv, hg, (hb.block g (lt_of_block hh) (by omega)).trans hh, r⟩
theorem PAt.lower {w w' : World} {B K : Nat} {t : Nat → Bool} {n : Int} (h : PAt w B t n) (hb : Below K w w') (hB : B < K) : PAt w' B t n := by
  obtain ⟨cs, h1, h2⟩ := h
  exact ⟨cs, (hb.block B hB).trans h1, h2⟩
def prt (ps : List Nat) : List Int := ps.map fun p => ((1024 + p : Nat) : Int)
/-- The second loop's state. -/
def GSt (w wz : World) (B K0 C : Nat) (t : Nat → Bool) (k : Nat) (ab : Option Addr) (L : List Int) (ga : Option Addr) (gc j : Nat) (ps : List Nat) : Prop :=
  ps.length = j ∧ (∀ p ∈ ps, p < C ∧ t p = false) ∧ ps.Nodup ∧ PAt wz B (Adds t ps) ((k + j : Nat) : Int) ∧ cnt (Adds t ps) C = k + j ∧ Below w.heap.size w wz ∧ Row .i64 wz ab L ∧ K0 ≤ wz.heap.size ∧ wz.ownsRow K0 30 1 (.slice ga j gc) j ((prt ps).map (Value.int .u16))
/-- The first loop's state. -/
def TSt (w wz : World) (B C j : Nat) : Prop := ∃ (t : Nat → Bool) (k : Nat), PAt wz B t (k : Int) ∧ cnt t C = k ∧ k ≤ j ∧ Below w.heap.size w wz
set_option maxHeartbeats 8000000 in
theorem portsBack_any (w : World) (a : Option Addr) (xs : List Int) (n cap : Nat) (d : Option Addr) (ds : List Int) (m dcap : Nat) (hr : Row .u16 w a xs) (hl : xs.length = n) (hx : ∀ x ∈ xs, 0 ≤ x ∧ x ≤ 65535)
    (hdr : Row .u64 w d ds) (hdl : ds.length = m) (hdx : ∀ x ∈ ds, 0 ≤ x ∧ x ≤ 18446744073709551615) (hT : PtT w) :
    Calls Tryd.prog 6 #[.slice a n cap, .slice d m dcap] w (Yes w) := by
  have HS := hide (speaks7_any w hT)
  have HT := hide hT
  have HR := hide (And.intro hr (And.intro hl hx))
  have HD := hide (And.intro hdr (And.intro hdl hdx))
  obtain ⟨C, hC⟩ : ∃ C : Nat, C = 64512 := ⟨_, rfl⟩
  have HC := hide hC
  clear hT hr hl hx hdr hdl hdx hC
  go_enter Tryd.func6, Tryd.ntmps6
  go_wp2_with fail
  refine HS.out.mono ?_
  rintro e w1 ⟨rfl, b1⟩
  have HB1 := hide b1
  clear b1 HS
  by_cases h2 : 100 < n
  · have d1 : decide ((100 : Int) < (n : Int)) = true := by simp; omega
    clear h2
    go_wp2_with fail
    go_ret
    exact ⟨rfl, HB1.out⟩
  have d1 : decide ((100 : Int) < (n : Int)) = false := by simp; omega
  by_cases h3 : 100 < m
  · have d2 : decide ((100 : Int) < (m : Int)) = true := by simp; omega
    clear h3
    go_wp2_with fail
    go_ret
    exact ⟨rfl, HB1.out⟩
  have d2 : decide ((100 : Int) < (m : Int)) = false := by simp; omega
  have HNM := hide (show n ≤ 100 ∧ m ≤ 100 by omega)
  clear h2 h3
  go_wp2_with fail
  refine (new_any _).mono ?_
  rintro e w2 ⟨B, rfl, hB, hp2, b2⟩
  have HBw := hide (show w.heap.size ≤ B by have := HB1.out.size; have h := hB; (try simp at h); omega)
  have HX := hide (show TSt w w2 B C 0 from ⟨none_, 0, hp2, by
    have : ∀ k, cnt none_ k = 0 := fun k => by
      induction k with
      | zero => rfl
      | succ k ih => unfold cnt; rw [ih]; rfl
    exact this C, Nat.le_refl _, HB1.out.trans (b2.mono (by have := HB1.out.size; (try simp); omega))⟩)
  clear hB hp2 b2 HB1
  go_wp2_with fail
  go_loopw [33] (fun i wz => ∃ j : Nat, j ≤ n ∧ i = .int .i64 j ∧ Hid (TSt w wz B C j)) (fun i _ => n - (intOf i).toNat)
  case atStart => exact ⟨0, Nat.zero_le _, rfl, HX⟩
  case round =>
    clear HX
    obtain ⟨j, hj, rfl, HX⟩ := hrel
    by_cases hlt : j < n
    · have d3 : decide ((j : Int) < (n : Int)) = true := by simp; omega
      obtain ⟨t, k, h1, h2, h3, h4⟩ := HX.out
      obtain ⟨b, off, he, hbl, hc⟩ := (HR.out.1.below h4 (Nat.le_refl _)).at (i := j) (by have := HR.out.2.1; omega)
      have hcj := hc j (by have := HR.out.2.1; omega)
      have hxm := HR.out.2.2 (xs[j]?.getD 0) (by
        have hj2 : j < xs.length := by have := HR.out.2.1; omega
        rw [List.getElem?_eq_getElem hj2]
        exact List.getElem_mem hj2)
      obtain ⟨q, hq⟩ := Int.eq_ofNat_of_zero_le hxm.1
      rw [hq] at hcj hxm
      have HTK := hide (take_any B q k C t HC.out (by omega) (by have := HNM.out; omega) wr h1 h2)
      have HW := hide h4
      have HK := hide h3
      have hn3 : (j : Int) ≤ 1000 := by have := HNM.out; omega
      have hj4 : (0 : Int) ≤ (j : Int) := by omega
      have q4 : (0 : Int) ≤ (q : Int) := by omega
      clear h1 h2 h3 h4 hbl hc hxm hq HX
      subst he
      go_wp2_with fail
      (with_reducible refine HTK.out.mono ?_)
      rintro e w3 ⟨bb, t', k', rfl, p1, p2, p3, o⟩
      have HX := hide (show TSt w w3 B C (j + 1) from ⟨t', k', p1, p2, by have := HK.out; omega, HW.out.trans (o.below HBw.out HW.out.size)⟩)
      clear p1 p2 p3 o HTK
      go_wp2_with fail
      go_roundw
      case rel => exact ⟨j + 1, by omega, by go_num, HX⟩
      case measure => simp [intOf]; omega
    · have d3 : decide (j < n) = false := by simp; omega
      obtain ⟨t, k, h1, h2, h3, h4⟩ := HX.out
      have HP := hide (And.intro h1 (And.intro h2 (show k ≤ 100 by have := HNM.out; omega)))
      have HW := hide h4
      have HLI := hide (listed_any wr B t (k : Int) 131072 (HT.out.below h4 (Nat.le_refl _)) h1)
      clear h1 h2 h3 h4 HX hlt hj
      go_wp2_with fail
      (with_reducible refine HLI.out.mono ?_)
      rintro e w3 ⟨ab, cb, L, hL, rfl, hown, hbel⟩
      have HL := hide hL
      have HW3 := hide (HW.out.trans (hbel.mono HW.out.size))
      have HP3 := hide (HP.out.1.below hbel (Nat.le_refl _))
      have HRB := hide (Row.of_owns hown)
      obtain ⟨K0, hK0⟩ : ∃ K, w3.heap.size = K := ⟨_, rfl⟩
      have HAB := hide (show (∀ b, ab = some b → b.block ≠ B ∧ b.block < K0) ∧ B < K0 ∧ w.heap.size ≤ K0 from ⟨fun b e => by
        have h1 := hown.lt b.block (by rw [e]; rfl)
        have h2 := HP.out.1.lt
        exact ⟨by omega, by omega⟩, by have := HP3.out.lt; omega, by have := HW3.out.size; omega⟩)
      have hlit := World.ownsRow_lit (base := K0) (e := 30) (size := 1) w3 #[] 0 (by omega) (by unfold maxLen; omega) rfl
      have hal : Below w3.heap.size w3 (w3.alloc (.cells #[] 30)) := (Below.refl _ _).alloc (Nat.le_refl _) _
      have HG := hide (show GSt w (w3.alloc (.cells #[] 30)) B K0 C t k ab L (some ⟨w3.heap.size, 0, none⟩) 0 0 [] from ⟨rfl, by simp, by simp, by rw [adds_nil]; exact HP3.out.below hal (Nat.le_refl _), by rw [adds_nil]; exact HP.out.2.1, HW3.out.trans (hal.mono HW3.out.size), HRB.out.below hal (Nat.le_refl _), by have := hal.size; omega, hlit⟩)
      have HKK := hide (And.intro (show k ≤ 100 from HP.out.2.2) hK0)
      clear hL hbel hown hlit hal hK0 HP HP3 HRB HW3 HW HLI
      go_wp2_with fail
      go_loopw [9, 46] (fun gv i wz => ∃ (j : Nat) (ga : Option Addr) (gc : Nat), j ≤ m ∧ i = .int .i64 j ∧ gv = .slice ga j gc ∧ Hid (∃ ps, GSt w wz B K0 C t k ab L ga gc j ps)) (fun _ i _ => m - (intOf i).toNat)
      case atStart => exact ⟨0, _, _, Nat.zero_le _, rfl, rfl, hide ⟨_, HG.out⟩⟩
      case round =>
        clear HG
        obtain ⟨j, ga, gc, hj, rfl, rfl, HX⟩ := hrel
        by_cases hlt : j < m
        · have d3 : decide (j < m) = true := by simp; omega
          obtain ⟨ps, g1, g2, g3, g4, g5, g6, g7, g8, g9⟩ := HX.out
          obtain ⟨b, off, he, hbl, hc⟩ := (HD.out.1.below g6 (Nat.le_refl _)).at (i := j) (by have := HD.out.2.1; omega)
          have hcj := hc j (by have := HD.out.2.1; omega)
          have hxm := HD.out.2.2 (ds[j]?.getD 0) (by
            have hj2 : j < ds.length := by have := HD.out.2.1; omega
            rw [List.getElem?_eq_getElem hj2]
            exact List.getElem_mem hj2)
          obtain ⟨q, hq⟩ := Int.eq_ofNat_of_zero_le hxm.1
          rw [hq] at hcj
          have HPK := hide (pick_any B q (Adds t ps) ((k + j : Nat) : Int) (by omega) (by have := HKK.out.1; have := HNM.out.2; omega) wr g4 (HT.out.below g6 (Nat.le_refl _)))
          have HI := hide (And.intro g1 (And.intro g2 (And.intro g3 (And.intro g5 (And.intro g6 (And.intro g7 (And.intro g8 g9)))))))
          have HNN := hide (show ¬ NoneFrom (Adds t ps) 0 from fun hn => by
            have h1 := cnt_all (Adds t ps) C (fun q hq => hn q (by omega) (by have := HC.out; omega))
            have h2 := HKK.out.1
            have h3 := HNM.out.2
            have h4 := HC.out
            omega)
          have hn3 : (j : Int) ≤ 1000 := by have := HNM.out; omega
          have hj4 : (0 : Int) ≤ (j : Int) := by omega
          clear g1 g2 g3 g4 g5 g6 g7 g8 g9 hbl hc hxm hq HX
          subst he
          go_wp2_with fail
          (with_reducible refine HPK.out.mono ?_)
          rintro e w4 (⟨p, hpi, rfl, h4, o4⟩ | ⟨hn, _⟩)
          case inr => exact absurd hn HNN.out
          have hpl := hpi.lt
          obtain ⟨P, hPe⟩ : ∃ P, 1024 + p = P := ⟨_, rfl⟩
          rw [hPe]
          have HHS := has_high B P p _ _ (by omega) (by omega) (by omega) w4 h4
          have hput : put (Adds t ps) p true p = true := by simp [put]
          rw [hput] at HHS
          replace HHS := hide HHS
          have H4 := hide (And.intro h4 (And.intro o4 (And.intro hpl hPe)))
          clear hpi h4 o4 hpl hPe hput HPK HNN
          go_wp2_with fail
          (with_reducible refine HHS.out.mono ?_)
          rintro e w5 ⟨rfl, dr⟩
          have hbd := dr.below
          have hO5 := (H4.out.2.1).trans (OnlyB.of (B := B) hbd)
          have hown5 := owns_only HI.out.2.2.2.2.2.2.2 hO5 HAB.out.2.1
          have hsz5 : K0 ≤ w5.heap.size := Nat.le_trans HI.out.2.2.2.2.2.2.1 hO5.size
          have hal : Below w5.heap.size w5 (w5.alloc (.cells #[.int .u16 (P : Int)] 30)) := (Below.refl _ _).alloc (Nat.le_refl _) _
          have hlit := Row.of_owns (k := .u16) (xs := [(P : Int)]) (World.ownsRow_lit (base := K0) (e := 30) (size := 1) w5 #[.int .u16 (P : Int)] 1 hsz5 (by unfold maxLen; omega) rfl)
          obtain ⟨v', w6, hrun, o6, b6, _⟩ := app16 (w5.alloc (.cells #[.int .u16 (P : Int)] 30)) K0 (.slice ga j gc) j (prt ps) (hown5.alloc _) (some ⟨w5.heap.size, 0, none⟩) [(P : Int)] 1 1 hlit rfl (fun h => by cases h) (by have := HNM.out.2; omega) (by have := hal.size; omega)
          obtain ⟨a6, c6, rfl⟩ := slice_form o6
          have HRUN := hide hrun
          have HG6 := hide (show ∃ ps', GSt w w6 B K0 C t k ab L a6 c6 (j + 1) ps' from by
            obtain ⟨h4, o4, hpl, hPe⟩ := H4.out
            obtain ⟨g1, g2, g3, g5, g6, g7, g8, g9⟩ := HI.out
            have hpf : t p = false ∧ p ∉ ps := by
              have := hpl.2
              unfold Adds at this
              simpa using this
            have b5 : Below w.heap.size w w5 := (g6.trans (o4.below HBw.out g6.size)).trans (hbd.mono (Nat.le_trans g6.size o4.size))
            have b5a := b5.trans (hal.mono b5.size)
            refine ⟨ps ++ [p], by simp [g1], ?_, ?_, ?_, ?_, b5a.trans (b6.mono HAB.out.2.2), (((g7.only o4 (fun b e => (HAB.out.1 b e).1)).below hbd (Nat.le_refl _)).below hal (Nat.le_refl _)).lower b6 (fun b e => (HAB.out.1 b e).2), Nat.le_trans (Nat.le_trans hsz5 hal.size) b6.size, ?_⟩
            · intro p' hp'
              rcases List.mem_append.1 hp' with h | h
              · exact g2 p' h
              · rw [List.mem_singleton.1 h]; exact ⟨by have := HC.out; omega, hpf.1⟩
            · rw [List.nodup_append]
              exact ⟨g3, by simp, fun a ha b hb e => hpf.2 (by rw [← List.mem_singleton.1 hb, ← e]; exact ha)⟩
            · rw [← adds_put]
              exact ((h4.below hbd (Nat.le_refl _)).below hal (Nat.le_refl _)).lower b6 HAB.out.2.1
            · rw [← adds_put, cnt_put_true (Adds t ps) C p (by have := HC.out; omega) hpl.2, g5]; omega
            · have e : prt (ps ++ [p]) = prt ps ++ [(P : Int)] := by unfold prt; rw [List.map_append, ← hPe]; rfl
              rw [e]; exact o6)
          clear dr hbd hO5 hown5 hsz5 hal hlit hrun o6 b6 H4 HHS HI
          go_wp2_with (at_builtin; refine Lib.wpList_append_run _ rfl _ _ _ _ rfl _ _ rfl rfl _ _ HRUN.out ?_)
          go_roundw
          case rel => exact ⟨j + 1, a6, c6, by omega, by go_num, rfl, HG6⟩
          case measure => simp [intOf]; omega
        · have d3 : decide (j < m) = false := by simp; omega
          obtain ⟨ps, g1, g2, g3, g4, g5, g6, g7, g8, g9⟩ := HX.out
          have hjm : j = m := by omega
          clear hlt hj
          subst hjm
          have HPS := hide (And.intro g1 (And.intro g2 g3))
          have HGL := hide (show ga = none → gc = 0 from fun e => by
            subst e
            rcases g9.2 with ⟨h, _⟩ | ⟨g, cap, cur, hv, _⟩
            · cases h; rfl
            · cases hv)
          have HX3 := hide (show PAt wr B (Adds t (ps.drop 0)) ((k + (j - 0) : Nat) : Int) ∧ Row .u16 wr ga (prt ps) ∧ Row .i64 wr ab L ∧ Below w.heap.size w wr from ⟨g4, Row.of_owns g9, g7, g6⟩)
          have HGB := hide (show ∀ b, ga = some b → b.block ≠ B from fun b e => by
            have h1 := g9.lt b.block (by rw [e]; rfl)
            have h2 := HAB.out.2.1
            omega)
          have hjn : (j : Int) ≤ 100 := by have := HNM.out.2; omega
          clear g1 g2 g3 g4 g5 g6 g7 g8 g9 HX
          go_wp2_with fail
          go_loopw [71] (fun i wz => ∃ r : Nat, r ≤ j ∧ i = .int .i64 r ∧ Hid (PAt wz B (Adds t (ps.drop r)) ((k + (j - r) : Nat) : Int) ∧ Row .u16 wz ga (prt ps) ∧ Row .i64 wz ab L ∧ Below w.heap.size w wz)) (fun i _ => j - (intOf i).toNat)
          case atStart => exact ⟨0, Nat.zero_le _, rfl, HX3⟩
          case round =>
            clear HX3
            obtain ⟨r, hr, rfl, HX⟩ := hrel
            by_cases hlt : r < j
            · have d4 : decide (r < j) = true := by simp; omega
              obtain ⟨g4, g9, g7, g6⟩ := HX.out
              have hpl := HPS.out.1
              have hrl : r < ps.length := by omega
              obtain ⟨b, off, he, hbl, hc⟩ := g9.at (i := r) (by unfold prt; simp; exact hrl)
              have hcr := hc r (by unfold prt; simp; exact hrl)
              obtain ⟨p, hp⟩ : ∃ p, ps[r] = p := ⟨_, rfl⟩
              have hpm : p ∈ ps := by rw [← hp]; exact List.getElem_mem hrl
              have hpc := HPS.out.2.1 p hpm
              have hdr : ps.drop r = p :: ps.drop (r + 1) := by rw [← hp]; exact List.drop_eq_getElem_cons hrl
              have hnd : p ∉ ps.drop (r + 1) := by
                have h1 : (ps.drop r).Nodup := List.Nodup.sublist (List.drop_sublist r ps) HPS.out.2.2
                rw [hdr] at h1
                exact (List.nodup_cons.1 h1).1
              obtain ⟨P, hPe⟩ : ∃ P, 1024 + p = P := ⟨_, rfl⟩
              have hpr : (prt ps)[r]?.getD 0 = (P : Int) := by unfold prt; rw [List.getElem?_map, List.getElem?_eq_getElem hrl, hp, ← hPe]; rfl
              rw [hpr] at hcr
              rw [hdr] at g4
              have hP2 : P ≤ 65535 := by have := HC.out; omega
              have HGV := give_new B P p _ _ (by omega) hP2 (by omega) (by simp [Adds]) (by omega) (by have := HKK.out.1; omega) wr g4
              rw [adds_give t _ p hpc.2 hnd] at HGV
              replace HGV := hide HGV
              have HI := hide (And.intro g9 (And.intro g7 g6))
              have HPP := hide (And.intro hPe (And.intro hP2 (show Adds t (ps.drop (r + 1)) p = false by unfold Adds; rw [hpc.2]; simpa using hnd)))
              have hr4 : (0 : Int) ≤ (r : Int) := by omega
              have hp4 : (0 : Int) ≤ (P : Int) := by omega
              clear g4 g9 g7 g6 hpl hrl hbl hc hp hpm hpc hdr hnd hPe hpr hP2 HX
              subst he
              go_wp2_with fail
              (with_reducible refine HGV.out.mono ?_)
              rintro e w4 ⟨rfl, h4, o4⟩
              have HHS := has_high B P p _ _ (by have := HPP.out.1; omega) HPP.out.2.1 (by have := HPP.out.1; omega) w4 h4
              rw [HPP.out.2.2] at HHS
              replace HHS := hide HHS
              have H4 := hide (And.intro h4 o4)
              clear h4 o4 HGV
              go_wp2_with fail
              (with_reducible refine HHS.out.mono ?_)
              rintro e w5 ⟨rfl, dr⟩
              have HX := hide (show PAt w5 B (Adds t (ps.drop (r + 1))) ((k + (j - (r + 1)) : Nat) : Int) ∧ Row .u16 w5 (some ⟨b, off, none⟩) (prt ps) ∧ Row .i64 w5 ab L ∧ Below w.heap.size w w5 from by
                obtain ⟨h4, o4⟩ := H4.out
                obtain ⟨g9, g7, g6⟩ := HI.out
                have hb := dr.below
                have b4 := g6.trans (o4.below HBw.out g6.size)
                refine ⟨?_, (g9.only o4 HGB.out).below hb (Nat.le_refl _), (g7.only o4 (fun b e => (HAB.out.1 b e).1)).below hb (Nat.le_refl _), b4.trans (hb.mono b4.size)⟩
                have h5 := h4.below hb (Nat.le_refl _)
                rw [show ((k + (j - r) : Nat) : Int) - 1 = ((k + (j - (r + 1)) : Nat) : Int) by omega] at h5
                exact h5)
              clear dr H4 HI HHS
              go_wp2_with fail
              go_roundw
              case rel => exact ⟨r + 1, by omega, by go_num, HX⟩
              case measure => simp [intOf]; omega
            · have d4 : decide (r < j) = false := by simp; omega
              obtain ⟨g4, g9, g7, g6⟩ := HX.out
              have hrj : r = j := by omega
              rw [hrj, List.drop_eq_nil_of_le (by have := HPS.out.1; omega), adds_nil] at g4
              have HLI := hide (listed_any wr B t _ 131072 (HT.out.below g6 (Nat.le_refl _)) g4)
              have HI := hide (And.intro g7 g6)
              clear g4 g9 g7 g6 HX hrj hlt hr
              go_wp2_with fail
              (with_reducible refine HLI.out.mono ?_)
              rintro e w6 ⟨ab2, cb2, L2, hL2, rfl, hown2, hbel2⟩
              rw [HL.out] at hL2
              subst hL2
              have HX6 := hide (show Row .i64 w6 ab L ∧ Row .i64 w6 ab2 L ∧ Below w.heap.size w w6 from ⟨HI.out.1.below hbel2 (Nat.le_refl _), Row.of_owns hown2, HI.out.2.trans (hbel2.mono HI.out.2.size)⟩)
              obtain ⟨N, hN⟩ : ∃ N, L.length = N := ⟨_, rfl⟩
              have HN := hide hN
              have HNB := hide (show N ≤ 1000000 by
                rw [← hN, ← HL.out]
                have h1 := told_len t 1008
                have h2 := List.length_take_le' (max (131072 : Int) 1).toNat (told t 1008)
                unfold stopAt
                omega)
              rw [hN]
              have d5 : ((N : Int) != (N : Int)) = false := by simp
              clear hown2 hbel2 hN HI HLI HL
              go_wp2_with fail
              go_loopw [94] (fun i wz => ∃ r : Nat, r ≤ N ∧ i = .int .i64 r ∧ Hid (Row .i64 wz ab L ∧ Row .i64 wz ab2 L ∧ Below w.heap.size w wz)) (fun i _ => N - (intOf i).toNat)
              case atStart => exact ⟨0, Nat.zero_le _, rfl, HX6⟩
              case round =>
                clear HX6
                obtain ⟨r, hr, rfl, HX⟩ := hrel
                by_cases hlt : r < N
                · have d6 : decide (r < N) = true := by simp; omega
                  obtain ⟨b1, o1, he1, hl1, hc1⟩ := HX.out.1.at (i := r) (by have := HN.out; omega)
                  obtain ⟨b2, o2, he2, hl2, hc2⟩ := HX.out.2.1.at (i := r) (by have := HN.out; omega)
                  have k1 := hc1 r (by have := HN.out; omega)
                  have k2 := hc2 r (by have := HN.out; omega)
                  obtain ⟨x, hx⟩ : ∃ x, L[r]?.getD 0 = x := ⟨_, rfl⟩
                  rw [hx] at k1 k2
                  have hr4 : (0 : Int) ≤ (r : Int) := by omega
                  have hr5 : (r : Int) ≤ 1000000 := by have := HNB.out; omega
                  have d7 : (x != x) = false := by simp
                  have HX7 := hide (show Row .i64 wr.drew ab L ∧ Row .i64 wr.drew ab2 L ∧ Below w.heap.size w wr.drew from ⟨HX.out.1.below ((Below.refl wr.heap.size wr).drew) (Nat.le_refl _), HX.out.2.1.below ((Below.refl wr.heap.size wr).drew) (Nat.le_refl _), HX.out.2.2.drew⟩)
                  clear hl1 hc1 hl2 hc2 hx HX
                  subst he1
                  subst he2
                  go_wp2_with fail
                  go_region
                  go_wp2_with fail
                  go_roundw
                  case rel => exact ⟨r + 1, by omega, by go_num, HX7⟩
                  case measure => simp [intOf]; omega
                · have d6 : decide (r < N) = false := by simp; omega
                  go_wp2_with fail
                  go_ret
                  exact ⟨rfl, HX.out.2.2⟩
end Go.Proofs.YtafoiblacmjpdaaDoor
