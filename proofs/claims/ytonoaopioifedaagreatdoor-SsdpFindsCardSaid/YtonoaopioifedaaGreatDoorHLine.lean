/- Head: the program's Line. -/
import Derived.Test.YtonoaopioifedaaGreatDoorHLow
import Derived.Test.YtonoaopioifedaaGreatDoorHMade
namespace Go.Proofs.YtonoaopioifedaaGreatDoor.H
open Go.RowKit Go.Deep
set_option linter.unusedVariables false
set_option linter.unusedSimpArgs false
set_option maxRecDepth 100000
theorem results_cell_tmp {P : Program} {fn : Func} {p q : Tmp} {ty : TypeId} (h : fn.results = #[.cell p ty, .tmp q]) (tmps : Array Value) (w : World) (g : Nat) (t : TypeId) (cs : Array Value) (fr : Nat × Nat) (d : TypeDesc)
    (hp : tmps.getD p undef = .pointer (some ⟨g, 0, none⟩)) (hg : w.heap[g]? = some (.cells cs t fr))
    (hu : P.underlying ty = some d) (hd : (match d with | .struct _ | .array _ _ => true | _ => false) = true) (hi : (P.info? ty).map (·.size) = some cs.size) (v : Value) (hv : tmps.getD q undef = v) :
    (results fn tmps).run P w = .ok (.tuple #[.agg cs, v]) w := by
  have hp' : tmps[p]?.getD undef = .pointer (some ⟨g, 0, none⟩) := by simpa using hp
  have hv' : tmps[q]?.getD undef = v := by simpa using hv
  simp [results, h, hp', hv', asAddr, run_loadVar_row w g t ty cs fr d hg hu hd hi]
/-- What the library's code reads of the package's variables. -/
structure Env (w : World) : Prop where
  m : ∃ m, w.cell? ⟨2, 0, none⟩ = some (.int .i64 m)
  e : ∃ ev, w.cell? ⟨0, 0, none⟩ = some ev ∧ (ev = .nilIface ∨ ∃ te pe, ev = .iface te pe)
theorem Env.below {w w' : World} {K : Nat} (h : Env w) (hb : Below K w w') (hK : w.heap.size ≤ K) : Env w' := by
  obtain ⟨m, hm⟩ := h.m
  obtain ⟨ev, he, hv⟩ := h.e
  exact ⟨⟨m, (hb.cell (p := ⟨2, 0, none⟩) (Nat.lt_of_lt_of_le (World.block_lt_of_cell? w _ hm) hK)).trans hm⟩, ⟨ev, (hb.cell (p := ⟨0, 0, none⟩) (Nat.lt_of_lt_of_le (World.block_lt_of_cell? w _ he) hK)).trans he, hv⟩⟩
theorem below_drewN {K : Nat} {a w : World} (h : Below K a w) (n : Nat) : Below K a (w.drewN n) := h.trans ⟨rfl, rfl, rfl, Nat.le_refl _, fun _ _ => rfl⟩
theorem cut_len (l : List UInt8) (c : UInt8) : (Lib.cut l [c]).1.length ≤ l.length ∧ (Lib.cut l [c]).2.1.length ≤ l.length := by
  rcases cut_two l c with ⟨_, h⟩ | ⟨a, b, e, _, h⟩
  · rw [h]; simp
  · rw [h, e]; simp; omega
theorem drop_len {p : UInt8 → Bool} (l : List UInt8) : (l.dropWhile p).length ≤ l.length := (List.dropWhile_sublist p).length_le
theorem trim_len (l cs : List UInt8) : (Lib.trimS l cs).length ≤ l.length := by
  unfold Lib.trimS Lib.trimLeftS Lib.trimRightS
  have h1 := drop_len (p := (cs.contains ·)) (l.reverse.dropWhile (cs.contains ·)).reverse
  have h2 := drop_len (p := (cs.contains ·)) l.reverse
  simp at h1 h2 ⊢
  omega
theorem size_bs (l : List UInt8) : (bs l).size = l.length := by simp [bs, ByteArray.size]
theorem data_bs (l : List UInt8) : (bs l).data.toList = l := by simp [bs]
def lineV (o : Option (List UInt8 × List UInt8)) : Value := match o with
  | some (n, v) => .tuple #[.agg #[.string (bs n), .string (bs v)], .bool true]
  | none => .tuple #[.agg #[.string ⟨#[]⟩, .string ⟨#[]⟩], .bool false]
theorem zero59 : ∀ w, (zeroValue 115).run Tryz.prog w = .ok (.agg (Array.replicate 256 (.bool false))) w := by
  intro w; kernel_rfl
theorem two_cells {w : World} {S : Nat} {T : TypeId} {x y : Value} (h : w.heap[S]? = some (.cells #[x, y] T (0, 0))) : (w.cell? ⟨S, 0, none⟩ = some x ∧ w.cell? ⟨S, 1, none⟩ = some y) ∧ w.frozen? ⟨S, 0, none⟩ = false ∧ w.frozen? ⟨S, 1, none⟩ = false := by
  refine ⟨⟨?_, ?_⟩, ?_, ?_⟩ <;> simp [World.cell?, World.frozen?, h]
theorem two_set {w : World} {S : Nat} {T : TypeId} {x y : Value} (h : w.heap[S]? = some (.cells #[x, y] T (0, 0))) (u v : Value) {w0 : World} (hb : Below w0.heap.size w0 w) (hS : w0.heap.size ≤ S) : ((w.setCell ⟨S, 0, none⟩ u).setCell ⟨S, 1, none⟩ v).heap[S]? = some (.cells #[u, v] T (0, 0)) ∧ Below w0.heap.size w0 ((w.setCell ⟨S, 0, none⟩ u).setCell ⟨S, 1, none⟩ v) := by
  have h1 := heap_setCell_same w S 0 _ _ u h
  have h2 := heap_setCell_same (w.setCell ⟨S, 0, none⟩ u) S 1 _ _ v h1
  exact ⟨h2, (hb.setCell (p := ⟨S, 0, none⟩) hS _).setCell (p := ⟨S, 1, none⟩) hS _⟩
set_option maxHeartbeats 2000000 in
theorem line_any (s : ByteArray) (w : World) (hs : s.size ≤ 100000) (hE : Env w) : Calls Tryz.prog 50 #[.string s] w fun e w' => e = .returned (lineV (lineL s.data.toList)) ∧ Below w.heap.size w w' := by
  obtain ⟨l, hl⟩ : ∃ l, s.data.toList = l := ⟨_, rfl⟩
  have hlen : l.length ≤ 100000 := by rw [← hl]; simpa using hs
  have hal := (Below.refl w.heap.size w).alloc (Nat.le_refl _) (.cells #[.string ⟨#[]⟩, .string ⟨#[]⟩] 60)
  have hnew := heap_alloc_new w (.cells #[.string ⟨#[]⟩, .string ⟨#[]⟩] 60)
  obtain ⟨W, hW⟩ : ∃ W, w.alloc (.cells #[.string ⟨#[]⟩, .string ⟨#[]⟩] 60) = W := ⟨_, rfl⟩
  obtain ⟨S, hS⟩ : ∃ S, w.heap.size = S := ⟨_, rfl⟩
  rw [hW] at hal hnew
  rw [hS] at hnew
  obtain ⟨m, hm⟩ := (hE.below hal (Nat.le_refl _)).m
  have hC : Calls Tryz.prog 61 #[.string s, .string ⟨#[58]⟩] W (fun e w' => e = .returned (.tuple #[.string ⟨(Lib.cut s.data.toList [58]).1.toArray⟩, .string ⟨(Lib.cut s.data.toList [58]).2.1.toArray⟩, .bool (Lib.cut s.data.toList [58]).2.2]) ∧ ∃ n, w' = W.drewN n) := Tryz.strings_Cut s ⟨#[58]⟩ m W (by omega) hm
  have hcl := cut_len l 58
  unfold lineL
  rw [hl] at hC ⊢
  obtain ⟨nm, h1⟩ : ∃ x, (Lib.cut l [58]).1 = x := ⟨_, rfl⟩
  obtain ⟨rs, h2⟩ : ∃ x, (Lib.cut l [58]).2.1 = x := ⟨_, rfl⟩
  obtain ⟨fd, h3⟩ : ∃ x, (Lib.cut l [58]).2.2 = x := ⟨_, rfl⟩
  rw [h1, h2] at hcl
  rw [h1, h2, h3] at hC ⊢
  have hb1 := size_bs rs
  have hb2 := size_bs nm
  have htl := trim_len rs bl
  obtain ⟨tv, h4⟩ : ∃ x, Lib.trimS rs bl = x := ⟨_, rfl⟩
  rw [h4] at htl
  have hb3 := size_bs tv
  obtain ⟨tk, h5⟩ : ∃ x, tokenL nm = x := ⟨_, rfl⟩
  obtain ⟨vv, h6⟩ : ∃ x, tv.all valB = x := ⟨_, rfl⟩
  rw [h4, h5, h6]
  have HC := hide hC
  have HW := hide (And.intro hW hS)
  have HA := hide (And.intro hal hnew)
  have HD := hide (And.intro h4 (And.intro h5 h6))
  have HZ := hide (show (bs rs).size ≤ 100000 ∧ (bs nm).size ≤ 100000 ∧ (bs tv).size ≤ 100000 by omega)
  clear hE hm hC h1 h2 h3 h4 h5 h6 hW hS hal hnew hcl hb1 hb2 hb3 htl hl hlen hs
  go_enter Tryz.func50, Tryz.ntmps50
  go_wp2_with fail
  rw [HW.out.1]
  rw [HW.out.2]
  (with_reducible refine HC.out.mono ?_)
  rintro e w1 ⟨rfl, nd, hw1⟩
  have HB1 := hide (show Below W.heap.size W w1 by rw [hw1]; exact below_drewN (Below.refl _ _) nd)
  clear hw1 HC
  have hT : Calls Tryz.prog 66 #[.string (bs rs), .string ⟨#[32, 9]⟩] w1 (fun e w' => e = .returned (.string ⟨(Lib.trimS (bs rs).data.toList [32, 9]).toArray⟩) ∧ Below w1.heap.size w1 w') := Tryz.strings_Trim_ascii zero59 (bs rs) ⟨#[32, 9]⟩ w1 (by have := HZ.out; omega) (by decide) (by
    intro j b hb
    match j, hb with
    | 0, hb => simp at hb; subst hb; decide
    | 1, hb => simp at hb; subst hb; decide
    | k + 2, hb => simp at hb)
  rw [data_bs, show ([32, 9] : List UInt8) = bl from rfl, HD.out.1] at hT
  have HT := hide hT
  clear hT
  go_wp2_with fail
  (with_reducible refine HT.out.mono ?_)
  rintro e w2 ⟨rfl, b2⟩
  have HB2 := hide (HB1.out.trans (b2.mono HB1.out.size))
  have hK : Calls Tryz.prog 63 #[.string (bs nm)] w2 _ := token_any (bs nm) w2 (by have := HZ.out; omega)
  rw [data_bs, HD.out.2.1] at hK
  have hV : Calls Tryz.prog 67 #[.string (bs tv), .func (.func 68) #[] #[]] w2 _ := allVal (bs tv) w2 (by have := HZ.out; omega)
  rw [data_bs, HD.out.2.2] at hV
  have HK := hide hK
  have HV := hide hV
  clear b2 HB1 HT hK hV
  cases fd with
  | false =>
    have hs2 := below_block HB2.out HA.out.2 (Nat.le_refl _)
    obtain ⟨⟨k0, k1⟩, k2, k3⟩ := two_cells hs2
    have HFIN := hide (two_set hs2 (.string ⟨#[]⟩) (.string ⟨#[]⟩) (HA.out.1.trans (HB2.out.mono HA.out.1.size)) (by have := HW.out.2; omega))
    clear hs2
    go_wp2_with fail
    exact bodyPost_ret (v := lineV none) (results_cell_tmp Tryz.results50 _ _ S 60 _ (0, 0) _ rfl HFIN.out.1 Tryz.underlying60 rfl (by kernel_rfl) _ rfl) rfl ⟨rfl, HFIN.out.2⟩
  | true =>
    cases tk with
    | false =>
      go_wp2_with fail
      (with_reducible refine HK.out.mono ?_)
      rintro e w3 ⟨rfl, rfl⟩
      have hs2 := below_block HB2.out HA.out.2 (Nat.le_refl _)
      obtain ⟨⟨k0, k1⟩, k2, k3⟩ := two_cells hs2
      have HFIN := hide (two_set hs2 (.string ⟨#[]⟩) (.string ⟨#[]⟩) (HA.out.1.trans (HB2.out.mono HA.out.1.size)) (by have := HW.out.2; omega))
      clear hs2
      go_wp2_with fail
      exact bodyPost_ret (v := lineV none) (results_cell_tmp Tryz.results50 _ _ S 60 _ (0, 0) _ rfl HFIN.out.1 Tryz.underlying60 rfl (by kernel_rfl) _ rfl) rfl ⟨rfl, HFIN.out.2⟩
    | true =>
      go_wp2_with fail
      (with_reducible refine HK.out.mono ?_)
      rintro e w3 ⟨rfl, rfl⟩
      cases vv with
      | false =>
        go_wp2_with fail
        (with_reducible refine HV.out.mono ?_)
        rintro e w4 ⟨rfl, rfl⟩
        have hs2 := below_block HB2.out HA.out.2 (Nat.le_refl _)
        obtain ⟨⟨k0, k1⟩, k2, k3⟩ := two_cells hs2
        have HFIN := hide (two_set hs2 (.string ⟨#[]⟩) (.string ⟨#[]⟩) (HA.out.1.trans (HB2.out.mono HA.out.1.size)) (by have := HW.out.2; omega))
        clear hs2
        go_wp2_with fail
        exact bodyPost_ret (v := lineV none) (results_cell_tmp Tryz.results50 _ _ S 60 _ (0, 0) _ rfl HFIN.out.1 Tryz.underlying60 rfl (by kernel_rfl) _ rfl) rfl ⟨rfl, HFIN.out.2⟩
      | true =>
        have hL := lower_any (bs nm) w3 (by have := HZ.out; omega)
        rw [data_bs] at hL
        have HL := hide hL
        clear hL
        go_wp2_with fail
        (with_reducible refine HV.out.mono ?_)
        rintro e w4 ⟨rfl, rfl⟩
        go_wp2_with fail
        (with_reducible refine HL.out.mono ?_)
        rintro e w5 ⟨rfl, b5⟩
        have HB5 := hide (HB2.out.trans (b5.mono HB2.out.size))
        clear b5
        have hs2 := below_block HB5.out HA.out.2 (Nat.le_refl _)
        obtain ⟨⟨k0, k1⟩, k2, k3⟩ := two_cells hs2
        have HFIN := hide (two_set hs2 (.string (bs (lowL nm))) (.string (bs tv)) (HA.out.1.trans (HB5.out.mono HA.out.1.size)) (by have := HW.out.2; omega))
        clear hs2
        go_wp2_with fail
        exact bodyPost_ret (v := lineV (some (lowL nm, tv))) (results_cell_tmp Tryz.results50 _ _ S 60 _ (0, 0) _ rfl HFIN.out.1 Tryz.underlying60 rfl (by kernel_rfl) _ rfl) rfl ⟨rfl, HFIN.out.2⟩
end Go.Proofs.YtonoaopioifedaaGreatDoor.H
