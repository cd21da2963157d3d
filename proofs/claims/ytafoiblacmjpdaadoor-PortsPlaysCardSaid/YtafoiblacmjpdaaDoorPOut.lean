/- Ports: All, and the law's listed. -/
import Derived.Test.YtafoiblacmjpdaaDoorPRow
import Derived.Test.YtafoiblacmjpdaaDoorPBits
import Derived.Deep.MidRow
import Derived.Maps.AppendAt
import Derived.Deep.DeepCutAuto
namespace Go.Proofs.YtafoiblacmjpdaaDoor
open Go.RowKit Go.Deep
set_option linter.unusedVariables false
set_option linter.unusedSimpArgs false
set_option maxRecDepth 100000
theorem Tryd.info3 : (Tryd.prog.info? 3).map (fun i => (i.zero, i.size, i.bytes)) = some (some (.int .i64 0), 1, 8) := by kernel_rfl
theorem one_cell {w : World} {R : Nat} {t : TypeId} {v0 : Value} (h : w.heap[R]? = some (.cells #[v0] t (0, 0))) : w.cell? ⟨R, 0, none⟩ = some v0 ∧ ∀ i, w.frozen? ⟨R, i, none⟩ = false := by
  refine ⟨?_, fun i => ?_⟩ <;> simp [World.cell?, World.frozen?, h]
/-- A number is appended to a row of one's own. -/
theorem appI (V : World) (base : Nat) (a : Option Addr) (n c : Nat) (xs : List Int) (hV : V.ownsRow base 3 1 (.slice a n c) n (xs.map (Value.int .i64))) (g : Nat) (y : Int) (hc : V.heap[g]? = some (.cells #[.int .i64 y] 3 (0, 0))) (hs : n ≤ 1000000) (hb : base ≤ V.heap.size) :
    ∃ a' c' w', (Builtin.append_ #[27, 27] 27 #[.slice a n c, .slice (some ⟨g, 0, none⟩) 1 1]).run Tryd.prog V = .ok (.slice a' (n + 1) c') w' ∧ w'.ownsRow base 3 1 (.slice a' (n + 1) c') (n + 1) ((xs ++ [y]).map (Value.int .i64)) ∧ V.grownBy w' (Value.slice a n c).ownBlock ∧ (∀ b, a' = some b → (∃ b0, a = some b0 ∧ b0.block = b.block) ∨ b.block = V.heap.size) := by
  obtain ⟨i0, hi, hz0, hz1, hz2⟩ := info_parts Tryd.info3
  obtain ⟨v', w', h1, h2, h3, _, h5⟩ := run_append_own_at (P := Tryd.prog) V base 27 27 3 i0 (.int .i64 0) 1 8 Tryd.underlying27 hi hz0 hz1 hz2 rfl (by decide) (.slice a n c) n (xs.map (Value.int .i64)) hV ⟨g, 0, none⟩ 1 1 [.int .i64 y] rfl (fun j u hj => by
    cases j with
    | zero => cases hj; show V.cell? ⟨g, 0, none⟩ = _; simp [World.cell?, hc]
    | succ j => simp at hj) (by intro u hu; rw [List.mem_singleton.1 hu]; rfl) (by unfold maxLen; omega) (by omega) hb
  obtain ⟨a', c', rfl⟩ := slice_form h2
  refine ⟨a', c', w', h1, ?_, h3, fun b hb' => ?_⟩
  · rw [List.map_append]; exact h2
  · subst hb'
    rcases h5 with h5 | h5
    · cases a with
      | none => simp [Value.ownBlock] at h5
      | some b0 => simp only [Value.ownBlock, Option.some.injEq] at h5; exact .inl ⟨b0, rfl, h5.symm⟩
    · simp only [Value.ownBlock, Option.some.injEq] at h5; exact .inr h5
/-- What the law's variables hold when xs has been told. -/
structure LS (w0 : World) (O M : Nat) (most : Int) (xs : List Int) (V : World) : Prop where
  below : Below w0.heap.size w0 V
  cm : V.heap[M]? = some (.cells #[.int .i64 most] 3 (0, 0))
  out : ∃ a c, V.heap[O]? = some (.cells #[.slice a xs.length c] 27 (0, 0)) ∧ V.ownsRow w0.heap.size 3 1 (.slice a xs.length c) xs.length (xs.map (Value.int .i64)) ∧ ∀ b, a = some b → b.block ≠ M ∧ b.block ≠ O
theorem LS.drew {w0 V : World} {O M : Nat} {most : Int} {xs : List Int} (h : LS w0 O M most xs V) : LS w0 O M most xs V.drew := ⟨h.below.drew, h.cm, h.out⟩
set_option maxHeartbeats 1000000 in
theorem listed1_any (w0 : World) (O M : Nat) (most : Int) (xs : List Int) (x : Int) (hO : w0.heap.size ≤ O) (hOM : O ≠ M) (hlen : xs.length ≤ 100000) (hx0 : 0 ≤ x) (hx1 : x ≤ 65535) (V : World) (h : LS w0 O M most xs V) :
    Calls Tryd.prog 23 #[.int .u16 x, .pointer (some ⟨O, 0, none⟩), .pointer (some ⟨M, 0, none⟩)] V fun e V' => e = .returned (.bool (decide ((xs.length : Int) + 1 < most))) ∧ LS w0 O M most (xs ++ [x]) V' := by
  obtain ⟨a, c, hbo, hrow, ha⟩ := h.out
  obtain ⟨n, hn⟩ : ∃ n, xs.length = n := ⟨_, rfl⟩
  rw [hn] at hbo hrow hlen ⊢
  obtain ⟨V2, hV2⟩ : ∃ wt, V.alloc (.cells #[.int .i64 x] 3) = wt := ⟨_, rfl⟩
  have hal : Below V.heap.size V V2 := by rw [← hV2]; exact (Below.refl _ _).alloc (Nat.le_refl _) _
  have hr2 : V2.ownsRow w0.heap.size 3 1 (.slice a n c) n (xs.map (Value.int .i64)) := by rw [← hV2]; exact hrow.alloc _
  have hn2 : V2.heap[V.heap.size]? = some (.cells #[.int .i64 x] 3 (0, 0)) := by rw [← hV2]; exact heap_alloc_new _ _
  have hsz := h.below.size
  obtain ⟨a3, c3, V3, hrun, hown3, hg3, hat3⟩ := appI V2 w0.heap.size a n c _ hr2 V.heap.size x hn2 (by omega) (by have := hal.size; omega)
  have hblk : ∀ b o, V.heap[b]? = some o → (∀ c, a = some c → c.block ≠ b) → V3.heap[b]? = some o := fun b o hb hne => by
    have h2 := below_block hal hb (Nat.le_refl _)
    refine (hg3.block b (lt_of_block h2) ?_).trans h2
    cases hua' : a with
    | none => simp [Value.ownBlock]
    | some c => simp only [Value.ownBlock, ne_eq, Option.some.injEq]; exact fun e => hne c hua' e.symm
  have lO := lt_of_block hbo
  have lM := lt_of_block h.cm
  have H3O := hide (hblk _ _ hbo (fun c e => (ha c e).2))
  have H3M := hide (hblk _ _ h.cm (fun c e => (ha c e).1))
  have H3B := hide ((h.below.trans (hal.mono hsz)).grown hg3 (by have := hal.size; omega) (fun z e => (hr2.lt z e).1))
  have H3R := hide hown3
  have H3A := hide (fun b (hb : a3 = some b) => (by
    rcases hat3 b hb with ⟨b0, e0, e1⟩ | e1
    · rw [← e1]; exact ha b0 e0
    · have := hal.size
      exact ⟨by omega, by omega⟩ : b.block ≠ M ∧ b.block ≠ O))
  have HRUN := hide (show (Builtin.append_ #[27, 27] 27 #[.slice a n c, .slice (some ⟨V.heap.size, 0, none⟩) 1 1]).run Tryd.prog (V.alloc (.cells #[.int .i64 x] 3)) = .ok (.slice a3 (n + 1) c3) V3 by rw [hV2]; exact hrun)
  obtain ⟨o0, of⟩ := one_cell hbo
  obtain ⟨o3, of3⟩ := one_cell H3O.out
  have hnb : (n : Int) ≤ 100000 := by omega
  have HN := hide hn
  have HO := hide (And.intro hO hOM)
  clear h hrow ha hV2 hal hr2 hn2 hrun hown3 hg3 hat3 hblk lO lM hbo hn hlen hsz hO hOM
  go_enter Tryd.func23, Tryd.ntmps23
  go_upto_region 2 with (at_builtin; refine Lib.wpList_append_run _ rfl _ _ _ _ rfl _ _ rfl rfl _ _ HRUN.out ?_)
  have g4 := heap_setCell_same V3 O 0 _ _ (.slice a3 (n + 1) c3) H3O.out
  have ho4 := fun b (hb : b ≠ O) => heap_setCell_other V3 ⟨O, 0, none⟩ b (.slice a3 (n + 1) c3) hb
  have hrow4 : (V3.setCell ⟨O, 0, none⟩ (.slice a3 (n + 1) c3)).ownsRow w0.heap.size 3 1 (.slice a3 (n + 1) c3) (n + 1) ((xs ++ [x]).map (Value.int .i64)) := by
    refine ⟨H3R.out.1, ?_⟩
    rcases H3R.out.2 with g | ⟨g, cap, cur, hg, hb, hh, r⟩
    · exact .inl g
    · obtain ⟨rfl, rfl⟩ : a3 = some ⟨g, 0, none⟩ ∧ c3 = cap := by simpa using hg
      exact .inr ⟨g, _, cur, rfl, hb, (ho4 g (H3A.out _ rfl).2).trans hh, r⟩
  have hl1 : (xs ++ [x]).length = n + 1 := by rw [List.length_append, HN.out]; rfl
  obtain ⟨V4, hV4, HK4⟩ : ∃ wt, V3.setCell ⟨O, 0, none⟩ (.slice a3 (n + 1) c3) = wt ∧ Hid (LS w0 O M most (xs ++ [x]) wt) :=
    ⟨_, rfl, hide ⟨H3B.out.setCell (by show w0.heap.size ≤ O; exact HO.out.1) _, (ho4 _ (Ne.symm HO.out.2)).trans H3M.out, ⟨a3, c3, by rw [hl1]; exact g4, by rw [hl1]; exact hrow4, H3A.out⟩⟩⟩
  rw [hV4]
  have q4 := (one_cell HK4.out.cm).1
  have u4 : V4.cell? ⟨O, 0, none⟩ = some (.slice a3 (n + 1) c3) := by rw [← hV4]; exact (one_cell g4).1
  clear g4 ho4 hrow4 hV4 o3 of3 o0 of hl1
  go_wp2_with fail
  go_ret
  exact ⟨rfl, HK4.out⟩
theorem all_any (B : Nat) (w : World) :
    Calls Tryd.prog 22 #[.pointer (some ⟨B, 0, none⟩)] w fun e w' => e = .returned (.func (.func 25) #[] #[.pointer (some ⟨w.heap.size, 0, none⟩)]) ∧ w' = w.alloc (.cells #[.pointer (some ⟨B, 0, none⟩)] 24) := by
  go_enter Tryd.func22, Tryd.ntmps22
  go_wp2
  go_ret
  exact ⟨rfl, rfl⟩
/-- The words that were copied. -/
def WordsAt (cs : Array Value) (t : Nat → Bool) : Prop := cs.size = 1008 ∧ ∀ i, i < 1008 → cs[i]? = some (.int .u64 ((wd t i : Nat) : Int))
def cells_ (t : Nat → Bool) (C : Nat) : List Value := (List.range C).map fun i => Value.int .u64 ((wd t i : Nat) : Int)
theorem Tryd.sizeArr : (Tryd.prog.info? 50).map (·.size) = some 1008 := by kernel_rfl
theorem Tryd.infoW : (Tryd.prog.info? 31).map (fun i => (i.zero, i.size, i.bytes)) = some (some (.int .u64 0), 1, 8) := by kernel_rfl
theorem ixW (cs : Array Value) (C k : Nat) (v : Value) (hs : cs.size = C) (hC : C = 1008) (hk : k < C) (h : cs[k]? = some v) (W : World) : (Instr.index 50 (.agg cs) (.int .i64 (k : Int))).run Tryd.prog W = .ok v W := by
  obtain ⟨i0, hi, hz0, hz1, hz2⟩ := info_parts Tryd.infoW
  have hu := Tryd.underlying50
  simp [Instr.index, go_sem, hu, hi, hz1]
  rw [if_pos (by omega), h]
  rfl
set_option maxHeartbeats 2000000 in
theorem all1_any (w0 V : World) (B O M bx : Nat) (t : Nat → Bool) (m most : Int) (hO : w0.heap.size ≤ O) (hOM : O ≠ M) (hT : PtT w0) (hp : PAt w0 B t m) (h : LS w0 O M most [] V) (hbx : V.heap[bx]? = some (.cells #[.pointer (some ⟨B, 0, none⟩)] 24 (0, 0))) :
    Calls Tryd.prog 25 #[(.func (.func 23) #[] #[.pointer (some ⟨O, 0, none⟩), .pointer (some ⟨M, 0, none⟩)]), .pointer (some ⟨bx, 0, none⟩)] V fun e V' => (∃ v, e = .returned v) ∧ LS w0 O M most (stopAt most (told t 1008)) V' := by
  obtain ⟨C, hC⟩ : ∃ C : Nat, C = 1008 := ⟨_, rfl⟩
  obtain ⟨p0, pf⟩ := one_cell hbx
  have hpV := hp.below h.below (Nat.le_refl _)
  obtain ⟨cl, hcl⟩ : ∃ cl, cells_ t C = cl := ⟨_, rfl⟩
  have hrg : V.rangeAt B 0 cl := by
    rw [← hcl]
    intro j v hj
    have hj2 : j < C := by
      rcases Nat.lt_or_ge j C with h | h
      · exact h
      · rw [List.getElem?_eq_none (by simpa [cells_] using h)] at hj; cases hj
    have he : (cells_ t C)[j]? = some (Value.int .u64 ((wd t j : Nat) : Int)) := by simp [cells_, List.getElem?_map, hj2]
    rw [he] at hj
    cases hj
    rw [Nat.zero_add]
    exact hpV.word j (by omega)
  have hsz : (Tryd.prog.info? 50).map (·.size) = some cl.length := by rw [Tryd.sizeArr, ← hcl, ← hC]; simp [cells_]
  have HRG := hide hrg
  have HSZ := hide hsz
  have HIX := hide (show ∀ k, k < C → cl.toArray[k]? = some (.int .u64 ((wd t k : Nat) : Int)) from fun k hk => by rw [← hcl]; simp [cells_, hk])
  have HCS := hide (show cl.toArray.size = C by rw [← hcl]; simp [cells_])
  have HT := hide hT
  have HC := hide hC
  have HO := hide (And.intro hO hOM)
  have HX := hide h
  clear hpV hrg hsz hT hC hO hOM h hp hbx hcl
  rw [← HC.out]
  go_enter Tryd.func25, Tryd.ntmps25
  go_wp2_with (refine wpList_load_mid (op := ⟨some 8, _, _, _, _, _⟩) (by rfl) _ (.tmp 7) (by rfl) B 0 (by rfl) cl _ HRG.out Tryd.underlying50 (by rfl) HSZ.out ?_; try simp only [Act.put, List.setIfInBounds_toArray, List.set_cons_zero, List.set_cons_succ])
  obtain ⟨arr, harr⟩ : ∃ arr, cl.toArray = arr := ⟨_, rfl⟩
  rw [harr] at HIX HCS ⊢
  clear harr HRG HSZ p0 pf
  go_loopw [9] (fun i wz => ∃ k : Nat, k ≤ C ∧ i = .int .i64 k ∧ Hid (LS w0 O M most (told t k) wz ∧ Going most (told t k))) (fun i _ => C - (intOf i).toNat)
  case atStart => exact ⟨0, Nat.zero_le _, rfl, hide ⟨HX.out, .inl rfl⟩⟩
  case round =>
    clear HX
    obtain ⟨k, hk, rfl, HX⟩ := hrel
    by_cases hlt : k < C
    · have d1 : decide ((k : Int) < 1008) = true := by have := HC.out; simp; omega
      have hix := fun W => ixW arr C k (.int .u64 ((wd t k : Nat) : Int)) HCS.out HC.out hlt (HIX.out k hlt) W
      have hX0l := wd_lt t k
      obtain ⟨X0, hX0⟩ : ∃ X, wd t k = X := ⟨_, rfl⟩
      rw [hX0] at hix hX0l
      have HX0 := hide (And.intro hX0 hX0l)
      have HK := hide hlt
      have hk3 : (k : Int) ≤ 1007 := by have := HC.out; omega
      have hk4 : (0 : Int) ≤ (k : Int) := by omega
      clear hX0 hX0l hlt hk
      go_wp2_with fail
      go_loopw [4] (fun x wz => ∃ (X : Nat) (xs : List Int), x = .int .u64 X ∧ Hid (X < 18446744073709551616 ∧ LS w0 O M most xs wz ∧ Going most xs ∧ told t (k + 1) = xs ++ ones k X)) (fun x _ => (intOf x).toNat)
      case atStart => exact ⟨X0, told t k, rfl, hide ⟨HX0.out.2, HX.out.1, HX.out.2, by rw [told, HX0.out.1]⟩⟩
      case round =>
        obtain ⟨X, xs, rfl, HY⟩ := hrel
        by_cases h0 : X = 0
        · have HE := hide (show told t (k + 1) = xs by have := HY.out.2.2.2; rw [h0] at this; simpa [ones, bitsOf_zero] using this)
          subst h0
          have HX1 := hide (show LS w0 O M most (told t (k + 1)) wr ∧ Going most (told t (k + 1)) by rw [HE.out]; exact ⟨HY.out.2.1, HY.out.2.2.1⟩)
          have hc1 := HK.out
          clear HY HE HX
          go_wp2_with fail
          go_roundw
          case rel => exact ⟨k + 1, by omega, by go_num, HX1⟩
          case measure => have := HK.out; simp [intOf]; omega
        · have d2 : ((X : Int) != 0) = true := by simp; omega
          have hXl := HY.out.1
          have hst := bitsOf_step X hXl h0
          obtain ⟨c, hc⟩ : ∃ c, Lib.ctz 64 X = c := ⟨_, rfl⟩
          have HTZ := hide (tz_any X hXl h0 wr (HT.out.below HY.out.2.1.below (Nat.le_refl _)))
          have hc63 : c < 64 := by rw [← hc]; exact (Lib.lowest_bit 64 X h0 hXl).2
          rw [hc] at hst HTZ
          obtain ⟨Y, hY⟩ : ∃ Y, X - 1 = Y := ⟨_, rfl⟩
          obtain ⟨Z, hZ⟩ : ∃ Z, X &&& Y = Z := ⟨_, rfl⟩
          rw [hY, hZ] at hst
          have hZX : Z < X := by have := @Nat.and_le_right X Y; omega
          have hYl : Y < 18446744073709551616 := by omega
          have rA := u64_and_nat X Y hXl hYl
          rw [hZ] at rA
          have rS : IntKind.u64.wrap ((X : Int) - 1) = (Y : Int) := by rw [IntKind.wrap_u64]; omega
          obtain ⟨P, hP⟩ : ∃ P, 1024 + 64 * k + c = P := ⟨_, rfl⟩
          have hP1 : P ≤ 65535 := by omega
          have rW : IntKind.u16.wrap (1024 + (k : Int) * 64 + (c : Int)) = (P : Int) := by rw [show 1024 + (k : Int) * 64 + (c : Int) = (P : Int) by omega, IntKind.wrap_u16]; omega
          have HOE := hide (show ones k X = [(P : Int)] ++ ones k Z by unfold ones; rw [hst, List.map_cons, hP]; rfl)
          have hxl : xs.length ≤ 100000 := by
            have h1 := congrArg List.length HY.out.2.2.2
            have h2 := told_len t (k + 1)
            rw [List.length_append] at h1
            omega
          have HL1 := hide (listed1_any w0 O M most xs (P : Int) HO.out.1 HO.out.2 hxl (by omega) (by omega) wr HY.out.2.1)
          obtain ⟨g, hg⟩ : ∃ g, decide ((xs.length : Int) + 1 < most) = g := ⟨_, rfl⟩
          rw [hg] at HL1
          have HG := hide hg
          have HZ := hide (And.intro hZX hXl)
          have hcb : (c : Int) ≤ 63 := by omega
          have hcb0 : (0 : Int) ≤ (c : Int) := by omega
          clear hXl hst hc hc63 hY hZ hZX hYl hP hP1 hxl hg h0 HX
          go_wp2_with fail
          (with_reducible refine HTZ.out.mono ?_)
          rintro e w2 ⟨rfl, rfl⟩
          go_wp2_with fail
          (with_reducible refine HL1.out.mono ?_)
          rintro e w3 ⟨rfl, l3⟩
          have HL3 := hide l3
          clear l3 HL1 HTZ rW
          cases g with
          | true =>
            have hn1 : (xs ++ [(P : Int)]).length = xs.length + 1 := by simp
            have HY3 := hide (show Z < 18446744073709551616 ∧ LS w0 O M most (xs ++ [(P : Int)]) w3 ∧ Going most (xs ++ [(P : Int)]) ∧ told t (k + 1) = (xs ++ [(P : Int)]) ++ ones k Z from ⟨Nat.lt_trans HZ.out.1 HZ.out.2, HL3.out, .inr (by have := of_decide_eq_true HG.out; rw [hn1]; omega), by rw [HY.out.2.2.2, HOE.out, List.append_assoc]⟩)
            have hZm := HZ.out.1
            clear hn1 HY HOE HL3 HG
            go_wp2_with fail
            go_roundw
            case rel => exact ⟨Z, _, rfl, HY3⟩
            case measure => simp [intOf]; omega
          | false =>
            have HF := hide (show LS w0 O M most (stopAt most (told t C)) w3 by
              obtain ⟨r, hr⟩ := told_prefix t (k + 1) C (by have := HK.out; omega)
              have hn := of_decide_eq_false HG.out
              rw [hr, HY.out.2.2.2, HOE.out, show xs ++ ([(P : Int)] ++ ones k Z) ++ r = xs ++ [(P : Int)] ++ (ones k Z ++ r) by simp, stopAt_here most xs _ _ HY.out.2.2.1 hn]
              exact HL3.out)
            clear HY HOE HL3 HG rA rS
            go_wp2_with fail
            exact bodyPost_ret (results_none rfl _ _ _) rfl ⟨⟨_, rfl⟩, HF.out⟩
    · have d1 : decide ((k : Int) < 1008) = false := by have := HC.out; simp; omega
      have hkC : k = C := by omega
      have HF := hide (show LS w0 O M most (stopAt most (told t C)) wr by rw [← hkC, stopAt_all most _ HX.out.2]; exact HX.out.1)
      clear HX hkC hlt hk
      go_wp2_with fail
      exact bodyPost_end (results_none rfl _ _ _) rfl ⟨⟨_, rfl⟩, HF.out⟩
theorem LS.later {w0 V V' : World} {O M : Nat} {most : Int} {xs : List Int} (h : LS w0 O M most xs V) (hb : Below V.heap.size V V') : LS w0 O M most xs V' := by
  obtain ⟨a, c, g1, g2, g3⟩ := h.out
  exact ⟨h.below.trans (hb.mono h.below.size), below_block hb h.cm (Nat.le_refl _), ⟨a, c, below_block hb g1 (Nat.le_refl _), owns_below g2 hb (Nat.le_refl _), g3⟩⟩
set_option maxHeartbeats 1000000 in
theorem listed_any (w : World) (B : Nat) (t : Nat → Bool) (m most : Int) (hT : PtT w) (hp : PAt w B t m) :
    Calls Tryd.prog 16 #[.pointer (some ⟨B, 0, none⟩), .int .i64 most] w fun e w' => ∃ a c L, stopAt most (told t 1008) = L ∧ e = .returned (.slice a L.length c) ∧ w'.ownsRow w.heap.size 3 1 (.slice a L.length c) L.length (L.map (Value.int .i64)) ∧ Below w.heap.size w w' := by
  have HT := hide hT
  have HP := hide hp
  clear hT hp
  go_enter Tryd.func16, Tryd.ntmps16
  go_upto_region 2 with (fail)
  have s1 : (w.alloc (.cells #[.int .i64 most] 3)).heap.size = w.heap.size + 1 := by first | (simp; done) | (simp; omega)
  have s2 : ((w.alloc (.cells #[.int .i64 most] 3)).alloc (.cells #[] 3)).heap.size = w.heap.size + 1 + 1 := by first | (simp; done) | (simp; omega)
  have n0 := heap_alloc_new w (.cells #[.int .i64 most] 3)
  have n2 := heap_alloc_new ((w.alloc (.cells #[.int .i64 most] 3)).alloc (.cells #[] 3)) (.cells #[.slice (some ⟨w.heap.size + 1, 0, none⟩) 0 0] 27)
  rw [s2] at n2
  have b0 : Below w.heap.size w (((w.alloc (.cells #[.int .i64 most] 3)).alloc (.cells #[] 3)).alloc (.cells #[.slice (some ⟨w.heap.size + 1, 0, none⟩) 0 0] 27)) := (((Below.refl w.heap.size w).alloc (Nat.le_refl _) _).alloc (by rw [s1]; omega) _).alloc (by rw [s2]; omega) _
  have b1 : Below (w.alloc (.cells #[.int .i64 most] 3)).heap.size (w.alloc (.cells #[.int .i64 most] 3)) (((w.alloc (.cells #[.int .i64 most] 3)).alloc (.cells #[] 3)).alloc (.cells #[.slice (some ⟨w.heap.size + 1, 0, none⟩) 0 0] 27)) := ((Below.refl _ _).alloc (Nat.le_refl _) _).alloc (by rw [s1, s2]; omega) _
  have m0 := below_block b1 n0 (Nat.le_refl _)
  have hown : (((w.alloc (.cells #[.int .i64 most] 3)).alloc (.cells #[] 3)).alloc (.cells #[.slice (some ⟨w.heap.size + 1, 0, none⟩) 0 0] 27)).ownsRow w.heap.size 3 1 (.slice (some ⟨w.heap.size + 1, 0, none⟩) 0 0) 0 (([] : List Int).map (Value.int .i64)) := by
    have h1 := World.ownsRow_lit (base := w.heap.size) (e := 3) (size := 1) (w.alloc (.cells #[.int .i64 most] 3)) #[] 0 (by rw [s1]; omega) (by unfold maxLen; omega) rfl
    rw [s1] at h1
    exact h1.alloc _
  have hls : LS w (w.heap.size + 1 + 1) w.heap.size most [] (((w.alloc (.cells #[.int .i64 most] 3)).alloc (.cells #[] 3)).alloc (.cells #[.slice (some ⟨w.heap.size + 1, 0, none⟩) 0 0] 27)) :=
    ⟨b0, m0, ⟨some ⟨w.heap.size + 1, 0, none⟩, 0, n2, hown, fun b hb => by cases hb; exact ⟨by show w.heap.size + 1 ≠ w.heap.size; omega, by show w.heap.size + 1 ≠ w.heap.size + 1 + 1; omega⟩⟩⟩
  obtain ⟨M, O, wo, hM, hO, hwo, HLS, HOM⟩ : ∃ M O wt, w.heap.size = M ∧ w.heap.size + 1 + 1 = O ∧ (((w.alloc (.cells #[.int .i64 most] 3)).alloc (.cells #[] 3)).alloc (.cells #[.slice (some ⟨w.heap.size + 1, 0, none⟩) 0 0] 27)) = wt ∧ Hid (LS w O M most [] wt) ∧ Hid (w.heap.size ≤ O ∧ O ≠ M) :=
    ⟨_, _, _, rfl, rfl, rfl, hide hls, hide ⟨by omega, by omega⟩⟩
  clear s1 s2 n0 n2 b0 b1 m0 hown hls
  rw [hwo]
  rw [hO]
  rw [hM]
  have HM := hide hM
  clear hwo hO hM
  have HAL := hide (all_any B wo)
  go_wp2_with fail
  refine HAL.out.mono ?_
  rintro e w7 ⟨rfl, hw7⟩
  obtain ⟨bx, hbx⟩ : ∃ bx, wo.heap.size = bx := ⟨_, rfl⟩
  rw [hbx]
  have hb67 : Below wo.heap.size wo w7 := by rw [hw7]; exact (Below.refl _ _).alloc (Nat.le_refl _) _
  have hx7 : w7.heap[bx]? = some (.cells #[.pointer (some ⟨B, 0, none⟩)] 24 (0, 0)) := by rw [hw7, ← hbx]; exact heap_alloc_new wo _
  have HIT := hide (all1_any w w7 B O M bx t m most HOM.out.1 HOM.out.2 HT.out HP.out (HLS.out.later hb67) hx7)
  clear hbx hb67 hx7 hw7 HAL HLS
  go_wp2_with fail
  refine HIT.out.mono ?_
  rintro e w8 ⟨⟨v8, rfl⟩, hi⟩
  obtain ⟨L, hL⟩ : ∃ L, stopAt most (told t 1008) = L := ⟨_, rfl⟩
  rw [hL] at hi
  have HL := hide hL
  obtain ⟨a, c, g1, g2, g3⟩ := hi.out
  have u8 := (one_cell g1).1
  have HB8 := hide hi.below
  have HR8 := hide g2
  clear hi hL g1 g2 g3 HIT
  go_wp2_with fail
  go_ret
  exact ⟨a, c, L, HL.out, rfl, HR8.out, HB8.out⟩
end Go.Proofs.YtafoiblacmjpdaaDoor
