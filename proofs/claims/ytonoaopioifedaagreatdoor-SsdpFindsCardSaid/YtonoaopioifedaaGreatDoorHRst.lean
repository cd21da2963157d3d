/- Head: the document's Start. -/
import Derived.Test.YtonoaopioifedaaGreatDoorHTok
import Derived.Test.YtonoaopioifedaaGreatDoorHStart
namespace Go.Proofs.YtonoaopioifedaaGreatDoor.H
open Go.RowKit Go.Deep
set_option linter.unusedVariables false
set_option linter.unusedSimpArgs false
set_option maxRecDepth 100000
theorem split_at (l : List UInt8) (a : Nat) (c : UInt8) (h : l[a]? = some c) : l = l.take a ++ c :: l.drop (a + 1) := by
  obtain ⟨hl, e⟩ := List.getElem?_eq_some_iff.1 h
  have := List.take_append_drop a l
  rw [List.drop_eq_getElem_cons hl, e] at this
  exact this.symm
theorem take_ne (l : List UInt8) (a : Nat) (c : UInt8) (h : ∀ q b, q < a → l[q]? = some b → b ≠ c) : ∀ x ∈ l.take a, x ≠ c := by
  intro x hx
  obtain ⟨q, hq, e⟩ := List.getElem_of_mem hx
  have hq2 : q < a := by rw [List.length_take] at hq; omega
  refine h q x hq2 ?_
  have h3 := List.getElem?_eq_getElem hq
  rwa [List.getElem?_take_of_lt hq2, e] at h3
theorem mid_ne (l : List UInt8) (a b : Nat) (c : UInt8) (h : ∀ q x, a ≤ q → q < b → l[q]? = some x → x ≠ c) : ∀ x ∈ (l.drop a).take (b - a), x ≠ c := by
  refine take_ne (l.drop a) (b - a) c fun q x hq hx => ?_
  rw [List.getElem?_drop] at hx
  exact h (a + q) x (by omega) (by omega) hx
theorem all_ne (l : List UInt8) (c : UInt8) (h : ∀ q b, q < l.length → l[q]? = some b → b ≠ c) : ∀ x ∈ l, x ≠ c := by
  have := take_ne l l.length c h
  rwa [List.take_length] at this
theorem split_two (l : List UInt8) (a b : Nat) (c : UInt8) (ha : l[a]? = some c) (hb : l[b]? = some c) (hab : a < b) : l = l.take a ++ c :: ((l.drop (a + 1)).take (b - (a + 1)) ++ c :: l.drop (b + 1)) := by
  have h1 := split_at l a c ha
  have h2 := split_at (l.drop (a + 1)) (b - (a + 1)) c (by rw [List.getElem?_drop, show a + 1 + (b - (a + 1)) = b by omega]; exact hb)
  rw [List.drop_drop, show a + 1 + (b - (a + 1) + 1) = b + 1 by omega] at h2
  rw [← h2]; exact h1
theorem byte_ne (c : UInt8) (k : Nat) (hk : k < 256) (h : c.toNat ≠ k) : c ≠ UInt8.ofNat k := fun e => h (by rw [e]; simp; omega)
theorem byte_is (c : UInt8) (k : Nat) (hk : k < 256) (h : c.toNat = k) : c = UInt8.ofNat k := by rw [← h]; simp
theorem start_at (l : List UInt8) (a b : Nat) (ha : l[a]? = some 32) (hb : l[b]? = some 32) (hab : a < b) (hI : ∀ q x, q < a → l[q]? = some x → x ≠ 32) (hJ : ∀ q x, a + 1 ≤ q → q < b → l[q]? = some x → x ≠ 32) :
    startL l = match minorL (l.drop (b + 1)) with
      | some n => if tokenL (l.take a) && madeL 512 tgtB ((l.drop (a + 1)).take (b - (a + 1))) then some (l.take a, (l.drop (a + 1)).take (b - (a + 1)), n) else none
      | none => none := by
  have h := start_two (l.take a) ((l.drop (a + 1)).take (b - (a + 1))) (l.drop (b + 1)) (take_ne l a 32 hI) (mid_ne l (a + 1) b 32 hJ)
  rw [← split_two l a b 32 ha hb hab] at h
  exact h
theorem mid_len (l : List UInt8) (a b : Nat) (hb : b ≤ l.length) (hab : a + 1 ≤ b) : ((l.drop (a + 1)).take (b - (a + 1))).length = b - (a + 1) := by
  rw [List.length_take, List.length_drop]; omega
theorem mid_all (l : List UInt8) (f : UInt8 → Bool) (a b : Nat) (h : ∀ q x, a ≤ q → q < b → l[q]? = some x → f x = true) : ((l.drop a).take (b - a)).all f = true := by
  rw [List.all_eq_true]
  intro x hx
  obtain ⟨q, hq, e⟩ := List.getElem_of_mem hx
  have hq2 : q < b - a := by rw [List.length_take] at hq; omega
  have h3 := List.getElem?_eq_getElem hq
  rw [List.getElem?_take_of_lt hq2, e, List.getElem?_drop] at h3
  exact h (a + q) x (by omega) (by omega) h3
theorem mid_bad (l : List UInt8) (f : UInt8 → Bool) (a b q : Nat) (x : UInt8) (h1 : a ≤ q) (h2 : q < b) (hx : l[q]? = some x) (hf : f x = false) : ((l.drop a).take (b - a)).all f = false := by
  rw [List.all_eq_false]
  refine ⟨x, List.mem_of_getElem? (i := q - a) ?_, by rw [hf]; decide⟩
  rw [List.getElem?_take_of_lt (by omega), List.getElem?_drop, show a + (q - a) = q by omega]; exact hx
theorem none_tok (o : Option Nat) (p : Bool) (m t : List UInt8) (f : Nat → List UInt8 × List UInt8 × Nat) (hp : p = false) : (match o with | some n => if p then some (f n) else none | none => none : Option (List UInt8 × List UInt8 × Nat)) = none := by
  cases o with
  | none => rfl
  | some n => rw [hp]; rfl
set_option maxHeartbeats 4000000 in
theorem rstart_any (s : ByteArray) (w : World) (hs : s.size ≤ 90000) : Calls Tryz.prog 26 #[.string s] w fun e w' => e = .returned (startV (startL s.data.toList)) ∧ Below w.heap.size w w' := by
  obtain ⟨l, hl⟩ : ∃ l, s.data.toList = l := ⟨_, rfl⟩
  obtain ⟨n, hn⟩ : ∃ n, s.size = n := ⟨_, rfl⟩
  have hln : l.length = n := by rw [← hl, ← hn]; simp
  obtain ⟨r, hr⟩ : ∃ r, startL l = r := ⟨_, rfl⟩
  rw [hl, hr]
  have HN := hide (And.intro hln (And.intro (show n ≤ 90000 by omega) hl))
  have HR := hide hr
  clear hl hln hs hr
  go_enter Tryz.func26, Tryz.ntmps26
  go_wp2_with fail
  go_loopw [6] (fun i wz => ∃ a : Nat, a ≤ n ∧ i = .int .i64 a ∧ Hid (∀ q b, q < a → l[q]? = some b → b ≠ 32) ∧ wz = w) (fun i _ => n - (Lib.intOf i).toNat)
  case atStart => exact ⟨0, Nat.zero_le _, rfl, hide (fun q b h => by omega), rfl⟩
  case round =>
    obtain ⟨a, ha, rfl, HI, rfl⟩ := hrel
    have ha4 : (0 : Int) ≤ (a : Int) := by omega
    have ha5 : (a : Int) ≤ 90000 := by have := HN.out; omega
    by_cases hlt : a < n
    · have d1 : decide (a < n) = true := by simp; omega
      have has : a < s.size := by omega
      obtain ⟨c, hc⟩ : ∃ c, s[a]'has = c := ⟨_, rfl⟩
      have hlc : l[a]? = some c := by rw [← HN.out.2.2, Lib.data_getElem? s a has, hc]
      obtain ⟨y, hy⟩ : ∃ y, c.toNat = y := ⟨_, rfl⟩
      have hcy : (((s[a]'has).toNat : Nat) : Int) = (y : Int) := by rw [hc, hy]
      have HLC := hide (And.intro hlc hy)
      clear hlc hc hy
      by_cases h32 : y = 32
      · have d2 : ((y : Int) != 32) = false := by simp; omega
        have HB := hide (show l[a]? = some 32 by have := byte_is c 32 (by decide) (by rw [HLC.out.2]; exact h32); rw [HLC.out.1, this]; rfl)
        clear h32 HLC
        go_wp2_with fail
        clear hcy d1 d2
        go_loopw [7] (fun i wz => ∃ b : Nat, a + 1 ≤ b ∧ b ≤ n ∧ i = .int .i64 b ∧ Hid (∀ q x, a + 1 ≤ q → q < b → l[q]? = some x → x ≠ 32) ∧ wz = wr) (fun i _ => n - (Lib.intOf i).toNat)
        case atStart => exact ⟨a + 1, Nat.le_refl _, by omega, by go_num, hide (fun q x h1 h2 => by omega), rfl⟩
        case round =>
          obtain ⟨b, hab, hb, rfl, HJ, rfl⟩ := hrel
          have hb4 : (0 : Int) ≤ (b : Int) := by omega
          have hb5 : (b : Int) ≤ 90000 := by have := HN.out; omega
          by_cases hblt : b < n
          · have d1 : decide (b < n) = true := by simp; omega
            have hbs : b < s.size := by omega
            obtain ⟨c, hc⟩ : ∃ c, s[b]'hbs = c := ⟨_, rfl⟩
            have hlc : l[b]? = some c := by rw [← HN.out.2.2, Lib.data_getElem? s b hbs, hc]
            obtain ⟨y, hy⟩ : ∃ y, c.toNat = y := ⟨_, rfl⟩
            have hcy : (((s[b]'hbs).toNat : Nat) : Int) = (y : Int) := by rw [hc, hy]
            have HLC := hide (And.intro hlc hy)
            clear hlc hc hy
            by_cases h32 : y = 32
            · have d2 : ((y : Int) != 32) = false := by simp; omega
              have HC := hide (show l[b]? = some 32 by have := byte_is c 32 (by decide) (by rw [HLC.out.2]; exact h32); rw [HLC.out.1, this]; rfl)
              clear h32 HLC
              have d3 : decide (n ≤ b) = false := by simp; omega
              have HSA := hide (start_at l a b HB.out HC.out (by omega) HI.out HJ.out)
              have HLEN := hide (mid_len l a b (by have := HN.out; omega) hab)
              have hT := rtoken_any (s.extract 0 a) wr (by have := HN.out; simp; omega)
              rw [show (s.extract 0 a).data.toList = l.take a by rw [Lib.extract_data, HN.out.2.2]; simp] at hT
              obtain ⟨tk, htk⟩ : ∃ x, tokenL (l.take a) = x := ⟨_, rfl⟩
              rw [htk] at hT
              have HT := hide hT
              have HTK := hide htk
              have HBB := hide HC.out
              clear hT htk HB HC HI HJ
              go_wp2_with fail
              (with_reducible refine HT.out.mono ?_)
              rintro e w1 ⟨rfl, rfl⟩
              clear HT
              cases tk with
              | false =>
                have HE := hide (show r = none by rw [← HR.out, HSA.out, HTK.out]; cases minorL (l.drop (b + 1)) <;> rfl)
                clear HSA HTK HLEN
                go_wp2_with fail
                exact bodyPost_ret (v := startV none) (results_tmp4 Tryz.results26 _ _ _ _ _ _ rfl rfl rfl rfl) rfl ⟨by rw [HE.out], Below.refl _ _⟩
              | true =>
                by_cases e1 : b = a + 1
                · have d5 : ((b : Int) == (a : Int) + 1) = true := by simp; omega
                  have HE := hide (show r = none by
                    rw [← HR.out, HSA.out]
                    unfold madeL
                    rw [HLEN.out, show decide (0 < b - (a + 1)) = false by simp; omega]
                    cases minorL (l.drop (b + 1)) <;> simp)
                  clear HSA HTK HLEN e1
                  go_wp2_with fail
                  exact bodyPost_ret (v := startV none) (results_tmp4 Tryz.results26 _ _ _ _ _ _ rfl rfl rfl rfl) rfl ⟨by rw [HE.out], Below.refl _ _⟩
                · have d5 : ((b : Int) == (a : Int) + 1) = false := by simp; omega
                  by_cases e2 : 512 < b - (a + 1)
                  · have d6 : decide ((512 : Int) < (b : Int) - (a : Int) - 1) = true := by simp; omega
                    have HE := hide (show r = none by
                      rw [← HR.out, HSA.out]
                      unfold madeL
                      rw [HLEN.out, show decide (b - (a + 1) ≤ 512) = false by simp; omega]
                      cases minorL (l.drop (b + 1)) <;> simp)
                    clear HSA HTK HLEN e1 e2
                    go_wp2_with fail
                    exact bodyPost_ret (v := startV none) (results_tmp4 Tryz.results26 _ _ _ _ _ _ rfl rfl rfl rfl) rfl ⟨by rw [HE.out], Below.refl _ _⟩
                  · have d6 : decide ((512 : Int) < (b : Int) - (a : Int) - 1) = false := by simp; omega
                    have hbn : (b : Int) < (n : Int) := by omega
                    have hab2 : (a : Int) + 1 < (b : Int) := by omega
                    clear hcy
                    go_wp2_with fail
                    clear d5 d6
                    go_loopw [8] (fun iv wz => ∃ i : Nat, a + 1 ≤ i ∧ i ≤ b ∧ iv = .int .i64 i ∧ Hid (∀ q x, a + 1 ≤ q → q < i → l[q]? = some x → tgtB x = true) ∧ wz = w1) (fun i _ => b - (Lib.intOf i).toNat)
                    case atStart => exact ⟨a + 1, Nat.le_refl _, by omega, by go_num, hide (fun q x h1 h2 => by omega), rfl⟩
                    case round =>
                      obtain ⟨i, hai, hib, rfl, HK, rfl⟩ := hrel
                      have hi4 : (0 : Int) ≤ (i : Int) := by omega
                      have hi5 : (i : Int) ≤ 90000 := by have := HN.out; omega
                      by_cases hilt : i < b
                      · have d7 : decide (i < b) = true := by simp; omega
                        have his : i < s.size := by omega
                        obtain ⟨c3, hc3⟩ : ∃ c, s[i]'his = c := ⟨_, rfl⟩
                        have hlc3 : l[i]? = some c3 := by rw [← HN.out.2.2, Lib.data_getElem? s i his, hc3]
                        obtain ⟨z, hz⟩ : ∃ y, c3.toNat = y := ⟨_, rfl⟩
                        have hcz : (((s[i]'his).toNat : Nat) : Int) = (z : Int) := by rw [hc3, hz]
                        have HLC3 := hide (And.intro hlc3 hz)
                        clear hlc3 hc3 hz
                        by_cases h33 : z < 33
                        · have d8 : decide ((z : Int) < 33) = true := by simp; omega
                          have HE := hide (show r = none by
                            have hb := mid_bad l tgtB (a + 1) b i c3 hai hilt HLC3.out.1 (by unfold tgtB; rw [HLC3.out.2]; simp; omega)
                            rw [← HR.out, HSA.out]
                            unfold madeL
                            rw [hb]
                            cases minorL (l.drop (b + 1)) <;> simp)
                          clear h33 HLC3 HSA HTK HLEN e1 e2 HK
                          go_wp2_with fail
                          exact bodyPost_ret (v := startV none) (results_tmp4 Tryz.results26 _ _ _ _ _ _ rfl rfl rfl rfl) rfl ⟨by rw [HE.out], Below.refl _ _⟩
                        · have d8 : decide ((z : Int) < 33) = false := by simp; omega
                          by_cases h126 : 126 < z
                          · have d9 : decide ((126 : Int) < (z : Int)) = true := by simp; omega
                            have HE := hide (show r = none by
                              have hb := mid_bad l tgtB (a + 1) b i c3 hai hilt HLC3.out.1 (by unfold tgtB; rw [HLC3.out.2]; simp; omega)
                              rw [← HR.out, HSA.out]
                              unfold madeL
                              rw [hb]
                              cases minorL (l.drop (b + 1)) <;> simp)
                            clear h33 h126 HLC3 HSA HTK HLEN e1 e2 HK
                            go_wp2_with fail
                            exact bodyPost_ret (v := startV none) (results_tmp4 Tryz.results26 _ _ _ _ _ _ rfl rfl rfl rfl) rfl ⟨by rw [HE.out], Below.refl _ _⟩
                          · have d9 : decide ((126 : Int) < (z : Int)) = false := by simp; omega
                            have HK2 := hide (show ∀ q x, a + 1 ≤ q → q < i + 1 → l[q]? = some x → tgtB x = true from fun q x h1 h2 h3 => by
                              rcases Nat.lt_or_ge q i with h | h
                              · exact HK.out q x h1 h h3
                              · rw [show q = i by omega, HLC3.out.1] at h3; cases h3; unfold tgtB; rw [HLC3.out.2]; simp; omega)
                            clear h33 h126 HLC3 HK
                            go_wp2_with fail
                            exact ⟨⟨i + 1, by omega, by omega, by go_num, HK2, by first | rfl | trivial⟩, by simp [Lib.intOf]; omega⟩
                      · have d7 : decide (i < b) = false := by simp; omega
                        have HRV := hide (show r = match minorL (l.drop (b + 1)) with
                            | some n => some (l.take a, (l.drop (a + 1)).take (b - (a + 1)), n)
                            | none => none by
                          have hall := mid_all l tgtB (a + 1) b fun q x h1 h2 h3 => HK.out q x h1 (by omega) h3
                          rw [← HR.out, HSA.out]
                          unfold madeL
                          rw [hall, HTK.out, HLEN.out, show decide (0 < b - (a + 1)) = true by simp; omega, show decide (b - (a + 1) ≤ 512) = true by simp; omega]
                          rfl)
                        have hV : (s.extract b n).toList = 32 :: l.drop (b + 1) := by
                          have h1 := split_at l b 32 HBB.out
                          have hd : l.drop b = 32 :: l.drop (b + 1) := by
                            obtain ⟨hl, e⟩ := List.getElem?_eq_some_iff.1 HBB.out
                            rw [List.drop_eq_getElem_cons hl, e]
                          rw [Lib.extract_toList, HN.out.2.2, hd, List.take_of_length_le (by rw [← hd, List.length_drop]; have := HN.out; omega)]
                        have HX0 := hide (show bs (l.take a) = s.extract 0 a by rw [Lib.extract_eq, HN.out.2.2]; simp [bs])
                        have HX1 := hide (show bs ((l.drop (a + 1)).take (b - (a + 1))) = s.extract (a + 1) b by rw [Lib.extract_eq, HN.out.2.2])
                        clear hilt HK HSA HTK HLEN e1 e2
                        by_cases v0 : l.drop (b + 1) = [72, 84, 84, 80, 47, 49, 46, 48]
                        · have q0 : ((s.extract b n).toList == [32, 72, 84, 84, 80, 47, 49, 46, 48]) = true := by rw [hV, v0]; rfl
                          clear hV
                          have HE := hide (show r = some (l.take a, (l.drop (a + 1)).take (b - (a + 1)), 0) by rw [HRV.out, show minorL (l.drop (b + 1)) = some 0 by rw [v0]; rfl])
                          clear v0 HRV
                          have z1 : (0 : Int) ≤ (a : Int) + 1 := by omega
                          have z2 : (a : Int) + 1 ≤ (b : Int) := by omega
                          have z3 : (b : Int) ≤ (n : Int) := by omega
                          have z4 : ((a : Int) + 1).toNat = a + 1 := by omega
                          have z5 : IntKind.i64.wrap ((a : Int) + 1) = (a : Int) + 1 := by rw [IntKind.wrap_i64]; omega
                          go_wp2_with fail
                          go_region
                          go_wp2_with fail
                          refine bodyPost_ret (v := .tuple #[.string (s.extract 0 a), .string (s.extract (a + 1) b), .int .i64 0, .bool true]) (results_tmp4 Tryz.results26 _ _ _ _ _ _ rfl rfl rfl rfl) rfl ⟨?_, (Below.refl _ _).drew⟩
                          rw [HE.out]
                          show _ = Ending.returned (.tuple #[.string (bs (l.take a)), .string (bs ((l.drop (a + 1)).take (b - (a + 1)))), .int .i64 0, .bool true])
                          rw [HX0.out, HX1.out]
                        · have q0 : ((s.extract b n).toList == [32, 72, 84, 84, 80, 47, 49, 46, 48]) = false := by rw [hV]; simp [v0]
                          by_cases v1 : l.drop (b + 1) = [72, 84, 84, 80, 47, 49, 46, 49]
                          · have q1 : ((s.extract b n).toList == [32, 72, 84, 84, 80, 47, 49, 46, 49]) = true := by rw [hV, v1]; rfl
                            clear hV v0
                            have HE := hide (show r = some (l.take a, (l.drop (a + 1)).take (b - (a + 1)), 1) by rw [HRV.out, show minorL (l.drop (b + 1)) = some 1 by rw [v1]; rfl])
                            clear v1 HRV
                            have z1 : (0 : Int) ≤ (a : Int) + 1 := by omega
                            have z2 : (a : Int) + 1 ≤ (b : Int) := by omega
                            have z3 : (b : Int) ≤ (n : Int) := by omega
                            have z4 : ((a : Int) + 1).toNat = a + 1 := by omega
                            have z5 : IntKind.i64.wrap ((a : Int) + 1) = (a : Int) + 1 := by rw [IntKind.wrap_i64]; omega
                            go_wp2_with fail
                            go_region
                            go_wp2_with fail
                            refine bodyPost_ret (v := .tuple #[.string (s.extract 0 a), .string (s.extract (a + 1) b), .int .i64 1, .bool true]) (results_tmp4 Tryz.results26 _ _ _ _ _ _ rfl rfl rfl rfl) rfl ⟨?_, (Below.refl _ _).drew⟩
                            rw [HE.out]
                            show _ = Ending.returned (.tuple #[.string (bs (l.take a)), .string (bs ((l.drop (a + 1)).take (b - (a + 1)))), .int .i64 1, .bool true])
                            rw [HX0.out, HX1.out]
                          · have q1 : ((s.extract b n).toList == [32, 72, 84, 84, 80, 47, 49, 46, 49]) = false := by rw [hV]; simp [v1]
                            have HE := hide (show r = none by rw [HRV.out, show minorL (l.drop (b + 1)) = none by unfold minorL; rw [if_neg v0, if_neg v1]])
                            clear hV v0 v1 HRV
                            go_wp2_with fail
                            exact bodyPost_ret (v := startV none) (results_tmp4 Tryz.results26 _ _ _ _ _ _ rfl rfl rfl rfl) rfl ⟨by rw [HE.out], Below.refl _ _⟩
            · have d2 : ((y : Int) != 32) = true := by simp; omega
              have HJ2 := hide (show ∀ q x, a + 1 ≤ q → q < b + 1 → l[q]? = some x → x ≠ 32 from fun q x h1 h2 h3 => by
                rcases Nat.lt_or_ge q b with h | h
                · exact HJ.out q x h1 h h3
                · rw [show q = b by omega, HLC.out.1] at h3; cases h3; exact byte_ne c 32 (by decide) (by rw [HLC.out.2]; exact h32))
              clear h32 HLC HJ
              go_wp2_with fail
              exact ⟨⟨b + 1, by omega, by omega, by go_num, HJ2, by first | rfl | trivial⟩, by simp [Lib.intOf]; omega⟩
          · have d1 : decide (b < n) = false := by simp; omega
            have d3 : decide (n ≤ b) = true := by simp; omega
            have HE := hide (show r = none by
              rw [← HR.out, split_at l a 32 HB.out]
              refine start_one _ _ (take_ne l a 32 HI.out) (all_ne _ _ fun q x hq hx => ?_)
              rw [List.getElem?_drop] at hx
              have hlen := (List.getElem?_eq_some_iff.1 hx).1
              exact HJ.out (a + 1 + q) x (by omega) (by have := HN.out; omega) hx)
            clear hblt HJ
            go_wp2_with fail
            exact bodyPost_ret (v := startV none) (results_tmp4 Tryz.results26 _ _ _ _ _ _ rfl rfl rfl rfl) rfl ⟨by rw [HE.out], Below.refl _ _⟩
      · have d2 : ((y : Int) != 32) = true := by simp; omega
        have HI2 := hide (show ∀ q b, q < a + 1 → l[q]? = some b → b ≠ 32 from fun q x h1 h3 => by
          rcases Nat.lt_or_ge q a with h | h
          · exact HI.out q x h h3
          · rw [show q = a by omega, HLC.out.1] at h3; cases h3; exact byte_ne c 32 (by decide) (by rw [HLC.out.2]; exact h32))
        clear h32 HLC HI
        go_wp2_with fail
        exact ⟨⟨a + 1, by omega, by go_num, HI2, by first | rfl | trivial⟩, by simp [Lib.intOf]; omega⟩
    · have d1 : decide (a < n) = false := by simp; omega
      have d3 : decide (n < a + 1) = true := by simp; omega
      have d4 : decide (a + 1 < n) = false := by simp; omega
      have d5 : decide (n ≤ a + 1) = true := by simp; omega
      have HE := hide (show r = none by
        rw [← HR.out]
        exact start_none l (all_ne l 32 fun q x hq hx => HI.out q x (by have := HN.out; omega) hx))
      have d6 : decide ((a : Int) + 1 < (n : Int)) = false := by simp; omega
      have d7 : decide ((n : Int) ≤ (a : Int) + 1) = true := by simp; omega
      clear HI hlt ha
      go_wp2_with fail
      go_loopw [7] (fun i wz => i = .int .i64 ((a : Int) + 1) ∧ wz = wr) (fun i _ => 0)
      case atStart => exact ⟨rfl, rfl⟩
      case round =>
        obtain ⟨rfl, rfl⟩ := hrel
        go_wp2_with fail
        exact bodyPost_ret (v := startV none) (results_tmp4 Tryz.results26 _ _ _ _ _ _ rfl rfl rfl rfl) rfl ⟨by rw [HE.out], Below.refl _ _⟩
end Go.Proofs.YtonoaopioifedaaGreatDoor.H
