/- The service's actions. -/
import Derived.Test.YtinmlndimgengaaGreatDoorINew
import Derived.Test.YtinmlndimgengaaGreatDoorIJoin
namespace Go.Proofs.YtinmlndimgengaaGreatDoor
open Go.RowKit Go.Deep
set_option linter.unusedVariables false
set_option linter.unusedSimpArgs false
set_option maxRecDepth 100000
/-- The row of the actions, by what they take. -/
abbrev actsRow (ty ix key whole ports lst : Value) : Array Value := #[.string ⟨#[83, 101, 116, 67, 111, 110, 110, 101, 99, 116, 105, 111, 110, 84, 121, 112, 101]⟩, ty, .func (.func 106) #[] #[], .string ⟨#[71, 101, 116, 67, 111, 110, 110, 101, 99, 116, 105, 111, 110, 84, 121, 112, 101, 73, 110, 102, 111]⟩, .slice none 0 0, .func (.func 107) #[] #[], .string ⟨#[82, 101, 113, 117, 101, 115, 116, 67, 111, 110, 110, 101, 99, 116, 105, 111, 110]⟩, .slice none 0 0, .func (.func 108) #[] #[], .string ⟨#[82, 101, 113, 117, 101, 115, 116, 84, 101, 114, 109, 105, 110, 97, 116, 105, 111, 110]⟩, .slice none 0 0, .func (.func 109) #[] #[], .string ⟨#[70, 111, 114, 99, 101, 84, 101, 114, 109, 105, 110, 97, 116, 105, 111, 110]⟩, .slice none 0 0, .func (.func 109) #[] #[], .string ⟨#[71, 101, 116, 83, 116, 97, 116, 117, 115, 73, 110, 102, 111]⟩, .slice none 0 0, .func (.func 110) #[] #[], .string ⟨#[71, 101, 116, 78, 65, 84, 82, 83, 73, 80, 83, 116, 97, 116, 117, 115]⟩, .slice none 0 0, .func (.func 111) #[] #[], .string ⟨#[71, 101, 116, 69, 120, 116, 101, 114, 110, 97, 108, 73, 80, 65, 100, 100, 114, 101, 115, 115]⟩, .slice none 0 0, .func (.func 112) #[] #[], .string ⟨#[71, 101, 116, 71, 101, 110, 101, 114, 105, 99, 80, 111, 114, 116, 77, 97, 112, 112, 105, 110, 103, 69, 110, 116, 114, 121]⟩, ix, .func (.func 113) #[] #[], .string ⟨#[71, 101, 116, 83, 112, 101, 99, 105, 102, 105, 99, 80, 111, 114, 116, 77, 97, 112, 112, 105, 110, 103, 69, 110, 116, 114, 121]⟩, key, .func (.func 114) #[] #[], .string ⟨#[65, 100, 100, 80, 111, 114, 116, 77, 97, 112, 112, 105, 110, 103]⟩, whole, .func (.func 115) #[] #[], .string ⟨#[65, 100, 100, 65, 110, 121, 80, 111, 114, 116, 77, 97, 112, 112, 105, 110, 103]⟩, whole, .func (.func 116) #[] #[], .string ⟨#[68, 101, 108, 101, 116, 101, 80, 111, 114, 116, 77, 97, 112, 112, 105, 110, 103]⟩, key, .func (.func 117) #[] #[], .string ⟨#[68, 101, 108, 101, 116, 101, 80, 111, 114, 116, 77, 97, 112, 112, 105, 110, 103, 82, 97, 110, 103, 101]⟩, ports, .func (.func 118) #[] #[], .string ⟨#[71, 101, 116, 76, 105, 115, 116, 79, 102, 80, 111, 114, 116, 77, 97, 112, 112, 105, 110, 103, 115]⟩, lst, .func (.func 119) #[] #[]]
def keyN : List ByteArray := [⟨#[78, 101, 119, 82, 101, 109, 111, 116, 101, 72, 111, 115, 116]⟩, ⟨#[78, 101, 119, 69, 120, 116, 101, 114, 110, 97, 108, 80, 111, 114, 116]⟩, ⟨#[78, 101, 119, 80, 114, 111, 116, 111, 99, 111, 108]⟩]
def sixN : List ByteArray := [⟨#[78, 101, 119, 73, 110, 116, 101, 114, 110, 97, 108, 80, 111, 114, 116]⟩, ⟨#[78, 101, 119, 73, 110, 116, 101, 114, 110, 97, 108, 67, 108, 105, 101, 110, 116]⟩, ⟨#[78, 101, 119, 69, 110, 97, 98, 108, 101, 100]⟩, ⟨#[78, 101, 119, 80, 111, 114, 116, 77, 97, 112, 112, 105, 110, 103, 68, 101, 115, 99, 114, 105, 112, 116, 105, 111, 110]⟩, ⟨#[78, 101, 119, 76, 101, 97, 115, 101, 68, 117, 114, 97, 116, 105, 111, 110]⟩]
def portsN : List ByteArray := [⟨#[78, 101, 119, 83, 116, 97, 114, 116, 80, 111, 114, 116]⟩, ⟨#[78, 101, 119, 69, 110, 100, 80, 111, 114, 116]⟩, ⟨#[78, 101, 119, 80, 114, 111, 116, 111, 99, 111, 108]⟩, ⟨#[78, 101, 119, 77, 97, 110, 97, 103, 101]⟩]
def cntN : List ByteArray := [⟨#[78, 101, 119, 78, 117, 109, 98, 101, 114, 79, 102, 80, 111, 114, 116, 115]⟩]
def tyN : List ByteArray := [⟨#[78, 101, 119, 67, 111, 110, 110, 101, 99, 116, 105, 111, 110, 84, 121, 112, 101]⟩]
def ixN : List ByteArray := [⟨#[78, 101, 119, 80, 111, 114, 116, 77, 97, 112, 112, 105, 110, 103, 73, 110, 100, 101, 120]⟩]
/-- What an action takes. -/
def Takes (w : World) (v : Value) (l : List ByteArray) : Prop := ∃ a c, v = .slice a l.length c ∧ SRow w a l
theorem Takes.below {w w' : World} {v : Value} {l : List ByteArray} (h : Takes w v l) (hb : Below w.heap.size w w') : Takes w' v l := by
  obtain ⟨a, c, rfl, h⟩ := h
  exact ⟨a, c, rfl, h.below hb (Nat.le_refl _)⟩
/-- Two lists of texts, side by side. -/
theorem two_parts (w : World) (b p q : Nat) (l m : List ByteArray) (hb : w.heap[b]? = some (.cells #[.slice (some ⟨p, 0, none⟩) l.length l.length, .slice (some ⟨q, 0, none⟩) m.length m.length] 63 (0, 0))) (h1 : SRow w (some ⟨p, 0, none⟩) l) (h2 : SRow w (some ⟨q, 0, none⟩) m) :
    SParts w (some ⟨b, 0, none⟩) [(some ⟨p, 0, none⟩, l, l.length), (some ⟨q, 0, none⟩, m, m.length)] := by
  refine ⟨fun _ => ⟨b, 0, rfl, lt_of_block hb, ?_⟩, ?_⟩
  · intro i x hi
    rw [Nat.zero_add, cell_of_row _ _ _ _ _ (0, 0) hb]
    match i, hi with
    | 0, hi => simp at hi; subst hi; rfl
    | 1, hi => simp at hi; subst hi; rfl
  · intro x hx
    simp at hx
    rcases hx with rfl | rfl
    · exact ⟨h1, fun h => by cases h⟩
    · exact ⟨h2, fun h => by cases h⟩
set_option maxHeartbeats 4000000 in
theorem actions_any (w : World) :
    Calls Tryz.prog 61 #[] w fun e w' => ∃ b ty ix key whole ports lst, e = .returned (.slice (some ⟨b, 0, none⟩) 15 15) ∧ w'.heap[b]? = some (.cells (actsRow ty ix key whole ports lst) 107 (0, 0)) ∧ Takes w' ty tyN ∧ Takes w' ix ixN ∧ Takes w' key keyN ∧ Takes w' whole (keyN ++ sixN) ∧ Takes w' ports portsN ∧ Takes w' lst (portsN ++ cntN) ∧ Below w.heap.size w w' := by
  obtain ⟨V1, hV1, v1, b1⟩ : ∃ V, w.alloc (.cells #[.string ⟨#[78, 101, 119, 82, 101, 109, 111, 116, 101, 72, 111, 115, 116]⟩, .string ⟨#[78, 101, 119, 69, 120, 116, 101, 114, 110, 97, 108, 80, 111, 114, 116]⟩, .string ⟨#[78, 101, 119, 80, 114, 111, 116, 111, 99, 111, 108]⟩] 9) = V ∧ V.heap[w.heap.size]? = some (.cells #[.string ⟨#[78, 101, 119, 82, 101, 109, 111, 116, 101, 72, 111, 115, 116]⟩, .string ⟨#[78, 101, 119, 69, 120, 116, 101, 114, 110, 97, 108, 80, 111, 114, 116]⟩, .string ⟨#[78, 101, 119, 80, 114, 111, 116, 111, 99, 111, 108]⟩] 9 (0, 0)) ∧ Below w.heap.size w V := ⟨_, rfl, heap_alloc_new _ _, (Below.refl _ _).alloc (Nat.le_refl _) _⟩
  obtain ⟨B1, hB1⟩ : ∃ b, w.heap.size = b := ⟨_, rfl⟩
  obtain ⟨V2, hV2, v2, b2⟩ : ∃ V, V1.alloc (.cells #[.string ⟨#[78, 101, 119, 73, 110, 116, 101, 114, 110, 97, 108, 80, 111, 114, 116]⟩, .string ⟨#[78, 101, 119, 73, 110, 116, 101, 114, 110, 97, 108, 67, 108, 105, 101, 110, 116]⟩, .string ⟨#[78, 101, 119, 69, 110, 97, 98, 108, 101, 100]⟩, .string ⟨#[78, 101, 119, 80, 111, 114, 116, 77, 97, 112, 112, 105, 110, 103, 68, 101, 115, 99, 114, 105, 112, 116, 105, 111, 110]⟩, .string ⟨#[78, 101, 119, 76, 101, 97, 115, 101, 68, 117, 114, 97, 116, 105, 111, 110]⟩] 9) = V ∧ V.heap[V1.heap.size]? = some (.cells #[.string ⟨#[78, 101, 119, 73, 110, 116, 101, 114, 110, 97, 108, 80, 111, 114, 116]⟩, .string ⟨#[78, 101, 119, 73, 110, 116, 101, 114, 110, 97, 108, 67, 108, 105, 101, 110, 116]⟩, .string ⟨#[78, 101, 119, 69, 110, 97, 98, 108, 101, 100]⟩, .string ⟨#[78, 101, 119, 80, 111, 114, 116, 77, 97, 112, 112, 105, 110, 103, 68, 101, 115, 99, 114, 105, 112, 116, 105, 111, 110]⟩, .string ⟨#[78, 101, 119, 76, 101, 97, 115, 101, 68, 117, 114, 97, 116, 105, 111, 110]⟩] 9 (0, 0)) ∧ Below V1.heap.size V1 V := ⟨_, rfl, heap_alloc_new _ _, (Below.refl _ _).alloc (Nat.le_refl _) _⟩
  obtain ⟨B2, hB2⟩ : ∃ b, V1.heap.size = b := ⟨_, rfl⟩
  obtain ⟨V3, hV3, v3, b3⟩ : ∃ V, V2.alloc (.cells #[.slice (some ⟨B1, 0, none⟩) 3 3, .slice (some ⟨B2, 0, none⟩) 5 5] 63) = V ∧ V.heap[V2.heap.size]? = some (.cells #[.slice (some ⟨B1, 0, none⟩) 3 3, .slice (some ⟨B2, 0, none⟩) 5 5] 63 (0, 0)) ∧ Below V2.heap.size V2 V := ⟨_, rfl, heap_alloc_new _ _, (Below.refl _ _).alloc (Nat.le_refl _) _⟩
  obtain ⟨B3, hB3⟩ : ∃ b, V2.heap.size = b := ⟨_, rfl⟩
  rw [hB1] at v1
  rw [hB2] at v2
  rw [hB3] at v3
  have k1 : Takes V3 (.slice (some ⟨B1, 0, none⟩) 3 3) keyN := ⟨_, _, rfl, ((SRow.of_block (xs := keyN) v1).below b2 (Nat.le_refl _)).below b3 (Nat.le_refl _)⟩
  have hcon := sconcat_any (some ⟨B3, 0, none⟩) [(some ⟨B1, 0, none⟩, keyN, 3), (some ⟨B2, 0, none⟩, sixN, 5)] 2 V3 (two_parts V3 B3 B1 B2 keyN sixN v3 (((SRow.of_block (xs := keyN) v1).below b2 (Nat.le_refl _)).below b3 (Nat.le_refl _)) ((SRow.of_block (xs := sixN) v2).below b3 (Nat.le_refl _))) (by simp [sflat, keyN, sixN]) (by simp)
  rw [show sflat [((some ⟨B1, 0, none⟩ : Option Addr), keyN, 3), (some ⟨B2, 0, none⟩, sixN, 5)] = keyN ++ sixN from rfl] at hcon
  have hz3 : V1.heap.size + 1 = B3 := by rw [← hB3, ← hV2]; simp
  have HCON := hide hcon
  have HB := hide ((b1.trans (b2.mono b1.size)).trans (b3.mono (b1.trans (b2.mono b1.size)).size))
  have HK := hide k1
  have HE := hide (And.intro hV1 (And.intro hV2 (And.intro hV3 (And.intro hB1 (And.intro hz3 hB2)))))
  clear hz3 hV1 hV2 hV3 hB1 hB2 hB3 v1 v2 v3 b1 b2 b3 k1 hcon
  go_enter Tryz.func61, Tryz.ntmps61
  go_upto_region 2 with (fail)
  rw [HE.out.1, HE.out.2.2.2.1]
  go_wp2_with fail
  rw [HE.out.2.2.2.2.1, HE.out.2.2.2.2.2, HE.out.2.1, HE.out.2.2.1]
  clear HE
  refine HCON.out.mono ?_
  rintro e w1 ⟨a1, c1, rfl, ho1, b9⟩
  have HB1 := hide (HB.out.trans (b9.mono HB.out.size))
  have HK1 := hide (HK.out.below b9)
  have HW1 := hide (show Takes w1 (.slice a1 (keyN ++ sixN).length c1) (keyN ++ sixN) from ⟨a1, c1, rfl, SRow.of_owns ho1⟩)
  obtain ⟨n1, hwh⟩ : ∃ v, (keyN ++ sixN).length = v := ⟨_, rfl⟩
  rw [hwh] at HW1 ⊢
  clear hwh ho1 b9 HCON HB HK
  obtain ⟨V4, hV4, v4, b4⟩ : ∃ V, w1.alloc (.cells #[.string ⟨#[78, 101, 119, 83, 116, 97, 114, 116, 80, 111, 114, 116]⟩, .string ⟨#[78, 101, 119, 69, 110, 100, 80, 111, 114, 116]⟩, .string ⟨#[78, 101, 119, 80, 114, 111, 116, 111, 99, 111, 108]⟩, .string ⟨#[78, 101, 119, 77, 97, 110, 97, 103, 101]⟩] 9) = V ∧ V.heap[w1.heap.size]? = some (.cells #[.string ⟨#[78, 101, 119, 83, 116, 97, 114, 116, 80, 111, 114, 116]⟩, .string ⟨#[78, 101, 119, 69, 110, 100, 80, 111, 114, 116]⟩, .string ⟨#[78, 101, 119, 80, 114, 111, 116, 111, 99, 111, 108]⟩, .string ⟨#[78, 101, 119, 77, 97, 110, 97, 103, 101]⟩] 9 (0, 0)) ∧ Below w1.heap.size w1 V := ⟨_, rfl, heap_alloc_new _ _, (Below.refl _ _).alloc (Nat.le_refl _) _⟩
  obtain ⟨B4, hB4⟩ : ∃ b, w1.heap.size = b := ⟨_, rfl⟩
  rw [hB4] at v4
  obtain ⟨V5, hV5, v5, b5⟩ : ∃ V, V4.alloc (.cells #[.string ⟨#[78, 101, 119, 67, 111, 110, 110, 101, 99, 116, 105, 111, 110, 84, 121, 112, 101]⟩] 9) = V ∧ V.heap[V4.heap.size]? = some (.cells #[.string ⟨#[78, 101, 119, 67, 111, 110, 110, 101, 99, 116, 105, 111, 110, 84, 121, 112, 101]⟩] 9 (0, 0)) ∧ Below V4.heap.size V4 V := ⟨_, rfl, heap_alloc_new _ _, (Below.refl _ _).alloc (Nat.le_refl _) _⟩
  obtain ⟨B5, hB5⟩ : ∃ b, V4.heap.size = b := ⟨_, rfl⟩
  rw [hB5] at v5
  obtain ⟨V6, hV6, v6, b6⟩ : ∃ V, V5.alloc (.cells #[.string ⟨#[78, 101, 119, 80, 111, 114, 116, 77, 97, 112, 112, 105, 110, 103, 73, 110, 100, 101, 120]⟩] 9) = V ∧ V.heap[V5.heap.size]? = some (.cells #[.string ⟨#[78, 101, 119, 80, 111, 114, 116, 77, 97, 112, 112, 105, 110, 103, 73, 110, 100, 101, 120]⟩] 9 (0, 0)) ∧ Below V5.heap.size V5 V := ⟨_, rfl, heap_alloc_new _ _, (Below.refl _ _).alloc (Nat.le_refl _) _⟩
  obtain ⟨B6, hB6⟩ : ∃ b, V5.heap.size = b := ⟨_, rfl⟩
  rw [hB6] at v6
  obtain ⟨V7, hV7, v7, b7⟩ : ∃ V, V6.alloc (.cells #[.string ⟨#[78, 101, 119, 78, 117, 109, 98, 101, 114, 79, 102, 80, 111, 114, 116, 115]⟩] 9) = V ∧ V.heap[V6.heap.size]? = some (.cells #[.string ⟨#[78, 101, 119, 78, 117, 109, 98, 101, 114, 79, 102, 80, 111, 114, 116, 115]⟩] 9 (0, 0)) ∧ Below V6.heap.size V6 V := ⟨_, rfl, heap_alloc_new _ _, (Below.refl _ _).alloc (Nat.le_refl _) _⟩
  obtain ⟨B7, hB7⟩ : ∃ b, V6.heap.size = b := ⟨_, rfl⟩
  rw [hB7] at v7
  obtain ⟨V8, hV8, v8, b8⟩ : ∃ V, V7.alloc (.cells #[.slice (some ⟨B4, 0, none⟩) 4 4, .slice (some ⟨B7, 0, none⟩) 1 1] 63) = V ∧ V.heap[V7.heap.size]? = some (.cells #[.slice (some ⟨B4, 0, none⟩) 4 4, .slice (some ⟨B7, 0, none⟩) 1 1] 63 (0, 0)) ∧ Below V7.heap.size V7 V := ⟨_, rfl, heap_alloc_new _ _, (Below.refl _ _).alloc (Nat.le_refl _) _⟩
  obtain ⟨B8, hB8⟩ : ∃ b, V7.heap.size = b := ⟨_, rfl⟩
  rw [hB8] at v8
  have hz5 : w1.heap.size + 1 = B5 := by rw [← hB5, ← hV4]; simp
  have hz6 : w1.heap.size + 1 + 1 = B6 := by rw [← hB6, ← hV5, ← hV4]; simp
  have hz7 : w1.heap.size + 1 + 1 + 1 = B7 := by rw [← hB7, ← hV6, ← hV5, ← hV4]; simp
  have hz8 : w1.heap.size + 1 + 1 + 1 + 1 = B8 := by rw [← hB8, ← hV7, ← hV6, ← hV5, ← hV4]; simp
  have q5 := b4.trans (b5.mono b4.size)
  have q6 := q5.trans (b6.mono q5.size)
  have q7 := q6.trans (b7.mono q6.size)
  have q8 := q7.trans (b8.mono q7.size)
  have s4 : SRow V8 (some ⟨B4, 0, none⟩) portsN := ((((SRow.of_block (xs := portsN) v4).below b5 (Nat.le_refl _)).below b6 (Nat.le_refl _)).below b7 (Nat.le_refl _)).below b8 (Nat.le_refl _)
  have s5 : SRow V8 (some ⟨B5, 0, none⟩) tyN := (((SRow.of_block (xs := tyN) v5).below b6 (Nat.le_refl _)).below b7 (Nat.le_refl _)).below b8 (Nat.le_refl _)
  have s6 : SRow V8 (some ⟨B6, 0, none⟩) ixN := ((SRow.of_block (xs := ixN) v6).below b7 (Nat.le_refl _)).below b8 (Nat.le_refl _)
  have s7 : SRow V8 (some ⟨B7, 0, none⟩) cntN := (SRow.of_block (xs := cntN) v7).below b8 (Nat.le_refl _)
  have hcon := sconcat_any (some ⟨B8, 0, none⟩) [(some ⟨B4, 0, none⟩, portsN, 4), (some ⟨B7, 0, none⟩, cntN, 1)] 2 V8 (two_parts V8 B8 B4 B7 portsN cntN v8 s4 s7) (by simp [sflat, portsN, cntN]) (by simp)
  rw [show sflat [((some ⟨B4, 0, none⟩ : Option Addr), portsN, 4), (some ⟨B7, 0, none⟩, cntN, 1)] = portsN ++ cntN from rfl] at hcon
  have HCON := hide hcon
  have HP := hide (show Takes V8 (.slice (some ⟨B4, 0, none⟩) 4 4) portsN from ⟨_, _, rfl, s4⟩)
  have HT := hide (show Takes V8 (.slice (some ⟨B5, 0, none⟩) 1 1) tyN from ⟨_, _, rfl, s5⟩)
  have HI := hide (show Takes V8 (.slice (some ⟨B6, 0, none⟩) 1 1) ixN from ⟨_, _, rfl, s6⟩)
  have HK8 := hide (HK1.out.below q8)
  have HW8 := hide (HW1.out.below q8)
  have HB8 := hide (HB1.out.trans (q8.mono HB1.out.size))
  have HE := hide (And.intro hV4 (And.intro hV5 (And.intro hV6 (And.intro hV7 hV8))))
  have HZ := hide (And.intro hz8 (And.intro hz7 (And.intro hz6 (And.intro hz5 hB4))))
  clear hz5 hz6 hz7 hz8 hV4 hV5 hV6 hV7 hV8 hB4 hB5 hB6 hB7 hB8 v4 v5 v6 v7 v8 b4 b5 b6 b7 b8 q5 q6 q7 q8 s4 s5 s6 s7 hcon HB1 HK1 HW1
  go_wp2_with fail
  rw [HZ.out.1, HZ.out.2.1, HZ.out.2.2.1, HZ.out.2.2.2.1, HZ.out.2.2.2.2]
  rw [HE.out.1, HE.out.2.1, HE.out.2.2.1, HE.out.2.2.2.1, HE.out.2.2.2.2]
  clear HE HZ
  refine HCON.out.mono ?_
  rintro e w2 ⟨a2, c2, rfl, ho2, b9⟩
  have HB2 := hide (HB8.out.trans (b9.mono HB8.out.size))
  have HP2 := hide (HP.out.below b9)
  have HT2 := hide (HT.out.below b9)
  have HI2 := hide (HI.out.below b9)
  have HK2 := hide (HK8.out.below b9)
  have HW2 := hide (HW8.out.below b9)
  have HL2 := hide (show Takes w2 (.slice a2 (portsN ++ cntN).length c2) (portsN ++ cntN) from ⟨a2, c2, rfl, SRow.of_owns ho2⟩)
  obtain ⟨n2, hls⟩ : ∃ v, (portsN ++ cntN).length = v := ⟨_, rfl⟩
  rw [hls] at HL2 ⊢
  clear hls ho2 b9 HCON HB8 HP HT HI HK8 HW8
  go_wp2_with fail
  go_ret
  have hb3 : Below w2.heap.size w2 (w2.alloc (.cells (actsRow (.slice (some ⟨B5, 0, none⟩) 1 1) (.slice (some ⟨B6, 0, none⟩) 1 1) (.slice (some ⟨B1, 0, none⟩) 3 3) (.slice a1 n1 c1) (.slice (some ⟨B4, 0, none⟩) 4 4) (.slice a2 n2 c2)) 107)) := (Below.refl _ _).alloc (Nat.le_refl _) _
  exact ⟨w2.heap.size, _, _, _, _, _, _, rfl, heap_alloc_new _ _, HT2.out.below hb3, HI2.out.below hb3, HK2.out.below hb3, HW2.out.below hb3, HP2.out.below hb3, HL2.out.below hb3, HB2.out.trans (hb3.mono HB2.out.size)⟩
end Go.Proofs.YtinmlndimgengaaGreatDoor
