/- Ssdp: the texts that are told, plain. -/
import Derived.Test.YtonoaopioifedaaGreatDoorSPl
import Derived.Lib.Join
import Derived.Lib.IndexBytes
namespace Go.Proofs.YtonoaopioifedaaGreatDoor
set_option linter.unusedVariables false
set_option linter.unusedSimpArgs false
set_option maxRecDepth 100000
abbrev bt (l : List UInt8) : ByteArray := ⟨l.toArray⟩
def sRoot : List UInt8 := [117, 112, 110, 112, 58, 114, 111, 111, 116, 100, 101, 118, 105, 99, 101]
def sGw1 : List UInt8 := [117, 114, 110, 58, 115, 99, 104, 101, 109, 97, 115, 45, 117, 112, 110, 112, 45, 111, 114, 103, 58, 100, 101, 118, 105, 99, 101, 58, 73, 110, 116, 101, 114, 110, 101, 116, 71, 97, 116, 101, 119, 97, 121, 68, 101, 118, 105, 99, 101, 58, 49]
def sGw2 : List UInt8 := [117, 114, 110, 58, 115, 99, 104, 101, 109, 97, 115, 45, 117, 112, 110, 112, 45, 111, 114, 103, 58, 100, 101, 118, 105, 99, 101, 58, 73, 110, 116, 101, 114, 110, 101, 116, 71, 97, 116, 101, 119, 97, 121, 68, 101, 118, 105, 99, 101, 58, 50]
def sSv1 : List UInt8 := [117, 114, 110, 58, 115, 99, 104, 101, 109, 97, 115, 45, 117, 112, 110, 112, 45, 111, 114, 103, 58, 115, 101, 114, 118, 105, 99, 101, 58, 87, 65, 78, 73, 80, 67, 111, 110, 110, 101, 99, 116, 105, 111, 110, 58, 49]
def sSv2 : List UInt8 := [117, 114, 110, 58, 115, 99, 104, 101, 109, 97, 115, 45, 117, 112, 110, 112, 45, 111, 114, 103, 58, 115, 101, 114, 118, 105, 99, 101, 58, 87, 65, 78, 73, 80, 67, 111, 110, 110, 101, 99, 116, 105, 111, 110, 58, 50]
def sUu : List UInt8 := [117, 117, 105, 100, 58]
def sDd : List UInt8 := [58, 58]
def sAll : List UInt8 := [115, 115, 100, 112, 58, 97, 108, 108]
/-- The names by which the device is searched, o among them. -/
def nmsL (o : List UInt8) : List (List UInt8) := [sRoot, o, sGw1, sGw2, sSv1, sSv2]
/-- A name's unique name. -/
def unL (o y : List UInt8) : List UInt8 := if y = o then o else o ++ (sDd ++ y)
def namesL (o : List UInt8) : List (List UInt8 × List UInt8) := (nmsL o).map fun y => (y, unL o y)
theorem nmsL_len (o : List UInt8) : (nmsL o).length = 6 := rfl
theorem namesL_len (o : List UInt8) : (namesL o).length = 6 := rfl
theorem nmsL_le (o y : List UInt8) (h : y ∈ nmsL o) (ho : o.length ≤ 1000) : y.length ≤ 1000 := by
  unfold nmsL at h
  simp only [List.mem_cons, List.not_mem_nil, or_false] at h
  rcases h with rfl | rfl | rfl | rfl | rfl | rfl
  · decide
  · exact ho
  · decide
  · decide
  · decide
  · decide
theorem unL_le (o y : List UInt8) (hy : y.length ≤ 1000) (ho : o.length ≤ 1000) : (unL o y).length ≤ 2002 := by
  unfold unL
  split
  · omega
  · simp only [List.length_append, sDd, List.length_cons, List.length_nil]; omega
theorem bt_inj (a b : List UInt8) : bt a = bt b ↔ a = b := by
  constructor
  · intro h
    have := congrArg (fun x : ByteArray => x.data.toList) h
    simpa using this
  · rintro rfl; rfl
theorem bt_list (l : List UInt8) : (bt l).toList = l := by
  rw [Lib.toList_data]
theorem bt_beq (a b : List UInt8) : ((bt a).toList == (bt b).toList) = decide (a = b) := by
  rw [bt_list, bt_list]
  by_cases h : a = b
  · subst h; simp
  · rw [decide_eq_false h, beq_eq_false_iff_ne]; exact h
/-- A name with its unique name, as short as they are. -/
abbrev NX : Type := {x : List UInt8 × List UInt8 // x.1.length ≤ 1000 ∧ x.2.length ≤ 2002}
def mkX (x : List UInt8 × List UInt8) : NX := if h : x.1.length ≤ 1000 ∧ x.2.length ≤ 2002 then ⟨x, h⟩ else ⟨([], []), by decide⟩
theorem mkX_val (x : List UInt8 × List UInt8) (h : x.1.length ≤ 1000 ∧ x.2.length ≤ 2002) : (mkX x).val = x := by unfold mkX; rw [dif_pos h]
def namesX (o : List UInt8) : List NX := (namesL o).map mkX
theorem namesX_len (o : List UInt8) : (namesX o).length = 6 := rfl
theorem namesX_val (o : List UInt8) (ho : o.length ≤ 1000) : (namesX o).map (·.val) = namesL o := by
  unfold namesX
  rw [List.map_map]
  refine (List.map_congr_left fun x hx => ?_).trans (List.map_id _)
  unfold namesL at hx
  obtain ⟨y, hy, rfl⟩ := List.mem_map.1 hx
  have h1 := nmsL_le o y hy ho
  exact mkX_val _ ⟨h1, unL_le o y h1 ho⟩
theorem namesX_map {β : Type} (o : List UInt8) (ho : o.length ≤ 1000) (F : List UInt8 × List UInt8 → β) : (namesX o).map (fun x => F x.val) = (namesL o).map F := by
  rw [← namesX_val o ho, List.map_map]; rfl
def cr : List UInt8 := [13, 10]
def tLoc : List UInt8 := [76, 79, 67, 65, 84, 73, 79, 78, 58, 32, 104, 116, 116, 112, 58, 47, 47]
def tEnd : List UInt8 := [58, 53, 48, 48, 48, 47, 100, 101, 115, 99, 46, 120, 109, 108]
/-- The line that tells where the description stands. -/
def plcL (a : List UInt8) : List UInt8 := tLoc ++ a ++ [58] ++ [53, 48, 48, 48] ++ [47, 100, 101, 115, 99, 46, 120, 109, 108]
def tOk : List UInt8 := [72, 84, 84, 80, 47, 49, 46, 49, 32, 50, 48, 48, 32, 79, 75]
def tMax : List UInt8 := [67, 65, 67, 72, 69, 45, 67, 79, 78, 84, 82, 79, 76, 58, 32, 109, 97, 120, 45, 97, 103, 101, 61, 49, 56, 48, 48]
def tExt : List UInt8 := [69, 88, 84, 58]
def tSrv : List UInt8 := [83, 69, 82, 86, 69, 82, 58, 32, 104, 101, 97, 114, 116, 104, 47, 49, 32, 85, 80, 110, 80, 47, 49, 46, 49, 32, 104, 101, 97, 114, 116, 104, 47, 49]
def tSt : List UInt8 := [83, 84, 58, 32]
def tUsn : List UInt8 := [85, 83, 78, 58, 32]
def tNot : List UInt8 := [78, 79, 84, 73, 70, 89, 32, 42, 32, 72, 84, 84, 80, 47, 49, 46, 49]
def tHost : List UInt8 := [72, 79, 83, 84, 58, 32, 50, 51, 57, 46, 50, 53, 53, 46, 50, 53, 53, 46, 50, 53, 48, 58, 49, 57, 48, 48]
def tNt : List UInt8 := [78, 84, 58, 32]
def tAlv : List UInt8 := [78, 84, 83, 58, 32, 115, 115, 100, 112, 58, 97, 108, 105, 118, 101]
def tBye : List UInt8 := [78, 84, 83, 58, 32, 115, 115, 100, 112, 58, 98, 121, 101, 98, 121, 101]
/-- A text of lines. -/
def msgL (ls : List (List UInt8)) : List UInt8 := Lib.join ls cr ++ cr ++ cr
def ansL (p : List UInt8) (x : List UInt8 × List UInt8) : List UInt8 := msgL [tOk, tMax, tExt, p, tSrv, tSt ++ x.1, tUsn ++ x.2]
def alvL (p : List UInt8) (x : List UInt8 × List UInt8) : List UInt8 := msgL [tNot, tHost, tMax, p, tNt ++ x.1, tAlv, tSrv, tUsn ++ x.2]
def byeL (x : List UInt8 × List UInt8) : List UInt8 := msgL [tNot, tHost, tNt ++ x.1, tBye, tUsn ++ x.2]
end Go.Proofs.YtonoaopioifedaaGreatDoor
