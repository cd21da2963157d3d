/- http: the reader of requests as a machine on lists of bytes, plain. -/
import Derived.Test.YtbiblaeocbcfhaaGreatDoorHPub
import Derived.Lib.Split
namespace Go.Proofs.YtbiblaeocbcfhaaGreatDoor
set_option linter.unusedVariables false
set_option linter.unusedSimpArgs false
set_option maxRecDepth 100000
structure Rq where
  me : List UInt8
  ta : List UInt8
  minor : Nat
  fs : List (List UInt8 × List UInt8)
  body : List UInt8
  keep : Bool
def rq0 : Rq := ⟨[], [], 0, [], [], false⟩
structure PM where
  waits : Nat
  text : List UInt8
  line : Nat
  passed : Bool
  left : Int
  now : Rq
def pm0 : PM := ⟨0, [], 0, false, 0, rq0⟩
/-- The lines of a text, each behind its LF. -/
def linesB (l : List UInt8) : List (List UInt8) := (Lib.splitB ⟨#[10]⟩ 0 (Lib.countB (bs l) ⟨#[10]⟩) (bs l)).map (·.data.toList)
def rawL (l : List UInt8) : List (List UInt8) := linesB (Lib.trimSuffix l [10])
def textsL (l : List UInt8) : List (List UInt8) := (rawL l).map fun x => Lib.trimSuffix x [13]
def wholeL (l : List UInt8) : Bool := (rawL l).all fun x => Lib.hasSuffix x [13]
def fieldsL : List (List UInt8) → Option (List (List UInt8 × List UInt8))
  | [] => some []
  | x :: r => (lineL x).bind fun f => (fieldsL r).map fun t => f :: t
def getP (fs : List (List UInt8 × List UInt8)) (name : List UInt8) : List (List UInt8) := (fs.filter fun f => f.1 == name).map (·.2)
def sameP (a b : List UInt8) : Bool := lowL a == lowL b
def GET : List UInt8 := [71, 69, 84]
def HEAD : List UInt8 := [72, 69, 65, 68]
def POST : List UInt8 := [80, 79, 83, 84]
def SUBS : List UInt8 := [83, 85, 66, 83, 67, 82, 73, 66, 69]
def UNSUBS : List UInt8 := [85, 78, 83, 85, 66, 83, 67, 82, 73, 66, 69]
def hostN : List UInt8 := [104, 111, 115, 116]
def connN : List UInt8 := [99, 111, 110, 110, 101, 99, 116, 105, 111, 110]
def closeN : List UInt8 := [99, 108, 111, 115, 101]
def aliveN : List UInt8 := [107, 101, 101, 112, 45, 97, 108, 105, 118, 101]
def codeN : List UInt8 := [116, 114, 97, 110, 115, 102, 101, 114, 45, 101, 110, 99, 111, 100, 105, 110, 103]
def lenN : List UInt8 := [99, 111, 110, 116, 101, 110, 116, 45, 108, 101, 110, 103, 116, 104]
def chunkN : List UInt8 := [99, 104, 117, 110, 107, 101, 100]
/-- A first line: its request, or the status. -/
def startR (x : List UInt8) : Rq × Nat :=
  match startL x with
  | none => (rq0, 400)
  | some (m, t, n) => if m = GET ∨ m = HEAD ∨ m = POST ∨ m = SUBS ∨ m = UNSUBS then (⟨m, t, n, [], [], false⟩, 0) else (rq0, 501)
def saysP (fs : List (List UInt8 × List UInt8)) (word : List UInt8) : Bool := (getP fs connN).any fun v => sameP v word
def keepsP (minor : Nat) (fs : List (List UInt8 × List UInt8)) : Bool := !saysP fs closeN && (minor == 1 || saysP fs aliveN)
/-- A head: its request and 0, or a status. -/
def headR (l : List UInt8) : Rq × Nat :=
  if wholeL l = false then (rq0, 400) else
  match startR ((textsL l).headD []) with
  | (r, s) => if s ≠ 0 then (rq0, s) else
    match fieldsL (((textsL l).drop 1).dropLast) with
    | none => (rq0, 400)
    | some fs => if 40 < fs.length then (rq0, 431)
      else if 1 < (getP fs hostN).length ∨ ((getP fs hostN).length = 0 ∧ r.minor = 1) then (rq0, 400)
      else (⟨r.me, r.ta, r.minor, fs, [], keepsP r.minor fs⟩, 0)
def codingS (minor : Nat) (codings lengths : List (List UInt8)) : Nat :=
  if 1 < codings.length ∨ 0 < lengths.length ∨ minor = 0 then 400 else if sameP (codings.headD []) chunkN = false then 501 else 0
def lengthS (lengths : List (List UInt8)) : Nat × Nat :=
  match numberL (lengths.headD []) 10 9999999 with
  | none => (0, 400)
  | some n => if 1 < lengths.length then (0, 400) else if 8192 < n then (0, 413) else (n, 0)
/-- How a body comes: in pieces, its size, a status. -/
def frameR (r : Rq) : Bool × Nat × Nat :=
  if 0 < (getP r.fs codeN).length then (true, 0, codingS r.minor (getP r.fs codeN) (getP r.fs lenN))
  else if 0 < (getP r.fs lenN).length then (false, (lengthS (getP r.fs lenN)).1, (lengthS (getP r.fs lenN)).2)
  else if r.me = POST then (false, 0, 411) else (false, 0, 0)
def pieceL (l : List UInt8) : Option Nat := if Lib.hasSuffix l [13, 10] then numberL (Lib.cut (Lib.trimSuffix l [13, 10]) [59]).1 16 9223372036854775807 else none
def tailS (l : List UInt8) : Nat := if wholeL l = true ∧ (fieldsL ((textsL l).dropLast)).isSome then 0 else 400
/-- A byte behind the lines; does it end an empty one? -/
def addM (p : PM) (c : UInt8) : PM × Bool :=
  if c ≠ 10 then ({ p with text := p.text ++ [c] }, false)
  else ({ p with text := p.text ++ [c], line := (p.text ++ [c]).length },
    decide (((p.text ++ [c]).drop p.line).length = 1) || (decide (((p.text ++ [c]).drop p.line).length = 2) && ((p.text ++ [c]).drop p.line).head? == some 13))
def clearM (p : PM) : PM := { p with text := [], line := 0 }
def requestM (p : PM) (l : List UInt8) : PM × Option Nat :=
  match headR l with
  | (r, s) => if s ≠ 0 then (p, some s) else
    match frameR r with
    | (pieces, size, s2) =>
      if s2 ≠ 0 ∨ (pieces = false ∧ size = 0) then ({ p with now := r }, some s2)
      else if pieces then ({ p with now := r, waits := 2 }, none) else ({ p with now := r, waits := 1, left := size }, none)
def headM (p : PM) (c : UInt8) : PM × Option Nat :=
  match addM p c with
  | (q, e) =>
    if e = true ∧ p.line ≠ 0 then requestM (clearM q) q.text
    else if e = true ∧ q.passed = false ∧ q.text.length = 2 then ({ clearM q with passed := true }, none)
    else if 4096 ≤ q.text.length then (q, some 431) else (q, none)
def byteM (p : PM) (c : UInt8) : PM := { p with now := { p.now with body := p.now.body ++ [c] }, left := p.left - 1 }
def numberM (p : PM) (c : UInt8) : PM × Option Nat :=
  let q := (addM p c).1
  if c ≠ 10 then (if 256 ≤ q.text.length then (q, some 400) else (q, none))
  else match pieceL q.text with
    | none => (clearM q, some 400)
    | some n => if 8192 < q.now.body.length + n then (clearM q, some 413) else if n = 0 then ({ clearM q with waits := 6 }, none) else ({ clearM q with waits := 3, left := n }, none)
def tailM (p : PM) (c : UInt8) : PM × Option Nat :=
  match addM p c with
  | (q, e) => if e = true then (clearM q, some (tailS q.text)) else if 1024 ≤ q.text.length then (q, some 431) else (q, none)
def takeM (p : PM) (c : UInt8) : PM × Option Nat :=
  match p.waits with
  | 0 => headM p c
  | 1 => (byteM p c, if (byteM p c).left = 0 then some 0 else none)
  | 2 => numberM p c
  | 3 => (if (byteM p c).left = 0 then { byteM p c with waits := 4 } else byteM p c, none)
  | 4 => if c ≠ 13 then (p, some 400) else ({ p with waits := 5 }, none)
  | 5 => if c ≠ 10 then (p, some 400) else ({ p with waits := 2 }, none)
  | _ => tailM p c
structure Told where
  status : Nat
  rq : Rq
def tellM (p : PM) (s : Nat) : PM × Told :=
  let r := if s = 0 then p.now else rq0
  ({ pm0 with waits := if r.keep then 0 else 7 }, ⟨s, r⟩)
/-- A byte, and what it tells. -/
def stepM (p : PM) (c : UInt8) : PM × List Told :=
  if p.waits = 7 then (p, []) else
  match takeM p c with
  | (q, none) => (q, [])
  | (q, some s) => ((tellM q s).1, [(tellM q s).2])
def feedM : PM → List UInt8 → PM × List Told
  | p, [] => (p, [])
  | p, c :: r => ((feedM (stepM p c).1 r).1, (stepM p c).2 ++ (feedM (stepM p c).1 r).2)
theorem feed_app (l r : List UInt8) : ∀ p, feedM p (l ++ r) = ((feedM (feedM p l).1 r).1, (feedM p l).2 ++ (feedM (feedM p l).1 r).2) := by
  induction l with
  | nil => intro p; rfl
  | cons c l ih => intro p; simp [feedM, ih, List.append_assoc]
def exA : List UInt8 := "POST /c HTTP/1.1\r\nHost: a\r\nContent-Length: 2\r\n\r\nhi".toUTF8.data.toList
def exB : List UInt8 := "POST /c HTTP/1.1\r\nHost: a\r\n\r\nhi".toUTF8.data.toList
theorem ex_a : (feedM pm0 exA).2.map (fun t => (t.status, t.rq.body, t.rq.keep)) = [(0, [104, 105], true)] := by kernel_rfl
theorem ex_b : (feedM pm0 exB).2.map (fun t => t.status) = [411] := by kernel_rfl
theorem ex_b2 : (feedM pm0 exB).1.waits = 7 := by kernel_rfl
end Go.Proofs.YtbiblaeocbcfhaaGreatDoor
