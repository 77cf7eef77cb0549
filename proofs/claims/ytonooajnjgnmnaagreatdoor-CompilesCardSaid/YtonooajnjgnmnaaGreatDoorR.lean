/- The reference's reader as plain functions on a state. -/
import Derived.Test.YtonooajnjgnmnaaGreatDoorX
namespace Go.Proofs.YtonooajnjgnmnaaGreatDoor
open Go.RowKit

structure RS where
  at_ : Nat
  err : Int
  place : Int
  names : List ByteArray
  spans : List (Int × Int × Int)
  L : List (Bool × Rx × Rx)
  atoms : Int
  nest : Int

def nameL (l : List UInt8) : Bool :=
  if l = [] ∨ l = [99, 108, 97, 115, 115] ∨ l = [99, 117, 116] ∨ l = [106, 111, 105, 110] ∨ l = [97, 110, 121] ∨ l = [111, 116, 104, 101, 114] ∨ l = [98, 97, 100] then false
  else letterN (l.headD 0).toNat
def clsIx (names : List ByteArray) (l : List UInt8) : Int :=
  match names.findIdx? (fun x => x.toList == l) with
  | some i => i
  | none => -1

namespace RS
def tk (T : ByteArray) (s : RS) : List UInt8 := (tok T s.at_).toList
def pos (T : ByteArray) (s : RS) : Nat := skip T s.at_
def fail (s : RS) (e p : Int) : RS := if s.err = 0 then { s with err := e, place := p } else s
def peek (T : ByteArray) (s : RS) : RS := { s with at_ := skip T s.at_ }
def take (T : ByteArray) (s : RS) : RS := { s with at_ := tokEnd T (skip T s.at_) }
def want (T : ByteArray) (s : RS) (l : List UInt8) : RS := if s.tk T = l then s.take T else (s.take T).fail 2 (s.pos T)

def dig (c : Nat) : Option Int :=
  if 48 ≤ c ∧ c ≤ 57 then some ((c : Int) - 48) else if 97 ≤ c ∧ c ≤ 102 then some ((c : Int) - 97 + 10) else if 65 ≤ c ∧ c ≤ 70 then some ((c : Int) - 65 + 10) else none
/-- The number that the digits of a word make; whether each is one. -/
def hexN (l : List UInt8) : Int := l.foldl (fun n c => match dig c.toNat with | some d => 16 * n + d | none => n) 0
def hexOk (l : List UInt8) : Bool := l.all fun c => (dig c.toNat).isSome
def hexV (l : List UInt8) : Int := if 6 < l.length then 0 else hexN l
def hex (T : ByteArray) (s : RS) : RS :=
  let l := s.tk T
  let s1 := s.take T
  if 6 < l.length then s1.fail 2 (s.pos T)
  else
    let s2 := if hexOk l = true ∧ l ≠ [] then s1 else s1.fail 2 (s.pos T)
    if 1114111 < hexN l then s2.fail 5 (s.pos T) else s2

def meets (a b : Int) (l : List (Int × Int × Int)) : Bool := l.any fun o => decide (a ≤ o.2.1) && decide (o.1 ≤ b)
def badSpan (a b : Int) (l : List (Int × Int × Int)) : Bool := decide (b < a) || (decide (a ≤ 57343) && decide (55296 ≤ b)) || meets a b l
def addSpan (s : RS) (a b p : Int) : RS :=
  let s1 := if badSpan a b s.spans = true then s.fail 5 p else s
  { s1 with spans := s1.spans ++ [(a, b, (s1.names.length : Int) - 1)] }
def span (T : ByteArray) (s : RS) : RS :=
  let a := hexV (s.tk T)
  let s1 := (s.hex T).peek T
  if s1.err = 0 ∧ s1.tk T = [45] then
    let s2 := s1.take T
    (s2.hex T).addSpan a (hexV (s2.tk T)) (s2.pos T)
  else s1.addSpan a a (s.pos T)

def spansL (T : ByteArray) : Nat → RS → RS
  | 0, s => s
  | g + 1, s =>
    if s.err ≠ 0 then s
    else
      let s1 := s.span T
      if s1.err ≠ 0 then s1
      else
        let l := s1.tk T
        let s2 := s1.take T
        if l = [59] then s2 else if l = [44] then spansL T g s2 else spansL T g (s2.fail 2 (s1.pos T))
def classes (T : ByteArray) (s : RS) : RS :=
  let s1 := s.take T
  if s1.names.length = 6 then s1.fail 6 (s.pos T)
  else
    let l := s1.tk T
    let p := s1.pos T
    let s2 := s1.take T
    let s3 := if nameL l = true then s2 else s2.fail 2 p
    let s4 := if 0 ≤ clsIx s3.names l then s3.fail 4 p else s3
    let s5 := { s4 with names := s4.names ++ [tok T s1.at_] }
    let s6 := if s5.err = 0 then s5.want T [61] else s5
    spansL T (T.size + 2) s6

/-- The kinds that a word speaks of (0: it is none). -/
def kindsOf (s : RS) (l : List UInt8) : Nat :=
  if 0 ≤ clsIx s.names l then 2 ^ (clsIx s.names l).toNat
  else if l = [97, 110, 121] then 2 ^ (s.names.length + 2) - 1
  else if l = [111, 116, 104, 101, 114] then 2 ^ s.names.length
  else if l = [98, 97, 100] then 2 ^ (s.names.length + 1)
  else 0
def leafErr (s : RS) (l : List UInt8) (p : Int) : RS :=
  if 0 ≤ clsIx s.names l ∨ l = [97, 110, 121] ∨ l = [111, 116, 104, 101, 114] ∨ l = [98, 97, 100] then s else if nameL l = true then s.fail 3 p else s.fail 2 p
def leafMany (s : RS) (p : Int) : RS :=
  let s1 := if s.atoms = 4 then s.fail 6 p else s
  { s1 with atoms := s1.atoms + 1 }
def atomLeaf (T : ByteArray) (s : RS) : RS × Rx :=
  (((s.take T).leafErr (s.tk T) (s.pos T)).leafMany (s.pos T), charX ((s.take T).kindsOf (s.tk T)))
def closeB (T : ByteArray) (s : RS) : RS :=
  let s2 := { s with nest := s.nest - 1 }
  if s2.err = 0 then s2.want T [41] else s2
/-- 'sub': what stands in brackets. -/
def atom (T : ByteArray) (sub : RS → RS × Rx) (s : RS) : RS × Rx :=
  if s.tk T = [40] then
    if s.nest = 4 then ((s.take T).fail 6 (s.pos T), neverX)
    else ((sub { s.take T with nest := s.nest + 1 }).1.closeB T, (sub { s.take T with nest := s.nest + 1 }).2)
  else s.atomLeaf T
def suffix (T : ByteArray) (s : RS) (e : Rx) : RS × Rx :=
  let l := s.tk T
  if l = [42] then ((s.peek T).take T, manyX e) else if l = [43] then ((s.peek T).take T, rowR e (manyX e)) else if l = [63] then ((s.peek T).take T, eitherX e emptyX) else (s.peek T, e)
def part (T : ByteArray) (sub : RS → RS × Rx) (s : RS) : RS × Rx :=
  if (s.atom T sub).1.err ≠ 0 then s.atom T sub else suffix T (s.atom T sub).1 (s.atom T sub).2
def moreL (l : List UInt8) : Bool := decide (l = [40]) || (decide (l ≠ []) && letterN (l.headD 0).toNat)
def rowL (T : ByteArray) (sub : RS → RS × Rx) : Nat → RS → Rx → RS × Rx
  | 0, s, e => (s, e)
  | g + 1, s, e =>
    if s.err ≠ 0 then (s, e)
    else if moreL (s.tk T) = true then rowL T sub g ((s.peek T).part T sub).1 (rowR e ((s.peek T).part T sub).2) else (s.peek T, e)
def row (T : ByteArray) (sub : RS → RS × Rx) (s : RS) : RS × Rx := rowL T sub (T.size + 2) (s.part T sub).1 (s.part T sub).2
def exprL (T : ByteArray) (sub : RS → RS × Rx) : Nat → RS → Rx → RS × Rx
  | 0, s, e => (s, e)
  | g + 1, s, e =>
    if s.err ≠ 0 then (s, e)
    else if s.tk T = [47] then exprL T sub g (((s.peek T).take T).row T sub).1 (eitherX e (((s.peek T).take T).row T sub).2) else (s.peek T, e)
def exprS (T : ByteArray) (sub : RS → RS × Rx) (s : RS) : RS × Rx := exprL T sub (T.size + 2) (s.row T sub).1 (s.row T sub).2
/-- An Expr within which n brackets more may open. -/
def expr (T : ByteArray) : Nat → RS → RS × Rx
  | 0, s => exprS T (fun s => (s, neverX)) s
  | n + 1, s => exprS T (expr T n) s
def endB (T : ByteArray) (s : RS) (l : List UInt8) : RS := if s.err = 0 then s.want T l else s
def side (T : ByteArray) (s : RS) (l : List UInt8) : RS × Rx :=
  let s1 := ({ s with atoms := 0 } : RS).peek T
  if s1.tk T = l then (s1.endB T l, emptyX) else ((s1.expr T 4).1.endB T l, (s1.expr T 4).2)
def rule (T : ByteArray) (s : RS) : RS :=
  let s1 := s.take T
  if s1.L.length = 4 then s1.fail 6 (s.pos T)
  else
    let s2 := s1.side T [124]
    let s3 := if s2.1.err = 0 then s2.1.side T [59] else (s2.1, emptyX)
    { s3.1 with L := s3.1.L ++ [(decide (s.tk T = [99, 117, 116]), s2.2, s3.2)] }
def readL (T : ByteArray) : Nat → RS → RS
  | 0, s => s
  | g + 1, s =>
    if s.err ≠ 0 then s
    else
      let l := s.tk T
      let s1 := s.peek T
      if l = [99, 108, 97, 115, 115] ∧ s1.L.length = 0 then readL T g (s1.classes T)
      else if l = [99, 117, 116] ∨ l = [106, 111, 105, 110] then readL T g (s1.rule T)
      else if l = [] then s1
      else readL T g (s1.fail 2 (s.pos T))
def start : RS := { at_ := 0, err := 0, place := 0, names := [], spans := [], L := [], atoms := 0, nest := 0 }
def read (T : ByteArray) : RS := if 1000 < T.size then start.fail 1 0 else readL T (T.size + 2) start
end RS
end Go.Proofs.YtonooajnjgnmnaaGreatDoor
