/-
  Messages, answers and signals as plain data: what package ipc's calls answer and leave. No program, no statement.
-/
import Derived.Test.YtjobdfkfongjaaaBase
namespace Go.Proofs.Ytjobdfkfongjaaa
open Go.RowKit

def I64 (x : Int) : Prop := -9223372036854775808 ≤ x ∧ x ≤ 9223372036854775807

/-- A message: label, badge, how many words, its words. -/
structure Ms where
  l : Int
  b : Int
  n : Int
  w0 : Int
  w1 : Int
  w2 : Int
  w3 : Int
def M0 : Ms := ⟨0, 0, 0, 0, 0, 0, 0⟩
/-- A message of a badge alone. -/
def badM (b : Int) : Ms := ⟨0, b, 0, 0, 0, 0, 0⟩
def numB (n : Int) : Bool := decide (0 ≤ n) && decide (n < 1024)
def mrkB (n : Int) : Bool := decide (0 ≤ n) && decide (n < 1048576)
/-- Its words from that place on are 0. -/
def wrdB (m : Ms) : Bool := (decide (1 ≤ m.n) || m.w0 == 0) && ((decide (2 ≤ m.n) || m.w1 == 0) && ((decide (3 ≤ m.n) || m.w2 == 0) && (decide (4 ≤ m.n) || m.w3 == 0)))
def mayM (m : Ms) : Bool := mrkB m.l && (mrkB m.b && (decide (0 ≤ m.n) && (decide (m.n ≤ 4) && wrdB m)))

/-- A thread: its number, where it waits, what it sends, is it a call, its inbox, is it full, its notification. -/
structure Th where
  i : Int
  st : Int
  on : Int
  sd : Ms
  ca : Bool
  ib : Ms
  fu : Bool
  nt : Int
def newTh (i : Int) : Th := ⟨i, 0, -1, M0, false, M0, false, -1⟩

def fnd : List Th → Int → Option Th
  | [], _ => none
  | n :: L, k => if n.i = k then some n else fnd L k
def upd (L : List Th) (k : Int) (f : Th → Th) : List Th := L.map fun t => if t.i = k then f t else t

/-- Threads, queues by states and places, what is lit, what is bound. -/
structure Ip where
  L : List Th
  q : Int → Int → List Int
  lt : Int → Option Int
  bd : Int → Option Int
def ip0 : Ip := ⟨[], fun _ _ => [], fun _ => none, fun _ => none⟩

def setP (s o : Int) (t : Th) : Th := { t with st := s, on := o }
def setI (m : Ms) (f : Bool) (t : Th) : Th := { t with ib := m, fu := f }
def setD (m : Ms) (c : Bool) (t : Th) : Th := { t with sd := m, ca := c }
def setN (n : Int) (t : Th) : Th := { t with nt := n }
def uq (q : Int → Int → List Int) (s o : Int) (f : List Int → List Int) : Int → Int → List Int := fun a b => if a = s ∧ b = o then f (q a b) else q a b

/-- The thread of a number is there from now on. -/
def thrS (S : Ip) (t : Int) : Ip := match fnd S.L t with | some _ => S | none => { S with L := S.L ++ [newTh t] }
def thrT (S : Ip) (t : Int) : Th := (fnd S.L t).getD (newTh t)
def plcS (S : Ip) (t : Int) : Int := (thrT S t).st
def plcO (S : Ip) (t : Int) : Int := (thrT S t).on
def waiB (S : Ip) (t : Int) : Bool := !(plcS S t == 0 && plcO S t == -1)
def firO (S : Ip) (s o : Int) : Option Int := (S.q s o).head?
def entS (S : Ip) (t s o : Int) : Ip := { S with L := upd S.L t (setP s o), q := uq S.q s o (· ++ [t]) }
def leaS (S : Ip) (t : Int) : Ip := { S with L := upd S.L t (setP 0 (-1)), q := uq S.q (plcS S t) (plcO S t) (List.filter fun x => !(x == t)) }
def delS (S : Ip) (t : Int) (m : Ms) : Ip := { S with L := upd S.L t (setI m true) }
/-- A notification's badge delivered, if it is lit. -/
def litB (S : Ip) (n : Int) : Bool := (S.lt n).isSome
def litS (S : Ip) (n t : Int) : Ip := match S.lt n with
  | none => S
  | some b => delS { S with lt := fun k => if k = n then none else S.lt k } t (badM b)
def calO (S : Ip) (t : Int) : Option Int := if numB t then firO S 4 t else none
def numO : Option Int → Int
  | none => -1
  | some x => x

def senE (S : Ip) (ep t : Int) (m : Ms) : Int := if numB ep && (numB t && mayM m) then (if waiB S t then 150 else 0) else 1
def senN (S : Ip) (ep t : Int) (m : Ms) : Int := if senE S ep t m = 0 then numO (firO S 3 ep) else -1
def senS (S : Ip) (ep t : Int) (m : Ms) (call block : Bool) : Ip := if senE S ep t m = 0 then (match firO S 3 ep with
    | none => if block then entS { thrS S t with L := upd (thrS S t).L t (setD m call) } t 2 ep else S
    | some r => if call then entS (thrS (delS (leaS S r) r m) t) t 4 r else delS (leaS S r) r m) else S
def forS (S : Ip) (t : Int) : Ip := match calO S t with
  | none => S
  | some c => entS (leaS S c) c 4 (-1)
def forN (S : Ip) (t : Int) : Int := numO (calO S t)
def recE (S : Ip) (ep t : Int) : Int := if numB ep && numB t then (if waiB S t then 150 else 0) else 1
/-- Behind Forget, with the thread there. -/
def recA (S : Ip) (t : Int) : Ip := thrS (forS S t) t
def recG (S : Ip) (ep t : Int) : Bool := decide (recE S ep t = 0) && (litB (recA S t) (thrT (recA S t) t).nt || (firO (recA S t) 2 ep).isSome)
def recN (S : Ip) (ep t : Int) : Int := if recE S ep t = 0 then (if litB (recA S t) (thrT (recA S t) t).nt then -1 else (match firO (recA S t) 2 ep with
    | none => -1
    | some s => if (thrT (recA S t) s).ca then -1 else s)) else -1
def heaS (S : Ip) (t s : Int) : Ip := if (thrT S s).ca then entS (delS (leaS S s) t (thrT S s).sd) s 4 t else delS (leaS S s) t (thrT S s).sd
def recS (S : Ip) (ep t : Int) (block : Bool) : Ip := if recE S ep t = 0 then (if litB (recA S t) (thrT (recA S t) t).nt then litS (recA S t) (thrT (recA S t) t).nt t else (match firO (recA S t) 2 ep with
    | none => if block then entS (recA S t) t 3 ep else recA S t
    | some s => heaS (recA S t) t s)) else S
def repE (S : Ip) (t : Int) (m : Ms) : Int := if numB t && mayM m then (match calO S t with | none => 161 | some _ => 0) else 1
def repN (S : Ip) (t : Int) (m : Ms) : Int := if repE S t m = 0 then numO (calO S t) else -1
def repS (S : Ip) (t : Int) (m : Ms) : Ip := if repE S t m = 0 then (match calO S t with | none => S | some c => delS (leaS S c) c { m with b := 0 }) else S
/-- Who hears a signal at once. -/
def lisO (S : Ip) (n : Int) : Option Int := match firO S 5 n with
  | some t => some t
  | none => (match S.bd n with | some t => if (thrT S t).st = 3 then some t else none | none => none)
def sigE (n b : Int) : Int := if numB n && mrkB b then 0 else 1
def sigN (S : Ip) (n b : Int) : Int := if sigE n b = 0 then numO (lisO S n) else -1
def sigS (S : Ip) (n b : Int) : Ip := if sigE n b = 0 then (match lisO S n with
    | none => { S with lt := fun k => if k = n then some (bits .or .i64 ((S.lt n).getD 0) b) else S.lt k }
    | some t => delS (leaS S t) t (badM b)) else S
def watE (S : Ip) (n t : Int) : Int := if numB n && numB t then (if waiB S t then 150 else 0) else 1
def watG (S : Ip) (n t : Int) : Bool := decide (watE S n t = 0) && litB S n
def watS (S : Ip) (n t : Int) (block : Bool) : Ip := if watE S n t = 0 then (if litB S n then litS (thrS S t) n t else if block then entS (thrS S t) t 5 n else thrS S t) else S
def binE (S : Ip) (n t : Int) : Int := if numB n && numB t then (if (S.bd n).isSome || (!((thrT S t).nt == -1) || (firO S 5 n).isSome) then 130 else 0) else 1
def binS (S : Ip) (n t : Int) : Ip := if numB n && numB t then (if binE S n t = 0 then { thrS S t with L := upd (thrS S t).L t (setN n), bd := fun k => if k = n then some t else S.bd k } else thrS S t) else S
def unbE (S : Ip) (t : Int) : Int := if numB t then (if (thrT S t).nt = -1 then 131 else 0) else 1
def unbS (S : Ip) (t : Int) : Ip := if numB t then (if unbE S t = 0 then { thrS S t with L := upd (thrS S t).L t (setN (-1)), bd := fun k => if k = (thrT S t).nt then none else S.bd k } else thrS S t) else S
def canS (S : Ip) (t : Int) : Ip := if waiB S t then leaS S t else S
def inbM (S : Ip) (t : Int) : Ms := match fnd S.L t with | some x => if x.fu then x.ib else M0 | none => M0
def inbG (S : Ip) (t : Int) : Bool := match fnd S.L t with | some x => x.fu | none => false
def inbS (S : Ip) (t : Int) : Ip := if inbG S t then { S with L := upd S.L t (setI M0 false) } else S
def waiL (S : Ip) (ep : Int) : List Int := S.q 2 ep ++ S.q 3 ep

end Go.Proofs.Ytjobdfkfongjaaa
