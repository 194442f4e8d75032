/-
  The assembler as plain functions on bytes: tokens, lines, sources, what is printed. No program, no statement.
-/
import Derived.Test.YtecipogfdhpjfaaGreatDoorIsaDefs
namespace Go.Proofs.YtecipogfdhpjfaaGreatDoor
open Go.RowKit

/-- A token: a sign, a number, a register's number, a name. -/
inductive Tok where
  | sg (c : UInt8)
  | num (n : Nat)
  | reg (n : Nat)
  | nm (s : List UInt8)
  deriving DecidableEq

def isDig (c : UInt8) : Bool := decide (48 ≤ c.toNat) && decide (c.toNat ≤ 57)
def isWrd (c : UInt8) : Bool := isDig c || (decide (97 ≤ c.toNat) && decide (c.toNat ≤ 122)) || c == 95
def isSgn (c : UInt8) : Bool := c == 58 || c == 44 || c == 91 || c == 93 || c == 43

/-- The number of digits, at most 2^40. -/
def decN (s : List UInt8) : Nat := s.foldl (fun n c => min (10 * n + (c.toNat - 48)) 1099511627776) 0
def plainT (s : List UInt8) : Option Nat := if s = [] ∨ (1 < s.length ∧ s.head? = some 48) then none else if s.all isDig then some (decN s) else none
def hexD (c : UInt8) : Option Nat := if isDig c then some (c.toNat - 48) else if decide (97 ≤ c.toNat) && decide (c.toNat ≤ 102) then some (c.toNat - 87) else none
def hexN : List UInt8 → Nat → Option Nat
  | [], n => some n
  | c :: r, n => match hexD c with | some d => hexN r (16 * n + d) | none => none
def hexT (s : List UInt8) : Option Nat := if s = [] ∨ 8 < s.length then none else hexN s 0
/-- The token of a word; none: it is none. -/
def wordT (s : List UInt8) : Option Tok :=
  match s with
  | 48 :: 120 :: r => (hexT r).map Tok.num
  | c :: r =>
    if isDig c then (plainT (c :: r)).map Tok.num
    else if c = 114 ∧ r ≠ [] ∧ r.all isDig = true then (plainT r).map Tok.reg
    else if s.length ≤ 12 then some (Tok.nm s) else none
  | [] => none

/-- Where a line's reading stands: its tokens so far, the word that is being read, whether something was none. -/
structure Cut where (l : List Tok) (w : List UInt8) (ok : Bool)
def flush (x : Cut) : Cut := if x.w = [] then x else match wordT x.w with | some t => ⟨x.l ++ [t], [], x.ok⟩ | none => ⟨x.l, [], false⟩
def stepC (x : Cut) (c : UInt8) : Cut :=
  if isWrd c then ⟨x.l, x.w ++ [c], x.ok⟩
  else if isSgn c then ⟨(flush x).l ++ [Tok.sg c], [], (flush x).ok⟩
  else if c = 32 then flush x
  else ⟨(flush x).l, [], false⟩
def code (s : List UInt8) : List UInt8 := s.takeWhile (fun c => c != 59)
def cutC (s : List UInt8) : Cut := flush ((code s).foldl stepC ⟨[], [], true⟩)
/-- A line's tokens; none: something is none. -/
def cutT (s : List UInt8) : Option (List Tok) := if (cutC s).ok then some (cutC s).l else none

/-- The mnemonics of the operations 1 to 25. -/
def mnemo : List (List UInt8) := [[109, 111, 118, 105], [97, 100, 100], [115, 117, 98], [97, 110, 100], [120, 111, 114], [115, 104, 108], [108, 100, 114], [115, 116, 114], [108, 100, 114, 98], [115, 116, 114, 98], [98, 101, 113], [98, 110, 101], [98, 108, 116], [106, 109, 112], [106, 97, 108], [106, 114], [104, 118, 99], [115, 118, 99], [109, 114, 115], [109, 115, 114], [119, 102, 105], [105, 97, 114], [101, 111, 105], [116, 108, 98, 105], [110, 111, 112]]
def wordB : List UInt8 := [119, 111, 114, 100]
def mnOf (op : Int) : List UInt8 := if op < 1 ∨ 25 < op then [] else mnemo.getD (op.toNat - 1) []
/-- The operation of a mnemonic: 0 none, -1 word. -/
def opOf (s : List UInt8) : Int := match mnemo.findIdx? (fun m => m == s) with | some i => (i : Int) + 1 | none => if s = wordB then -1 else 0

/-- A line: its label ([]: none); nothing (0), an instruction (1) whose number may be a name, or a word (2). -/
structure Ln6 where (lab : List UInt8) (k : Nat) (o a b c i : Int) (nm : List UInt8) (n : Nat)
  deriving DecidableEq

/-- An operation's operands, a sign each. -/
def shapeB (op : Int) : List UInt8 :=
  if 7 ≤ op ∧ op ≤ 10 then [97, 44, 91, 98, 43, 105]  ++ [93]
  else match kf op with
    | 1 => [97, 44, 105] | 2 => [97, 44, 98, 44, 99] | 3 => [97, 44, 98, 44, 105] | 4 => [105] | 5 => [98] | 6 => [98, 44, 105] | 7 => [97] | _ => []

/-- One operand, by its sign: the error (0, 61, 63), and what the line becomes. -/
def operT (x : Ln6) (c : UInt8) (t : Tok) : Nat × Ln6 :=
  if c = 97 ∨ c = 98 ∨ c = 99 then
    match t with
    | .reg n => if 15 < n then (63, x) else (0, if c = 97 then { x with a := n } else if c = 98 then { x with b := n } else { x with c := n })
    | _ => (61, x)
  else if c = 105 then
    match t with
    | .nm s => (if opOf s ≠ 0 then 61 else 0, { x with nm := s })
    | .num n => if 65535 < n then (63, x) else (0, { x with i := n })
    | _ => (61, x)
  else match t with
    | .sg d => (if d = c then 0 else 61, x)
    | _ => (61, x)

def opersT : List UInt8 → List Tok → Ln6 → Nat → Nat × Ln6
  | [], [], x, e => (e, x)
  | c :: cs, t :: ts, x, e => if (operT x c t).1 = 61 then (61, (operT x c t).2) else opersT cs ts (operT x c t).2 (if (operT x c t).1 ≠ 0 then (operT x c t).1 else e)
  | _, _, x, _ => (61, x)

def itemT (lab : List UInt8) (l : List Tok) : Nat × Ln6 :=
  match l with
  | [] => (0, ⟨lab, 0, 0, 0, 0, 0, 0, [], 0⟩)
  | .nm s :: r =>
    if opOf s = 0 then (61, ⟨lab, 0, 0, 0, 0, 0, 0, [], 0⟩)
    else if opOf s < 0 then
      match r with
      | [.num n] => if 4294967295 < n then (63, ⟨lab, 2, 0, 0, 0, 0, 0, [], 0⟩) else (0, ⟨lab, 2, 0, 0, 0, 0, 0, [], n⟩)
      | _ => (61, ⟨lab, 2, 0, 0, 0, 0, 0, [], 0⟩)
    else opersT (shapeB (opOf s)) r ⟨lab, 1, opOf s, 0, 0, 0, 0, [], 0⟩ 0
  | _ => (61, ⟨lab, 0, 0, 0, 0, 0, 0, [], 0⟩)

/-- A line of tokens: the error, and the line. -/
def readT (l : List Tok) : Nat × Ln6 :=
  match l with
  | .nm s :: .sg 58 :: r => if opOf s ≠ 0 then (61, ⟨s, 0, 0, 0, 0, 0, 0, [], 0⟩) else itemT s r
  | _ => itemT [] l
/-- A line of bytes. -/
def lineT (s : List UInt8) : Nat × Ln6 := match cutT s with | some l => readT l | none => (60, ⟨[], 0, 0, 0, 0, 0, 0, [], 0⟩)

/-- A text at its bytes 10. -/
def splitB : List UInt8 → List (List UInt8)
  | [] => [[]]
  | c :: r => if c = 10 then [] :: splitB r else match splitB r with | [] => [[c]] | x :: xs => (c :: x) :: xs

/-- The first line that is wrong, from n on, and its error. -/
def firstE : List (List UInt8) → Nat → Option (Nat × Nat)
  | [], _ => none
  | s :: r, n => if (lineT s).1 ≠ 0 then some (n, (lineT s).1) else firstE r (n + 1)
def linesT (l : List (List UInt8)) : List Ln6 := l.map (fun s => (lineT s).2)
/-- The first line whose label was there before. -/
def twiceE : List (List UInt8) → List Ln6 → Nat → Option Nat
  | _, [], _ => none
  | seen, x :: r, n => if x.lab ≠ [] ∧ x.lab ∈ seen then some n else twiceE (x.lab :: seen) r (n + 1)
/-- The address of a label; none: it is none. -/
def addrT (lab : List UInt8) : List Ln6 → Nat → Option Nat
  | [], _ => none
  | x :: r, at_ => if x.lab = lab then some at_ else addrT lab r (if x.k ≠ 0 then at_ + 4 else at_)
def immT (all : List Ln6) (base : Nat) (x : Ln6) : Option Int := if x.nm = [] then some x.i else match addrT x.nm all base with | some v => if 65535 < v then none else some v | none => none
/-- The words of the lines, or the first line with a wrong name. -/
def wordsT (all : List Ln6) (base : Nat) : List Ln6 → Nat → List Int → Except Nat (List Int)
  | [], _, out => .ok out
  | x :: r, n, out =>
    if x.k = 0 then wordsT all base r (n + 1) out
    else if x.k = 2 then wordsT all base r (n + 1) (out ++ [(x.n : Int)])
    else match immT all base x with
      | some v => wordsT all base r (n + 1) (out ++ [encW x.o x.a x.b x.c v])
      | none => .error n

/-- What Assemble tells: words, line, error. -/
structure Asm where (ws : List Int) (line : Nat) (e : Nat)
  deriving DecidableEq
def asmT (base : Int) (src : List UInt8) : Asm :=
  if base < 0 ∨ 65535 < base then ⟨[], 0, 1⟩
  else if 4000 < src.length then ⟨[], 0, 2⟩
  else match firstE (splitB src) 1 with
    | some (n, e) => ⟨[], n, e⟩
    | none => match twiceE [] (linesT (splitB src)) 1 with
      | some n => ⟨[], n, 62⟩
      | none => match wordsT (linesT (splitB src)) base.toNat (linesT (splitB src)) 1 [] with
        | .ok ws => ⟨ws, 0, 0⟩
        | .error n => ⟨[], n, 62⟩

/-- A number from 0 on, written. -/
def decB (n : Nat) : List UInt8 := if h : n < 10 then [UInt8.ofNat (48 + n)] else decB (n / 10) ++ [UInt8.ofNat (48 + n % 10)]
  termination_by n
  decreasing_by omega

def regB (n : Int) : List UInt8 := 114 :: decB n.toNat
def operB (a b c i : Int) (s : UInt8) : List UInt8 :=
  if s = 97 then regB a else if s = 98 then regB b else if s = 99 then regB c else if s = 105 then decB i.toNat else if s = 44 then [44, 32] else if s = 43 then [32, 43, 32] else [s]
/-- An instruction, written. -/
def insB (o a b c i : Int) : List UInt8 := mnOf o ++ (if shapeB o = [] then [] else 32 :: (shapeB o).flatMap (operB a b c i))
def hexB (n : Nat) : UInt8 := if n < 10 then UInt8.ofNat (48 + n) else UInt8.ofNat (87 + n)
def rawB (w : Nat) : List UInt8 := [119, 111, 114, 100, 32, 48, 120] ++ [hexB (w / 268435456 % 16), hexB (w / 16777216 % 16), hexB (w / 1048576 % 16), hexB (w / 65536 % 16), hexB (w / 4096 % 16), hexB (w / 256 % 16), hexB (w / 16 % 16), hexB (w % 16)]
def printL (w : Nat) : List UInt8 := if decOk w then insB (qo w) (qa w) (qb w) (qc w) (qi w) else rawB w
/-- Words, written. -/
def printB (ws : List Nat) : List UInt8 := ws.flatMap (fun w => printL w ++ [10])

end Go.Proofs.YtecipogfdhpjfaaGreatDoor
