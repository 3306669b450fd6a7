/- What ere.Parse answers, as functions on what isn't read yet. -/
import Derived.Test.YtbfekknhmjndaaaGreatRead
namespace Go.Proofs.YtbfekknhmjndaaaGreat.spec
set_option linter.unusedVariables false set_option linter.unusedSimpArgs false
open Go.Proofs.YtbfekknhmjndaaaGreat.base Go.Proofs.YtbfekknhmjndaaaGreat.read

/-- Trees, one behind the other. -/
inductive Forest
  | nil
  | cons (op set : ByteArray) (lo hi : Int) (kids rest : Forest)
/-- A tree. -/
structure T where
  op : ByteArray
  set : ByteArray
  lo : Int
  hi : Int
  kids : Forest
/-- A tree and its size. -/
structure Part where
  t : T
  n : Nat
def Forest.snoc : Forest → T → Forest
  | .nil, t => .cons t.op t.set t.lo t.hi t.kids .nil
  | .cons op set lo hi k r, t => .cons op set lo hi k (r.snoc t)
def Forest.len : Forest → Nat
  | .nil => 0
  | .cons _ _ _ _ _ r => r.len + 1
theorem Forest.len_snoc (f : Forest) (t : T) : (f.snoc t).len = f.len + 1 := by
  induction f with
  | nil => rfl
  | cons op set lo hi k r _ ih => simp only [Forest.snoc, Forest.len, ih]
/-- The one tree that a list has. -/
def Forest.head : Forest → T
  | .nil => ⟨⟨#[]⟩, ⟨#[]⟩, 0, 0, .nil⟩
  | .cons op set lo hi k _ => ⟨op, set, lo, hi, k⟩

inductive Res (α : Type)
  | ok (a : α) (l : List UInt8)
  | bad (f : Nat)

def zT : T := ⟨⟨#[]⟩, ⟨#[]⟩, 0, 0, .nil⟩
def setW : ByteArray := ⟨#[115, 101, 116]⟩
def bolW : ByteArray := ⟨#[98, 111, 108]⟩
def eolW : ByteArray := ⟨#[101, 111, 108]⟩
def repW : ByteArray := ⟨#[114, 101, 112]⟩
def catW : ByteArray := ⟨#[99, 97, 116]⟩
def altW : ByteArray := ⟨#[97, 108, 116]⟩

def sizedP (t : T) (n : Nat) : Part := if 2000 < n then ⟨zT, 2001⟩ else ⟨t, n⟩
def oneP (c : UInt8) : Part := ⟨⟨setW, ⟨#[c]⟩, 0, 0, .nil⟩, 1⟩
/-- The bytes of a set, rising. -/
def setText (f : Nat → Bool) : List UInt8 := ((List.range 256).filter f).map UInt8.ofNat
def setP (f : Nat → Bool) : Part := ⟨⟨setW, ⟨(setText f).toArray⟩, 0, 0, .nil⟩, 1⟩
def edgeP (op : ByteArray) : Part := ⟨⟨op, ⟨#[]⟩, 0, 0, .nil⟩, 1⟩
def timesOf (lo hi : Int) : Nat := if hi = -1 then (lo + 1).toNat else (max 1 hi).toNat
def repP (p : Part) (lo hi : Int) : Part := if 2000 < p.n then p else sizedP ⟨repW, ⟨#[]⟩, lo, hi, Forest.nil.snoc p.t⟩ (p.n * timesOf lo hi + 1)

/-- The parts of a cat or an alt. -/
structure Row where
  kids : Forest
  n : Nat
def Row.add (r : Row) (p : Part) : Row := if r.n + p.n < 2001 then ⟨r.kids.snoc p.t, r.n + p.n⟩ else ⟨.nil, 2001⟩
def Row.join (r : Row) (op : ByteArray) (own : Nat) : Part := if r.kids.len = 1 then ⟨r.kids.head, r.n⟩ else sizedP ⟨op, ⟨#[]⟩, 0, 0, r.kids⟩ (r.n + own)
def row0 : Row := ⟨.nil, 0⟩

/-- Up to k digits of base 8: their number, whether there is one, and the rest. -/
def octF : Nat → Nat → Bool → List UInt8 → Nat × Bool × List UInt8
  | 0, sum, sm, l => (sum, sm, l)
  | k + 1, sum, sm, l => match dgt 8 l with
    | none => (sum, sm, l)
    | some (n, t) => octF k (sum * 8 + n) true t
def escByte (c : UInt8) : UInt8 :=
  if c = 97 then 7 else if c = 98 then 8 else if c = 102 then 12 else if c = 110 then 10 else if c = 114 then 13 else if c = 116 then 9 else if c = 118 then 11 else c
/-- What is behind a backslash. -/
def esc (l : List UInt8) : Res UInt8 := match l with
  | [] => .bad 4
  | c :: t => if (octF 3 0 false (c :: t)).2.1 then .ok (UInt8.ofNat (octF 3 0 false (c :: t)).1) (octF 3 0 false (c :: t)).2.2 else .ok (escByte c) t

def atRep (l : List UInt8) : Bool := hd l 42 || hd l 43 || hd l 63 || (hd l 123 && (dgt 10 l.tail).isSome)
/-- Digits: their number up to 256, whether there is one, and the rest. -/
def cnt (sum : Nat) (sm : Bool) : List UInt8 → Nat × Bool × List UInt8
  | [] => (sum, sm, [])
  | x :: t => if (x - 48).toNat < 10 then cnt (min (sum * 10 + (x - 48).toNat) 256) true t else (sum, sm, x :: t)
/-- A count: none, if it isn't there or is too great. -/
def count (l : List UInt8) : Option (Nat × List UInt8) := if (cnt 0 false l).2.1 && decide ((cnt 0 false l).1 ≤ 255) then some ((cnt 0 false l).1, (cnt 0 false l).2.2) else none
/-- What is behind the comma. -/
def upper (lo : Nat) (l : List UInt8) : Option (Int × List UInt8) :=
  if hd l 125 then some (-1, l) else match count l with
    | none => none
    | some (hi, l') => if lo ≤ hi then some ((hi : Int), l') else none
def interval (l : List UInt8) : Option ((Nat × Int) × List UInt8) := match count l with
  | none => none
  | some (lo, l1) =>
    if hd l1 44 then match upper lo l1.tail with
      | none => none
      | some (hi, l2) => if hd l2 125 then some ((lo, hi), l2.tail) else none
    else if hd l1 125 then some ((lo, (lo : Int)), l1.tail) else none
def repeatL (p : Part) (l : List UInt8) : Res Part := match l with
  | [] => .bad 0
  | c :: t => if c = 42 then .ok (repP p 0 (-1)) t else if c = 43 then .ok (repP p 1 (-1)) t else if c = 63 then .ok (repP p 0 1) t else match interval t with
    | none => .bad 3
    | some ((lo, hi), t') => .ok (repP p lo hi) t'

/-- The bytes of a class as pairs. -/
def pairs (name : List UInt8) : List UInt8 :=
  if name = [97, 108, 112, 104, 97] then [65, 90, 97, 122]
  else if name = [100, 105, 103, 105, 116] then [48, 57]
  else if name = [97, 108, 110, 117, 109] then [48, 57, 65, 90, 97, 122]
  else if name = [117, 112, 112, 101, 114] then [65, 90]
  else if name = [108, 111, 119, 101, 114] then [97, 122]
  else if name = [115, 112, 97, 99, 101] then [9, 13, 32, 32]
  else if name = [98, 108, 97, 110, 107] then [9, 9, 32, 32]
  else if name = [112, 117, 110, 99, 116] then [33, 47, 58, 64, 91, 96, 123, 126]
  else if name = [112, 114, 105, 110, 116] then [32, 126]
  else if name = [103, 114, 97, 112, 104] then [33, 126]
  else if name = [99, 110, 116, 114, 108] then [0, 31, 127, 127]
  else if name = [120, 100, 105, 103, 105, 116] then [48, 57, 65, 70, 97, 102]
  else []
def addF (f : Nat → Bool) (lo hi : UInt8) : Nat → Bool := fun k => f k || (decide (lo.toNat ≤ k) && decide (k ≤ hi.toNat))
def addPairs (f : Nat → Bool) : List UInt8 → (Nat → Bool)
  | lo :: hi :: t => addPairs (addF f lo hi) t
  | _ => f
def atRange (l : List UInt8) : Bool := hd l 45 && !pre2 l 45 93
/-- An item that is a byte. -/
def itemByte (l : List UInt8) : Res UInt8 := match l with
  | [] => .bad 2
  | c :: t => if c = 92 then esc t else .ok c t
def rangeEnd (l : List UInt8) : Res UInt8 := if pre2 l 91 58 then .bad 2 else itemByte l
/-- What is ahead of the first :], and what is behind it. -/
def cutC : List UInt8 → Option (List UInt8 × List UInt8)
  | [] => none
  | [x] => none
  | x :: y :: t => if x = 58 ∧ y = 93 then some ([], t) else (cutC (y :: t)).map fun p => (x :: p.1, p.2)
def classItem (f : Nat → Bool) (l : List UInt8) : Res (Nat → Bool) := match cutC (l.drop 2) with
  | none => .bad 2
  | some (name, rest) => if pairs name = [] then .bad 2 else if atRange rest then .bad 2 else .ok (addPairs f (pairs name)) rest
def item (f : Nat → Bool) (l : List UInt8) : Res (Nat → Bool) :=
  if pre2 l 91 58 then classItem f l else match itemByte l with
    | .bad e => .bad e
    | .ok lo l1 => if atRange l1 then match rangeEnd l1.tail with
        | .bad e => .bad e
        | .ok hi l2 => if hi < lo then .bad 2 else .ok (addF f lo hi) l2
      else .ok (addF f lo lo) l1
/-- The items of a set. -/
def items : Nat → Bool → (Nat → Bool) → List UInt8 → Res (Nat → Bool)
  | 0, _, _, _ => .bad 0
  | n + 1, first, f, l => if !first && hd l 93 then .ok f l.tail else match item f l with
    | .bad e => .bad e
    | .ok f' l' => items n false f' l'
def emptyF : Nat → Bool := fun _ => false
def bracket (l : List UInt8) : Res Part :=
  if hd l 94 then match items (l.length + 1) true emptyF l.tail with
    | .bad e => .bad e
    | .ok f l' => .ok (setP fun k => !f k) l'
  else match items (l.length + 1) true emptyF l with
    | .bad e => .bad e
    | .ok f l' => .ok (setP f) l'

section
variable (g : List UInt8 → Res Part)
def atom (l : List UInt8) : Res Part := if atRep l then .bad 3 else match l with
  | [] => .bad 0
  | c :: t => if c = 40 then g t else if c = 91 then bracket t else if c = 92 then (match esc t with
      | .bad e => .bad e
      | .ok b t' => .ok (oneP b) t')
    else if c = 46 then .ok (setP fun k => !emptyF k) t else if c = 94 then .ok (edgeP bolW) t else if c = 36 then .ok (edgeP eolW) t else .ok (oneP c) t
def repsF : Nat → Part → List UInt8 → Res Part
  | 0, _, _ => .bad 0
  | n + 1, p, l => if atRep l then match repeatL p l with
      | .bad e => .bad e
      | .ok p' l' => repsF n p' l'
    else .ok p l
def piece (l : List UInt8) : Res Part := match atom g l with
  | .bad e => .bad e
  | .ok p l' => repsF (l'.length + 1) p l'
def ends (l : List UInt8) : Bool := l.isEmpty || hd l 124 || hd l 41
def branchF : Nat → Row → List UInt8 → Res Row
  | 0, _, _ => .bad 0
  | n + 1, r, l => if ends l then .ok r l else match piece g l with
    | .bad e => .bad e
    | .ok p l' => branchF n (r.add p) l'
def branch (l : List UInt8) : Res Part := match branchF g (l.length + 1) row0 l with
  | .bad e => .bad e
  | .ok r l' => .ok (r.join catW 0) l'
def exprF : Nat → Row → List UInt8 → Res Row
  | 0, _, _ => .bad 0
  | n + 1, r, l => match branch g l with
    | .bad e => .bad e
    | .ok p l' => if hd l' 124 then exprF n (r.add p) l'.tail else .ok (r.add p) l'
def expr (l : List UInt8) : Res Part := match exprF g (l.length + 1) row0 l with
  | .bad e => .bad e
  | .ok r l' => .ok (r.join altW 1) l'
end
/-- What is behind a (, where d groups more may be opened. -/
def groupN : Nat → List UInt8 → Res Part
  | 0 => fun _ => .bad 1
  | d + 1 => fun l => match expr (groupN d) l with
    | .bad e => .bad e
    | .ok p l' => if hd l' 41 then .ok p l'.tail else .bad 1
def parse (l : List UInt8) : T × Nat := match expr (groupN 100) l with
  | .bad e => (zT, e)
  | .ok p l' => if !l'.isEmpty then (zT, 1) else if 2000 < p.n then (zT, 5) else (p.t, 0)
end Go.Proofs.YtbfekknhmjndaaaGreat.spec
