/- Worlds that differ in named blocks alone; boxes (variables in memory); the reader of ere, and what only reads it. Contracts of the reader's small calls: sees, next, take, digit. What ere.Parse answers, as functions on what isn't read yet. Contracts of octal, escape, count, upper, interval, atRepeat. Contracts of count, upper, interval, atRepeat. Contracts of interval where there is none, and of atRepeat. Contracts of sets of bytes: add, others, text. Trees in memory, and the contracts of ere's parts: big, sized, oneByte, setOf, edge, repeated. Contracts of ere's repeated, row.add, row.join. Contract of ere's row.add. Contracts of ere's row.add where the row grows too big, and of row.join. Contracts of a set's items: itemByte, atRange, rangeEnd, classPairs. Contracts of a set's items: classItem, item. Contract of ere's item of a set. Contract of ere's bracket. Contracts of ere's repeat, escaped and atom. Contracts of ere's escaped and atom. What each reader leaves is shorter than what it met. Contract of ere's piece. Contracts of ere's branch and expression. Contract of ere's expression. Contract of ere's group. Contract of ere.Parse. What ere.Parse answers of a set and of its opposite. A text that goes on with a ) is read as the text itself, up to there. -/
import Derived.Test.YtacbpdnpepgngaaProg
import Derived.Test.YtacbpdnpepgngaaKit
import Derived.OpenShut
import Derived.Outline
import Derived.Handy
import Derived.Deep.RegionWith
import Derived.Lib.Strings
import Derived.Lib.Index
import Derived.Lib.MinMax
import Derived.Deep.WholeRow
import Derived.Deep.RegionLaw
import Derived.Deep.AppendLies
import Derived.Deep.DrawnRows
import Derived.Deep.RegionHeld3

namespace Go.Proofs.Ytacbpdnpepgngaa.base
set_option linter.unusedVariables false set_option linter.unusedSimpArgs false
open Go.ChangeShapes Go.WideShapes Go.ChangeAt Go.RowKit

/-- Behind w every block of w stands in w' as it stood, those of S aside. -/
structure Frm (S : Nat → Prop) (w w' : World) : Prop where
  os : w'.os = w.os
  tape : w'.tape = w.tape
  output : w'.output = w.output
  size : w.heap.size ≤ w'.heap.size
  block : ∀ k, k < w.heap.size → ¬ S k → w'.heap[k]? = w.heap[k]?

/-- No block. -/
def No : Nat → Prop := fun _ => False
/-- This block. -/
def At (R : Nat) : Nat → Prop := fun k => k = R
/-- These two. -/
def At2 (R Q : Nat) : Nat → Prop := fun k => k = R ∨ k = Q

theorem Frm.refl (S : Nat → Prop) (w : World) : Frm S w w := ⟨rfl, rfl, rfl, Nat.le_refl _, fun _ _ _ => rfl⟩
theorem Frm.then {S S' : Nat → Prop} {a b c : World} (h : Frm S a b) (k : Frm S' b c) (hs : ∀ k, k < a.heap.size → S' k → S k) : Frm S a c :=
  ⟨k.os.trans h.os, k.tape.trans h.tape, k.output.trans h.output, Nat.le_trans h.size k.size, fun i hi hn => (k.block i (Nat.lt_of_lt_of_le hi h.size) (fun hx => hn (hs i hi hx))).trans (h.block i hi hn)⟩
theorem Frm.trans {S : Nat → Prop} {a b c : World} (h : Frm S a b) (k : Frm S b c) : Frm S a c := h.then k (fun _ _ h => h)
theorem Frm.mono {S S' : Nat → Prop} {a b : World} (h : Frm S a b) (hs : ∀ k, k < a.heap.size → S k → S' k) : Frm S' a b :=
  ⟨h.os, h.tape, h.output, h.size, fun i hi hn => h.block i hi (fun hx => hn (hs i hi hx))⟩
theorem Frm.alloc {S : Nat → Prop} {a w : World} (h : Frm S a w) (o : Obj) : Frm S a (w.alloc o) :=
  h.then (S' := No) ⟨rfl, rfl, rfl, by simp, fun k hk _ => Below.heap_alloc _ _ _ hk⟩ (fun _ _ h => h.elim)
theorem Frm.drew {S : Nat → Prop} {a w : World} (h : Frm S a w) : Frm S a w.drew := ⟨h.os, h.tape, h.output, h.size, h.block⟩
theorem Frm.drewN {S : Nat → Prop} {a w : World} (h : Frm S a w) (n : Nat) : Frm S a (w.drewN n) := ⟨h.os, h.tape, h.output, h.size, h.block⟩
theorem Frm.setCell {S : Nat → Prop} {a w : World} (h : Frm S a w) (p : Addr) (u : Value) (hp : p.block < a.heap.size → S p.block) : Frm S a (w.setCell p u) :=
  h.then (S' := At p.block) ⟨rfl, rfl, rfl, by simp [World.setCell], fun k _ hk => Below.heap_setCell _ _ _ _ hk⟩ (fun k hk e => by cases e; exact hp hk)
theorem Frm.grown {S : Nat → Prop} {a w w' : World} {row : Option Nat} (h : Frm S a w) (hg : w.grownBy w' row) (hr : ∀ k, row = some k → k < a.heap.size → S k) : Frm S a w' :=
  h.then (S' := fun k => row = some k) ⟨hg.os, hg.tape, hg.output, hg.size, fun k hk hn => hg.block k hk (fun e => hn e.symm)⟩ (fun k hk e => hr k e hk)

/-- Block b holds these cells, and none of them is frozen. -/
def Box (w : World) (b : Nat) (T : TypeId) (C : Array Value) : Prop := w.heap[b]? = some (.cells C T (0, 0))
theorem Box.lt {w : World} {b : Nat} {T : TypeId} {C : Array Value} (h : Box w b T C) : b < w.heap.size := (Array.getElem?_eq_some_iff.1 h).1
theorem Box.cell {w : World} {b : Nat} {T : TypeId} {C : Array Value} (h : Box w b T C) (j : Nat) : w.cell? ⟨b, j, none⟩ = C[j]? := by simp [World.cell?, show w.heap[b]? = _ from h]
theorem Box.f {w : World} {b : Nat} {T : TypeId} {C : Array Value} (h : Box w b T C) (o : Nat) : w.frozen? ⟨b, o, none⟩ = false := by simp [World.frozen?, show w.heap[b]? = _ from h]
theorem Box.new (w : World) (T : TypeId) (C : Array Value) : Box (w.alloc (.cells C T)) w.heap.size T C := heap_alloc_new w _
theorem Box.alloc {w : World} {b : Nat} {T : TypeId} {C : Array Value} (h : Box w b T C) (o : Obj) : Box (w.alloc o) b T C := (Below.heap_alloc w o b h.lt).trans h
theorem Box.drew {w : World} {b : Nat} {T : TypeId} {C : Array Value} (h : Box w b T C) : Box w.drew b T C := h
theorem Box.frm {S : Nat → Prop} {w w' : World} {b : Nat} {T : TypeId} {C : Array Value} (h : Box w b T C) (k : Frm S w w') (hs : ¬ S b) : Box w' b T C := (k.block b h.lt hs).trans h
theorem Box.set_ne {w : World} {b b2 o : Nat} {T : TypeId} {C : Array Value} (h : Box w b T C) (z : Value) (hne : b2 ≠ b) : Box (w.setCell ⟨b2, o, none⟩ z) b T C :=
  (Below.heap_setCell w ⟨b2, o, none⟩ z b (fun e => hne e.symm)).trans h
theorem Box.set {w : World} {b : Nat} {T : TypeId} {C : Array Value} (h : Box w b T C) (o : Nat) (z : Value) : Box (w.setCell ⟨b, o, none⟩ z) b T (C.setIfInBounds o z) :=
  heap_setCell_same w b o _ T z h

/-- What isn't read yet. -/
def sx (s : ByteArray) (i : Nat) : List UInt8 := s.data.toList.drop i
theorem sx_len (s : ByteArray) (i : Nat) : (sx s i).length = s.size - i := by simp [sx]
theorem sx_cons (s : ByteArray) (i : Nat) (h : i < s.size) : sx s i = s[i] :: sx s (i + 1) := by
  unfold sx
  rw [List.drop_eq_getElem_cons (by simpa using h)]
  rfl
theorem sx_nil (s : ByteArray) (i : Nat) (h : s.size ≤ i) : sx s i = [] := List.drop_eq_nil_of_le (by simpa using h)
theorem sx_lt {s : ByteArray} {i : Nat} {c : UInt8} {l : List UInt8} (h : sx s i = c :: l) : i < s.size := by
  have := congrArg List.length h
  rw [sx_len] at this
  simp at this
  omega
theorem sx_hd {s : ByteArray} {i : Nat} {c : UInt8} {l : List UInt8} (h : sx s i = c :: l) : s[i]'(sx_lt h) = c := by
  rw [sx_cons s i (sx_lt h)] at h
  exact (List.cons.inj h).1
theorem sx_tl {s : ByteArray} {i : Nat} {c : UInt8} {l : List UInt8} (h : sx s i = c :: l) : sx s (i + 1) = l := by
  rw [sx_cons s i (sx_lt h)] at h
  exact (List.cons.inj h).2
/-- Does c come next? -/
def hd (l : List UInt8) (c : UInt8) : Bool := match l with
  | [] => false
  | x :: _ => x == c

theorem u8_beq (a b : UInt8) : ((a.toNat : Int) == (b.toNat : Int)) = (a == b) := by
  rw [Bool.eq_iff_iff]
  simp only [beq_iff_eq]
  constructor
  · intro h; exact UInt8.toNat_inj.1 (by omega)
  · intro h; rw [h]

end Go.Proofs.Ytacbpdnpepgngaa.base

namespace Go.Proofs.Ytacbpdnpepgngaa.read
set_option linter.unusedVariables false set_option linter.unusedSimpArgs false
open Go.ChangeShapes Go.WideShapes Go.ChangeAt Go.RowKit Go.Proofs.Ytacbpdnpepgngaa.base

/-- Do a and b come next? -/
def pre2 (l : List UInt8) (a b : UInt8) : Bool := match l with
  | x :: y :: _ => x == a && y == b
  | _ => false

/-- A digit below b, and what is behind it. -/
def dgt (b : Nat) (l : List UInt8) : Option (Nat × List UInt8) := match l with
  | [] => none
  | x :: t => if (x - 48).toNat < b then some ((x - 48).toNat, t) else none

end Go.Proofs.Ytacbpdnpepgngaa.read

namespace Go.Proofs.Ytacbpdnpepgngaa.spec
set_option linter.unusedVariables false set_option linter.unusedSimpArgs false
open Go.Proofs.Ytacbpdnpepgngaa.base Go.Proofs.Ytacbpdnpepgngaa.read

/-- Trees, one behind the other. -/
inductive Forest
  | nil
  | cons (op set : ByteArray) (lo hi : Int) (kids rest : Forest)
/-- A tree. -/
structure T where
  op : ByteArray
  set : ByteArray
  lo : Int
  hi : Int
  kids : Forest
/-- A tree and its size. -/
structure Part where
  t : T
  n : Nat
def Forest.snoc : Forest → T → Forest
  | .nil, t => .cons t.op t.set t.lo t.hi t.kids .nil
  | .cons op set lo hi k r, t => .cons op set lo hi k (r.snoc t)
def Forest.len : Forest → Nat
  | .nil => 0
  | .cons _ _ _ _ _ r => r.len + 1
theorem Forest.len_snoc (f : Forest) (t : T) : (f.snoc t).len = f.len + 1 := by
  induction f with
  | nil => rfl
  | cons op set lo hi k r _ ih => simp only [Forest.snoc, Forest.len, ih]
/-- The one tree that a list has. -/
def Forest.head : Forest → T
  | .nil => ⟨⟨#[]⟩, ⟨#[]⟩, 0, 0, .nil⟩
  | .cons op set lo hi k _ => ⟨op, set, lo, hi, k⟩

inductive Res (α : Type)
  | ok (a : α) (l : List UInt8)
  | bad (f : Nat)

def zT : T := ⟨⟨#[]⟩, ⟨#[]⟩, 0, 0, .nil⟩
def setW : ByteArray := ⟨#[115, 101, 116]⟩
def bolW : ByteArray := ⟨#[98, 111, 108]⟩
def eolW : ByteArray := ⟨#[101, 111, 108]⟩
def repW : ByteArray := ⟨#[114, 101, 112]⟩
def catW : ByteArray := ⟨#[99, 97, 116]⟩
def altW : ByteArray := ⟨#[97, 108, 116]⟩

def sizedP (t : T) (n : Nat) : Part := if 2000 < n then ⟨zT, 2001⟩ else ⟨t, n⟩
def oneP (c : UInt8) : Part := ⟨⟨setW, ⟨#[c]⟩, 0, 0, .nil⟩, 1⟩
/-- The bytes of a set, rising. -/
def setText (f : Nat → Bool) : List UInt8 := ((List.range 256).filter f).map UInt8.ofNat
def setP (f : Nat → Bool) : Part := ⟨⟨setW, ⟨(setText f).toArray⟩, 0, 0, .nil⟩, 1⟩
def edgeP (op : ByteArray) : Part := ⟨⟨op, ⟨#[]⟩, 0, 0, .nil⟩, 1⟩
def timesOf (lo hi : Int) : Nat := if hi = -1 then (lo + 1).toNat else (max 1 hi).toNat
def repP (p : Part) (lo hi : Int) : Part := if 2000 < p.n then p else sizedP ⟨repW, ⟨#[]⟩, lo, hi, Forest.nil.snoc p.t⟩ (p.n * timesOf lo hi + 1)

/-- The parts of a cat or an alt. -/
structure Row where
  kids : Forest
  n : Nat
def Row.add (r : Row) (p : Part) : Row := if r.n + p.n < 2001 then ⟨r.kids.snoc p.t, r.n + p.n⟩ else ⟨.nil, 2001⟩
def Row.join (r : Row) (op : ByteArray) (own : Nat) : Part := if r.kids.len = 1 then ⟨r.kids.head, r.n⟩ else sizedP ⟨op, ⟨#[]⟩, 0, 0, r.kids⟩ (r.n + own)
def row0 : Row := ⟨.nil, 0⟩

/-- Up to k digits of base 8: their number, whether there is one, and the rest. -/
def octF : Nat → Nat → Bool → List UInt8 → Nat × Bool × List UInt8
  | 0, sum, sm, l => (sum, sm, l)
  | k + 1, sum, sm, l => match dgt 8 l with
    | none => (sum, sm, l)
    | some (n, t) => octF k (sum * 8 + n) true t
def escByte (c : UInt8) : UInt8 :=
  if c = 97 then 7 else if c = 98 then 8 else if c = 102 then 12 else if c = 110 then 10 else if c = 114 then 13 else if c = 116 then 9 else if c = 118 then 11 else c
/-- What is behind a backslash. -/
def esc (l : List UInt8) : Res UInt8 := match l with
  | [] => .bad 4
  | c :: t => if (octF 3 0 false (c :: t)).2.1 then .ok (UInt8.ofNat (octF 3 0 false (c :: t)).1) (octF 3 0 false (c :: t)).2.2 else .ok (escByte c) t

def atRep (l : List UInt8) : Bool := hd l 42 || hd l 43 || hd l 63 || (hd l 123 && (dgt 10 l.tail).isSome)
/-- Digits: their number up to 256, whether there is one, and the rest. -/
def cnt (sum : Nat) (sm : Bool) : List UInt8 → Nat × Bool × List UInt8
  | [] => (sum, sm, [])
  | x :: t => if (x - 48).toNat < 10 then cnt (min (sum * 10 + (x - 48).toNat) 256) true t else (sum, sm, x :: t)
/-- A count: none, if it isn't there or is too great. -/
def count (l : List UInt8) : Option (Nat × List UInt8) := if (cnt 0 false l).2.1 && decide ((cnt 0 false l).1 ≤ 255) then some ((cnt 0 false l).1, (cnt 0 false l).2.2) else none
/-- What is behind the comma. -/
def upper (lo : Nat) (l : List UInt8) : Option (Int × List UInt8) :=
  if hd l 125 then some (-1, l) else match count l with
    | none => none
    | some (hi, l') => if lo ≤ hi then some ((hi : Int), l') else none
def interval (l : List UInt8) : Option ((Nat × Int) × List UInt8) := match count l with
  | none => none
  | some (lo, l1) =>
    if hd l1 44 then match upper lo l1.tail with
      | none => none
      | some (hi, l2) => if hd l2 125 then some ((lo, hi), l2.tail) else none
    else if hd l1 125 then some ((lo, (lo : Int)), l1.tail) else none
def repeatL (p : Part) (l : List UInt8) : Res Part := match l with
  | [] => .bad 0
  | c :: t => if c = 42 then .ok (repP p 0 (-1)) t else if c = 43 then .ok (repP p 1 (-1)) t else if c = 63 then .ok (repP p 0 1) t else match interval t with
    | none => .bad 3
    | some ((lo, hi), t') => .ok (repP p lo hi) t'

/-- The bytes of a class as pairs. -/
def pairs (name : List UInt8) : List UInt8 :=
  if name = [97, 108, 112, 104, 97] then [65, 90, 97, 122]
  else if name = [100, 105, 103, 105, 116] then [48, 57]
  else if name = [97, 108, 110, 117, 109] then [48, 57, 65, 90, 97, 122]
  else if name = [117, 112, 112, 101, 114] then [65, 90]
  else if name = [108, 111, 119, 101, 114] then [97, 122]
  else if name = [115, 112, 97, 99, 101] then [9, 13, 32, 32]
  else if name = [98, 108, 97, 110, 107] then [9, 9, 32, 32]
  else if name = [112, 117, 110, 99, 116] then [33, 47, 58, 64, 91, 96, 123, 126]
  else if name = [112, 114, 105, 110, 116] then [32, 126]
  else if name = [103, 114, 97, 112, 104] then [33, 126]
  else if name = [99, 110, 116, 114, 108] then [0, 31, 127, 127]
  else if name = [120, 100, 105, 103, 105, 116] then [48, 57, 65, 70, 97, 102]
  else []
def addF (f : Nat → Bool) (lo hi : UInt8) : Nat → Bool := fun k => f k || (decide (lo.toNat ≤ k) && decide (k ≤ hi.toNat))
def addPairs (f : Nat → Bool) : List UInt8 → (Nat → Bool)
  | lo :: hi :: t => addPairs (addF f lo hi) t
  | _ => f
def atRange (l : List UInt8) : Bool := hd l 45 && !pre2 l 45 93
/-- An item that is a byte. -/
def itemByte (l : List UInt8) : Res UInt8 := match l with
  | [] => .bad 2
  | c :: t => if c = 92 then esc t else .ok c t
def rangeEnd (l : List UInt8) : Res UInt8 := if pre2 l 91 58 then .bad 2 else itemByte l
/-- What is ahead of the first :], and what is behind it. -/
def cutC : List UInt8 → Option (List UInt8 × List UInt8)
  | [] => none
  | [x] => none
  | x :: y :: t => if x = 58 ∧ y = 93 then some ([], t) else (cutC (y :: t)).map fun p => (x :: p.1, p.2)
def classItem (f : Nat → Bool) (l : List UInt8) : Res (Nat → Bool) := match cutC (l.drop 2) with
  | none => .bad 2
  | some (name, rest) => if pairs name = [] then .bad 2 else if atRange rest then .bad 2 else .ok (addPairs f (pairs name)) rest
def item (f : Nat → Bool) (l : List UInt8) : Res (Nat → Bool) :=
  if pre2 l 91 58 then classItem f l else match itemByte l with
    | .bad e => .bad e
    | .ok lo l1 => if atRange l1 then match rangeEnd l1.tail with
        | .bad e => .bad e
        | .ok hi l2 => if hi < lo then .bad 2 else .ok (addF f lo hi) l2
      else .ok (addF f lo lo) l1
/-- The items of a set. -/
def items : Nat → Bool → (Nat → Bool) → List UInt8 → Res (Nat → Bool)
  | 0, _, _, _ => .bad 0
  | n + 1, first, f, l => if !first && hd l 93 then .ok f l.tail else match item f l with
    | .bad e => .bad e
    | .ok f' l' => items n false f' l'
def emptyF : Nat → Bool := fun _ => false
def bracket (l : List UInt8) : Res Part :=
  if hd l 94 then match items (l.length + 1) true emptyF l.tail with
    | .bad e => .bad e
    | .ok f l' => .ok (setP fun k => !f k) l'
  else match items (l.length + 1) true emptyF l with
    | .bad e => .bad e
    | .ok f l' => .ok (setP f) l'

section
variable (g : List UInt8 → Res Part)
def atom (l : List UInt8) : Res Part := if atRep l then .bad 3 else match l with
  | [] => .bad 0
  | c :: t => if c = 40 then g t else if c = 91 then bracket t else if c = 92 then (match esc t with
      | .bad e => .bad e
      | .ok b t' => .ok (oneP b) t')
    else if c = 46 then .ok (setP fun k => !emptyF k) t else if c = 94 then .ok (edgeP bolW) t else if c = 36 then .ok (edgeP eolW) t else .ok (oneP c) t
def repsF : Nat → Part → List UInt8 → Res Part
  | 0, _, _ => .bad 0
  | n + 1, p, l => if atRep l then match repeatL p l with
      | .bad e => .bad e
      | .ok p' l' => repsF n p' l'
    else .ok p l
def piece (l : List UInt8) : Res Part := match atom g l with
  | .bad e => .bad e
  | .ok p l' => repsF (l'.length + 1) p l'
def ends (l : List UInt8) : Bool := l.isEmpty || hd l 124 || hd l 41
def branchF : Nat → Row → List UInt8 → Res Row
  | 0, _, _ => .bad 0
  | n + 1, r, l => if ends l then .ok r l else match piece g l with
    | .bad e => .bad e
    | .ok p l' => branchF n (r.add p) l'
def branch (l : List UInt8) : Res Part := match branchF g (l.length + 1) row0 l with
  | .bad e => .bad e
  | .ok r l' => .ok (r.join catW 0) l'
def exprF : Nat → Row → List UInt8 → Res Row
  | 0, _, _ => .bad 0
  | n + 1, r, l => match branch g l with
    | .bad e => .bad e
    | .ok p l' => if hd l' 124 then exprF n (r.add p) l'.tail else .ok (r.add p) l'
def expr (l : List UInt8) : Res Part := match exprF g (l.length + 1) row0 l with
  | .bad e => .bad e
  | .ok r l' => .ok (r.join altW 1) l'
end
/-- What is behind a (, where d groups more may be opened. -/
def groupN : Nat → List UInt8 → Res Part
  | 0 => fun _ => .bad 1
  | d + 1 => fun l => match expr (groupN d) l with
    | .bad e => .bad e
    | .ok p l' => if hd l' 41 then .ok p l'.tail else .bad 1
def parse (l : List UInt8) : T × Nat := match expr (groupN 100) l with
  | .bad e => (zT, e)
  | .ok p l' => if !l'.isEmpty then (zT, 1) else if 2000 < p.n then (zT, 5) else (p.t, 0)
end Go.Proofs.Ytacbpdnpepgngaa.spec

namespace Go.Proofs.Ytacbpdnpepgngaa.nums
set_option linter.unusedVariables false set_option linter.unusedSimpArgs false
open Go.ChangeShapes Go.WideShapes Go.ChangeAt Go.RowKit Go.Proofs.Ytacbpdnpepgngaa.base Go.Proofs.Ytacbpdnpepgngaa.read Go.Proofs.Ytacbpdnpepgngaa.spec

theorem octF_true (k s : Nat) (l : List UInt8) : (octF k s true l).2.1 = true := by
  induction k generalizing s l with
  | zero => rfl
  | succ k ih =>
    simp only [octF]
    split
    · rfl
    · exact ih _ _
theorem octF_no (l : List UInt8) (h : (octF 3 0 false l).2.1 = false) : octF 3 0 false l = (0, false, l) := by
  cases hd : dgt 8 l with
  | none => show octF (2 + 1) 0 false l = _; rw [octF, hd]
  | some p =>
    have e : octF 3 0 false l = octF 2 (0 * 8 + p.1) true p.2 := by show octF (2 + 1) 0 false l = _; rw [octF, hd]
    rw [e, octF_true] at h
    cases h

end Go.Proofs.Ytacbpdnpepgngaa.nums

namespace Go.Proofs.Ytacbpdnpepgngaa.nums
set_option linter.unusedVariables false set_option linter.unusedSimpArgs false
open Go.ChangeShapes Go.WideShapes Go.ChangeAt Go.RowKit Go.Proofs.Ytacbpdnpepgngaa.base Go.Proofs.Ytacbpdnpepgngaa.read Go.Proofs.Ytacbpdnpepgngaa.spec

/-- How many bytes aren't read yet, told by the memory. -/
def left (R : Nat) (s : ByteArray) (w : World) : Nat := s.size - (intOf ((w.cell? ⟨R, 1, none⟩).getD (.bool false))).toNat

end Go.Proofs.Ytacbpdnpepgngaa.nums

namespace Go.Proofs.Ytacbpdnpepgngaa.nums
set_option linter.unusedVariables false set_option linter.unusedSimpArgs false
open Go.ChangeShapes Go.WideShapes Go.ChangeAt Go.RowKit Go.Proofs.Ytacbpdnpepgngaa.base Go.Proofs.Ytacbpdnpepgngaa.read Go.Proofs.Ytacbpdnpepgngaa.spec

theorem hd_cons {l : List UInt8} {c : UInt8} (h : hd l c = true) : ∃ t, l = c :: t := by
  cases l with
  | nil => cases h
  | cons x t => simp only [hd, beq_iff_eq] at h; exact ⟨t, by rw [h]⟩

end Go.Proofs.Ytacbpdnpepgngaa.nums

namespace Go.Proofs.Ytacbpdnpepgngaa.set
set_option linter.unusedVariables false set_option linter.unusedSimpArgs false
open Go.ChangeShapes Go.WideShapes Go.ChangeAt Go.RowKit Go.Proofs.Ytacbpdnpepgngaa.base Go.Proofs.Ytacbpdnpepgngaa.read Go.Proofs.Ytacbpdnpepgngaa.spec

/-- The cells of a set. -/
def bA (f : Nat → Bool) : Array Value := ((List.range 256).map fun k => Value.bool (f k)).toArray
theorem bA_size (f : Nat → Bool) : (bA f).size = 256 := by simp [bA]
theorem bA_get (f : Nat → Bool) (k : Nat) (h : k < 256) : (bA f)[k]? = some (.bool (f k)) := by simp [bA, h]
theorem bA_ext (f g : Nat → Bool) (h : ∀ k, k < 256 → f k = g k) : bA f = bA g := by
  unfold bA
  congr 1
  apply List.map_congr_left
  intro k hk
  rw [h k (by simpa using hk)]
theorem bA_set (f : Nat → Bool) (k : Nat) (b : Bool) (h : k < 256) : (bA f).setIfInBounds k (.bool b) = bA (fun j => if j = k then b else f j) := by
  apply Array.ext_getElem?
  intro j
  rw [Array.getElem?_setIfInBounds]
  by_cases hj : j < 256
  · rw [bA_get _ j hj, bA_get _ j hj, bA_size]
    by_cases e : k = j
    · subst e; simp [hj]
    · have e' : ¬ j = k := fun h => e h.symm
      simp [e, e']
  · have h1 : (bA f)[j]? = none := by rw [Array.getElem?_eq_none]; rw [bA_size]; omega
    have h2 : (bA fun j => if j = k then b else f j)[j]? = none := by rw [Array.getElem?_eq_none]; rw [bA_size]; omega
    rw [h1, h2, if_neg (by omega)]

theorem setRow_eq {w : World} {g : Nat} {T : TypeId} {C D : Array Value} (h : Box w g T C) : Box (w.setRow g D) g T D := setRow_heap w g C D T (0, 0) h
theorem frm_setRow {S : Nat → Prop} {a w : World} (h : Frm S a w) (g : Nat) (D : Array Value) (hg : g < a.heap.size → S g) : Frm S a (w.setRow g D) :=
  h.then (S' := At g) ⟨rfl, rfl, rfl, by simp [World.setRow], fun k _ hk => by simp only [World.setRow, Array.getElem?_modify]; rw [if_neg (fun e => hk e.symm)]⟩ (fun k hk e => by cases e; exact hg hk)

/-- The first c bytes that a set has. -/
def tx (f : Nat → Bool) (c : Nat) : List UInt8 := ((List.range c).filter f).map UInt8.ofNat
theorem tx_step (f : Nat → Bool) (c : Nat) : tx f (c + 1) = tx f c ++ (if f c then [UInt8.ofNat c] else []) := by
  unfold tx
  rw [List.range_succ, List.filter_append, List.map_append]
  congr 1
  by_cases h : f c = true
  · simp [h]
  · simp [h]
theorem tx_len (f : Nat → Bool) (c : Nat) : (tx f c).length ≤ c := by
  unfold tx
  rw [List.length_map]
  exact Nat.le_trans (List.length_filter_le _ _) (by simp)

end Go.Proofs.Ytacbpdnpepgngaa.set

namespace Go.Proofs.Ytacbpdnpepgngaa.parts
set_option linter.unusedVariables false set_option linter.unusedSimpArgs false
open Go.ChangeShapes Go.WideShapes Go.ChangeAt Go.RowKit Go.Proofs.Ytacbpdnpepgngaa.base Go.Proofs.Ytacbpdnpepgngaa.read Go.Proofs.Ytacbpdnpepgngaa.spec Go.Proofs.Ytacbpdnpepgngaa.set

/-- The cells C are these trees, one behind the other; their kids lie in blocks of F. -/
def RepC (w : World) (F : Nat → Prop) : Forest → List Value → Prop
  | .nil, C => C = []
  | .cons op set lo hi kids rest, C => ∃ k C', C = .string op :: .string set :: k :: .int .i64 lo :: .int .i64 hi :: C' ∧
      ((k = .slice none 0 0 ∧ kids = .nil) ∨ ∃ g cap cur, k = .slice (some ⟨g, 0, none⟩) kids.len cap ∧ kids ≠ .nil ∧ F g ∧ Box w g 33 cur ∧ RepC w F kids (cur.toList.take (5 * kids.len))) ∧ RepC w F rest C'
/-- k is a slice of these trees. -/
def KV (w : World) (F : Nat → Prop) (k : Value) (kids : Forest) : Prop :=
  (k = .slice none 0 0 ∧ kids = .nil) ∨ ∃ g cap cur, k = .slice (some ⟨g, 0, none⟩) kids.len cap ∧ kids ≠ .nil ∧ F g ∧ Box w g 33 cur ∧ RepC w F kids (cur.toList.take (5 * kids.len))

theorem RepC.len {w : World} {F : Nat → Prop} {f : Forest} {C : List Value} (h : RepC w F f C) : C.length = 5 * f.len := by
  induction f generalizing C with
  | nil => rw [show C = [] from h]; rfl
  | cons op set lo hi kids rest ih1 ih2 =>
    obtain ⟨k, C', rfl, _, h2⟩ := h
    have := ih2 h2
    simp only [List.length_cons, Forest.len]
    omega
theorem RepC.go {w w' : World} {F F' : Nat → Prop} {f : Forest} {C : List Value} (h : RepC w F f C) (hw : ∀ g cur, F g → Box w g 33 cur → F' g ∧ Box w' g 33 cur) : RepC w' F' f C := by
  induction f generalizing C with
  | nil => exact h
  | cons op set lo hi kids rest ih1 ih2 =>
    obtain ⟨k, C', hC, hk, h2⟩ := h
    refine ⟨k, C', hC, ?_, ih2 h2⟩
    rcases hk with hk | ⟨g, cap, cur, h3, h4, h5, h6, h7⟩
    · exact Or.inl hk
    · obtain ⟨h8, h9⟩ := hw g cur h5 h6
      exact Or.inr ⟨g, cap, cur, h3, h4, h8, h9, ih1 h7⟩
theorem KV.go {w w' : World} {F F' : Nat → Prop} {f : Forest} {k : Value} (h : KV w F k f) (hw : ∀ g cur, F g → Box w g 33 cur → F' g ∧ Box w' g 33 cur) : KV w' F' k f := by
  rcases h with h | ⟨g, cap, cur, h3, h4, h5, h6, h7⟩
  · exact Or.inl h
  · obtain ⟨h8, h9⟩ := hw g cur h5 h6
    exact Or.inr ⟨g, cap, cur, h3, h4, h8, h9, h7.go hw⟩
theorem KV.frm {S F : Nat → Prop} {w w' : World} {f : Forest} {k : Value} (h : KV w F k f) (hf : Frm S w w') (hs : ∀ g, F g → g < w.heap.size → ¬ S g) : KV w' F k f :=
  h.go fun g cur h1 h2 => ⟨h1, h2.frm hf (hs g h1 h2.lt)⟩
theorem KV.mono {F F' : Nat → Prop} {w : World} {f : Forest} {k : Value} (h : KV w F k f) (hs : ∀ g, F g → g < w.heap.size → F' g) : KV w F' k f :=
  h.go fun g cur h1 h2 => ⟨hs g h1 h2.lt, h2⟩
theorem KV.move {F : Nat → Prop} {w w' : World} {f : Forest} {k : Value} (h : KV w F k f) (hf : Frm No w w') : KV w' F k f := h.frm hf (fun _ _ _ => id)
theorem box_type {w : World} {g : Nat} {T T' : TypeId} {C C' : Array Value} (h : Box w g T C) (h' : Box w g T' C') : T = T' := by
  unfold Box at h h'
  rw [h] at h'
  cases h'
  rfl
/-- Blocks of another type may be written. -/
theorem KV.other {F S : Nat → Prop} {w w' : World} {f : Forest} {k : Value} (h : KV w F k f) (hf : Frm S w w') (hs : ∀ g, S g → g < w.heap.size → ∃ T C, Box w g T C ∧ T ≠ 33) : KV w' F k f :=
  h.go fun g cur h1 h2 => ⟨h1, h2.frm hf (fun hx => by obtain ⟨T, C, hb, hT⟩ := hs g hx h2.lt; exact hT (box_type hb h2))⟩
theorem KV.setRow {F : Nat → Prop} {w : World} {f : Forest} {k : Value} (h : KV w F k f) {b : Nat} {T : TypeId} {C : Array Value} (hb : Box w b T C) (hT : T ≠ 33) (D : Array Value) : KV (w.setRow b D) F k f :=
  h.other (frm_setRow (S := At b) (Frm.refl _ w) b D (fun _ => rfl)) (fun g e _ => by cases e; exact ⟨T, C, hb, hT⟩)
theorem KV.nil (w : World) (F : Nat → Prop) : KV w F (.slice none 0 0) .nil := Or.inl ⟨rfl, rfl⟩
theorem KV.forms {w : World} {F : Nat → Prop} {f : Forest} {k : Value} (h : KV w F k f) : ∃ a cap, k = .slice a f.len cap := by
  rcases h with ⟨rfl, rfl⟩ | ⟨g, cap, cur, rfl, _⟩
  · exact ⟨_, _, rfl⟩
  · exact ⟨_, _, rfl⟩
/-- The one tree of a new block. -/
theorem KV.one {w : World} {F : Nat → Prop} {k : Value} (t : T) (h : KV w F k t.kids) (g : Nat) (hg : F g) (cur : Array Value) (hb : Box w g 33 cur) (hc : cur = #[.string t.op, .string t.set, k, .int .i64 t.lo, .int .i64 t.hi]) (cap : Nat) : KV w F (.slice (some ⟨g, 0, none⟩) 1 cap) (Forest.nil.snoc t) := by
  refine Or.inr ⟨g, cap, cur, rfl, (by intro h; cases h), hg, hb, ?_⟩
  subst hc
  exact ⟨k, [], rfl, h, rfl⟩

/-- v is a part. -/
def PV (w : World) (F : Nat → Prop) (v : Value) (p : Part) : Prop :=
  p.n ≤ 2001 ∧ ∃ a cap, v = .agg #[.string p.t.op, .string p.t.set, .slice a p.t.kids.len cap, .int .i64 p.t.lo, .int .i64 p.t.hi, .int .i64 p.n] ∧ KV w F (.slice a p.t.kids.len cap) p.t.kids
theorem PV.frm {S F : Nat → Prop} {w w' : World} {v : Value} {p : Part} (h : PV w F v p) (hf : Frm S w w') (hs : ∀ g, F g → g < w.heap.size → ¬ S g) : PV w' F v p := by
  obtain ⟨h1, a, cap, h2, h3⟩ := h
  exact ⟨h1, a, cap, h2, h3.frm hf hs⟩
theorem PV.mono {F F' : Nat → Prop} {w : World} {v : Value} {p : Part} (h : PV w F v p) (hs : ∀ g, F g → g < w.heap.size → F' g) : PV w F' v p := by
  obtain ⟨h1, a, cap, h2, h3⟩ := h
  exact ⟨h1, a, cap, h2, h3.mono hs⟩
theorem PV.move {F : Nat → Prop} {w w' : World} {v : Value} {p : Part} (h : PV w F v p) (hf : Frm No w w') : PV w' F v p := h.frm hf (fun _ _ _ => id)
theorem PV.setRow {F : Nat → Prop} {w : World} {v : Value} {p : Part} (h : PV w F v p) {b : Nat} {T : TypeId} {C : Array Value} (hb : Box w b T C) (hT : T ≠ 33) (D : Array Value) : PV (w.setRow b D) F v p := by
  obtain ⟨h1, a, cap, h2, h3⟩ := h
  exact ⟨h1, a, cap, h2, h3.setRow hb hT D⟩

theorem frm2 (w : World) (o p : Obj) : Frm No w ((w.alloc o).alloc p) := ((Frm.refl No w).alloc o).alloc p

end Go.Proofs.Ytacbpdnpepgngaa.parts

namespace Go.Proofs.Ytacbpdnpepgngaa.parts
set_option linter.unusedVariables false set_option linter.unusedSimpArgs false
open Go.ChangeShapes Go.WideShapes Go.ChangeAt Go.RowKit Go.Proofs.Ytacbpdnpepgngaa.base Go.Proofs.Ytacbpdnpepgngaa.read Go.Proofs.Ytacbpdnpepgngaa.spec Go.Proofs.Ytacbpdnpepgngaa.set

end Go.Proofs.Ytacbpdnpepgngaa.parts

namespace Go.Proofs.Ytacbpdnpepgngaa.parts
set_option linter.unusedVariables false set_option linter.unusedSimpArgs false
open Go.ChangeShapes Go.WideShapes Go.ChangeAt Go.RowKit Go.Proofs.Ytacbpdnpepgngaa.base Go.Proofs.Ytacbpdnpepgngaa.read Go.Proofs.Ytacbpdnpepgngaa.spec Go.Proofs.Ytacbpdnpepgngaa.set
attribute [local go_sem ↓] Go.wp_at_zero Go.wp_at_succ

/-- The block of a slice of the call's own. -/
theorem own_box {w : World} {B n : Nat} {v : Value} {C : List Value} (h : w.ownsRow B 33 5 v n C) {g : Nat} (hg : v.ownBlock = some g) : ∃ cur cap, Box w g 33 cur ∧ B ≤ g ∧ v = .slice (some ⟨g, 0, none⟩) n cap ∧ cur.toList.take (n * 5) = C := by
  rcases h.2 with ⟨rfl, _⟩ | ⟨g', cap, cur, rfl, hB, hh, _, _, _, ht⟩
  · cases hg
  · simp only [Value.ownBlock, Option.some.injEq] at hg
    subst hg
    exact ⟨cur, cap, hh, hB, rfl, ht⟩
theorem own_frm {S : Nat → Prop} {w w' : World} {B n : Nat} {v : Value} {C : List Value} (h : w.ownsRow B 33 5 v n C) (hf : Frm S w w') (hs : ∀ g cur, Box w g 33 cur → v.ownBlock = some g → ¬ S g) : w'.ownsRow B 33 5 v n C := by
  refine ⟨h.1, h.2.elim Or.inl (fun ⟨g, cap, cur, hv, hg, hh, r⟩ => Or.inr ⟨g, cap, cur, hv, hg, ?_, r⟩)⟩
  have hb : Box w g 33 cur := hh
  exact hb.frm hf (hs g cur hb (by rw [hv]; rfl))

theorem info_ere : (Try.prog.info? 33).map (fun i => (i.zero, i.size, i.bytes)) = some (some (.agg #[.string ⟨#[]⟩, .string ⟨#[]⟩, .slice none 0 0, .int .i64 0, .int .i64 0]), 5, 72) := by kernel_rfl

theorem RepC.snoc {w : World} {F : Nat → Prop} {f : Forest} {C : List Value} (h : RepC w F f C) (t : T) (k : Value) (hk : KV w F k t.kids) : RepC w F (f.snoc t) (C ++ [.string t.op, .string t.set, k, .int .i64 t.lo, .int .i64 t.hi]) := by
  induction f generalizing C with
  | nil =>
    rw [show C = [] from h]
    exact ⟨k, [], rfl, hk, rfl⟩
  | cons op set lo hi kids rest ih1 ih2 =>
    obtain ⟨k', C', rfl, h1, h2⟩ := h
    exact ⟨k', C' ++ _, rfl, h1, ih2 h2⟩

/-- Five cells that are stored. -/
def set5 (w : World) (g o : Nat) (a0 a1 a2 a3 a4 : Value) : World := ((((w.setCell ⟨g, o, none⟩ a0).setCell ⟨g, o + 1, none⟩ a1).setCell ⟨g, o + 2, none⟩ a2).setCell ⟨g, o + 3, none⟩ a3).setCell ⟨g, o + 4, none⟩ a4
theorem frm_set5 (w : World) (g o : Nat) (a0 a1 a2 a3 a4 : Value) : Frm (At g) w (set5 w g o a0 a1 a2 a3 a4) :=
  (((((Frm.refl (At g) w).setCell ⟨g, o, none⟩ _ (fun _ => rfl)).setCell ⟨g, o + 1, none⟩ _ (fun _ => rfl)).setCell ⟨g, o + 2, none⟩ _ (fun _ => rfl)).setCell ⟨g, o + 3, none⟩ _ (fun _ => rfl)).setCell ⟨g, o + 4, none⟩ _ (fun _ => rfl)

end Go.Proofs.Ytacbpdnpepgngaa.parts

namespace Go.Proofs.Ytacbpdnpepgngaa.parts
set_option linter.unusedVariables false set_option linter.unusedSimpArgs false
open Go.ChangeShapes Go.WideShapes Go.ChangeAt Go.RowKit Go.Proofs.Ytacbpdnpepgngaa.base Go.Proofs.Ytacbpdnpepgngaa.read Go.Proofs.Ytacbpdnpepgngaa.spec Go.Proofs.Ytacbpdnpepgngaa.set

theorem PV.other {F S : Nat → Prop} {w w' : World} {v : Value} {p : Part} (h : PV w F v p) (hf : Frm S w w') (hs : ∀ g, S g → g < w.heap.size → ∃ T C, Box w g T C ∧ T ≠ 33) : PV w' F v p := by
  obtain ⟨h1, a, cap, h2, h3⟩ := h
  exact ⟨h1, a, cap, h2, h3.other hf hs⟩

end Go.Proofs.Ytacbpdnpepgngaa.parts

namespace Go.Proofs.Ytacbpdnpepgngaa.items
set_option linter.unusedVariables false set_option linter.unusedSimpArgs false
open Go.ChangeShapes Go.WideShapes Go.ChangeAt Go.RowKit Go.Proofs.Ytacbpdnpepgngaa.base Go.Proofs.Ytacbpdnpepgngaa.read Go.Proofs.Ytacbpdnpepgngaa.spec Go.Proofs.Ytacbpdnpepgngaa.set Go.Proofs.Ytacbpdnpepgngaa.nums Go.Proofs.Ytacbpdnpepgngaa.parts

end Go.Proofs.Ytacbpdnpepgngaa.items

namespace Go.Proofs.Ytacbpdnpepgngaa.items
set_option linter.unusedVariables false set_option linter.unusedSimpArgs false
open Go.ChangeShapes Go.WideShapes Go.ChangeAt Go.RowKit Go.Proofs.Ytacbpdnpepgngaa.base Go.Proofs.Ytacbpdnpepgngaa.read Go.Proofs.Ytacbpdnpepgngaa.spec Go.Proofs.Ytacbpdnpepgngaa.set Go.Proofs.Ytacbpdnpepgngaa.nums Go.Proofs.Ytacbpdnpepgngaa.parts

theorem cut_index (l : List UInt8) : match cutC l with
    | some (a, b) => Lib.index l [58, 93] = (a.length : Nat) ∧ l = a ++ 58 :: 93 :: b
    | none => Lib.index l [58, 93] = -1 := by
  induction l with
  | nil => rfl
  | cons x l ih =>
    cases l with
    | nil =>
      show Lib.index [x] [58, 93] = -1
      simp [Lib.index, List.isPrefixOf]
    | cons y t =>
      by_cases h : x = 58 ∧ y = 93
      · obtain ⟨rfl, rfl⟩ := h
        simp only [cutC, and_self, if_true]
        refine ⟨?_, rfl⟩
        simp [Lib.index, List.isPrefixOf]
      · have hp : List.isPrefixOf [58, 93] (x :: y :: t) = false := by
          rw [Bool.eq_false_iff]
          intro e
          simp [List.isPrefixOf] at e
          exact h ⟨e.1.symm, e.2.symm⟩
        have hi : Lib.index (x :: y :: t) [58, 93] = if Lib.index (y :: t) [58, 93] == -1 then -1 else Lib.index (y :: t) [58, 93] + 1 := by
          rw [Lib.index, hp]; rfl
        simp only [cutC, if_neg h]
        cases hc : cutC (y :: t) with
        | none =>
          rw [hc] at ih
          simp only [Option.map_none]
          rw [hi, show Lib.index (y :: t) [58, 93] = -1 from ih]
          rfl
        | some p =>
          obtain ⟨a, b⟩ := p
          rw [hc] at ih
          obtain ⟨h1, h2⟩ := ih
          simp only [Option.map_some]
          refine ⟨?_, by rw [h2]; rfl⟩
          rw [hi, h1]
          have : (((a.length : Nat) : Int) == -1) = false := by simp
          rw [this]
          simp
theorem pre2_len {l : List UInt8} {a b : UInt8} (h : pre2 l a b = true) : 2 ≤ l.length := by
  match l with
  | [] => cases h
  | [x] => cases h
  | x :: y :: t => simp

end Go.Proofs.Ytacbpdnpepgngaa.items

namespace Go.Proofs.Ytacbpdnpepgngaa.items
set_option linter.unusedVariables false set_option linter.unusedSimpArgs false
open Go.ChangeShapes Go.WideShapes Go.ChangeAt Go.RowKit Go.Proofs.Ytacbpdnpepgngaa.base Go.Proofs.Ytacbpdnpepgngaa.read Go.Proofs.Ytacbpdnpepgngaa.spec Go.Proofs.Ytacbpdnpepgngaa.set Go.Proofs.Ytacbpdnpepgngaa.nums Go.Proofs.Ytacbpdnpepgngaa.parts

theorem esc_bads {l : List UInt8} {f : Nat} (h : esc l = .bad f) : f = 4 := by
  cases l with
  | nil => cases h; rfl
  | cons c t =>
    simp only [esc] at h
    split at h <;> cases h
theorem itemByte_bads {l : List UInt8} {f : Nat} (h : itemByte l = .bad f) : f = 2 ∨ f = 4 := by
  cases l with
  | nil => cases h; exact Or.inl rfl
  | cons c t =>
    simp only [itemByte] at h
    split at h
    · exact Or.inr (esc_bads h)
    · cases h
theorem rangeEnd_bads {l : List UInt8} {f : Nat} (h : rangeEnd l = .bad f) : f = 2 ∨ f = 4 := by
  unfold rangeEnd at h
  split at h
  · cases h; exact Or.inl rfl
  · exact itemByte_bads h

end Go.Proofs.Ytacbpdnpepgngaa.items

namespace Go.Proofs.Ytacbpdnpepgngaa.items
set_option linter.unusedVariables false set_option linter.unusedSimpArgs false
open Go.ChangeShapes Go.WideShapes Go.ChangeAt Go.RowKit Go.Proofs.Ytacbpdnpepgngaa.base Go.Proofs.Ytacbpdnpepgngaa.read Go.Proofs.Ytacbpdnpepgngaa.spec Go.Proofs.Ytacbpdnpepgngaa.set Go.Proofs.Ytacbpdnpepgngaa.nums Go.Proofs.Ytacbpdnpepgngaa.parts

theorem item_bads {f : Nat → Bool} {l : List UInt8} {e : Nat} (h : item f l = .bad e) : e = 2 ∨ e = 4 := by
  unfold item at h
  split at h
  · unfold classItem at h
    repeat' split at h
    all_goals first | (cases h; exact Or.inl rfl) | cases h
  · split at h
    · cases h
      exact itemByte_bads (by assumption)
    · split at h
      · split at h
        · cases h
          exact rangeEnd_bads (by assumption)
        · split at h
          · cases h; exact Or.inl rfl
          · cases h
      · cases h

theorem dgt_len {b n : Nat} {l t : List UInt8} (h : dgt b l = some (n, t)) : t.length + 1 = l.length := by
  cases l with
  | nil => cases h
  | cons x t' =>
    simp only [dgt] at h
    split at h
    · cases h; rfl
    · cases h
theorem octF_le (k s : Nat) (sm : Bool) (l : List UInt8) : (octF k s sm l).2.2.length ≤ l.length := by
  induction k generalizing s sm l with
  | zero => exact Nat.le_refl _
  | succ k ih =>
    cases hd : dgt 8 l with
    | none => rw [octF, hd]; exact Nat.le_refl _
    | some p =>
      rw [octF, hd]
      have := dgt_len hd
      have := ih (s * 8 + p.1) true p.2
      exact Nat.le_trans this (by omega)
theorem esc_len {l l' : List UInt8} {b : UInt8} (h : esc l = .ok b l') : l'.length < l.length := by
  cases l with
  | nil => cases h
  | cons c t =>
    by_cases ho : (octF 3 0 false (c :: t)).2.1 = true
    · simp only [esc, if_pos ho] at h
      cases h
      cases hd : dgt 8 (c :: t) with
      | none =>
        have e : octF 3 0 false (c :: t) = (0, false, c :: t) := by show octF (2 + 1) 0 false (c :: t) = _; rw [octF, hd]
        rw [e] at ho
        cases ho
      | some p =>
        have e : octF 3 0 false (c :: t) = octF 2 (0 * 8 + p.1) true p.2 := by show octF (2 + 1) 0 false (c :: t) = _; rw [octF, hd]
        rw [e]
        have h1 := octF_le 2 (0 * 8 + p.1) true p.2
        have h2 := dgt_len hd
        simp only [List.length_cons] at h2 ⊢
        omega
    · simp only [esc, if_neg ho] at h
      cases h
      simp
theorem itemByte_len {l l' : List UInt8} {b : UInt8} (h : itemByte l = .ok b l') : l'.length < l.length := by
  cases l with
  | nil => cases h
  | cons c t =>
    simp only [itemByte] at h
    split at h
    · have := esc_len h
      simp only [List.length_cons]
      omega
    · cases h
      simp
theorem rangeEnd_len {l l' : List UInt8} {b : UInt8} (h : rangeEnd l = .ok b l') : l'.length < l.length := by
  unfold rangeEnd at h
  split at h
  · cases h
  · exact itemByte_len h
theorem item_len {f f' : Nat → Bool} {l l' : List UInt8} (h : item f l = .ok f' l') : l'.length < l.length := by
  unfold item at h
  split at h
  · have h2 := pre2_len (by assumption)
    unfold classItem at h
    split at h
    · cases h
    · rename_i nm rest hc
      have := cut_index (l.drop 2)
      rw [hc] at this
      have := congrArg List.length this.2
      simp only [List.length_drop, List.length_append, List.length_cons] at this
      split at h
      · cases h
      · split at h
        · cases h
        · cases h
          omega
  · split at h
    · cases h
    · rename_i lo l1 hi
      have h1 := itemByte_len hi
      split at h
      · split at h
        · cases h
        · rename_i hi' l2 he
          have h2 := rangeEnd_len he
          split at h
          · cases h
          · cases h
            rw [List.length_tail] at h2
            omega
      · cases h
        exact h1

/-- A part's variable and a number, as results. -/
theorem results_part2 {P : Program} {fn : Func} {p q : Tmp} {ty : TypeId} (h : fn.results = #[.cell p ty, .tmp q]) (tmps : Array Value) (w : World) (g : Nat) (t : TypeId) (cs : Array Value) (fr : Nat × Nat) (d : TypeDesc) (v : Value)
    (hp : tmps.getD p undef = .pointer (some ⟨g, 0, none⟩)) (hq : tmps.getD q undef = v) (hg : w.heap[g]? = some (.cells cs t fr))
    (hu : P.underlying ty = some d) (hd : (match d with | .struct _ | .array _ _ => true | _ => false) = true) (hi : (P.info? ty).map (·.size) = some cs.size) :
    (results fn tmps).run P w = .ok (.tuple #[.agg cs, v]) w := by
  have hp' : tmps[p]?.getD undef = .pointer (some ⟨g, 0, none⟩) := by simpa using hp
  have hq' : tmps[q]?.getD undef = v := by simpa using hq
  simp [results, h, hp', hq', asAddr, run_loadVar_row w g t ty cs fr d hg hu hd hi]

end Go.Proofs.Ytacbpdnpepgngaa.items

namespace Go.Proofs.Ytacbpdnpepgngaa.items
set_option linter.unusedVariables false set_option linter.unusedSimpArgs false
open Go.ChangeShapes Go.WideShapes Go.ChangeAt Go.RowKit Go.Proofs.Ytacbpdnpepgngaa.base Go.Proofs.Ytacbpdnpepgngaa.read Go.Proofs.Ytacbpdnpepgngaa.spec Go.Proofs.Ytacbpdnpepgngaa.set Go.Proofs.Ytacbpdnpepgngaa.nums Go.Proofs.Ytacbpdnpepgngaa.parts

end Go.Proofs.Ytacbpdnpepgngaa.items

namespace Go.Proofs.Ytacbpdnpepgngaa.items
set_option linter.unusedVariables false set_option linter.unusedSimpArgs false
open Go.ChangeShapes Go.WideShapes Go.ChangeAt Go.RowKit Go.Proofs.Ytacbpdnpepgngaa.base Go.Proofs.Ytacbpdnpepgngaa.read Go.Proofs.Ytacbpdnpepgngaa.spec Go.Proofs.Ytacbpdnpepgngaa.set Go.Proofs.Ytacbpdnpepgngaa.nums Go.Proofs.Ytacbpdnpepgngaa.parts

end Go.Proofs.Ytacbpdnpepgngaa.items

namespace Go.Proofs.Ytacbpdnpepgngaa.items
set_option linter.unusedVariables false set_option linter.unusedSimpArgs false
open Go.Proofs.Ytacbpdnpepgngaa.base Go.Proofs.Ytacbpdnpepgngaa.read Go.Proofs.Ytacbpdnpepgngaa.spec Go.Proofs.Ytacbpdnpepgngaa.nums

theorem tail_len (l : List UInt8) : l.tail.length ≤ l.length := by rw [List.length_tail]; omega
theorem cnt_len (s : Nat) (sm : Bool) (l : List UInt8) : (cnt s sm l).2.2.length ≤ l.length := by
  induction l generalizing s sm with
  | nil => exact Nat.le_refl _
  | cons x t ih =>
    rw [cnt]
    split
    · have := ih (min (s * 10 + (x - 48).toNat) 256) true
      simp only [List.length_cons]
      omega
    · exact Nat.le_refl _
theorem count_len {l l' : List UInt8} {n : Nat} (h : count l = some (n, l')) : l'.length ≤ l.length := by
  unfold count at h
  split at h
  · cases h; exact cnt_len _ _ _
  · cases h
theorem upper_len {lo : Nat} {hi : Int} {l l' : List UInt8} (h : upper lo l = some (hi, l')) : l'.length ≤ l.length := by
  unfold upper at h
  split at h
  · cases h; exact Nat.le_refl _
  · split at h
    · cases h
    · have := count_len (by assumption)
      split at h
      · cases h; exact this
      · cases h
theorem interval_len {l l' : List UInt8} {q : Nat × Int} (h : interval l = some (q, l')) : l'.length ≤ l.length := by
  unfold interval at h
  split at h
  · cases h
  · rename_i lo l1 hc
    have h1 := count_len hc
    split at h
    · split at h
      · cases h
      · rename_i hi l2 hu
        have h2 := upper_len hu
        have h3 := tail_len l1
        split at h
        · cases h
          have h4 := tail_len l2
          omega
        · cases h
    · split at h
      · cases h
        have := tail_len l1
        omega
      · cases h
theorem repeatL_len {p p' : Part} {l l' : List UInt8} (h : repeatL p l = .ok p' l') : l'.length < l.length := by
  cases l with
  | nil => cases h
  | cons c t =>
    unfold repeatL at h
    simp only at h
    split at h
    · cases h; simp
    · split at h
      · cases h; simp
      · split at h
        · cases h; simp
        · split at h
          · cases h
          · rename_i lo hi t' hi'
            have := interval_len hi'
            cases h
            simp only [List.length_cons]
            omega
theorem repeatL_bads {p : Part} {l : List UInt8} {f : Nat} (h : repeatL p l = .bad f) (hl : l ≠ []) : f = 3 := by
  cases l with
  | nil => exact absurd rfl hl
  | cons c t =>
    unfold repeatL at h
    simp only at h
    repeat' split at h
    all_goals first | (cases h; rfl) | cases h
theorem repsF_len {n : Nat} {p p' : Part} {l l' : List UInt8} (h : repsF n p l = .ok p' l') : l'.length ≤ l.length := by
  induction n generalizing p l with
  | zero => cases h
  | succ n ih =>
    rw [repsF] at h
    split at h
    · split at h
      · cases h
      · rename_i p1 l1 hr
        have := repeatL_len hr
        have := ih h
        omega
    · cases h; exact Nat.le_refl _
theorem items_len {n : Nat} {b : Bool} {f f' : Nat → Bool} {l l' : List UInt8} (h : items n b f l = .ok f' l') : l'.length ≤ l.length := by
  induction n generalizing b f l with
  | zero => cases h
  | succ n ih =>
    rw [items] at h
    split at h
    · cases h; exact tail_len l
    · split at h
      · cases h
      · have h1 := item_len (by assumption)
        have h2 := ih h
        omega
theorem bracket_len {p : Part} {l l' : List UInt8} (h : bracket l = .ok p l') : l'.length ≤ l.length := by
  unfold bracket at h
  split at h
  · split at h
    · cases h
    · have h1 := items_len (by assumption)
      have h2 := tail_len l
      cases h
      omega
  · split at h
    · cases h
    · have h1 := items_len (by assumption)
      cases h
      exact h1

/-- A group's reader doesn't make the rest longer. -/
def Short (g : List UInt8 → Res Part) : Prop := ∀ l p l', g l = .ok p l' → l'.length ≤ l.length
theorem atom_len {g : List UInt8 → Res Part} (hg : Short g) {p : Part} {l l' : List UInt8} (h : atom g l = .ok p l') : l'.length < l.length := by
  unfold atom at h
  split at h
  · cases h
  · cases l with
    | nil => cases h
    | cons c t =>
      simp only at h
      simp only [List.length_cons]
      split at h
      · have := hg _ _ _ h; omega
      · split at h
        · have := bracket_len h; omega
        · split at h
          · split at h
            · cases h
            · have := esc_len (by assumption)
              cases h
              omega
          · repeat' split at h
            all_goals cases h
            all_goals omega
theorem piece_len {g : List UInt8 → Res Part} (hg : Short g) {p : Part} {l l' : List UInt8} (h : piece g l = .ok p l') : l'.length < l.length := by
  unfold piece at h
  split at h
  · cases h
  · have h1 := atom_len hg (by assumption)
    have h2 := repsF_len h
    omega
theorem branchF_len {g : List UInt8 → Res Part} (hg : Short g) {n : Nat} {r r' : Row} {l l' : List UInt8} (h : branchF g n r l = .ok r' l') : l'.length ≤ l.length := by
  induction n generalizing r l with
  | zero => cases h
  | succ n ih =>
    rw [branchF] at h
    split at h
    · cases h; exact Nat.le_refl _
    · split at h
      · cases h
      · have h1 := piece_len hg (by assumption)
        have h2 := ih h
        omega
theorem branch_len {g : List UInt8 → Res Part} (hg : Short g) {p : Part} {l l' : List UInt8} (h : branch g l = .ok p l') : l'.length ≤ l.length := by
  unfold branch at h
  split at h
  · cases h
  · have h1 := branchF_len hg (by assumption)
    cases h
    exact h1
theorem exprF_len {g : List UInt8 → Res Part} (hg : Short g) {n : Nat} {r r' : Row} {l l' : List UInt8} (h : exprF g n r l = .ok r' l') : l'.length ≤ l.length := by
  induction n generalizing r l with
  | zero => cases h
  | succ n ih =>
    rw [exprF] at h
    split at h
    · cases h
    · rename_i p1 l1 hb
      have h1 := branch_len hg hb
      split at h
      · have h2 := ih h
        have h3 := tail_len l1
        omega
      · cases h; exact h1
theorem expr_len {g : List UInt8 → Res Part} (hg : Short g) {p : Part} {l l' : List UInt8} (h : expr g l = .ok p l') : l'.length ≤ l.length := by
  unfold expr at h
  split at h
  · cases h
  · have h1 := exprF_len hg (by assumption)
    cases h
    exact h1
theorem groupN_short (d : Nat) : Short (groupN d) := by
  induction d with
  | zero => intro l p l' h; cases h
  | succ d ih =>
    intro l p l' h
    simp only [groupN] at h
    split at h
    · cases h
    · rename_i p1 l1 he
      have h1 := expr_len ih he
      split at h
      · cases h
        have := tail_len l1
        omega
      · cases h
end Go.Proofs.Ytacbpdnpepgngaa.items

namespace Go.Proofs.Ytacbpdnpepgngaa.items
set_option linter.unusedVariables false set_option linter.unusedSimpArgs false
open Go.ChangeShapes Go.WideShapes Go.ChangeAt Go.RowKit Go.Proofs.Ytacbpdnpepgngaa.base Go.Proofs.Ytacbpdnpepgngaa.read Go.Proofs.Ytacbpdnpepgngaa.spec Go.Proofs.Ytacbpdnpepgngaa.set Go.Proofs.Ytacbpdnpepgngaa.nums Go.Proofs.Ytacbpdnpepgngaa.parts

end Go.Proofs.Ytacbpdnpepgngaa.items

namespace Go.Proofs.Ytacbpdnpepgngaa.items
set_option linter.unusedVariables false set_option linter.unusedSimpArgs false
open Go.ChangeShapes Go.WideShapes Go.ChangeAt Go.RowKit Go.Proofs.Ytacbpdnpepgngaa.base Go.Proofs.Ytacbpdnpepgngaa.read Go.Proofs.Ytacbpdnpepgngaa.spec Go.Proofs.Ytacbpdnpepgngaa.set Go.Proofs.Ytacbpdnpepgngaa.nums Go.Proofs.Ytacbpdnpepgngaa.parts

end Go.Proofs.Ytacbpdnpepgngaa.items

namespace Go.Proofs.Ytacbpdnpepgngaa.items
set_option linter.unusedVariables false set_option linter.unusedSimpArgs false
open Go.ChangeShapes Go.WideShapes Go.ChangeAt Go.RowKit Go.Proofs.Ytacbpdnpepgngaa.base Go.Proofs.Ytacbpdnpepgngaa.read Go.Proofs.Ytacbpdnpepgngaa.spec Go.Proofs.Ytacbpdnpepgngaa.set Go.Proofs.Ytacbpdnpepgngaa.nums Go.Proofs.Ytacbpdnpepgngaa.parts

end Go.Proofs.Ytacbpdnpepgngaa.items

namespace Go.Proofs.Ytacbpdnpepgngaa.items
set_option linter.unusedVariables false set_option linter.unusedSimpArgs false
open Go.ChangeShapes Go.WideShapes Go.ChangeAt Go.RowKit Go.Proofs.Ytacbpdnpepgngaa.base Go.Proofs.Ytacbpdnpepgngaa.read Go.Proofs.Ytacbpdnpepgngaa.spec Go.Proofs.Ytacbpdnpepgngaa.set Go.Proofs.Ytacbpdnpepgngaa.nums Go.Proofs.Ytacbpdnpepgngaa.parts

end Go.Proofs.Ytacbpdnpepgngaa.items

namespace Go.Proofs.Ytacbpdnpepgngaa.items
set_option linter.unusedVariables false set_option linter.unusedSimpArgs false
open Go.ChangeShapes Go.WideShapes Go.ChangeAt Go.RowKit Go.Proofs.Ytacbpdnpepgngaa.base Go.Proofs.Ytacbpdnpepgngaa.read Go.Proofs.Ytacbpdnpepgngaa.spec Go.Proofs.Ytacbpdnpepgngaa.set Go.Proofs.Ytacbpdnpepgngaa.nums Go.Proofs.Ytacbpdnpepgngaa.parts

/-- The five cells C are a tree. -/
def TV (w : World) (F : Nat → Prop) (C : Array Value) (t : T) : Prop :=
  ∃ a cap, C = #[.string t.op, .string t.set, .slice a t.kids.len cap, .int .i64 t.lo, .int .i64 t.hi] ∧ KV w F (.slice a t.kids.len cap) t.kids
theorem TV.frm {S F : Nat → Prop} {w w' : World} {C : Array Value} {t : T} (h : TV w F C t) (hf : Frm S w w') (hs : ∀ g, F g → g < w.heap.size → ¬ S g) : TV w' F C t := by
  obtain ⟨a, cap, h1, h2⟩ := h
  exact ⟨a, cap, h1, h2.frm hf hs⟩
theorem TV.mono {F F' : Nat → Prop} {w : World} {C : Array Value} {t : T} (h : TV w F C t) (hs : ∀ g, F g → g < w.heap.size → F' g) : TV w F' C t := by
  obtain ⟨a, cap, h1, h2⟩ := h
  exact ⟨a, cap, h1, h2.mono hs⟩
def ze : Array Value := #[.string ⟨#[]⟩, .string ⟨#[]⟩, .slice none 0 0, .int .i64 0, .int .i64 0]
theorem tv_zero (w : World) (F : Nat → Prop) : TV w F ze zT := ⟨none, 0, rfl, KV.nil _ _⟩

end Go.Proofs.Ytacbpdnpepgngaa.items

namespace Go.Proofs.Ytacbpdnpepgngaa.sets
set_option linter.unusedVariables false set_option linter.unusedSimpArgs false
open Go.Proofs.Ytacbpdnpepgngaa.base Go.Proofs.Ytacbpdnpepgngaa.read Go.Proofs.Ytacbpdnpepgngaa.spec Go.Proofs.Ytacbpdnpepgngaa.nums Go.Proofs.Ytacbpdnpepgngaa.items Go.Proofs.Ytacbpdnpepgngaa.set

/-- A set and its opposite; or no sets. -/
def HR (t t' : T) : Prop := (∃ f : Nat → Bool, t = (setP f).t ∧ t' = (setP fun k => !f k).t) ∨ (t.op ≠ setW ∧ t'.op ≠ setW)

end Go.Proofs.Ytacbpdnpepgngaa.sets

namespace Go.Proofs.Ytacbpdnpepgngaa.sim
set_option linter.unusedVariables false set_option linter.unusedSimpArgs false
open Go.Proofs.Ytacbpdnpepgngaa.base Go.Proofs.Ytacbpdnpepgngaa.read Go.Proofs.Ytacbpdnpepgngaa.spec Go.Proofs.Ytacbpdnpepgngaa.nums Go.Proofs.Ytacbpdnpepgngaa.items Go.Proofs.Ytacbpdnpepgngaa.sets

section
variable (q : List UInt8)

end

/-! No reader ends without a fault's number. -/
theorem items_nz (n : Nat) (b : Bool) (f : Nat → Bool) (l : List UInt8) (h : l.length < n) : items n b f l ≠ .bad 0 := by
  induction n generalizing b f l with
  | zero => omega
  | succ n ih =>
    rw [items]
    split
    · intro e; cases e
    · split
      · rename_i e he
        intro h0
        cases h0
        have := item_bads he
        omega
      · rename_i f1 l1 hi
        have := item_len hi
        exact ih false f1 l1 (by omega)
theorem bracket_nz (l : List UInt8) : bracket l ≠ .bad 0 := by
  unfold bracket
  have h2 := tail_len l
  split
  · have := items_nz (l.length + 1) true emptyF l.tail (by omega)
    split
    · rename_i e he
      intro h0
      cases h0
      exact this he
    · intro h0; cases h0
  · have := items_nz (l.length + 1) true emptyF l (by omega)
    split
    · rename_i e he
      intro h0
      cases h0
      exact this he
    · intro h0; cases h0
theorem repsF_nz (n : Nat) (p : Part) (l : List UInt8) (h : l.length < n) : repsF n p l ≠ .bad 0 := by
  induction n generalizing p l with
  | zero => omega
  | succ n ih =>
    rw [repsF]
    split
    · rename_i ha
      split
      · rename_i e he
        intro h0
        cases h0
        have := repeatL_bads he (by intro e; subst e; cases ha)
        omega
      · rename_i p1 l1 hr
        have := repeatL_len hr
        exact ih p1 l1 (by omega)
    · intro h0; cases h0
theorem atom_nz {g : List UInt8 → Res Part} (hg : ∀ l, g l ≠ .bad 0) (l : List UInt8) (hl : l ≠ []) : atom g l ≠ .bad 0 := by
  unfold atom
  split
  · intro h0; cases h0
  · cases l with
    | nil => exact absurd rfl hl
    | cons c t =>
      simp only
      split
      · exact hg t
      · split
        · exact bracket_nz t
        · split
          · split
            · rename_i e he
              intro h0
              cases h0
              have := esc_bads he
              omega
            · intro h0; cases h0
          · repeat' split
            all_goals (intro h0; cases h0)
theorem piece_nz {g : List UInt8 → Res Part} (hg : ∀ l, g l ≠ .bad 0) (l : List UInt8) (hl : l ≠ []) : piece g l ≠ .bad 0 := by
  unfold piece
  split
  · rename_i e he
    intro h0
    cases h0
    exact atom_nz hg l hl he
  · exact repsF_nz _ _ _ (by omega)
theorem branchF_nz {g : List UInt8 → Res Part} (hs : Short g) (hg : ∀ l, g l ≠ .bad 0) (n : Nat) (r : Row) (l : List UInt8) (h : l.length < n) : branchF g n r l ≠ .bad 0 := by
  induction n generalizing r l with
  | zero => omega
  | succ n ih =>
    rw [branchF]
    split
    · intro h0; cases h0
    · rename_i he
      have hl : l ≠ [] := by
        intro e
        subst e
        exact he rfl
      split
      · rename_i e hp
        intro h0
        cases h0
        exact piece_nz hg l hl hp
      · rename_i p l1 hp
        have := piece_len hs hp
        exact ih _ l1 (by omega)
theorem branch_nz {g : List UInt8 → Res Part} (hs : Short g) (hg : ∀ l, g l ≠ .bad 0) (l : List UInt8) : branch g l ≠ .bad 0 := by
  unfold branch
  split
  · rename_i e he
    intro h0
    cases h0
    exact branchF_nz hs hg _ _ _ (by omega) he
  · intro h0; cases h0
theorem exprF_nz {g : List UInt8 → Res Part} (hs : Short g) (hg : ∀ l, g l ≠ .bad 0) (n : Nat) (r : Row) (l : List UInt8) (h : l.length < n) : exprF g n r l ≠ .bad 0 := by
  induction n generalizing r l with
  | zero => omega
  | succ n ih =>
    rw [exprF]
    split
    · rename_i e he
      intro h0
      cases h0
      exact branch_nz hs hg l he
    · rename_i p l1 hp
      have hl := branch_len hs hp
      split
      · rename_i hh
        obtain ⟨t, rfl⟩ := hd_cons hh
        simp only [List.length_cons] at hl
        exact ih _ t (by omega)
      · intro h0; cases h0
theorem expr_nz {g : List UInt8 → Res Part} (hs : Short g) (hg : ∀ l, g l ≠ .bad 0) (l : List UInt8) : expr g l ≠ .bad 0 := by
  unfold expr
  split
  · rename_i e he
    intro h0
    cases h0
    exact exprF_nz hs hg _ _ _ (by omega) he
  · intro h0; cases h0
theorem groupN_nz (k : Nat) (l : List UInt8) : groupN k l ≠ .bad 0 := by
  induction k generalizing l with
  | zero => intro h; cases h
  | succ k ih =>
    rw [groupN]
    simp only
    split
    · rename_i e he
      intro h0
      cases h0
      exact expr_nz (groupN_short k) ih l he
    · split
      · intro h0; cases h0
      · intro h0; cases h0

end Go.Proofs.Ytacbpdnpepgngaa.sim
