/- Worlds that differ in named blocks alone; boxes (variables in memory); what is left of a text. -/
import Derived.Test.YteaibkbdoocifaaDoorProg
import Derived.Test.YteaibkbdoocifaaDoorKit
import Derived.OpenShut
import Derived.Outline
import Derived.Handy
import Derived.Deep.RegionWith
namespace Go.Proofs.YteaibkbdoocifaaDoor.base
set_option linter.unusedVariables false set_option linter.unusedSimpArgs false
open Go.ChangeShapes Go.WideShapes Go.ChangeAt Go.RowKit

/-- Behind w every block of w stands in w' as it stood, those of S aside. -/
structure Frm (S : Nat → Prop) (w w' : World) : Prop where
  os : w'.os = w.os
  tape : w'.tape = w.tape
  output : w'.output = w.output
  size : w.heap.size ≤ w'.heap.size
  block : ∀ k, k < w.heap.size → ¬ S k → w'.heap[k]? = w.heap[k]?

/-- No block. -/
def No : Nat → Prop := fun _ => False
/-- This block. -/
def At (R : Nat) : Nat → Prop := fun k => k = R
/-- These two. -/
def At2 (R Q : Nat) : Nat → Prop := fun k => k = R ∨ k = Q

theorem Frm.refl (S : Nat → Prop) (w : World) : Frm S w w := ⟨rfl, rfl, rfl, Nat.le_refl _, fun _ _ _ => rfl⟩
theorem Frm.then {S S' : Nat → Prop} {a b c : World} (h : Frm S a b) (k : Frm S' b c) (hs : ∀ k, k < a.heap.size → S' k → S k) : Frm S a c :=
  ⟨k.os.trans h.os, k.tape.trans h.tape, k.output.trans h.output, Nat.le_trans h.size k.size, fun i hi hn => (k.block i (Nat.lt_of_lt_of_le hi h.size) (fun hx => hn (hs i hi hx))).trans (h.block i hi hn)⟩
theorem Frm.trans {S : Nat → Prop} {a b c : World} (h : Frm S a b) (k : Frm S b c) : Frm S a c := h.then k (fun _ _ h => h)
theorem Frm.mono {S S' : Nat → Prop} {a b : World} (h : Frm S a b) (hs : ∀ k, k < a.heap.size → S k → S' k) : Frm S' a b :=
  ⟨h.os, h.tape, h.output, h.size, fun i hi hn => h.block i hi (fun hx => hn (hs i hi hx))⟩
theorem Frm.alloc {S : Nat → Prop} {a w : World} (h : Frm S a w) (o : Obj) : Frm S a (w.alloc o) :=
  h.then (S' := No) ⟨rfl, rfl, rfl, by simp, fun k hk _ => Below.heap_alloc _ _ _ hk⟩ (fun _ _ h => h.elim)
theorem Frm.drew {S : Nat → Prop} {a w : World} (h : Frm S a w) : Frm S a w.drew := ⟨h.os, h.tape, h.output, h.size, h.block⟩
theorem Frm.drewN {S : Nat → Prop} {a w : World} (h : Frm S a w) (n : Nat) : Frm S a (w.drewN n) := ⟨h.os, h.tape, h.output, h.size, h.block⟩
theorem Frm.setCell {S : Nat → Prop} {a w : World} (h : Frm S a w) (p : Addr) (u : Value) (hp : p.block < a.heap.size → S p.block) : Frm S a (w.setCell p u) :=
  h.then (S' := At p.block) ⟨rfl, rfl, rfl, by simp [World.setCell], fun k _ hk => Below.heap_setCell _ _ _ _ hk⟩ (fun k hk e => by cases e; exact hp hk)
theorem Frm.below {S : Nat → Prop} {B : Nat} {w w' : World} (h : Frm S w w') (hB : B ≤ w.heap.size) (hs : ∀ k, k < B → ¬ S k) : Below B w w' :=
  ⟨h.os, h.tape, h.output, h.size, fun k hk => h.block k (by omega) (hs k hk)⟩
theorem Frm.ofBelow {B : Nat} {w w' : World} (h : Below B w w') (hB : w.heap.size ≤ B) : Frm No w w' :=
  ⟨h.os, h.tape, h.output, h.size, fun k hk _ => h.block k (by omega)⟩
theorem Frm.grown {S : Nat → Prop} {a w w' : World} {row : Option Nat} (h : Frm S a w) (hg : w.grownBy w' row) (hr : ∀ k, row = some k → k < a.heap.size → S k) : Frm S a w' :=
  h.then (S' := fun k => row = some k) ⟨hg.os, hg.tape, hg.output, hg.size, fun k hk hn => hg.block k hk (fun e => hn e.symm)⟩ (fun k hk e => hr k e hk)

/-- Block b holds these cells, and none of them is frozen. -/
def Box (w : World) (b : Nat) (T : TypeId) (C : Array Value) : Prop := w.heap[b]? = some (.cells C T (0, 0))
theorem Box.lt {w : World} {b : Nat} {T : TypeId} {C : Array Value} (h : Box w b T C) : b < w.heap.size := (Array.getElem?_eq_some_iff.1 h).1
theorem Box.cell {w : World} {b : Nat} {T : TypeId} {C : Array Value} (h : Box w b T C) (j : Nat) : w.cell? ⟨b, j, none⟩ = C[j]? := by simp [World.cell?, show w.heap[b]? = _ from h]
theorem Box.f {w : World} {b : Nat} {T : TypeId} {C : Array Value} (h : Box w b T C) (o : Nat) : w.frozen? ⟨b, o, none⟩ = false := by simp [World.frozen?, show w.heap[b]? = _ from h]
theorem Box.new (w : World) (T : TypeId) (C : Array Value) : Box (w.alloc (.cells C T)) w.heap.size T C := heap_alloc_new w _
theorem Box.alloc {w : World} {b : Nat} {T : TypeId} {C : Array Value} (h : Box w b T C) (o : Obj) : Box (w.alloc o) b T C := (Below.heap_alloc w o b h.lt).trans h
theorem Box.drew {w : World} {b : Nat} {T : TypeId} {C : Array Value} (h : Box w b T C) : Box w.drew b T C := h
theorem Box.frm {S : Nat → Prop} {w w' : World} {b : Nat} {T : TypeId} {C : Array Value} (h : Box w b T C) (k : Frm S w w') (hs : ¬ S b) : Box w' b T C := (k.block b h.lt hs).trans h
theorem Box.set_ne {w : World} {b b2 o : Nat} {T : TypeId} {C : Array Value} (h : Box w b T C) (z : Value) (hne : b2 ≠ b) : Box (w.setCell ⟨b2, o, none⟩ z) b T C :=
  (Below.heap_setCell w ⟨b2, o, none⟩ z b (fun e => hne e.symm)).trans h
theorem Box.set {w : World} {b : Nat} {T : TypeId} {C : Array Value} (h : Box w b T C) (o : Nat) (z : Value) : Box (w.setCell ⟨b, o, none⟩ z) b T (C.setIfInBounds o z) :=
  heap_setCell_same w b o _ T z h

/-- What isn't read yet. -/
def sx (s : ByteArray) (i : Nat) : List UInt8 := s.data.toList.drop i
theorem sx_len (s : ByteArray) (i : Nat) : (sx s i).length = s.size - i := by simp [sx]
theorem sx_cons (s : ByteArray) (i : Nat) (h : i < s.size) : sx s i = s[i] :: sx s (i + 1) := by
  unfold sx
  rw [List.drop_eq_getElem_cons (by simpa using h)]
  rfl
theorem sx_nil (s : ByteArray) (i : Nat) (h : s.size ≤ i) : sx s i = [] := List.drop_eq_nil_of_le (by simpa using h)
theorem sx_lt {s : ByteArray} {i : Nat} {c : UInt8} {l : List UInt8} (h : sx s i = c :: l) : i < s.size := by
  have := congrArg List.length h
  rw [sx_len] at this
  simp at this
  omega
theorem sx_hd {s : ByteArray} {i : Nat} {c : UInt8} {l : List UInt8} (h : sx s i = c :: l) : s[i]'(sx_lt h) = c := by
  rw [sx_cons s i (sx_lt h)] at h
  exact (List.cons.inj h).1
theorem sx_tl {s : ByteArray} {i : Nat} {c : UInt8} {l : List UInt8} (h : sx s i = c :: l) : sx s (i + 1) = l := by
  rw [sx_cons s i (sx_lt h)] at h
  exact (List.cons.inj h).2
/-- Does c come next? -/
def hd (l : List UInt8) (c : UInt8) : Bool := match l with
  | [] => false
  | x :: _ => x == c

theorem u8_beq (a b : UInt8) : ((a.toNat : Int) == (b.toNat : Int)) = (a == b) := by
  rw [Bool.eq_iff_iff]
  simp only [beq_iff_eq]
  constructor
  · intro h; exact UInt8.toNat_inj.1 (by omega)
  · intro h; rw [h]

/-- A new block behind draws. -/
theorem fr_new (w : World) (n : Nat) (C : Array Value) (T : TypeId) (o : Nat) : ((w.drewN n).alloc (.cells C T)).frozen? ⟨w.heap.size, o, none⟩ = false := (Box.new (w.drewN n) T C).f o
theorem cell_new (w : World) (n : Nat) (C : Array Value) (T : TypeId) (o : Nat) : ((w.drewN n).alloc (.cells C T)).cell? ⟨w.heap.size, o, none⟩ = C[o]? := (Box.new (w.drewN n) T C).cell o

end Go.Proofs.YteaibkbdoocifaaDoor.base
