/- Worlds that differ in named blocks alone; boxes (variables in memory); the reader of ere, and what only reads it. Contracts of the reader's small calls: sees, next, take, digit. -/
import Derived.Test.YtbfekknhmjndaaaGreatProg
import Derived.Test.YtbfekknhmjndaaaGreatKit
import Derived.OpenShut
import Derived.Outline
import Derived.Handy
import Derived.Deep.RegionWith
import Derived.Lib.Strings

namespace Go.Proofs.YtbfekknhmjndaaaGreat.base
set_option linter.unusedVariables false set_option linter.unusedSimpArgs false
open Go.ChangeShapes Go.WideShapes Go.ChangeAt Go.RowKit

/-- Behind w every block of w stands in w' as it stood, those of S aside. -/
structure Frm (S : Nat → Prop) (w w' : World) : Prop where
  os : w'.os = w.os
  tape : w'.tape = w.tape
  output : w'.output = w.output
  size : w.heap.size ≤ w'.heap.size
  block : ∀ k, k < w.heap.size → ¬ S k → w'.heap[k]? = w.heap[k]?

/-- No block. -/
def No : Nat → Prop := fun _ => False
/-- This block. -/
def At (R : Nat) : Nat → Prop := fun k => k = R
/-- These two. -/
def At2 (R Q : Nat) : Nat → Prop := fun k => k = R ∨ k = Q

theorem Frm.refl (S : Nat → Prop) (w : World) : Frm S w w := ⟨rfl, rfl, rfl, Nat.le_refl _, fun _ _ _ => rfl⟩
theorem Frm.then {S S' : Nat → Prop} {a b c : World} (h : Frm S a b) (k : Frm S' b c) (hs : ∀ k, k < a.heap.size → S' k → S k) : Frm S a c :=
  ⟨k.os.trans h.os, k.tape.trans h.tape, k.output.trans h.output, Nat.le_trans h.size k.size, fun i hi hn => (k.block i (Nat.lt_of_lt_of_le hi h.size) (fun hx => hn (hs i hi hx))).trans (h.block i hi hn)⟩
theorem Frm.trans {S : Nat → Prop} {a b c : World} (h : Frm S a b) (k : Frm S b c) : Frm S a c := h.then k (fun _ _ h => h)
theorem Frm.mono {S S' : Nat → Prop} {a b : World} (h : Frm S a b) (hs : ∀ k, k < a.heap.size → S k → S' k) : Frm S' a b :=
  ⟨h.os, h.tape, h.output, h.size, fun i hi hn => h.block i hi (fun hx => hn (hs i hi hx))⟩
theorem Frm.alloc {S : Nat → Prop} {a w : World} (h : Frm S a w) (o : Obj) : Frm S a (w.alloc o) :=
  h.then (S' := No) ⟨rfl, rfl, rfl, by simp, fun k hk _ => Below.heap_alloc _ _ _ hk⟩ (fun _ _ h => h.elim)
theorem Frm.drew {S : Nat → Prop} {a w : World} (h : Frm S a w) : Frm S a w.drew := ⟨h.os, h.tape, h.output, h.size, h.block⟩
theorem Frm.drewN {S : Nat → Prop} {a w : World} (h : Frm S a w) (n : Nat) : Frm S a (w.drewN n) := ⟨h.os, h.tape, h.output, h.size, h.block⟩
theorem Frm.setCell {S : Nat → Prop} {a w : World} (h : Frm S a w) (p : Addr) (u : Value) (hp : p.block < a.heap.size → S p.block) : Frm S a (w.setCell p u) :=
  h.then (S' := At p.block) ⟨rfl, rfl, rfl, by simp [World.setCell], fun k _ hk => Below.heap_setCell _ _ _ _ hk⟩ (fun k hk e => by cases e; exact hp hk)
theorem Frm.below {S : Nat → Prop} {B : Nat} {w w' : World} (h : Frm S w w') (hB : B ≤ w.heap.size) (hs : ∀ k, k < B → ¬ S k) : Below B w w' :=
  ⟨h.os, h.tape, h.output, h.size, fun k hk => h.block k (by omega) (hs k hk)⟩
theorem Frm.ofBelow {B : Nat} {w w' : World} (h : Below B w w') (hB : w.heap.size ≤ B) : Frm No w w' :=
  ⟨h.os, h.tape, h.output, h.size, fun k hk _ => h.block k (by omega)⟩
theorem Frm.grown {S : Nat → Prop} {a w w' : World} {row : Option Nat} (h : Frm S a w) (hg : w.grownBy w' row) (hr : ∀ k, row = some k → k < a.heap.size → S k) : Frm S a w' :=
  h.then (S' := fun k => row = some k) ⟨hg.os, hg.tape, hg.output, hg.size, fun k hk hn => hg.block k hk (fun e => hn e.symm)⟩ (fun k hk e => hr k e hk)

/-- Block b holds these cells, and none of them is frozen. -/
def Box (w : World) (b : Nat) (T : TypeId) (C : Array Value) : Prop := w.heap[b]? = some (.cells C T (0, 0))
theorem Box.lt {w : World} {b : Nat} {T : TypeId} {C : Array Value} (h : Box w b T C) : b < w.heap.size := (Array.getElem?_eq_some_iff.1 h).1
theorem Box.cell {w : World} {b : Nat} {T : TypeId} {C : Array Value} (h : Box w b T C) (j : Nat) : w.cell? ⟨b, j, none⟩ = C[j]? := by simp [World.cell?, show w.heap[b]? = _ from h]
theorem Box.f {w : World} {b : Nat} {T : TypeId} {C : Array Value} (h : Box w b T C) (o : Nat) : w.frozen? ⟨b, o, none⟩ = false := by simp [World.frozen?, show w.heap[b]? = _ from h]
theorem Box.new (w : World) (T : TypeId) (C : Array Value) : Box (w.alloc (.cells C T)) w.heap.size T C := heap_alloc_new w _
theorem Box.alloc {w : World} {b : Nat} {T : TypeId} {C : Array Value} (h : Box w b T C) (o : Obj) : Box (w.alloc o) b T C := (Below.heap_alloc w o b h.lt).trans h
theorem Box.drew {w : World} {b : Nat} {T : TypeId} {C : Array Value} (h : Box w b T C) : Box w.drew b T C := h
theorem Box.frm {S : Nat → Prop} {w w' : World} {b : Nat} {T : TypeId} {C : Array Value} (h : Box w b T C) (k : Frm S w w') (hs : ¬ S b) : Box w' b T C := (k.block b h.lt hs).trans h
theorem Box.set_ne {w : World} {b b2 o : Nat} {T : TypeId} {C : Array Value} (h : Box w b T C) (z : Value) (hne : b2 ≠ b) : Box (w.setCell ⟨b2, o, none⟩ z) b T C :=
  (Below.heap_setCell w ⟨b2, o, none⟩ z b (fun e => hne e.symm)).trans h
theorem Box.set {w : World} {b : Nat} {T : TypeId} {C : Array Value} (h : Box w b T C) (o : Nat) (z : Value) : Box (w.setCell ⟨b, o, none⟩ z) b T (C.setIfInBounds o z) :=
  heap_setCell_same w b o _ T z h

/-- What isn't read yet. -/
def sx (s : ByteArray) (i : Nat) : List UInt8 := s.data.toList.drop i
theorem sx_len (s : ByteArray) (i : Nat) : (sx s i).length = s.size - i := by simp [sx]
theorem sx_cons (s : ByteArray) (i : Nat) (h : i < s.size) : sx s i = s[i] :: sx s (i + 1) := by
  unfold sx
  rw [List.drop_eq_getElem_cons (by simpa using h)]
  rfl
theorem sx_nil (s : ByteArray) (i : Nat) (h : s.size ≤ i) : sx s i = [] := List.drop_eq_nil_of_le (by simpa using h)
theorem sx_lt {s : ByteArray} {i : Nat} {c : UInt8} {l : List UInt8} (h : sx s i = c :: l) : i < s.size := by
  have := congrArg List.length h
  rw [sx_len] at this
  simp at this
  omega
theorem sx_hd {s : ByteArray} {i : Nat} {c : UInt8} {l : List UInt8} (h : sx s i = c :: l) : s[i]'(sx_lt h) = c := by
  rw [sx_cons s i (sx_lt h)] at h
  exact (List.cons.inj h).1
theorem sx_tl {s : ByteArray} {i : Nat} {c : UInt8} {l : List UInt8} (h : sx s i = c :: l) : sx s (i + 1) = l := by
  rw [sx_cons s i (sx_lt h)] at h
  exact (List.cons.inj h).2
/-- Does c come next? -/
def hd (l : List UInt8) (c : UInt8) : Bool := match l with
  | [] => false
  | x :: _ => x == c

theorem u8_beq (a b : UInt8) : ((a.toNat : Int) == (b.toNat : Int)) = (a == b) := by
  rw [Bool.eq_iff_iff]
  simp only [beq_iff_eq]
  constructor
  · intro h; exact UInt8.toNat_inj.1 (by omega)
  · intro h; rw [h]

/-- A new block behind draws. -/
theorem fr_new (w : World) (n : Nat) (C : Array Value) (T : TypeId) (o : Nat) : ((w.drewN n).alloc (.cells C T)).frozen? ⟨w.heap.size, o, none⟩ = false := (Box.new (w.drewN n) T C).f o
theorem cell_new (w : World) (n : Nat) (C : Array Value) (T : TypeId) (o : Nat) : ((w.drewN n).alloc (.cells C T)).cell? ⟨w.heap.size, o, none⟩ = C[o]? := (Box.new (w.drewN n) T C).cell o

/-- The table that strings.Index looks at holds some number. -/
def Mx (w : World) : Prop := ∃ m, w.cell? ⟨0, 0, none⟩ = some (.int .i64 m)
theorem Mx.frm {S : Nat → Prop} {w w' : World} (h : Mx w) (k : Frm S w w') (hs : ¬ S 0) : Mx w' := by
  obtain ⟨m, h⟩ := h
  refine ⟨m, ?_⟩
  have hlt := World.block_lt_of_cell? w _ h
  rw [World.cell?_of_block (k.block _ hlt hs)]
  exact h
theorem Mx.set_ne {w : World} {b o : Nat} (h : Mx w) (z : Value) (hne : b ≠ 0) : Mx (w.setCell ⟨b, o, none⟩ z) := by
  obtain ⟨m, h⟩ := h
  refine ⟨m, ?_⟩
  rw [World.cell?_of_block (Below.heap_setCell w ⟨b, o, none⟩ z 0 (fun e => hne e.symm))]
  exact h

/-- The reader: its text, the place, how many groups are open. -/
def RdI (w : World) (R : Nat) (s : ByteArray) (d : Nat) (i : Nat) : Prop := Box w R 92 #[.string s, .int .i64 i, .int .i64 d] ∧ i ≤ s.size ∧ s.size ≤ 100000 ∧ d ≤ 100 ∧ R ≠ 0 ∧ Mx w
theorem RdI.c0 {w : World} {R : Nat} {s : ByteArray} {i d : Nat} (h : RdI w R s d i) : w.cell? ⟨R, 0, none⟩ = some (.string s) := h.1.cell 0
theorem RdI.c1 {w : World} {R : Nat} {s : ByteArray} {i d : Nat} (h : RdI w R s d i) : w.cell? ⟨R, 1, none⟩ = some (.int .i64 i) := h.1.cell 1
theorem RdI.c2 {w : World} {R : Nat} {s : ByteArray} {i d : Nat} (h : RdI w R s d i) : w.cell? ⟨R, 2, none⟩ = some (.int .i64 d) := h.1.cell 2
theorem RdI.set {w : World} {R : Nat} {s : ByteArray} {i d : Nat} (h : RdI w R s d i) (j : Nat) (hj : j ≤ s.size) (n : Int) (hn : n = (j : Int)) : RdI (w.setCell ⟨R, 1, none⟩ (.int .i64 n)) R s d j := by
  subst hn
  obtain ⟨h1, h2, h3, h4, h5, h6⟩ := h
  exact ⟨h1.set 1 _, hj, h3, h4, h5, h6.set_ne _ h5⟩
theorem RdI.deep {w : World} {R : Nat} {s : ByteArray} {i d : Nat} (h : RdI w R s d i) (j : Nat) (hj : j ≤ 100) (n : Int) (hn : n = (j : Int)) : RdI (w.setCell ⟨R, 2, none⟩ (.int .i64 n)) R s j i := by
  subst hn
  obtain ⟨h1, h2, h3, h4, h5, h6⟩ := h
  exact ⟨h1.set 2 _, h2, h3, hj, h5, h6.set_ne _ h5⟩

/-- The reader, by what isn't read yet. -/
def Rd (w : World) (R : Nat) (s : ByteArray) (d : Nat) (l : List UInt8) : Prop := ∃ i, RdI w R s d i ∧ sx s i = l
theorem Rd.frm {S : Nat → Prop} {w w' : World} {R : Nat} {s : ByteArray} {d : Nat} {l : List UInt8} (h : Rd w R s d l) (k : Frm S w w') (hs : ¬ S R) (h0 : ¬ S 0) : Rd w' R s d l := by
  obtain ⟨i, ⟨h1, h2, h3, h4, h5, h6⟩, e⟩ := h
  exact ⟨i, ⟨h1.frm k hs, h2, h3, h4, h5, h6.frm k h0⟩, e⟩
theorem Rd.lt {w : World} {R : Nat} {s : ByteArray} {d : Nat} {l : List UInt8} (h : Rd w R s d l) : R < w.heap.size := by
  obtain ⟨i, h, e⟩ := h
  exact h.1.lt
theorem Rd.len {w : World} {R : Nat} {s : ByteArray} {d : Nat} {l : List UInt8} (h : Rd w R s d l) : l.length ≤ 100000 := by
  obtain ⟨i, h, e⟩ := h
  rw [← e, sx_len]
  have := h.2.2.1
  omega
theorem Rd.alloc {w : World} {R : Nat} {s : ByteArray} {d : Nat} {l : List UInt8} (h : Rd w R s d l) (o : Obj) : Rd (w.alloc o) R s d l := h.frm ((Frm.refl No w).alloc o) id id
theorem Rd.set_ne {w : World} {R : Nat} {s : ByteArray} {d b2 o : Nat} {l : List UInt8} (h : Rd w R s d l) (z : Value) (hne : b2 ≠ R) (h0 : b2 ≠ 0) : Rd (w.setCell ⟨b2, o, none⟩ z) R s d l :=
  h.frm (Frm.setCell (S := At b2) (Frm.refl _ w) ⟨b2, o, none⟩ z (fun _ => rfl)) (fun e => hne e.symm) (fun e => h0 e.symm)
theorem Rd.ne0 {w : World} {R : Nat} {s : ByteArray} {d : Nat} {l : List UInt8} (h : Rd w R s d l) : R ≠ 0 := by
  obtain ⟨i, h, e⟩ := h
  exact h.2.2.2.2.1
theorem Rd.mx {w : World} {R : Nat} {s : ByteArray} {d : Nat} {l : List UInt8} (h : Rd w R s d l) : Mx w := by
  obtain ⟨i, h, e⟩ := h
  exact h.2.2.2.2.2
theorem Rd.move {w w' : World} {R : Nat} {s : ByteArray} {d : Nat} {l : List UInt8} (h : Rd w R s d l) (k : Frm No w w') : Rd w' R s d l := h.frm k id id


theorem Rd.drew {w : World} {R : Nat} {s : ByteArray} {d : Nat} {l : List UInt8} (h : Rd w R s d l) (n : Nat) : Rd (w.drewN n) R s d l := h

theorem done_all (w : World) (R : Nat) (s : ByteArray) (d : Nat) (l : List UInt8) (h : Rd w R s d l) :
    Calls Tryz.prog 48 #[.pointer (some ⟨R, 0, none⟩)] w fun e w' => e = .returned (.bool l.isEmpty) ∧ ∃ n, w' = w.drewN n := by
  obtain ⟨i, h, e⟩ := h
  have h0 := h.c0
  have h1 := h.c1
  have hi := h.2.1
  have hz := h.2.2.1
  have HE := Lib.hid (show ((i : Int) == (s.size : Int)) = l.isEmpty by
    rw [Bool.eq_iff_iff]
    simp only [beq_iff_eq, List.isEmpty_iff]
    constructor
    · intro hx; rw [← e]; exact sx_nil s i (by omega)
    · intro hx; have := sx_len s i; rw [e, hx] at this; simp at this; omega)
  clear h e
  go_enter Tryz.func48, Tryz.ntmps48
  go_wp2
  go_quiet (fail)
  go_wp2
  go_ret
  exact ⟨ret_bool HE.out, _, rfl⟩

theorem rest_all (w : World) (R : Nat) (s : ByteArray) (d i : Nat) (h : RdI w R s d i) :
    Calls Tryz.prog 126 #[.pointer (some ⟨R, 0, none⟩)] w fun e w' => e = .returned (.string (s.extract i s.size)) ∧ ∃ n, w' = w.drewN n := by
  have h0 := h.c0
  have h1 := h.c1
  have hi := h.2.1
  have hz := h.2.2.1
  go_enter Tryz.func126, Tryz.ntmps126
  go_wp2
  go_quiet (fail)
  go_wp2
  go_ret
  exact ⟨rfl, _, rfl⟩

theorem at_all (w : World) (R : Nat) (s : ByteArray) (d : Nat) (l : List UInt8) (c : UInt8) (n : Int) (hn : n = (c.toNat : Int)) (h : Rd w R s d l) :
    Calls Tryz.prog 80 #[.pointer (some ⟨R, 0, none⟩), .int .u8 n] w fun e w' => e = .returned (.bool (hd l c)) ∧ ∃ n, w' = w.drewN n := by
  subst hn
  have H := Lib.hid h
  obtain ⟨i, h, e⟩ := h
  have hi := h.2.1
  have hz := h.2.2.1
  cases l with
  | nil =>
    go_enter Tryz.func80, Tryz.ntmps80
    go_wp2
    go_quiet ((go_at_call 48; go_must (exact Calls.quiet_of (done_all _ R s d [] (by exact H.out)))))
    go_wp2
    go_ret
    exact ⟨rfl, _, rfl⟩
  | cons x t =>
    have hlt := sx_lt e
    have hx := sx_hd e
    have HD := Lib.hid (show ((s[i].toNat : Int) == (c.toNat : Int)) = hd (x :: t) c by rw [u8_beq, hx]; rfl)
    have h1 := h.c0
    have h2 := h.c1
    clear hx e h
    go_enter Tryz.func80, Tryz.ntmps80
    go_wp2
    go_quiet ((go_at_call 48; go_must (exact Calls.quiet_of (done_all _ R s d (x :: t) (by exact H.out)))))
    go_wp2
    go_ret
    exact ⟨ret_bool HD.out, _, rfl⟩

end Go.Proofs.YtbfekknhmjndaaaGreat.base

namespace Go.Proofs.YtbfekknhmjndaaaGreat.read
set_option linter.unusedVariables false set_option linter.unusedSimpArgs false
open Go.ChangeShapes Go.WideShapes Go.ChangeAt Go.RowKit Go.Proofs.YtbfekknhmjndaaaGreat.base

/-- Do a and b come next? -/
def pre2 (l : List UInt8) (a b : UInt8) : Bool := match l with
  | x :: y :: _ => x == a && y == b
  | _ => false

theorem next_all (w : World) (R : Nat) (s : ByteArray) (d : Nat) (x : UInt8) (t : List UInt8) (h : Rd w R s d (x :: t)) :
    Calls Tryz.prog 99 #[.pointer (some ⟨R, 0, none⟩)] w fun e w' => e = .returned (.int .u8 (x.toNat : Int)) ∧ Rd w' R s d t ∧ Frm (At R) w w' := by
  obtain ⟨i, h, e⟩ := h
  have hlt := sx_lt e
  have hx := sx_hd e
  have ht := Lib.hid (sx_tl e)
  have h0 := h.c0
  have h1 := h.c1
  have hf := h.1.f 1
  have hz := h.2.2.1
  have H := Lib.hid h
  have HX := Lib.hid (congrArg (fun c : UInt8 => (c.toNat : Int)) hx)
  clear h hx
  go_enter Tryz.func99, Tryz.ntmps99
  go_wp2
  go_quiet (fail)
  go_wp2
  go_ret
  refine ⟨ret_int (by exact HX.out), ⟨i + 1, ?_, ht.out⟩, ?_⟩
  · exact RdI.set (w := w.drewN nq) H.out (i + 1) (by omega) _ (by omega)
  · exact Frm.setCell (w := w.drewN nq) ((Frm.refl (At R) w).drewN nq) ⟨R, 1, none⟩ _ (fun _ => rfl)

theorem take_all (w : World) (R : Nat) (s : ByteArray) (d : Nat) (l : List UInt8) (c : UInt8) (n : Int) (hn : n = (c.toNat : Int)) (h : Rd w R s d l) :
    Calls Tryz.prog 63 #[.pointer (some ⟨R, 0, none⟩), .int .u8 n] w fun e w' => e = .returned (.bool (hd l c)) ∧ Rd w' R s d (if hd l c then l.tail else l) ∧ Frm (At R) w w' := by
  subst hn
  have H := Lib.hid h
  by_cases hc : hd l c = true
  · obtain ⟨x, t, rfl⟩ : ∃ x t, l = x :: t := by cases l with
      | nil => cases hc
      | cons x t => exact ⟨x, t, rfl⟩
    obtain ⟨i, h, e⟩ := h
    have hlt := sx_lt e
    have ht := Lib.hid (sx_tl e)
    have h0 := h.c0
    have h1 := h.c1
    have hf := h.1.f 1
    have hz := h.2.2.1
    have HI := Lib.hid h
    clear h e
    go_enter Tryz.func63, Tryz.ntmps63
    go_wp2_with (go_at_call 80; go_must (refine (at_all _ R s d (x :: t) c _ rfl (by exact H.out)).mono ?_; rintro e _ ⟨rfl, n1, rfl⟩))
    go_ret
    refine ⟨rfl, ?_, ?_⟩
    · exact ⟨i + 1, RdI.set (w := w.drewN n1) HI.out (i + 1) (by omega) _ (by omega), ht.out⟩
    · exact Frm.setCell (a := w) (w := w.drewN n1) ((Frm.refl (At R) w).drewN n1) ⟨R, 1, none⟩ _ (fun _ => rfl)
  · have hc' : hd l c = false := by simpa using hc
    go_enter Tryz.func63, Tryz.ntmps63
    go_wp2_with (go_at_call 80; go_must (refine (at_all _ R s d l c _ rfl (by exact H.out)).mono ?_; rintro e _ ⟨rfl, n1, rfl⟩))
    go_ret
    exact ⟨rfl, H.out, (Frm.refl (At R) w).drewN n1⟩

theorem pre2_of (s : ByteArray) (a b : UInt8) : (decide (2 ≤ s.size) && ((s.extract 0 2).toList == [a, b])) = pre2 s.data.toList a b := by
  rw [Lib.toList_data, extract_list]
  have hl := len_list s
  generalize s.data.toList = l at *
  rw [← hl]
  match l with
  | [] => rfl
  | [x] => rfl
  | x :: y :: t => simp [pre2]

theorem hasPrefix_2 (w : World) (s : ByteArray) (a b : UInt8) (hz : s.size ≤ 100000) :
    Calls Tryz.prog 125 #[.string s, .string ⟨#[a, b]⟩] w fun e w' => e = .returned (.bool (pre2 s.data.toList a b)) ∧ w' = w := by
  have hps : (⟨#[a, b]⟩ : ByteArray).size = 2 := rfl
  by_cases h2 : 2 ≤ s.size
  · have HP := Lib.hid (show ((s.extract 0 2).toList == [a, b]) = pre2 s.data.toList a b by
      rw [← pre2_of s a b, decide_eq_true h2]; rfl)
    go_enter Tryz.func125, Tryz.ntmps125
    go_wp2
    go_ret
    exact ⟨ret_bool HP.out, rfl⟩
  · have HP := Lib.hid (show false = pre2 s.data.toList a b by
      rw [← pre2_of s a b, decide_eq_false h2]; rfl)
    go_enter Tryz.func125, Tryz.ntmps125
    go_wp2
    go_ret
    exact ⟨ret_bool HP.out, rfl⟩

theorem sees_all (w : World) (R : Nat) (s : ByteArray) (d : Nat) (l : List UInt8) (a b : UInt8) (h : Rd w R s d l) :
    Calls Tryz.prog 118 #[.pointer (some ⟨R, 0, none⟩), .string ⟨#[a, b]⟩] w fun e w' => e = .returned (.bool (pre2 l a b)) ∧ ∃ n, w' = w.drewN n := by
  obtain ⟨i, h, e⟩ := h
  have H := Lib.hid h
  have hz := h.2.2.1
  have hr : (s.extract i s.size).size = s.size - i := by simp
  have HL := Lib.hid (show List.take (s.size - i) (List.drop i s.data.toList) = l by
    rw [← e]; simp [sx, List.take_of_length_le])
  clear h e
  go_enter Tryz.func118, Tryz.ntmps118
  go_wp2_with (first | (go_at_call 126; go_must (refine (rest_all _ R s d i (by exact H.out)).mono ?_; rintro e _ ⟨rfl, n1, rfl⟩)) | (go_at_call 125; go_must (refine (hasPrefix_2 _ (s.extract i s.size) a b (by omega)).mono ?_; rintro e _ ⟨rfl, rfl⟩)))
  go_ret
  exact ⟨ret_bool (by rw [HL.out]), _, rfl⟩

theorem u8_sub48 (x : UInt8) : ((x.toNat : Int) - 48) % 256 = ((x - 48).toNat : Int) := by
  have h : ∀ n : Fin 256, ((n.val : Int) - 48) % 256 = ((UInt8.ofNat n.val - 48).toNat : Int) := by decide +kernel
  have := h ⟨x.toNat, x.toNat_lt⟩
  simpa using this

/-- A digit below b, and what is behind it. -/
def dgt (b : Nat) (l : List UInt8) : Option (Nat × List UInt8) := match l with
  | [] => none
  | x :: t => if (x - 48).toNat < b then some ((x - 48).toNat, t) else none

theorem digit_no (w : World) (R : Nat) (s : ByteArray) (d : Nat) (l : List UInt8) (b : Nat) (hb : b ≤ 10) (h : Rd w R s d l) (hd : dgt b l = none) :
    Calls Tryz.prog 107 #[.pointer (some ⟨R, 0, none⟩), .int .i64 b] w fun e w' => e = .returned (.tuple #[.int .i64 0, .bool false]) ∧ ∃ n, w' = w.drewN n := by
  have H := Lib.hid h
  cases l with
  | nil =>
    clear hd
    go_enter Tryz.func107, Tryz.ntmps107
    go_wp2_with (go_at_call 48; go_must (refine (done_all _ R s d [] (by exact H.out)).mono ?_; rintro e _ ⟨rfl, n1, rfl⟩))
    exact bodyPost_ret (v := .tuple #[.int .i64 0, .bool false]) (by simp [results, Tryz.results107, go_sem]) rfl ⟨rfl, _, rfl⟩
  | cons x t =>
    obtain ⟨i, h, e⟩ := h
    have hlt := sx_lt e
    have hx := sx_hd e
    have h0 := h.c0
    have h1 := h.c1
    have hz := h.2.2.1
    have hm : ((s[i].toNat : Int) - 48) % 256 = ((x - 48).toNat : Int) := by
      rw [hx]; exact (u8_sub48 x)
    have hc : (b : Int) ≤ ((x - 48).toNat : Int) := by
      simp only [dgt] at hd
      split at hd
      · cases hd
      · omega
    clear h e hx hd
    go_enter Tryz.func107, Tryz.ntmps107
    go_wp2_with (go_at_call 48; go_must (refine (done_all _ R s d (x :: t) (by exact H.out)).mono ?_; rintro e _ ⟨rfl, n1, rfl⟩))
    go_quiet (fail)
    go_wp2
    exact bodyPost_ret (v := .tuple #[.int .i64 0, .bool false]) (by simp [results, Tryz.results107, go_sem]) rfl ⟨rfl, _, rfl⟩

theorem digit_yes (w : World) (R : Nat) (s : ByteArray) (d : Nat) (l t : List UInt8) (b n : Nat) (hb : b ≤ 10) (h : Rd w R s d l) (hd : dgt b l = some (n, t)) :
    Calls Tryz.prog 107 #[.pointer (some ⟨R, 0, none⟩), .int .i64 b] w fun e w' => e = .returned (.tuple #[.int .i64 n, .bool true]) ∧ Rd w' R s d t ∧ Frm (At R) w w' := by
  have H := Lib.hid h
  cases l with
  | nil => cases hd
  | cons x t' =>
    obtain ⟨i, h, e⟩ := h
    have hlt := sx_lt e
    have hx := sx_hd e
    have ht := Lib.hid (sx_tl e)
    have h0 := h.c0
    have h1 := h.c1
    have hf := h.1.f 1
    have hz := h.2.2.1
    have HI := Lib.hid h
    obtain ⟨rfl, rfl, hc⟩ : n = (x - 48).toNat ∧ t = t' ∧ (x - 48).toNat < b := by
      simp only [dgt] at hd
      split at hd
      · rename_i hc
        cases hd
        exact ⟨rfl, rfl, hc⟩
      · cases hd
    have hm : ((s[i].toNat : Int) - 48) % 256 = ((x - 48).toNat : Int) := by
      rw [hx]; exact (u8_sub48 x)
    have hc' : ((x - 48).toNat : Int) < (b : Int) := by omega
    clear h e hx hd
    go_enter Tryz.func107, Tryz.ntmps107
    go_wp2_with (go_at_call 48; go_must (refine (done_all _ R s d (x :: t) (by exact H.out)).mono ?_; rintro e _ ⟨rfl, n1, rfl⟩))
    go_quiet (fail)
    go_wp2
    refine bodyPost_ret (v := .tuple #[.int .i64 ((x - 48).toNat : Int), .bool true]) (by simp [results, Tryz.results107, go_sem, hm]) rfl ⟨rfl, ?_, ?_⟩
    · exact ⟨i + 1, RdI.set (w := w.drewN _) HI.out (i + 1) (by omega) _ (by omega), ht.out⟩
    · exact Frm.setCell (w := w.drewN _) ((Frm.refl (At R) w).drewN _) ⟨R, 1, none⟩ _ (fun _ => rfl)
end Go.Proofs.YtbfekknhmjndaaaGreat.read
