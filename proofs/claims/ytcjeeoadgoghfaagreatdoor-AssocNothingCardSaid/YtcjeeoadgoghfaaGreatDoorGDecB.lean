/- Worlds that differ in named blocks alone; boxes (variables in memory); what is left of a text. Contracts of strconv's uscale and of the small functions about it. strconv's decimal in memory; contracts of prefixIsLessThan and trim. strconv's decimal in memory (Dm); contract of trim. -/
import Derived.Test.YtcjeeoadgoghfaaGreatDoorProg
import Derived.Test.YtcjeeoadgoghfaaGreatDoorGTabR
import Derived.OpenShut
import Derived.Outline
import Derived.Handy
import Derived.Deep.RegionWith
import Derived.Test.YtcjeeoadgoghfaaGreatDoorShelf
import Derived.Test.YtcjeeoadgoghfaaGreatDoorGNear5
import Derived.Laws.Bits64b
import Derived.IntWalk
import Derived.BigQuiet
import Derived.Deep.QuietTactic

namespace Go.Proofs.YtcjeeoadgoghfaaGreatDoor.base
set_option linter.unusedVariables false set_option linter.unusedSimpArgs false
open Go.ChangeShapes Go.WideShapes Go.ChangeAt Go.RowKit

/-- Behind w every block of w stands in w' as it stood, those of S aside. -/
structure Frm (S : Nat → Prop) (w w' : World) : Prop where
  os : w'.os = w.os
  tape : w'.tape = w.tape
  output : w'.output = w.output
  size : w.heap.size ≤ w'.heap.size
  block : ∀ k, k < w.heap.size → ¬ S k → w'.heap[k]? = w.heap[k]?

/-- No block. -/
def No : Nat → Prop := fun _ => False
/-- This block. -/
def At (R : Nat) : Nat → Prop := fun k => k = R
/-- These two. -/
def At2 (R Q : Nat) : Nat → Prop := fun k => k = R ∨ k = Q

theorem Frm.refl (S : Nat → Prop) (w : World) : Frm S w w := ⟨rfl, rfl, rfl, Nat.le_refl _, fun _ _ _ => rfl⟩
theorem Frm.then {S S' : Nat → Prop} {a b c : World} (h : Frm S a b) (k : Frm S' b c) (hs : ∀ k, k < a.heap.size → S' k → S k) : Frm S a c :=
  ⟨k.os.trans h.os, k.tape.trans h.tape, k.output.trans h.output, Nat.le_trans h.size k.size, fun i hi hn => (k.block i (Nat.lt_of_lt_of_le hi h.size) (fun hx => hn (hs i hi hx))).trans (h.block i hi hn)⟩
theorem Frm.trans {S : Nat → Prop} {a b c : World} (h : Frm S a b) (k : Frm S b c) : Frm S a c := h.then k (fun _ _ h => h)
theorem Frm.mono {S S' : Nat → Prop} {a b : World} (h : Frm S a b) (hs : ∀ k, k < a.heap.size → S k → S' k) : Frm S' a b :=
  ⟨h.os, h.tape, h.output, h.size, fun i hi hn => h.block i hi (fun hx => hn (hs i hi hx))⟩
theorem Frm.alloc {S : Nat → Prop} {a w : World} (h : Frm S a w) (o : Obj) : Frm S a (w.alloc o) :=
  h.then (S' := No) ⟨rfl, rfl, rfl, by simp, fun k hk _ => Below.heap_alloc _ _ _ hk⟩ (fun _ _ h => h.elim)
theorem Frm.drew {S : Nat → Prop} {a w : World} (h : Frm S a w) : Frm S a w.drew := ⟨h.os, h.tape, h.output, h.size, h.block⟩
theorem Frm.drewN {S : Nat → Prop} {a w : World} (h : Frm S a w) (n : Nat) : Frm S a (w.drewN n) := ⟨h.os, h.tape, h.output, h.size, h.block⟩
theorem Frm.setCell {S : Nat → Prop} {a w : World} (h : Frm S a w) (p : Addr) (u : Value) (hp : p.block < a.heap.size → S p.block) : Frm S a (w.setCell p u) :=
  h.then (S' := At p.block) ⟨rfl, rfl, rfl, by simp [World.setCell], fun k _ hk => Below.heap_setCell _ _ _ _ hk⟩ (fun k hk e => by cases e; exact hp hk)
theorem Frm.below {S : Nat → Prop} {B : Nat} {w w' : World} (h : Frm S w w') (hB : B ≤ w.heap.size) (hs : ∀ k, k < B → ¬ S k) : Below B w w' :=
  ⟨h.os, h.tape, h.output, h.size, fun k hk => h.block k (by omega) (hs k hk)⟩
theorem Frm.ofBelow {B : Nat} {w w' : World} (h : Below B w w') (hB : w.heap.size ≤ B) : Frm No w w' :=
  ⟨h.os, h.tape, h.output, h.size, fun k hk _ => h.block k (by omega)⟩
theorem Frm.grown {S : Nat → Prop} {a w w' : World} {row : Option Nat} (h : Frm S a w) (hg : w.grownBy w' row) (hr : ∀ k, row = some k → k < a.heap.size → S k) : Frm S a w' :=
  h.then (S' := fun k => row = some k) ⟨hg.os, hg.tape, hg.output, hg.size, fun k hk hn => hg.block k hk (fun e => hn e.symm)⟩ (fun k hk e => hr k e hk)

/-- Block b holds these cells, and none of them is frozen. -/
def Box (w : World) (b : Nat) (T : TypeId) (C : Array Value) : Prop := w.heap[b]? = some (.cells C T (0, 0))
theorem Box.lt {w : World} {b : Nat} {T : TypeId} {C : Array Value} (h : Box w b T C) : b < w.heap.size := (Array.getElem?_eq_some_iff.1 h).1
theorem Box.cell {w : World} {b : Nat} {T : TypeId} {C : Array Value} (h : Box w b T C) (j : Nat) : w.cell? ⟨b, j, none⟩ = C[j]? := by simp [World.cell?, show w.heap[b]? = _ from h]
theorem Box.f {w : World} {b : Nat} {T : TypeId} {C : Array Value} (h : Box w b T C) (o : Nat) : w.frozen? ⟨b, o, none⟩ = false := by simp [World.frozen?, show w.heap[b]? = _ from h]
theorem Box.new (w : World) (T : TypeId) (C : Array Value) : Box (w.alloc (.cells C T)) w.heap.size T C := heap_alloc_new w _
theorem Box.alloc {w : World} {b : Nat} {T : TypeId} {C : Array Value} (h : Box w b T C) (o : Obj) : Box (w.alloc o) b T C := (Below.heap_alloc w o b h.lt).trans h
theorem Box.drew {w : World} {b : Nat} {T : TypeId} {C : Array Value} (h : Box w b T C) : Box w.drew b T C := h
theorem Box.frm {S : Nat → Prop} {w w' : World} {b : Nat} {T : TypeId} {C : Array Value} (h : Box w b T C) (k : Frm S w w') (hs : ¬ S b) : Box w' b T C := (k.block b h.lt hs).trans h
theorem Box.set_ne {w : World} {b b2 o : Nat} {T : TypeId} {C : Array Value} (h : Box w b T C) (z : Value) (hne : b2 ≠ b) : Box (w.setCell ⟨b2, o, none⟩ z) b T C :=
  (Below.heap_setCell w ⟨b2, o, none⟩ z b (fun e => hne e.symm)).trans h
theorem Box.set {w : World} {b : Nat} {T : TypeId} {C : Array Value} (h : Box w b T C) (o : Nat) (z : Value) : Box (w.setCell ⟨b, o, none⟩ z) b T (C.setIfInBounds o z) :=
  heap_setCell_same w b o _ T z h

/-- What isn't read yet. -/
def sx (s : ByteArray) (i : Nat) : List UInt8 := s.data.toList.drop i
theorem sx_len (s : ByteArray) (i : Nat) : (sx s i).length = s.size - i := by simp [sx]
theorem sx_cons (s : ByteArray) (i : Nat) (h : i < s.size) : sx s i = s[i] :: sx s (i + 1) := by
  unfold sx
  rw [List.drop_eq_getElem_cons (by simpa using h)]
  rfl
theorem sx_nil (s : ByteArray) (i : Nat) (h : s.size ≤ i) : sx s i = [] := List.drop_eq_nil_of_le (by simpa using h)
theorem sx_lt {s : ByteArray} {i : Nat} {c : UInt8} {l : List UInt8} (h : sx s i = c :: l) : i < s.size := by
  have := congrArg List.length h
  rw [sx_len] at this
  simp at this
  omega
theorem sx_hd {s : ByteArray} {i : Nat} {c : UInt8} {l : List UInt8} (h : sx s i = c :: l) : s[i]'(sx_lt h) = c := by
  rw [sx_cons s i (sx_lt h)] at h
  exact (List.cons.inj h).1
theorem sx_tl {s : ByteArray} {i : Nat} {c : UInt8} {l : List UInt8} (h : sx s i = c :: l) : sx s (i + 1) = l := by
  rw [sx_cons s i (sx_lt h)] at h
  exact (List.cons.inj h).2
/-- Does c come next? -/
def hd (l : List UInt8) (c : UInt8) : Bool := match l with
  | [] => false
  | x :: _ => x == c

theorem u8_beq (a b : UInt8) : ((a.toNat : Int) == (b.toNat : Int)) = (a == b) := by
  rw [Bool.eq_iff_iff]
  simp only [beq_iff_eq]
  constructor
  · intro h; exact UInt8.toNat_inj.1 (by omega)
  · intro h; rw [h]

/-- A new block behind draws. -/
theorem fr_new (w : World) (n : Nat) (C : Array Value) (T : TypeId) (o : Nat) : ((w.drewN n).alloc (.cells C T)).frozen? ⟨w.heap.size, o, none⟩ = false := (Box.new (w.drewN n) T C).f o
theorem cell_new (w : World) (n : Nat) (C : Array Value) (T : TypeId) (o : Nat) : ((w.drewN n).alloc (.cells C T)).cell? ⟨w.heap.size, o, none⟩ = C[o]? := (Box.new (w.drewN n) T C).cell o

end Go.Proofs.YtcjeeoadgoghfaaGreatDoor.base

namespace Go.Proofs.YtcjeeoadgoghfaaGreatDoor.deca
set_option linter.unusedVariables false set_option linter.unusedSimpArgs false
open Go.ChangeShapes Go.WideShapes Go.ChangeAt Go.RowKit Go.Proofs.YtcjeeoadgoghfaaGreatDoor.base Go.Proofs.YtcjeeoadgoghfaaGreatDoor.Deci Go.Proofs.YtcjeeoadgoghfaaGreatDoor.Usc

theorem bool2u (b : Bool) (w : World) : Calls Tryz.prog 245 #[.bool b] w fun e w' => e = .returned (.int .u64 (if b then 1 else 0)) ∧ w' = w := by
  cases b
  all_goals
    go_enter Tryz.func245, Tryz.ntmps245
    go_wp2
    go_ret
    exact ⟨rfl, rfl⟩
theorem bool2i (b : Bool) (w : World) : Calls Tryz.prog 180 #[.bool b] w fun e w' => e = .returned (.int .i64 (if b then 1 else 0)) ∧ w' = w := by
  cases b
  all_goals
    go_enter Tryz.func180, Tryz.ntmps180
    go_wp2
    go_ret
    exact ⟨rfl, rfl⟩

theorem bool2s (b : Bool) (w : World) : Calls Tryz.prog 245 #[.bool b] w fun e w' => e = .returned (.int .u64 (if b then 1 else 0)) ∧ w = w' :=
  (bool2u b w).mono (fun e w' h => ⟨h.1, h.2.symm⟩)
/-- A word of 64 bits; the two words of a product. (The great numbers stand behind names: the walk would count them out.) -/
def W64 (x : Nat) : Prop := x < 18446744073709551616
def hiW (x y : Nat) : Nat := x * y / 18446744073709551616
def loW (x y : Nat) : Nat := x * y % 18446744073709551616
theorem W64.out {x : Nat} (h : W64 x) : x < 18446744073709551616 := h
theorem hiW_lt {x y : Nat} (hx : W64 x) (hy : W64 y) : W64 (hiW x y) := by
  have h := Nat.mul_lt_mul'' hx.out hy.out
  exact Nat.div_lt_of_lt_mul h
theorem loW_lt (x y : Nat) : W64 (loW x y) := Nat.mod_lt _ (by decide)
theorem mulW (x y : Nat) (hx : W64 x) (hy : W64 y) (w : World) : Calls Tryz.prog 250 #[.int .u64 x, .int .u64 y] w fun e w' => e = .returned (.tuple #[.int .u64 (hiW x y : Nat), .int .u64 (loW x y : Nat)]) ∧ w' = w := Tryz.bits_Mul64 x y hx hy w
theorem usc_eq (x hi lo s : Nat) : usc x hi lo s = if hiW x hi % 2 ^ s ≠ 0 then orb (hiW x hi / 2 ^ s) true else if loW x hi < hiW x lo then orb ((hiW x hi - 1) / 2 ^ s) (decide (1 < 18446744073709551616 + loW x hi - hiW x lo)) else orb (hiW x hi / 2 ^ s) (decide (1 < loW x hi - hiW x lo)) := rfl
/-- Shifted down and up again. -/
theorem down_up {H s : Nat} (hH : W64 H) : ∃ q r : Nat, (H : Int) / 2 ^ s = (q : Int) ∧ IntKind.u64.wrap ((q : Int) * 2 ^ s) = (r : Int) ∧ q = H / 2 ^ s ∧ ((r : Int) != (H : Int)) = decide (H % 2 ^ s ≠ 0) := by
  have h := hH.out
  have e := Nat.div_add_mod H (2 ^ s)
  refine ⟨H / 2 ^ s, 2 ^ s * (H / 2 ^ s), ?_, ?_, rfl, ?_⟩
  · rw [Int.natCast_ediv]; push_cast; rfl
  · have e1 : ((H / 2 ^ s : Nat) : Int) * 2 ^ s = ((2 ^ s * (H / 2 ^ s) : Nat) : Int) := by rw [Nat.mul_comm, Int.natCast_mul, Int.natCast_pow]; rfl
    rw [e1, Go.IntWalk.u64_in _ ⟨by omega, by omega⟩]
  · rw [Bool.eq_iff_iff]
    simp only [bne_iff_ne, decide_eq_true_eq, ne_eq]
    omega
theorem or_orb {q : Nat} (hq : W64 q) (c : Bool) : bits .or .u64 (q : Int) (if c then 1 else 0) = (orb q c : Nat) := by
  have h := hq.out
  unfold orb
  cases c
  · have := bits_or_u64_nat q 0 h (by decide)
    rw [Nat.or_zero] at this
    exact this
  · have := bits_or_u64_nat q 1 h (by decide)
    have e : q ||| 1 = if q % 2 = 1 then q else q + 1 := by
      rcases Nat.mod_two_eq_zero_or_one q with h2 | h2
      · rw [if_neg (by omega)]
        have := Nat.two_pow_add_eq_or_of_lt (i := 1) (b := 1) (by decide) (q / 2)
        rw [show 2 ^ 1 * (q / 2) = q by omega] at this
        exact this.symm
      · rw [if_pos h2]
        have := Nat.two_pow_add_eq_or_of_lt (i := 1) (b := 1) (by decide) (q / 2)
        rw [show 2 ^ 1 * (q / 2) + 1 = q by omega] at this
        conv => lhs; rw [this]
        rw [Nat.or_assoc, Nat.or_self]
        exact this.symm
    rw [e] at this
    exact this
theorem and63 {s : Nat} (hs : s ≤ 63) : bits .and .i64 (s : Int) 63 = (s : Int) := by
  have h := bits_mask .i64 63 (by decide) (fun n h0 h1 => by rw [IntKind.wrap_i64]; omega) 6 (by decide) (s : Int) (by omega) (by omega)
  have e1 : ((2 : Int) ^ 6 - 1) = 63 := by decide
  have e2 : ((2 : Int) ^ 6) = 64 := by decide
  rw [e1, e2] at h
  rw [h]; omega

set_option maxRecDepth 20000 in
set_option maxHeartbeats 1000000 in
theorem uscale_all (w : World) (b : Nat) (x hi lo s : Nat) (hx : W64 x) (hh : W64 hi) (hl : W64 lo) (hs : s ≤ 63) (h1 : 1 ≤ hiW x hi)
    (c0 : w.cell? ⟨b, 0, none⟩ = some (.int .u64 hi)) (c1 : w.cell? ⟨b, 1, none⟩ = some (.int .u64 lo)) (c2 : w.cell? ⟨b, 2, none⟩ = some (.int .i64 s)) (hb : b ≠ 0) :
    Calls Tryz.prog 258 #[.int .u64 x, .pointer (some ⟨b, 0, none⟩)] w fun e w' => e = .returned (.int .u64 (usc x hi lo s : Nat)) ∧ ∃ q, w' = w.drewN q := by
  have M1 := Lib.hid (mulW x hi hx hh)
  have M2 := Lib.hid (mulW x lo hx hl)
  have hHW := hiW_lt hx hh
  have hDW := loW_lt x hi
  have hEW := hiW_lt hx hl
  have hU := usc_eq x hi lo s
  obtain ⟨H, hH⟩ : ∃ H, hiW x hi = H := ⟨_, rfl⟩
  obtain ⟨D, hD⟩ : ∃ D, loW x hi = D := ⟨_, rfl⟩
  obtain ⟨E, hE⟩ : ∃ E, hiW x lo = E := ⟨_, rfl⟩
  rw [hH, hD] at M1
  rw [hE] at M2
  rw [hH] at h1 hHW
  rw [hD] at hDW
  rw [hE] at hEW
  rw [hH, hD, hE] at hU
  obtain ⟨q, r, e1, e2, hq, hr⟩ := down_up (s := s) hHW
  have ea := and63 hs
  have hqW : W64 q := by rw [hq]; exact Nat.lt_of_le_of_lt (Nat.div_le_self _ _) hHW
  by_cases hm : H % 2 ^ s ≠ 0
  · have f1 : ((r : Int) != (H : Int)) = true := by rw [hr]; exact decide_eq_true hm
    rw [if_pos hm, ← hq] at hU
    have eo := or_orb hqW true
    have HU := Lib.hid hU
    clear hU hm hr hq hH hD hE hx hh hl hHW hDW hEW hqW
    have eo' : bits .or .u64 (q : Int) 1 = (orb q true : Nat) := eo
    obtain ⟨Q, hQ⟩ : ∃ Q, orb q true = Q := ⟨_, rfl⟩
    rw [hQ] at eo' HU
    clear eo hQ
    go_enter Tryz.func258, Tryz.ntmps258
    go_wp2_with (go_at_call 250; go_must (refine (M1.out _).mono ?_; rintro e w1 ⟨rfl, rfl⟩))
    go_ret
    exact ⟨ret_int (by rw [HU.out]), 0, rfl⟩
  · have f1 : ((r : Int) != (H : Int)) = false := by rw [hr]; exact decide_eq_false hm
    rw [if_neg hm] at hU
    have hDo := hDW.out
    have hEo := hEW.out
    by_cases hlt : D < E
    · obtain ⟨q2, r2, g1, g2, hq2, hr2⟩ := down_up (H := H - 1) (s := s) (Nat.lt_of_le_of_lt (Nat.sub_le _ _) hHW)
      have hq2W : W64 q2 := by rw [hq2]; exact Nat.lt_of_le_of_lt (Nat.le_trans (Nat.div_le_self _ _) (Nat.sub_le _ _)) hHW
      have g0 : IntKind.u64.wrap ((H : Int) - 1) = ((H - 1 : Nat) : Int) := by rw [Go.IntWalk.u64_in _ ⟨by omega, by have := hHW.out; omega⟩]; omega
      obtain ⟨H1, hH1⟩ : ∃ H1, H - 1 = H1 := ⟨_, rfl⟩
      rw [hH1] at g0 g1
      obtain ⟨T, hT⟩ : ∃ T : Nat, 18446744073709551616 + D - E = T := ⟨_, rfl⟩
      have gt : IntKind.u64.wrap ((D : Int) - (E : Int)) = (T : Int) := by rw [IntKind.wrap_u64]; omega
      have fl : decide ((D : Int) < (E : Int)) = true := by simp; omega
      have fl2 : decide (D < E) = true := by simp; omega
      rw [if_pos hlt, ← hq2, hT] at hU
      have eo := or_orb hq2W (decide (1 < T))
      have hcast : decide ((1 : Int) < (T : Int)) = decide (1 < T) := by rw [decide_eq_decide]; omega
      obtain ⟨c, hc⟩ : ∃ c, decide (1 < T) = c := ⟨_, rfl⟩
      rw [hc] at hU eo hcast
      obtain ⟨Q, hQ⟩ : ∃ Q, orb q2 c = Q := ⟨_, rfl⟩
      rw [hQ] at eo hU
      have HU := Lib.hid hU
      clear hU hm hr hq hH hD hE hx hh hl hHW hDW hEW hqW hDo hEo hlt hq2 hr2 hq2W hH1 hT hQ g2 h1
      cases c
      all_goals
        simp only [Bool.false_eq_true, if_false, if_true, reduceIte] at eo
        go_enter Tryz.func258, Tryz.ntmps258
        go_wp2_with (first
          | (have hz := HM1; clear hz; go_at_call 250; go_must (refine (M2.out _).mono ?_; rintro e w1 ⟨rfl, rfl⟩))
          | (go_at_call 250; go_must (refine (M1.out _).mono ?_; rintro e w1 ⟨rfl, rfl⟩; have HM1 := Lib.hid True.intro))
          | (go_at_call 245; go_must (refine (bool2u true _).mono ?_; rintro e w1 ⟨rfl, rfl⟩)))
        go_quiet ((go_at_call 245; exact Calls.quiet_of_same (bool2u _ _)))
        go_wp2
        go_ret
        exact ⟨ret_int (by rw [HU.out]), _, rfl⟩
    · have g0 : IntKind.u64.wrap (H : Int) = (H : Int) := Go.IntWalk.u64_in _ ⟨by omega, by have := hHW.out; omega⟩
      obtain ⟨T, hT⟩ : ∃ T : Nat, D - E = T := ⟨_, rfl⟩
      have gt : IntKind.u64.wrap ((D : Int) - (E : Int)) = (T : Int) := by rw [Go.IntWalk.u64_in _ ⟨by omega, by omega⟩]; omega
      have fl : decide ((D : Int) < (E : Int)) = false := by simp; omega
      have fl2 : decide (D < E) = false := by simp; omega
      rw [if_neg hlt, ← hq, hT] at hU
      have eo := or_orb hqW (decide (1 < T))
      have hcast : decide ((1 : Int) < (T : Int)) = decide (1 < T) := by rw [decide_eq_decide]; omega
      obtain ⟨c, hc⟩ : ∃ c, decide (1 < T) = c := ⟨_, rfl⟩
      rw [hc] at hU eo hcast
      obtain ⟨Q, hQ⟩ : ∃ Q, orb q c = Q := ⟨_, rfl⟩
      rw [hQ] at eo hU
      have HU := Lib.hid hU
      clear hU hm hr hq hH hD hE hx hh hl hHW hDW hEW hqW hDo hEo hlt hT hQ h1
      cases c
      all_goals
        simp only [Bool.false_eq_true, if_false, if_true, reduceIte] at eo
        go_enter Tryz.func258, Tryz.ntmps258
        go_wp2_with (first
          | (have hz := HM1; clear hz; go_at_call 250; go_must (refine (M2.out _).mono ?_; rintro e w1 ⟨rfl, rfl⟩))
          | (go_at_call 250; go_must (refine (M1.out _).mono ?_; rintro e w1 ⟨rfl, rfl⟩; have HM1 := Lib.hid True.intro))
          | (go_at_call 245; go_must (refine (bool2u false _).mono ?_; rintro e w1 ⟨rfl, rfl⟩)))
        go_quiet ((go_at_call 245; exact Calls.quiet_of_same (bool2u _ _)))
        go_wp2
        go_ret
        exact ⟨ret_int (by rw [HU.out]), _, rfl⟩
end Go.Proofs.YtcjeeoadgoghfaaGreatDoor.deca

namespace Go.Proofs.YtcjeeoadgoghfaaGreatDoor.deca
set_option linter.unusedVariables false set_option linter.unusedSimpArgs false
open Go.ChangeShapes Go.WideShapes Go.ChangeAt Go.RowKit Go.Proofs.YtcjeeoadgoghfaaGreatDoor.base Go.Proofs.YtcjeeoadgoghfaaGreatDoor.Deci

theorem cell_frm {S : Nat → Prop} {w w' : World} {g o : Nat} {v : Value} (h : w.cell? ⟨g, o, none⟩ = some v) (k : Frm S w w') (hs : ¬ S g) : w'.cell? ⟨g, o, none⟩ = some v := by
  rw [World.cell?_of_block (k.block _ (World.block_lt_of_cell? w _ h) hs)]; exact h

/-- Digits as they stand in a text. -/
def DigB (s : ByteArray) (c : List Nat) : Prop := s.size = c.length ∧ ∀ j (h : j < s.size) (h2 : j < c.length), (s[j].toNat : Int) = (c[j] : Int) + 48

theorem less_drop {l c : List Nat} {k : Nat} (h1 : k < l.length) (h2 : k < c.length) : less (l.drop k) (c.drop k) = if l[k] = c[k] then less (l.drop (k + 1)) (c.drop (k + 1)) else decide (l[k] < c[k]) := by
  rw [List.drop_eq_getElem_cons h1, List.drop_eq_getElem_cons h2, less]

set_option maxHeartbeats 1000000 in
theorem less_all (l c : List Nat) (g cap : Nat) (s : ByteArray) (w : World) (hl : l.length ≤ 800) (hc : c.length ≤ 800) (hs : DigB s c)
    (hg : ∀ j (h : j < l.length), w.cell? ⟨g, j, none⟩ = some (.int .u8 ((l[j] : Int) + 48))) :
    Calls Tryz.prog 284 #[.slice (some ⟨g, 0, none⟩) l.length cap, .string s] w fun e w' => e = .returned (.bool (less l c)) ∧ ∃ q, w' = w.drewN q := by
  have HG := Lib.hid hg
  have HS := Lib.hid hs
  have hsz : s.size = c.length := hs.1
  obtain ⟨n, hn⟩ : ∃ n, l.length = n := ⟨_, rfl⟩
  obtain ⟨m, hm⟩ : ∃ m, c.length = m := ⟨_, rfl⟩
  have HN := Lib.hid hn
  have HM := Lib.hid hm
  rw [hn] at hl ⊢
  rw [hm] at hc hsz
  clear hg hs hn hm
  go_enter Tryz.func284, Tryz.ntmps284
  go_wp2
  go_loopw [5] (fun iv wr => ∃ k : Nat, k ≤ m ∧ k ≤ n ∧ iv = .int .i64 k ∧ less l c = less (l.drop k) (c.drop k) ∧ ∃ q, wr = w.drewN q) (fun iv _ => m - (intOf iv).toNat)
  case atStart => exact ⟨0, Nat.zero_le _, Nat.zero_le _, rfl, by rw [List.drop_zero, List.drop_zero], 0, rfl⟩
  case round =>
    obtain ⟨k, hkm, hkn, rfl, ht, hf⟩ := hrel
    have HT := Lib.hid ht
    have HF := Lib.hid hf
    clear ht hf
    by_cases h1 : k < m
    · by_cases h2 : k < n
      · have hk1 : k < l.length := by rw [HN.out]; exact h2
        have hk2 : k < c.length := by rw [HM.out]; exact h1
        have hks : k < s.size := by rw [hsz]; exact h1
        obtain ⟨x, hx⟩ : ∃ x, l[k] = x := ⟨_, rfl⟩
        obtain ⟨y, hy⟩ : ∃ y, c[k] = y := ⟨_, rfl⟩
        have x0 : wr.cell? ⟨g, k, none⟩ = some (.int .u8 ((l[k] : Int) + 48)) := by obtain ⟨q, e⟩ := HF.out; rw [e]; exact HG.out k hk1
        rw [hx] at x0
        have y0 : (s[k].toNat : Int) = (y : Int) + 48 := by rw [← hy]; exact HS.out.2 k hks hk2
        have HD := Lib.hid (less_drop hk1 hk2)
        rw [hx, hy] at HD
        clear hx hy hk1 hk2
        by_cases hxy : x = y
        · have HX := Lib.hid (show less l c = less (l.drop (k + 1)) (c.drop (k + 1)) by rw [HT.out, HD.out, if_pos hxy])
          have f1 : (((x : Int) + 48) == (s[k].toNat : Int)) = true := by simp; omega
          clear hxy y0
          go_wp2
          go_quiet (fail)
          go_wp2
          go_roundw
          case rel => exact ⟨k + 1, by omega, by omega, by go_num, HX.out, by obtain ⟨q, e⟩ := HF.out; rw [e]; exact ⟨_, World.drewN_drewN _ _ _⟩⟩
          case measure => simp [intOf]; omega
        · have HX := Lib.hid (show less l c = decide (x < y) by rw [HT.out, HD.out, if_neg hxy])
          have f1 : (((x : Int) + 48) == (s[k].toNat : Int)) = false := by simp; omega
          by_cases hlt : x < y
          · have f2 : decide ((x : Int) + 48 < (s[k].toNat : Int)) = true := by simp; omega
            clear hxy y0
            go_wp2
            go_quiet (fail)
            go_wp2
            go_quiet (fail)
            go_wp2
            go_ret
            exact ⟨ret_bool (by rw [HX.out]; simp [hlt]), by obtain ⟨q, e⟩ := HF.out; rw [e]; exact ⟨_, by rw [World.drewN_drewN, World.drewN_drewN]⟩⟩
          · have f2 : decide ((x : Int) + 48 < (s[k].toNat : Int)) = false := by simp; omega
            clear hxy y0
            go_wp2
            go_quiet (fail)
            go_wp2
            go_quiet (fail)
            go_wp2
            go_ret
            exact ⟨ret_bool (by rw [HX.out]; simp [hlt]), by obtain ⟨q, e⟩ := HF.out; rw [e]; exact ⟨_, by rw [World.drewN_drewN, World.drewN_drewN]⟩⟩
      · have HX := Lib.hid (show less l c = true by
          rw [HT.out, List.drop_eq_nil_of_le (by rw [HN.out]; omega), List.drop_eq_getElem_cons (show k < c.length by rw [HM.out]; exact h1), less])
        go_wp2
        go_ret
        exact ⟨ret_bool HX.out.symm, HF.out⟩
    · have HX := Lib.hid (show less l c = false by
        rw [HT.out, List.drop_eq_nil_of_le (show c.length ≤ k by rw [HM.out]; omega)]
        unfold less
        rfl)
      go_wp2
      go_ret
      exact ⟨ret_bool HX.out.symm, HF.out⟩
end Go.Proofs.YtcjeeoadgoghfaaGreatDoor.deca

namespace Go.Proofs.YtcjeeoadgoghfaaGreatDoor.deca
set_option linter.unusedVariables false set_option linter.unusedSimpArgs false
open Go.ChangeShapes Go.WideShapes Go.ChangeAt Go.RowKit Go.Proofs.YtcjeeoadgoghfaaGreatDoor.base Go.Proofs.YtcjeeoadgoghfaaGreatDoor.Deci

/-- Block R holds a decimal: its digits, its point, its sign, whether something was cut. -/
structure Dm (w : World) (R : Nat) (l : List Nat) (dp : Int) (neg tr : Bool) : Prop where
  box : ∃ C, Box w R 243 C ∧ C.size = 804 ∧ (∀ i (h : i < l.length), C[i]? = some (.int .u8 ((l[i] : Int) + 48))) ∧ C[800]? = some (.int .i64 l.length) ∧ C[801]? = some (.int .i64 dp) ∧ C[802]? = some (.bool neg) ∧ C[803]? = some (.bool tr)
  len : l.length ≤ 800
theorem Dm.lt {w : World} {R : Nat} {l : List Nat} {dp : Int} {neg tr : Bool} (h : Dm w R l dp neg tr) : R < w.heap.size := by
  obtain ⟨C, hb, _⟩ := h.box; exact hb.lt
theorem Dm.d {w : World} {R : Nat} {l : List Nat} {dp : Int} {neg tr : Bool} (h : Dm w R l dp neg tr) (i : Nat) (hi : i < l.length) : w.cell? ⟨R, i, none⟩ = some (.int .u8 ((l[i] : Int) + 48)) := by
  obtain ⟨C, hb, _, hd, _⟩ := h.box; rw [hb.cell]; exact hd i hi
theorem Dm.nd {w : World} {R : Nat} {l : List Nat} {dp : Int} {neg tr : Bool} (h : Dm w R l dp neg tr) : w.cell? ⟨R, 800, none⟩ = some (.int .i64 l.length) := by
  obtain ⟨C, hb, _, _, h0, _⟩ := h.box; rw [hb.cell]; exact h0
theorem Dm.pt {w : World} {R : Nat} {l : List Nat} {dp : Int} {neg tr : Bool} (h : Dm w R l dp neg tr) : w.cell? ⟨R, 801, none⟩ = some (.int .i64 dp) := by
  obtain ⟨C, hb, _, _, _, h0, _⟩ := h.box; rw [hb.cell]; exact h0
theorem Dm.ng {w : World} {R : Nat} {l : List Nat} {dp : Int} {neg tr : Bool} (h : Dm w R l dp neg tr) : w.cell? ⟨R, 802, none⟩ = some (.bool neg) := by
  obtain ⟨C, hb, _, _, _, _, h0, _⟩ := h.box; rw [hb.cell]; exact h0
theorem Dm.tr {w : World} {R : Nat} {l : List Nat} {dp : Int} {neg tr : Bool} (h : Dm w R l dp neg tr) : w.cell? ⟨R, 803, none⟩ = some (.bool tr) := by
  obtain ⟨C, hb, _, _, _, _, _, h0⟩ := h.box; rw [hb.cell]; exact h0
theorem Dm.free {w : World} {R : Nat} {l : List Nat} {dp : Int} {neg tr : Bool} (h : Dm w R l dp neg tr) (o : Nat) : w.frozen? ⟨R, o, none⟩ = false := by
  obtain ⟨C, hb, _⟩ := h.box; exact hb.f o
theorem Dm.frm {S : Nat → Prop} {w w' : World} {R : Nat} {l : List Nat} {dp : Int} {neg tr : Bool} (h : Dm w R l dp neg tr) (k : Frm S w w') (hs : ¬ S R) : Dm w' R l dp neg tr := by
  obtain ⟨C, hb, hr⟩ := h.box
  exact ⟨⟨C, hb.frm k hs, hr⟩, h.len⟩
theorem Dm.drewN {w : World} {R : Nat} {l : List Nat} {dp : Int} {neg tr : Bool} (h : Dm w R l dp neg tr) (n : Nat) : Dm (w.drewN n) R l dp neg tr := ⟨h.box, h.len⟩
/-- The first k digits alone. -/
theorem Dm.setNd {w : World} {R : Nat} {l : List Nat} {dp : Int} {neg tr : Bool} (h : Dm w R l dp neg tr) (k : Nat) (hk : k ≤ l.length) (n : Int) (hn : n = (k : Int)) : Dm (w.setCell ⟨R, 800, none⟩ (.int .i64 n)) R (l.take k) dp neg tr := by
  subst hn
  have hlen : (l.take k).length = k := by rw [List.length_take]; omega
  obtain ⟨C, hb, hz, hd, h0, h1, h2, h3⟩ := h.box
  refine ⟨⟨_, hb.set 800 _, by simpa using hz, fun i hi => ?_, ?_, ?_, ?_, ?_⟩, by have := h.len; omega⟩
  · have hi2 : i < l.length := by omega
    rw [Array.getElem?_setIfInBounds_ne (by have := h.len; omega), hd i hi2, List.getElem_take]
  · rw [Array.getElem?_setIfInBounds_self_of_lt (by omega), hlen]
  · rw [Array.getElem?_setIfInBounds_ne (by decide)]; exact h1
  · rw [Array.getElem?_setIfInBounds_ne (by decide)]; exact h2
  · rw [Array.getElem?_setIfInBounds_ne (by decide)]; exact h3
theorem Dm.setPt {w : World} {R : Nat} {l : List Nat} {dp : Int} {neg tr : Bool} (h : Dm w R l dp neg tr) (q : Int) : Dm (w.setCell ⟨R, 801, none⟩ (.int .i64 q)) R l q neg tr := by
  obtain ⟨C, hb, hz, hd, h0, h1, h2, h3⟩ := h.box
  refine ⟨⟨_, hb.set 801 _, by simpa using hz, fun i hi => ?_, ?_, ?_, ?_, ?_⟩, h.len⟩
  · rw [Array.getElem?_setIfInBounds_ne (by have := h.len; omega)]; exact hd i hi
  · rw [Array.getElem?_setIfInBounds_ne (by decide)]; exact h0
  · rw [Array.getElem?_setIfInBounds_self_of_lt (by omega)]
  · rw [Array.getElem?_setIfInBounds_ne (by decide)]; exact h2
  · rw [Array.getElem?_setIfInBounds_ne (by decide)]; exact h3

theorem take_last {l : List Nat} {k : Nat} (h : 0 < k) (hk : k ≤ l.length) : l.take k = l.take (k - 1) ++ [l[k - 1]'(by omega)] := by
  obtain ⟨j, rfl⟩ : ∃ j, k = j + 1 := ⟨k - 1, by omega⟩
  exact List.take_succ_eq_append_getElem (by omega)

set_option maxHeartbeats 1000000 in
theorem trim_all (w : World) (R : Nat) (l : List Nat) (dp : Int) (neg tr : Bool) (h : Dm w R l dp neg tr) (hR : R ≠ 0) :
    Calls Tryz.prog 265 #[.pointer (some ⟨R, 0, none⟩)] w fun e w' => e = .returned (.tuple #[]) ∧ Dm w' R (trimD l) (pt (trimD l) dp) neg tr ∧ Frm (At R) w w' := by
  have H := Lib.hid h
  have hlen := h.len
  obtain ⟨n, hn⟩ : ∃ n, l.length = n := ⟨_, rfl⟩
  have HN := Lib.hid hn
  rw [hn] at hlen
  clear h hn
  go_enter Tryz.func265, Tryz.ntmps265
  go_wp2
  go_loopw [] (fun wr => ∃ k : Nat, k ≤ n ∧ trimD (l.take k) = trimD l ∧ Dm wr R (l.take k) dp neg tr ∧ Frm (At R) w wr) (fun wr => (match wr.cell? ⟨R, 800, none⟩ with | some v => (intOf v).toNat | none => 0))
  case atStart => exact ⟨n, Nat.le_refl _, by rw [← HN.out, List.take_length], by rw [← HN.out, List.take_length]; exact H.out, Frm.refl _ _⟩
  case round =>
    obtain ⟨k, hkn, ht, hm, hf⟩ := hrel
    have HT := Lib.hid ht
    have HF := Lib.hid hf
    have HMM := Lib.hid hm
    have hkl : (l.take k).length = k := by rw [List.length_take, HN.out]; omega
    have x0 := hm.nd
    rw [hkl] at x0
    have x2 := hm.pt
    have f0 := hm.free 800
    have f1 := hm.free 801
    by_cases hk0 : 0 < k
    · obtain ⟨x, hx⟩ : ∃ x, l[k - 1]'(by rw [HN.out]; omega) = x := ⟨_, rfl⟩
      have x1 := hm.d (k - 1) (by omega)
      rw [List.getElem_take, hx] at x1
      have HX := Lib.hid (show l.take k = l.take (k - 1) ++ [x] by rw [← hx]; exact take_last hk0 (by rw [HN.out]; omega))
      have hk1 : ((k : Int) - 1) = ((k - 1 : Nat) : Int) := by omega
      clear hm ht hf hx hkl
      by_cases hz : x = 0
      · subst hz
        go_wp2
        go_quiet (fail)
        go_wp2
        go_roundw
        case rel => exact ⟨k - 1, by omega, by rw [← HT.out, HX.out, trimD_snoc0], by
          have e := (HMM.out.drewN nq).setNd (k - 1) (by rw [List.length_take, HN.out]; omega) _ rfl
          rw [List.take_take, Nat.min_eq_left (by omega)] at e
          exact e, (HF.out.drewN nq).setCell _ _ (fun _ => rfl)⟩
        case measure =>
          rw [x0, ((HMM.out.drewN nq).setNd (k - 1) (by rw [List.length_take, HN.out]; omega) _ rfl).nd]
          simp [intOf]
          omega
      · have f2 : (((x : Int) + 48) == 48) = false := by simp; omega
        go_wp2
        go_quiet (fail)
        go_wp2
        have e : trimD l = l.take k := by rw [← HT.out, HX.out, trimD_snoc _ _ hz]
        refine bodyPost_end (v := .tuple #[]) (by simp [results, Tryz.results265, go_sem]) rfl ⟨rfl, ?_, ?_⟩
        · rw [e, Go.Proofs.YtcjeeoadgoghfaaGreatDoor.Deci.pt, if_neg (by rw [HX.out]; simp)]
          exact HMM.out.drewN _
        · exact HF.out.drewN _
    · obtain rfl : k = 0 := by omega
      have e : trimD l = [] := by rw [← HT.out]; rfl
      have HE := Lib.hid e
      clear hm ht hf e
      go_wp2
      go_quiet (fail)
      go_wp2
      refine bodyPost_end (v := .tuple #[]) (by simp [results, Tryz.results265, go_sem]) rfl ⟨rfl, ?_, ?_⟩
      · rw [HE.out, pt_zero rfl]
        exact (show Dm wr R [] dp neg tr from HMM.out).drewN _ |>.setPt 0
      · exact (HF.out.drewN _).setCell ⟨R, 801, none⟩ _ (fun _ => rfl)
end Go.Proofs.YtcjeeoadgoghfaaGreatDoor.deca
