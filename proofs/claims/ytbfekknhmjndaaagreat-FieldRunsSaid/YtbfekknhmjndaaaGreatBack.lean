/- Contracts of slices.Backward and of its iterator, over parts. -/
import Derived.Test.YtbfekknhmjndaaaGreatMach
import Derived.RangeFuncNested
import Derived.RangeFuncBound
import Derived.RangeFuncCalls
import Derived.RangeFuncLeaves
import Derived.Shelf.Abstract
import Derived.Shelf.RegionOpen
import Derived.OwnWalkIn
import Derived.TacticsInMore
import Derived.LoopNIn
import Derived.LoopIn
namespace Go.Proofs.YtbfekknhmjndaaaGreat.back
set_option linter.unusedVariables false set_option linter.unusedSimpArgs false
open Go.ChangeShapes Go.WideShapes Go.ChangeAt Go.RowKit Go.Shelf Go.Proofs.YtbfekknhmjndaaaGreat.base Go.Proofs.YtbfekknhmjndaaaGreat.nfa
attribute [local go_sem] Oper.semAt_some

/-- What a round keeps: parts, sets, and the iterator's own variable. -/
def Kp (Bs : Nat) (W W' : World) : Prop := ∀ k T C, (T = 100 ∨ T = 111 ∨ k = Bs) → Box W k T C → Box W' k T C
theorem kp_r (Bs : Nat) (W : World) : Kp Bs W W := fun _ _ _ _ h => h
theorem kp_t {Bs : Nat} {A B C : World} (h : Kp Bs A B) (k : Kp Bs B C) : Kp Bs A C := fun i T D ht hb => k i T D ht (h i T D ht hb)
theorem kp_b (Bs : Nat) {w : World} (W : World) (l : Nat) (o o' : Obj) (_ : w.heap.size ≤ l) (ho : W.heap[l]? = some o) (hc : o.isCells = false) (_ : o.isWalk = false) : Kp Bs W (W.putObj l o') := fun k T C _ hb => by
  have hne : k ≠ l := by
    intro e
    subst e
    rw [show W.heap[k]? = _ from hb] at ho
    cases ho
    cases hc
  exact (World.putObj_heap_other hne).trans hb

/-- The places of a list of n. -/
abbrev Ix (n : Nat) : Type := { i : Nat // i < n }
/-- n - 1, n - 2, ..: m of them. -/
def down (n m : Nat) : List (Ix n) := (List.range m).filterMap fun j => if h : n - 1 - j < n then some ⟨n - 1 - j, h⟩ else none
theorem down_succ (n m : Nat) (h : m < n) : down n (m + 1) = down n m ++ [⟨n - 1 - m, by omega⟩] := by
  unfold down
  rw [List.range_succ, List.filterMap_append]
  congr 1
  have hh : n - 1 - m < n := by omega
  simp [hh]
theorem down_len (n m : Nat) : (down n m).length ≤ m := by
  unfold down
  exact Nat.le_trans (List.length_filterMap_le _ _) (by simp)
theorem down_at (n k : Nat) (h : k < n) : down n (n - k) = down n (n - (k + 1)) ++ [⟨k, h⟩] := by
  have e1 : n - k = (n - (k + 1)) + 1 := by omega
  rw [e1, down_succ _ _ (by omega)]
  congr 1
  have e2 : (⟨n - 1 - (n - (k + 1)), by omega⟩ : Ix n) = ⟨k, h⟩ := Subtype.ext (by show n - 1 - (n - (k + 1)) = k; omega)
  rw [e2]

/-- The cells of element k. -/
structure Elt where
  op : Nat → ByteArray
  px : Nat → Option Addr
  ka : Nat → Option Addr
  kn : Nat → Nat
  kc : Nat → Nat
  lo : Nat → Int
  hi : Nat → Int
def Elt.v (E : Elt) (k : Nat) : Value := .agg #[(.string (E.op k)), (.pointer (E.px k)), (.slice (E.ka k) (E.kn k) (E.kc k)), (.int .i64 (E.lo k)), (.int .i64 (E.hi k))]
def Elt.At (E : Elt) (cur : Array Value) (n : Nat) : Prop := ∀ k, k < n → cur[k * 5]? = some (.string (E.op k)) ∧ cur[k * 5 + 1]? = some (.pointer (E.px k)) ∧ cur[k * 5 + 2]? = some (.slice (E.ka k) (E.kn k) (E.kc k)) ∧ cur[k * 5 + 3]? = some (.int .i64 (E.lo k)) ∧ cur[k * 5 + 4]? = some (.int .i64 (E.hi k))

set_option maxRecDepth 100000 in
set_option maxHeartbeats 4000000 in
theorem back1_in (F : Fence) (n : Nat) (h8 : F.fn 88) (hro : F.round = none) (hn : 1 ≤ n) (l Bs g len cap : Nat) (cur : Array Value) (E : Elt) (hlen : len ≤ 100000) (J Jx : List (Ix len) → World → Prop)
    (hY : ∀ (pre : List (Ix len)) (x : Ix len) (W : World), J pre W → pre.length < len → YieldAt F (n - 1) Tryz.prog l #[.int .i64 (x.1 : Int), E.v x.1] W fun e W' =>
      (e = .returned (.bool true) ∧ J (pre ++ [x]) W' ∧ Kp Bs W W') ∨ (e = .returned (.bool false) ∧ Jx (pre ++ [x]) W'))
    (W : World) (hBs : Box W Bs 98 #[.slice (some ⟨g, 0, none⟩) len cap]) (hg : Box W g 100 cur) (hE : E.At cur len) (h0 : J [] W) :
    CallsIn F n Tryz.prog 88 #[.func (.yield l) #[] #[], .pointer (some ⟨Bs, 0, none⟩)] W fun e W' => (∃ v, e = .returned v) ∧
      ((∃ ys, ys = down len len ∧ J ys W') ∨ (∃ pre, True ∧ Jx pre W')) := by
  have hb0 : W.cell? ⟨Bs, 0, none⟩ = some (.slice (some ⟨g, 0, none⟩) len cap) := hBs.cell 0
  refine callsIn_of_wp Tryz.func88 rfl h8 ?_ hro
  simp only [Tryz.ntmps88, List.size_toArray, List.length_cons, List.length_nil, Nat.reduceAdd, Nat.reduceSub, Array.replicate_succ, Array.replicate_zero, List.push_toArray, List.append_toArray, List.nil_append, List.cons_append]
  gi_wp2
  gi_loopw [3] (fun i wr => ∃ k : Nat, k ≤ len ∧ i = .int .i64 ((k : Int) - 1) ∧ J (down len (len - k)) wr ∧ Kp Bs W wr)
    (fun i _ => (intOf i + 1).toNat)
  case atStart => exact ⟨len, Nat.le_refl _, rfl, by rw [Nat.sub_self]; exact h0, kp_r _ _⟩
  case round =>
    obtain ⟨k, hk, rfl, hJs, hkp⟩ := hrel
    have hc0 : wr.cell? ⟨Bs, 0, none⟩ = some (.slice (some ⟨g, 0, none⟩) len cap) := (hkp Bs _ _ (Or.inr (Or.inr rfl)) hBs).cell 0
    have hgr := hkp g _ _ (Or.inl rfl) hg
    cases k with
    | succ k =>
      obtain ⟨q0, q1, q2, q3, q4⟩ := hE k (by omega)
      have c0 : wr.cell? ⟨g, k * 5, none⟩ = some (.string (E.op k)) := (hgr.cell _).trans q0
      have c1 : wr.cell? ⟨g, k * 5 + 1, none⟩ = some (.pointer (E.px k)) := (hgr.cell _).trans q1
      have c2 : wr.cell? ⟨g, k * 5 + 2, none⟩ = some (.slice (E.ka k) (E.kn k) (E.kc k)) := (hgr.cell _).trans q2
      have c3 : wr.cell? ⟨g, k * 5 + 3, none⟩ = some (.int .i64 (E.lo k)) := (hgr.cell _).trans q3
      have c4 : wr.cell? ⟨g, k * 5 + 4, none⟩ = some (.int .i64 (E.hi k)) := (hgr.cell _).trans q4
      have hkk : (((k + 1 : Nat) : Int) - 1) = (k : Int) := by omega
      have hk0 : (0 : Int) ≤ (k : Int) := by omega
      have hk1 : (k : Int) < (len : Int) := by omega
      obtain ⟨fn, tmps, assign, body, hy, hR⟩ := hY _ ⟨k, by omega⟩ wr hJs (by have := down_len len (len - (k + 1)); omega)
      dsimp only [Elt.v] at hy
      clear q0 q1 q2 q3 q4 hBs hg hgr
      rw [hkk]
      gi_wp2
      refine hR.mono ?_
      rintro e W3 (⟨rfl, hJ3, hk3⟩ | ⟨rfl, hJx3⟩)
      · gi_wp2
        go_roundw
        case rel => exact ⟨k, by omega, by simp, by rw [down_at len k (by omega)]; exact hJ3, kp_t hkp hk3⟩
        case measure => simp [intOf]
      · gi_wp2
        refine bodyPost_ret (results_none rfl _ _ _) rfl ?_
        exact ⟨⟨_, rfl⟩, .inr ⟨_, trivial, hJx3⟩⟩
    | zero =>
      gi_wp2
      go_end0
      exact ⟨⟨_, rfl⟩, .inl ⟨_, rfl, hJs⟩⟩

set_option maxRecDepth 100000 in
set_option maxHeartbeats 1000000 in
theorem back_nil_in (F : Fence) (n : Nat) (h8 : F.fn 88) (hro : F.round = none) (l Bs : Nat) (J : List (Ix 0) → World → Prop) (W : World) (hBs : W.cell? ⟨Bs, 0, none⟩ = some (.slice none 0 0)) (h0 : J [] W) :
    CallsIn F n Tryz.prog 88 #[.func (.yield l) #[] #[], .pointer (some ⟨Bs, 0, none⟩)] W fun e W' => (∃ v, e = .returned v) ∧ J [] W' := by
  refine callsIn_of_wp Tryz.func88 rfl h8 ?_ hro
  simp only [Tryz.ntmps88, List.size_toArray, List.length_cons, List.length_nil, Nat.reduceAdd, Nat.reduceSub, Array.replicate_succ, Array.replicate_zero, List.push_toArray, List.append_toArray, List.nil_append, List.cons_append]
  gi_wp2
  gi_loopw [3] (fun i wr => i = .int .i64 (-1) ∧ J [] wr) (fun _ _ => 0)
  case atStart => exact ⟨rfl, h0⟩
  case round =>
    obtain ⟨rfl, hJs⟩ := hrel
    gi_wp2
    go_end0
    exact ⟨⟨_, rfl⟩, hJs⟩

set_option maxHeartbeats 1000000 in
theorem back_in (F : Fence) (n : Nat) (h5 : F.fn 70) (hro : F.round = none) (a : Option Addr) (len cap : Nat) (w : World) :
    CallsIn F n Tryz.prog 70 #[.slice a len cap] w fun e w' => e = .returned (.func (.func 88) #[] #[.pointer (some ⟨w.heap.size, 0, none⟩)]) ∧ w' = w.alloc (.cells #[.slice a len cap] 98) := by
  refine callsIn_of_wp Tryz.func70 rfl h5 ?_ hro
  simp only [Tryz.ntmps70, List.size_toArray, List.length_cons, List.length_nil, Nat.reduceAdd, Nat.reduceSub, Array.replicate_succ, Array.replicate_zero, List.push_toArray, List.append_toArray, List.nil_append, List.cons_append]
  gi_wp2
  go_ret
  exact ⟨rfl, rfl⟩

theorem box_below {w W : World} {k : Nat} {T : TypeId} {C : Array Value} (h : Box w k T C) (hb : Below w.heap.size w W) : Box W k T C := (hb.block k h.lt).trans h

/-- What Backward hands back: the elements from the last one on. -/
theorem back_stops (F : Fence) (n : Nat) (h8 : F.fn 88) (hro : F.round = none) (hn : 1 ≤ n) (Bs : Nat) (a : Option Addr) (len cap : Nat) (E : Elt) (hlen : len ≤ 100000) (w : World)
    (hBs : Box w Bs 98 #[.slice a len cap]) (hI : (a = none ∧ len = 0 ∧ cap = 0) ∨ ∃ g cur, a = some ⟨g, 0, none⟩ ∧ Box w g 100 cur ∧ E.At cur len) :
    SeqStopsK F n Tryz.prog 88 #[.pointer (some ⟨Bs, 0, none⟩)] (fun x : Ix len => #[Value.int .i64 (x.1 : Int), .agg #[.string (E.op x.1), .pointer (E.px x.1), .slice (E.ka x.1) (E.kn x.1) (E.kc x.1), .int .i64 (E.lo x.1), .int .i64 (E.hi x.1)]]) (Kp Bs) (fun ys => ys = down len len) (fun _ => True) len w := fun l J Jx W hW _ _ hY h0 => by
  have hB := box_below hBs hW
  rcases hI with ⟨rfl, rfl, rfl⟩ | ⟨g, cur, rfl, hg, hE⟩
  · exact (back_nil_in F n h8 hro l Bs J W (hB.cell 0) h0).mono fun e W' ⟨he, hj⟩ => ⟨he, .inl ⟨_, rfl, hj⟩⟩
  · exact back1_in F n h8 hro hn l Bs g len cap cur E hlen J Jx hY W hB (box_below hg hW) hE h0

/-- What is told of cells stays where a block that holds none is written. -/
def NC (B : Nat) (W : World) : Nat → Prop := fun k => B ≤ k ∧ ∃ o : Obj, W.heap[k]? = some o ∧ o.isCells = false
theorem frm_own {B : Nat} {W W' : World} {row : Option Nat} (hg : W.grownBy W' row) (hr : ∀ r, row = some r → B ≤ r ∧ ∃ o : Obj, W.heap[r]? = some o ∧ o.isCells = false) : Frm (NC B W) W W' :=
  ⟨hg.os, hg.tape, hg.output, hg.size, fun k hk hn => hg.block k hk (fun e => hn (hr k e.symm))⟩
theorem box_nc {B : Nat} {W : World} {k : Nat} {T : TypeId} {C : Array Value} (h : Box W k T C) : ¬ NC B W k := fun ⟨_, o, ho, hc⟩ => by
  rw [show W.heap[k]? = _ from h] at ho
  cases ho
  cases hc
end Go.Proofs.YtbfekknhmjndaaaGreat.back
