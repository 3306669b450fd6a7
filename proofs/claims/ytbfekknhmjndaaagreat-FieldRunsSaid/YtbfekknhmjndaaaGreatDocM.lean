/- Contracts of the document's has, both and same (tedderref04). Any tree that is laid among the arguments is a tree of ours. The law's nodes: how many a tree has. Of which trees there are machines, as the law's size says it, apart from memory. -/
import Derived.Test.YtbfekknhmjndaaaGreatMch

namespace Go.Proofs.YtbfekknhmjndaaaGreat.part
set_option linter.unusedVariables false set_option linter.unusedSimpArgs false
open Go.ChangeShapes Go.WideShapes Go.ChangeAt Go.RowKit Go.Proofs.YtbfekknhmjndaaaGreat.base Go.Proofs.YtbfekknhmjndaaaGreat.spec Go.Proofs.YtbfekknhmjndaaaGreat.nfa Go.Proofs.YtbfekknhmjndaaaGreat.set Go.Proofs.YtbfekknhmjndaaaGreat.parts Go.Proofs.YtbfekknhmjndaaaGreat.items

/-- The value is a slice of these bools. -/
def RB (w : World) (v : Value) (l : List Bool) : Prop := ∃ g cap, v = .slice (some ⟨g, 0, none⟩) l.length cap ∧ ∀ i b, l[i]? = some b → w.cell? ⟨g, i, none⟩ = some (.bool b)
theorem RB.move {w w' : World} {v : Value} {l : List Bool} (h : RB w v l) (hf : Frm No w w') : RB w' v l := by
  obtain ⟨g, cap, h1, h2⟩ := h
  exact ⟨g, cap, h1, fun i b hi => cell_frm hf (h2 i b hi) id⟩
theorem lst_get (s : ByteArray) (k : Nat) (hk : k < s.size) : s.data.toList[k]? = some s[k] := by
  rw [List.getElem?_eq_getElem (by simpa using hk)]
  rfl
theorem any_take (s : ByteArray) (c : UInt8) (k : Nat) (hk : k < s.size) : (s.data.toList.take (k + 1)).any (fun x => x.toNat == c.toNat) = ((s.data.toList.take k).any (fun x => x.toNat == c.toNat) || (s[k].toNat == c.toNat)) := by
  rw [List.take_add_one, List.any_append, lst_get s k hk]
  simp

set_option maxHeartbeats 2000000 in
theorem has_all (w : World) (s : ByteArray) (c : UInt8) (hz : s.size ≤ 9223372036854775807) :
    Calls Tryz.prog 41 #[.string s, .int .u8 (c.toNat : Int)] w fun en w' => en = .returned (.bool (inS s c.toNat)) ∧ w' = w := by
  have hz' : (s.size : Int) ≤ 9223372036854775807 := by omega
  clear hz
  go_enter Tryz.func41, Tryz.ntmps41
  go_wp2
  go_loopw [5] (fun cv wr => ∃ k : Nat, k ≤ s.size ∧ cv = .int .i64 (k : Int) ∧ Hid ((s.data.toList.take k).any (fun x => x.toNat == c.toNat) = false) ∧ w = wr) (fun cv _ => s.size - (intOf cv).toNat)
  case atStart => exact ⟨0, by omega, rfl, Lib.hid rfl, rfl⟩
  case round =>
    obtain ⟨k, hk, rfl, HA, rfl⟩ := hrel
    by_cases hlt : k < s.size
    · have h0 : (0 : Int) ≤ (k : Int) := by omega
      have h1 : (k : Int) < (s.size : Int) := by omega
      have HT := Lib.hid (any_take s c k hlt)
      cases hc : (s[k].toNat == c.toNat) with
      | true =>
        have hc2 : (s[k].toNat : Int) = (c.toNat : Int) := by have := beq_iff_eq.1 hc; omega
        have HR := Lib.hid (show inS s c.toNat = true from by
          unfold inS
          rw [List.any_eq_true]
          exact ⟨s[k], List.mem_of_getElem? (lst_get s k hlt), hc⟩)
        clear hc
        go_wp2
        go_ret
        exact ⟨by rw [HR.out]; rfl, rfl⟩
      | false =>
        have hc2 : ((s[k].toNat : Int) == (c.toNat : Int)) = false := by
          have := beq_eq_false_iff_ne.1 hc
          rw [beq_eq_false_iff_ne]; intro h; exact this (by omega)
        have HT2 := Lib.hid (show (s.data.toList.take (k + 1)).any (fun x => x.toNat == c.toNat) = false by rw [HT.out, HA.out, hc]; rfl)
        clear hc
        go_wp2
        exact ⟨⟨k + 1, by omega, by go_num, HT2, trivial⟩, by simp [intOf]; omega⟩
    · obtain rfl : k = s.size := by omega
      have HR := Lib.hid (show inS s c.toNat = false from by
        have := HA.out
        rw [List.take_of_length_le (by simp)] at this
        exact this)
      go_wp2
      go_ret
      exact ⟨by rw [HR.out]; rfl, rfl⟩

theorem RB.at {w : World} {g cap n : Nat} {l : List Bool} (h : RB w (.slice (some ⟨g, 0, none⟩) n cap) l) {i : Nat} {b : Bool} (hi : l[i]? = some b) : w.cell? ⟨g, i, none⟩ = some (.bool b) := by
  obtain ⟨g', cap', hv, h2⟩ := h
  cases hv
  exact h2 i b hi
theorem rb_own {w : World} {B g cap : Nat} {l : List Bool} (h : w.ownsRow B 4 1 (.slice (some ⟨g, 0, none⟩) l.length cap) l.length (l.map Value.bool)) : RB w (.slice (some ⟨g, 0, none⟩) l.length cap) l :=
  ⟨g, cap, rfl, fun i b hi => by
    rw [h.cellAt i (by have := (List.getElem?_eq_some_iff.1 hi).1; omega)]
    simp [hi]⟩
theorem orl_eq {l m X : List Bool} (hl : m.length = l.length) (hX : X.length = l.length) (h : ∀ i a b, i < l.length → l[i]? = some a → m[i]? = some b → X[i]? = some (a || b)) : X = List.zipWith (· || ·) l m := by
  apply List.ext_getElem?
  intro i
  by_cases hi : i < l.length
  · have h1 := List.getElem?_eq_getElem hi
    have h2 := List.getElem?_eq_getElem (l := m) (i := i) (by omega)
    rw [h i _ _ hi h1 h2, List.getElem?_zipWith, h1, h2]
  · rw [List.getElem?_eq_none (by omega), List.getElem?_eq_none (by simp; omega)]

set_option maxHeartbeats 2000000 in
theorem both_all (w : World) (va vb : Value) (l m : List Bool) (ha : RB w va l) (hb : RB w vb m) (hlen : m.length = l.length) (hz : l.length ≤ 1000000) :
    Calls Tryz.prog 42 #[va, vb] w fun en w' => ∃ v, en = .returned v ∧ RB w' v (List.zipWith (· || ·) l m) ∧ Frm No w w' := by
  obtain ⟨ga, ca, rfl, ha⟩ := ha
  obtain ⟨gb, cb, rfl, hb⟩ := hb
  have HA := Lib.hid ha
  have HB := Lib.hid hb
  have hmk := run_make_row' (P := Tryz.prog) 65 4 (.bool false) 1 Tryz.underlying65 info_bool rfl .i64 .i64 l.length (by omega) (by omega)
  rw [hlen]
  have HL := Lib.hid hlen
  clear ha hb hlen
  go_enter Tryz.func42, Tryz.ntmps42
  go_wp2
  go_loopw [6] (fun cv wr => ∃ (k : Nat) (X : List Bool), k ≤ l.length ∧ cv = .int .i64 (k : Int) ∧ X.length = l.length ∧ Hid (wr.ownsRow w.heap.size 4 1 (.slice (some ⟨w.heap.size, 0, none⟩) l.length l.length) l.length (X.map Value.bool)) ∧ Hid (∀ i a b, i < k → l[i]? = some a → m[i]? = some b → X[i]? = some (a || b)) ∧ Frm No w wr) (fun cv _ => l.length - (intOf cv).toNat)
  case atStart => exact ⟨0, List.replicate l.length false, by omega, rfl, by simp, Lib.hid (own_bools w _ hz), Lib.hid (fun i a b h => absurd h (Nat.not_lt_zero _)), (Frm.refl _ w).alloc _⟩
  case round =>
    obtain ⟨k, X, hk, rfl, hX, HO, HX, hf⟩ := hrel
    have HF := Lib.hid hf
    clear hf
    by_cases hlt : k < l.length
    · have h0 : (0 : Int) ≤ (k : Int) := by omega
      have h1 : (k : Int) < (l.length : Int) := by omega
      have hla := List.getElem?_eq_getElem hlt
      have hlb := List.getElem?_eq_getElem (l := m) (i := k) (by have := HL.out; omega)
      generalize l[k] = a at hla
      generalize m[k]'_ = b at hlb
      have q1 : wr.cell? ⟨ga, k, none⟩ = some (.bool a) := cell_frm HF.out (HA.out k a hla) id
      have q2 : wr.cell? ⟨gb, k, none⟩ = some (.bool b) := cell_frm HF.out (HB.out k b hlb) id
      have q3 := HO.out.frozenAt k
      have q4 : ∃ v, wr.cell? ⟨w.heap.size, k, none⟩ = some v := ⟨_, (HO.out.cellAt k (by omega)).trans (List.getElem?_eq_getElem (by rw [List.length_map]; omega))⟩
      obtain ⟨v4, q4⟩ := q4
      have HNEW := Lib.hid (show ∀ i a' b', i < k + 1 → l[i]? = some a' → m[i]? = some b' → (X.set k (a || b))[i]? = some (a' || b') from fun i a' b' hi h1 h2 => by
        rw [List.getElem?_set]
        by_cases e : k = i
        · subst e
          rw [if_pos rfl, if_pos (by omega)]
          rw [hla] at h1; rw [hlb] at h2
          cases h1; cases h2; rfl
        · rw [if_neg e]
          exact HX.out i a' b' (by omega) h1 h2)
      have HO2 := Lib.hid (show ∀ r, r = (a || b) → (wr.setCell ⟨w.heap.size, k, none⟩ (.bool r)).ownsRow w.heap.size 4 1 (.slice (some ⟨w.heap.size, 0, none⟩) l.length l.length) l.length ((X.set k (a || b)).map Value.bool) from fun r hr => by
        rw [List.map_set, ← hr]
        exact (HO.out.stored k (.bool r)).1)
      have HF2 := Lib.hid (show ∀ r : Value, Frm No w (wr.setCell ⟨w.heap.size, k, none⟩ r) from fun r => HF.out.setCell ⟨w.heap.size, k, none⟩ r (fun h => absurd h (Nat.lt_irrefl _)))
      clear hla hlb
      cases a with
      | true =>
        go_wp2
        exact ⟨⟨k + 1, X.set k (true || b), by omega, by go_num, by simpa using hX, Lib.hid (HO2.out _ rfl), HNEW, HF2.out _⟩, by simp [intOf]; omega⟩
      | false =>
        go_wp2
        exact ⟨⟨k + 1, X.set k (false || b), by omega, by go_num, by simpa using hX, Lib.hid (HO2.out _ rfl), HNEW, HF2.out _⟩, by simp [intOf]; omega⟩
    · obtain rfl : k = l.length := by omega
      have HE := Lib.hid (orl_eq HL.out hX HX.out)
      go_wp2
      go_ret
      refine ⟨_, rfl, ?_, HF.out⟩
      rw [← HE.out]
      have h := HO.out
      rw [← hX] at h ⊢
      exact rb_own h

theorem ne_list {l m : List Bool} {k : Nat} {a b : Bool} (h1 : l[k]? = some a) (h2 : m[k]? = some b) (h : a ≠ b) : decide (l = m) = false := by
  rw [decide_eq_false_iff_not]
  intro e
  rw [e, h2] at h1
  cases h1
  exact h rfl
set_option maxHeartbeats 2000000 in
theorem same_all (w : World) (va vb : Value) (l m : List Bool) (ha : RB w va l) (hb : RB w vb m) (hlen : m.length = l.length) (hz : l.length ≤ 1000000) :
    Calls Tryz.prog 43 #[va, vb] w fun en w' => en = .returned (.bool (decide (l = m))) ∧ Frm No w w' := by
  obtain ⟨ga, ca, rfl, ha⟩ := ha
  obtain ⟨gb, cb, rfl, hb⟩ := hb
  have HA := Lib.hid ha
  have HB := Lib.hid hb
  rw [hlen]
  have HL := Lib.hid hlen
  clear ha hb hlen
  go_enter Tryz.func43, Tryz.ntmps43
  go_wp2
  go_loopw [5] (fun cv wr => ∃ k : Nat, k ≤ l.length ∧ cv = .int .i64 (k : Int) ∧ Hid (∀ i, i < k → l[i]? = m[i]?) ∧ Frm No w wr) (fun cv _ => l.length - (intOf cv).toNat)
  case atStart => exact ⟨0, by omega, rfl, Lib.hid (fun i h => absurd h (Nat.not_lt_zero _)), Frm.refl _ _⟩
  case round =>
    obtain ⟨k, hk, rfl, HX, hf⟩ := hrel
    have HF := Lib.hid hf
    clear hf
    by_cases hlt : k < l.length
    · have h0 : (0 : Int) ≤ (k : Int) := by omega
      have h1 : (k : Int) < (l.length : Int) := by omega
      have hla := List.getElem?_eq_getElem hlt
      have hlb := List.getElem?_eq_getElem (l := m) (i := k) (by have := HL.out; omega)
      generalize l[k] = a at hla
      generalize m[k]'_ = b at hlb
      have q1 : wr.cell? ⟨ga, k, none⟩ = some (.bool a) := cell_frm HF.out (HA.out k a hla) id
      have q2 : wr.cell? ⟨gb, k, none⟩ = some (.bool b) := cell_frm HF.out (HB.out k b hlb) id
      have HLA := Lib.hid hla
      have HLB := Lib.hid hlb
      clear hla hlb
      by_cases hab : a = b
      · subst hab
        have HNEW := Lib.hid (show ∀ i, i < k + 1 → l[i]? = m[i]? from fun i hi => by
          by_cases e : i = k
          · subst e; rw [HLA.out, HLB.out]
          · exact HX.out i (by omega))
        go_wp2
        go_quiet (fail)
        go_wp2
        exact ⟨⟨k + 1, by omega, by go_num, HNEW, HF.out.drewN _⟩, by simp [intOf]; omega⟩
      · have HNE := Lib.hid (ne_list HLA.out HLB.out hab)
        have hbe : (a == b) = false := by simpa using hab
        clear hab
        go_wp2
        go_quiet (fail)
        go_wp2
        go_ret
        exact ⟨by rw [HNE.out]; rfl, HF.out.drewN _⟩
    · obtain rfl : k = l.length := by omega
      have HE := Lib.hid (show decide (l = m) = true from by
        rw [decide_eq_true_iff]
        apply List.ext_getElem?
        intro i
        by_cases hi : i < l.length
        · exact HX.out i hi
        · rw [List.getElem?_eq_none (by omega), List.getElem?_eq_none (by have := HL.out; omega)])
      go_wp2
      go_ret
      exact ⟨by rw [HE.out]; rfl, HF.out⟩
end Go.Proofs.YtbfekknhmjndaaaGreat.part

namespace Go.Proofs.YtbfekknhmjndaaaGreat.part
set_option linter.unusedVariables false set_option linter.unusedSimpArgs false
open Go.ChangeShapes Go.WideShapes Go.ChangeAt Go.RowKit Go.Proofs.YtbfekknhmjndaaaGreat.base Go.Proofs.YtbfekknhmjndaaaGreat.spec Go.Proofs.YtbfekknhmjndaaaGreat.nfa Go.Proofs.YtbfekknhmjndaaaGreat.set Go.Proofs.YtbfekknhmjndaaaGreat.parts Go.Proofs.YtbfekknhmjndaaaGreat.items

/-- No row of kids is longer than a machine can hold. -/
def LnF : Forest → Prop
  | .nil => True
  | .cons _ _ _ _ kids rest => kids.len ≤ 9223372036854775807 ∧ LnF kids ∧ LnF rest
def LnT (t : T) : Prop := t.kids.len ≤ 9223372036854775807 ∧ LnF t.kids
theorem LnF.nth {f : Forest} (h : LnF f) {k : Nat} {t : T} (hk : nthF f k = some t) : LnT t := by
  induction f generalizing k with
  | nil => cases hk
  | cons op set lo hi kids r _ ih =>
    cases k with
    | zero => cases hk; exact ⟨h.1, h.2.1⟩
    | succ k => exact ih h.2.2 hk
end Go.Proofs.YtbfekknhmjndaaaGreat.part

namespace Go.Proofs.YtbfekknhmjndaaaGreat.part
set_option linter.unusedVariables false set_option linter.unusedSimpArgs false
open Go.ChangeShapes Go.WideShapes Go.ChangeAt Go.RowKit Go.Proofs.YtbfekknhmjndaaaGreat.base Go.Proofs.YtbfekknhmjndaaaGreat.spec Go.Proofs.YtbfekknhmjndaaaGreat.nfa Go.Proofs.YtbfekknhmjndaaaGreat.set Go.Proofs.YtbfekknhmjndaaaGreat.parts Go.Proofs.YtbfekknhmjndaaaGreat.items



end Go.Proofs.YtbfekknhmjndaaaGreat.part

namespace Go.Proofs.YtbfekknhmjndaaaGreat.part
set_option linter.unusedVariables false set_option linter.unusedSimpArgs false
open Go.ChangeShapes Go.WideShapes Go.ChangeAt Go.RowKit Go.Proofs.YtbfekknhmjndaaaGreat.base Go.Proofs.YtbfekknhmjndaaaGreat.spec Go.Proofs.YtbfekknhmjndaaaGreat.nfa Go.Proofs.YtbfekknhmjndaaaGreat.set Go.Proofs.YtbfekknhmjndaaaGreat.parts Go.Proofs.YtbfekknhmjndaaaGreat.items

def szL : List (Option Nat) → Nat → Option Nat
  | [], n => some n
  | none :: _, _ => none
  | some m :: r, n => if 2000 < n + m then none else szL r (n + m)
/-- The size of a node whose kids have these. -/
def szNode (op : ByteArray) (lo hi : Int) (l : List (Option Nat)) : Option Nat :=
  if op = setW ∨ op = bolW ∨ op = eolW then (if l.length = 0 then some 1 else none)
  else if op = catW then szL l 0
  else if op = altW then (if l.length = 0 then none else (szL l 0).bind fun n => if 2000 < n + 1 then none else some (n + 1))
  else if op = repW then (if l.length ≠ 1 ∨ bounds lo hi = false then none else (szL l 0).bind fun n => if 2000 < repN lo hi n then none else some (repN lo hi n))
  else none
def szK : Forest → List (Option Nat)
  | .nil => []
  | .cons op _ lo hi kids rest => szNode op lo hi (szK kids) :: szK rest
def szT (t : T) : Option Nat := szNode t.op t.lo t.hi (szK t.kids)
def sz2 (x : Option (T × Nat)) : Option Nat := x.map (·.2)
theorem szL_le {l : List (Option Nat)} {n k : Nat} (h : szL l n = some k) : n ≤ k := by
  induction l generalizing n with
  | nil => cases h; exact Nat.le_refl _
  | cons x r ih =>
    cases x with
    | none => cases h
    | some m =>
      rw [szL] at h
      split at h
      · cases h
      · have := ih h
        omega
theorem row_sz (l : List (Option (T × Nat))) : ∀ (f : Forest) (n : Nat) (o : Bool), (rowF l f n o).map (·.2.1) = szL (l.map sz2) n := by
  induction l with
  | nil => intro f n o; rfl
  | cons x r ih =>
    intro f n o
    rcases x with _ | ⟨p, m⟩
    · rfl
    · rw [rowF, List.map_cons, show sz2 (some (p, m)) = some m from rfl, szL]
      split
      · rfl
      · split
        · exact ih _ _ _
        · exact ih _ _ _
theorem szL_one (l : List (Option Nat)) : ∀ n, n + 1 ≤ 2000 → szL l (n + 1) = (szL l n).bind fun k => if 2000 < k + 1 then none else some (k + 1) := by
  induction l with
  | nil => intro n h; show some (n + 1) = _; rw [szL, Option.bind_some, if_neg (by omega)]
  | cons x r ih =>
    intro n h
    cases x with
    | none => rfl
    | some m =>
      rw [szL, szL]
      by_cases h1 : 2000 < n + 1 + m
      · rw [if_pos h1]
        by_cases h2 : 2000 < n + m
        · rw [if_pos h2]; rfl
        · rw [if_neg h2]
          cases hs : szL r (n + m) with
          | none => rfl
          | some k =>
            have := szL_le hs
            rw [Option.bind_some, if_pos (by omega)]
      · rw [if_neg h1, if_neg (by omega), show n + 1 + m = n + m + 1 by omega]
        exact ih (n + m) (by omega)
theorem repN_gt {lo hi : Int} (hb : bounds lo hi = true) (n : Nat) : n < repN lo hi n := by
  unfold bounds at hb
  simp only [Bool.and_eq_true, Bool.or_eq_true, decide_eq_true_eq] at hb
  unfold repN
  have h1 : 1 ≤ (if hi = -1 then lo + 1 else max 1 hi).toNat := by
    split <;> omega
  have := Nat.mul_le_mul_left n h1
  omega
theorem node_sz (op set : ByteArray) (lo hi : Int) (l : List (Option (T × Nat))) (d : Nat) (hd : d ≤ 2000) : sz2 (rdNode op set lo hi l d) = szNode op lo hi (l.map sz2) := by
  unfold rdNode szNode
  rw [if_neg (by omega), List.length_map]
  by_cases h1 : op = setW ∨ op = bolW ∨ op = eolW
  · rw [if_pos h1, if_pos h1]
    split <;> rfl
  · rw [if_neg h1, if_neg h1]
    by_cases h2 : op = catW
    · rw [if_pos h2, if_pos h2, ← row_sz l .nil 0 false]
      cases rowF l .nil 0 false with
      | none => rfl
      | some x => rfl
    · rw [if_neg h2, if_neg h2]
      by_cases h3 : op = altW
      · rw [if_pos h3, if_pos h3]
        by_cases h4 : l.length = 0
        · rw [if_pos h4, if_pos h4]; rfl
        · rw [if_neg h4, if_neg h4, ← szL_one _ 0 (by omega), ← row_sz l .nil 1 false]
          cases rowF l .nil 1 false with
          | none => rfl
          | some x => rfl
      · rw [if_neg h3, if_neg h3]
        by_cases h5 : op = repW
        · rw [if_pos h5, if_pos h5]
          by_cases h6 : l.length ≠ 1 ∨ bounds lo hi = false
          · rw [if_pos h6, if_pos h6]; rfl
          · rw [if_neg h6, if_neg h6]
            have h7 : l.length = 1 := by
              rcases Nat.lt_trichotomy l.length 1 with h | h | h
              · exact absurd (Or.inl (by omega)) h6
              · exact h
              · exact absurd (Or.inl (by omega)) h6
            have h8 : bounds lo hi = true := by
              cases hb : bounds lo hi with
              | true => rfl
              | false => exact absurd (Or.inr hb) h6
            match l, h7 with
            | [x], _ =>
              rcases x with _ | ⟨p, n⟩
              · rfl
              · have hgt := repN_gt h8 n
                simp only [List.headD_cons, List.map_cons, List.map_nil, show sz2 (some (p, n)) = some n from rfl, szL, Nat.zero_add]
                by_cases h9 : 2000 < n
                · rw [if_pos (show 2000 < repN lo hi n by omega), if_pos h9]; rfl
                · rw [if_neg h9, Option.bind_some]
                  split
                  · rfl
                  · split <;> rfl
        · rw [if_neg h5, if_neg h5]; rfl
theorem rdF_sz (f : Forest) : ∀ d, fsz f + d ≤ 2001 → (rdF f d).map sz2 = szK f := by
  induction f with
  | nil => intro d _; rfl
  | cons op set lo hi k r ih1 ih2 =>
    intro d h
    simp only [fsz] at h
    rw [rdF, List.map_cons, szK, node_sz _ _ _ _ _ _ (by omega), ih1 (d + 1) (by omega), ih2 d (by omega)]
/-- There is a machine just of such a tree as has a size. -/
theorem rdT_sz {t : T} (h : nd t ≤ 2000) : ((rdT t 0).isSome) = (szT t).isSome := by
  have h1 := rdF_sz t.kids 1 (by unfold nd at h; omega)
  have h2 := node_sz t.op t.set t.lo t.hi (rdF t.kids 1) 0 (by omega)
  rw [h1] at h2
  have h3 : sz2 (rdT t 0) = szT t := h2
  rw [← h3]
  unfold sz2
  cases rdT t 0 <;> rfl
end Go.Proofs.YtbfekknhmjndaaaGreat.part
