/- Contracts of the document's has, both and same (tedderref04). Any tree that is laid among the arguments is a tree of ours. The law's nodes: how many a tree has. Of which trees there are machines, as the law's size says it, apart from memory. -/
import Derived.Test.YthebpkcifnndnaaMch

namespace Go.Proofs.Ythebpkcifnndnaa.part
set_option linter.unusedVariables false set_option linter.unusedSimpArgs false
open Go.ChangeShapes Go.WideShapes Go.ChangeAt Go.RowKit Go.Proofs.Ythebpkcifnndnaa.base Go.Proofs.Ythebpkcifnndnaa.spec Go.Proofs.Ythebpkcifnndnaa.nfa Go.Proofs.Ythebpkcifnndnaa.set Go.Proofs.Ythebpkcifnndnaa.parts Go.Proofs.Ythebpkcifnndnaa.items

/-- The value is a slice of these bools. -/
def RB (w : World) (v : Value) (l : List Bool) : Prop := ∃ g cap, v = .slice (some ⟨g, 0, none⟩) l.length cap ∧ ∀ i b, l[i]? = some b → w.cell? ⟨g, i, none⟩ = some (.bool b)
theorem RB.move {w w' : World} {v : Value} {l : List Bool} (h : RB w v l) (hf : Frm No w w') : RB w' v l := by
  obtain ⟨g, cap, h1, h2⟩ := h
  exact ⟨g, cap, h1, fun i b hi => cell_frm hf (h2 i b hi) id⟩
theorem lst_get (s : ByteArray) (k : Nat) (hk : k < s.size) : s.data.toList[k]? = some s[k] := by
  rw [List.getElem?_eq_getElem (by simpa using hk)]
  rfl
theorem any_take (s : ByteArray) (c : UInt8) (k : Nat) (hk : k < s.size) : (s.data.toList.take (k + 1)).any (fun x => x.toNat == c.toNat) = ((s.data.toList.take k).any (fun x => x.toNat == c.toNat) || (s[k].toNat == c.toNat)) := by
  rw [List.take_add_one, List.any_append, lst_get s k hk]
  simp

set_option maxHeartbeats 2000000 in
theorem has_all (w : World) (s : ByteArray) (c : UInt8) (hz : s.size ≤ 9223372036854775807) :
    Calls Try.prog 42 #[.string s, .int .u8 (c.toNat : Int)] w fun en w' => en = .returned (.bool (inS s c.toNat)) ∧ w' = w := by
  have hz' : (s.size : Int) ≤ 9223372036854775807 := by omega
  clear hz
  go_enter Try.func42, Try.ntmps42
  go_wp2
  go_loopw [5] (fun cv wr => ∃ k : Nat, k ≤ s.size ∧ cv = .int .i64 (k : Int) ∧ Hid ((s.data.toList.take k).any (fun x => x.toNat == c.toNat) = false) ∧ w = wr) (fun cv _ => s.size - (intOf cv).toNat)
  case atStart => exact ⟨0, by omega, rfl, Lib.hid rfl, rfl⟩
  case round =>
    obtain ⟨k, hk, rfl, HA, rfl⟩ := hrel
    by_cases hlt : k < s.size
    · have h0 : (0 : Int) ≤ (k : Int) := by omega
      have h1 : (k : Int) < (s.size : Int) := by omega
      have HT := Lib.hid (any_take s c k hlt)
      cases hc : (s[k].toNat == c.toNat) with
      | true =>
        have hc2 : (s[k].toNat : Int) = (c.toNat : Int) := by have := beq_iff_eq.1 hc; omega
        have HR := Lib.hid (show inS s c.toNat = true from by
          unfold inS
          rw [List.any_eq_true]
          exact ⟨s[k], List.mem_of_getElem? (lst_get s k hlt), hc⟩)
        clear hc
        go_wp2
        go_ret
        exact ⟨by rw [HR.out]; rfl, rfl⟩
      | false =>
        have hc2 : ((s[k].toNat : Int) == (c.toNat : Int)) = false := by
          have := beq_eq_false_iff_ne.1 hc
          rw [beq_eq_false_iff_ne]; intro h; exact this (by omega)
        have HT2 := Lib.hid (show (s.data.toList.take (k + 1)).any (fun x => x.toNat == c.toNat) = false by rw [HT.out, HA.out, hc]; rfl)
        clear hc
        go_wp2
        exact ⟨⟨k + 1, by omega, by go_num, HT2, trivial⟩, by simp [intOf]; omega⟩
    · obtain rfl : k = s.size := by omega
      have HR := Lib.hid (show inS s c.toNat = false from by
        have := HA.out
        rw [List.take_of_length_le (by simp)] at this
        exact this)
      go_wp2
      go_ret
      exact ⟨by rw [HR.out]; rfl, rfl⟩

theorem RB.at {w : World} {g cap n : Nat} {l : List Bool} (h : RB w (.slice (some ⟨g, 0, none⟩) n cap) l) {i : Nat} {b : Bool} (hi : l[i]? = some b) : w.cell? ⟨g, i, none⟩ = some (.bool b) := by
  obtain ⟨g', cap', hv, h2⟩ := h
  cases hv
  exact h2 i b hi
theorem rb_own {w : World} {B g cap : Nat} {l : List Bool} (h : w.ownsRow B 4 1 (.slice (some ⟨g, 0, none⟩) l.length cap) l.length (l.map Value.bool)) : RB w (.slice (some ⟨g, 0, none⟩) l.length cap) l :=
  ⟨g, cap, rfl, fun i b hi => by
    rw [h.cellAt i (by have := (List.getElem?_eq_some_iff.1 hi).1; omega)]
    simp [hi]⟩
theorem orl_eq {l m X : List Bool} (hl : m.length = l.length) (hX : X.length = l.length) (h : ∀ i a b, i < l.length → l[i]? = some a → m[i]? = some b → X[i]? = some (a || b)) : X = List.zipWith (· || ·) l m := by
  apply List.ext_getElem?
  intro i
  by_cases hi : i < l.length
  · have h1 := List.getElem?_eq_getElem hi
    have h2 := List.getElem?_eq_getElem (l := m) (i := i) (by omega)
    rw [h i _ _ hi h1 h2, List.getElem?_zipWith, h1, h2]
  · rw [List.getElem?_eq_none (by omega), List.getElem?_eq_none (by simp; omega)]

set_option maxHeartbeats 2000000 in
theorem both_all (w : World) (va vb : Value) (l m : List Bool) (ha : RB w va l) (hb : RB w vb m) (hlen : m.length = l.length) (hz : l.length ≤ 1000000) :
    Calls Try.prog 43 #[va, vb] w fun en w' => ∃ v, en = .returned v ∧ RB w' v (List.zipWith (· || ·) l m) ∧ Frm No w w' := by
  obtain ⟨ga, ca, rfl, ha⟩ := ha
  obtain ⟨gb, cb, rfl, hb⟩ := hb
  have HA := Lib.hid ha
  have HB := Lib.hid hb
  have hmk := run_make_row' (P := Try.prog) 68 4 (.bool false) 1 Try.underlying68 info_bool rfl .i64 .i64 l.length (by omega) (by omega)
  rw [hlen]
  have HL := Lib.hid hlen
  clear ha hb hlen
  go_enter Try.func43, Try.ntmps43
  go_wp2
  go_loopw [6] (fun cv wr => ∃ (k : Nat) (X : List Bool), k ≤ l.length ∧ cv = .int .i64 (k : Int) ∧ X.length = l.length ∧ Hid (wr.ownsRow w.heap.size 4 1 (.slice (some ⟨w.heap.size, 0, none⟩) l.length l.length) l.length (X.map Value.bool)) ∧ Hid (∀ i a b, i < k → l[i]? = some a → m[i]? = some b → X[i]? = some (a || b)) ∧ Frm No w wr) (fun cv _ => l.length - (intOf cv).toNat)
  case atStart => exact ⟨0, List.replicate l.length false, by omega, rfl, by simp, Lib.hid (own_bools w _ hz), Lib.hid (fun i a b h => absurd h (Nat.not_lt_zero _)), (Frm.refl _ w).alloc _⟩
  case round =>
    obtain ⟨k, X, hk, rfl, hX, HO, HX, hf⟩ := hrel
    have HF := Lib.hid hf
    clear hf
    by_cases hlt : k < l.length
    · have h0 : (0 : Int) ≤ (k : Int) := by omega
      have h1 : (k : Int) < (l.length : Int) := by omega
      have hla := List.getElem?_eq_getElem hlt
      have hlb := List.getElem?_eq_getElem (l := m) (i := k) (by have := HL.out; omega)
      generalize l[k] = a at hla
      generalize m[k]'_ = b at hlb
      have q1 : wr.cell? ⟨ga, k, none⟩ = some (.bool a) := cell_frm HF.out (HA.out k a hla) id
      have q2 : wr.cell? ⟨gb, k, none⟩ = some (.bool b) := cell_frm HF.out (HB.out k b hlb) id
      have q3 := HO.out.frozenAt k
      have q4 : ∃ v, wr.cell? ⟨w.heap.size, k, none⟩ = some v := ⟨_, (HO.out.cellAt k (by omega)).trans (List.getElem?_eq_getElem (by rw [List.length_map]; omega))⟩
      obtain ⟨v4, q4⟩ := q4
      have HNEW := Lib.hid (show ∀ i a' b', i < k + 1 → l[i]? = some a' → m[i]? = some b' → (X.set k (a || b))[i]? = some (a' || b') from fun i a' b' hi h1 h2 => by
        rw [List.getElem?_set]
        by_cases e : k = i
        · subst e
          rw [if_pos rfl, if_pos (by omega)]
          rw [hla] at h1; rw [hlb] at h2
          cases h1; cases h2; rfl
        · rw [if_neg e]
          exact HX.out i a' b' (by omega) h1 h2)
      have HO2 := Lib.hid (show ∀ r, r = (a || b) → (wr.setCell ⟨w.heap.size, k, none⟩ (.bool r)).ownsRow w.heap.size 4 1 (.slice (some ⟨w.heap.size, 0, none⟩) l.length l.length) l.length ((X.set k (a || b)).map Value.bool) from fun r hr => by
        rw [List.map_set, ← hr]
        exact (HO.out.stored k (.bool r)).1)
      have HF2 := Lib.hid (show ∀ r : Value, Frm No w (wr.setCell ⟨w.heap.size, k, none⟩ r) from fun r => HF.out.setCell ⟨w.heap.size, k, none⟩ r (fun h => absurd h (Nat.lt_irrefl _)))
      clear hla hlb
      cases a with
      | true =>
        go_wp2
        exact ⟨⟨k + 1, X.set k (true || b), by omega, by go_num, by simpa using hX, Lib.hid (HO2.out _ rfl), HNEW, HF2.out _⟩, by simp [intOf]; omega⟩
      | false =>
        go_wp2
        exact ⟨⟨k + 1, X.set k (false || b), by omega, by go_num, by simpa using hX, Lib.hid (HO2.out _ rfl), HNEW, HF2.out _⟩, by simp [intOf]; omega⟩
    · obtain rfl : k = l.length := by omega
      have HE := Lib.hid (orl_eq HL.out hX HX.out)
      go_wp2
      go_ret
      refine ⟨_, rfl, ?_, HF.out⟩
      rw [← HE.out]
      have h := HO.out
      rw [← hX] at h ⊢
      exact rb_own h

theorem ne_list {l m : List Bool} {k : Nat} {a b : Bool} (h1 : l[k]? = some a) (h2 : m[k]? = some b) (h : a ≠ b) : decide (l = m) = false := by
  rw [decide_eq_false_iff_not]
  intro e
  rw [e, h2] at h1
  cases h1
  exact h rfl
set_option maxHeartbeats 2000000 in
theorem same_all (w : World) (va vb : Value) (l m : List Bool) (ha : RB w va l) (hb : RB w vb m) (hlen : m.length = l.length) (hz : l.length ≤ 1000000) :
    Calls Try.prog 44 #[va, vb] w fun en w' => en = .returned (.bool (decide (l = m))) ∧ Frm No w w' := by
  obtain ⟨ga, ca, rfl, ha⟩ := ha
  obtain ⟨gb, cb, rfl, hb⟩ := hb
  have HA := Lib.hid ha
  have HB := Lib.hid hb
  rw [hlen]
  have HL := Lib.hid hlen
  clear ha hb hlen
  go_enter Try.func44, Try.ntmps44
  go_wp2
  go_loopw [5] (fun cv wr => ∃ k : Nat, k ≤ l.length ∧ cv = .int .i64 (k : Int) ∧ Hid (∀ i, i < k → l[i]? = m[i]?) ∧ Frm No w wr) (fun cv _ => l.length - (intOf cv).toNat)
  case atStart => exact ⟨0, by omega, rfl, Lib.hid (fun i h => absurd h (Nat.not_lt_zero _)), Frm.refl _ _⟩
  case round =>
    obtain ⟨k, hk, rfl, HX, hf⟩ := hrel
    have HF := Lib.hid hf
    clear hf
    by_cases hlt : k < l.length
    · have h0 : (0 : Int) ≤ (k : Int) := by omega
      have h1 : (k : Int) < (l.length : Int) := by omega
      have hla := List.getElem?_eq_getElem hlt
      have hlb := List.getElem?_eq_getElem (l := m) (i := k) (by have := HL.out; omega)
      generalize l[k] = a at hla
      generalize m[k]'_ = b at hlb
      have q1 : wr.cell? ⟨ga, k, none⟩ = some (.bool a) := cell_frm HF.out (HA.out k a hla) id
      have q2 : wr.cell? ⟨gb, k, none⟩ = some (.bool b) := cell_frm HF.out (HB.out k b hlb) id
      have HLA := Lib.hid hla
      have HLB := Lib.hid hlb
      clear hla hlb
      by_cases hab : a = b
      · subst hab
        have HNEW := Lib.hid (show ∀ i, i < k + 1 → l[i]? = m[i]? from fun i hi => by
          by_cases e : i = k
          · subst e; rw [HLA.out, HLB.out]
          · exact HX.out i (by omega))
        go_wp2
        go_quiet (fail)
        go_wp2
        exact ⟨⟨k + 1, by omega, by go_num, HNEW, HF.out.drewN _⟩, by simp [intOf]; omega⟩
      · have HNE := Lib.hid (ne_list HLA.out HLB.out hab)
        have hbe : (a == b) = false := by simpa using hab
        clear hab
        go_wp2
        go_quiet (fail)
        go_wp2
        go_ret
        exact ⟨by rw [HNE.out]; rfl, HF.out.drewN _⟩
    · obtain rfl : k = l.length := by omega
      have HE := Lib.hid (show decide (l = m) = true from by
        rw [decide_eq_true_iff]
        apply List.ext_getElem?
        intro i
        by_cases hi : i < l.length
        · exact HX.out i hi
        · rw [List.getElem?_eq_none (by omega), List.getElem?_eq_none (by have := HL.out; omega)])
      go_wp2
      go_ret
      exact ⟨by rw [HE.out]; rfl, HF.out⟩
end Go.Proofs.Ythebpkcifnndnaa.part

namespace Go.Proofs.Ythebpkcifnndnaa.part
set_option linter.unusedVariables false set_option linter.unusedSimpArgs false
open Go.ChangeShapes Go.WideShapes Go.ChangeAt Go.RowKit Go.Proofs.Ythebpkcifnndnaa.base Go.Proofs.Ythebpkcifnndnaa.spec Go.Proofs.Ythebpkcifnndnaa.nfa Go.Proofs.Ythebpkcifnndnaa.set Go.Proofs.Ythebpkcifnndnaa.parts Go.Proofs.Ythebpkcifnndnaa.items

/-- No row of kids is longer than a machine can hold. -/
def LnF : Forest → Prop
  | .nil => True
  | .cons _ _ _ _ kids rest => kids.len ≤ 9223372036854775807 ∧ LnF kids ∧ LnF rest
def LnT (t : T) : Prop := t.kids.len ≤ 9223372036854775807 ∧ LnF t.kids
theorem LnF.nth {f : Forest} (h : LnF f) {k : Nat} {t : T} (hk : nthF f k = some t) : LnT t := by
  induction f generalizing k with
  | nil => cases hk
  | cons op set lo hi kids r _ ih =>
    cases k with
    | zero => cases hk; exact ⟨h.1, h.2.1⟩
    | succ k => exact ih h.2.2 hk
/-- A tree lies from this cell on. -/
def TAt (w : World) (g o : Nat) : Prop := ∃ (t : T) (a : Option Addr) (cap : Nat), w.cell? ⟨g, o, none⟩ = some (.string t.op) ∧ w.cell? ⟨g, o + 1, none⟩ = some (.string t.set) ∧ w.cell? ⟨g, o + 2, none⟩ = some (.slice a t.kids.len cap) ∧ w.cell? ⟨g, o + 3, none⟩ = some (.int .i64 t.lo) ∧ w.cell? ⟨g, o + 4, none⟩ = some (.int .i64 t.hi) ∧ TK w t.kids a ∧ SzT t ∧ LnT t
theorem forest_of {w : World} {g : Nat} : ∀ (n o : Nat), (∀ i, i < n → TAt w g (o + i * 5)) → ∃ f : Forest, f.len = n ∧ TA w f g o ∧ SzF f ∧ LnF f
  | 0, _, _ => ⟨.nil, rfl, trivial, trivial, trivial⟩
  | n + 1, o, h => by
    obtain ⟨f, h1, h2, h3, h4⟩ := forest_of n (o + 5) (fun i hi => by
      have := h (i + 1) (by omega)
      rw [show o + (i + 1) * 5 = o + 5 + i * 5 by omega] at this
      exact this)
    obtain ⟨t, a, cap, c0, c1, c2, c3, c4, hk, hs, hl⟩ := h 0 (by omega)
    simp only [Nat.zero_mul, Nat.add_zero] at c0 c1 c2 c3 c4
    exact ⟨.cons t.op t.set t.lo t.hi t.kids f, by simp only [Forest.len, h1], ⟨c0, c1, c3, c4, ⟨a, cap, c2, hk⟩, h2⟩, ⟨hs.1, hs.2, h3⟩, ⟨hl.1, hl.2, h4⟩⟩
theorem cells_ere : Try.prog.cellsOf 26 = 5 := by kernel_rfl
theorem cells_str : Try.prog.cellsOf 9 = 1 := by kernel_rfl
theorem cells_kids : Try.prog.cellsOf 24 = 1 := by kernel_rfl
theorem cells_int : Try.prog.cellsOf 3 = 1 := by kernel_rfl
theorem five {cs : List Value} (h : cs.length = 5) : ∃ a b c d e, cs = [a, b, c, d, e] := by
  match cs, h with
  | [a, b, c, d, e], _ => exact ⟨a, b, c, d, e, rfl⟩
theorem add_none {a : Addr} (h : a.spot = none) (n : Nat) : a.add n = ⟨a.block, a.off + n, none⟩ := by
  obtain ⟨b, o, s⟩ := a
  simp only at h
  subst h
  unfold Addr.add
  split
  · next e => subst e; rfl
  · rfl
theorem ere_tree {H : Type} (enc : TypeId × Value → H) (w : World) (base : Nat) (sp : Nat → Bool) (held : Bool) (n : Nat) : ∀ (cs : List Value) (x : DataW H × List MemPlace), DataW.trod enc Try.prog w base sp held n 26 cs = some x →
    ∃ (t : T) (a : Option Addr) (cap : Nat), cs = [.string t.op, .string t.set, .slice a t.kids.len cap, .int .i64 t.lo, .int .i64 t.hi] ∧ TK w t.kids a ∧ SzT t ∧ LnT t := by
  induction n using Nat.strongRecOn with
  | ind n ih =>
    intro cs x h
    obtain ⟨xs, m, rfl, _, hl, hxs, hf⟩ := DataW.trod_struct Try.underlying26 h
    rw [cells_ere] at hl
    obtain ⟨v0, v1, v2, v3, v4, rfl⟩ := five hl
    have hx5 : xs.length = 5 := hxs
    have g0 : DataW.trod enc Try.prog w base sp held m 9 ((([v0, v1, v2, v3, v4] : List Value).drop 0).take (Try.prog.cellsOf 9)) = xs[0]? := by have h := hf 0 _ rfl; exact h
    have g1 : DataW.trod enc Try.prog w base sp held m 9 ((([v0, v1, v2, v3, v4] : List Value).drop 1).take (Try.prog.cellsOf 9)) = xs[1]? := by have h := hf 1 _ rfl; exact h
    have g2 : DataW.trod enc Try.prog w base sp held m 24 ((([v0, v1, v2, v3, v4] : List Value).drop 2).take (Try.prog.cellsOf 24)) = xs[2]? := by have h := hf 2 _ rfl; exact h
    have g3 : DataW.trod enc Try.prog w base sp held m 3 ((([v0, v1, v2, v3, v4] : List Value).drop 3).take (Try.prog.cellsOf 3)) = xs[3]? := by have h := hf 3 _ rfl; exact h
    have g4 : DataW.trod enc Try.prog w base sp held m 3 ((([v0, v1, v2, v3, v4] : List Value).drop 4).take (Try.prog.cellsOf 3)) = xs[4]? := by have h := hf 4 _ rfl; exact h
    rw [cells_str] at g0 g1
    rw [cells_kids] at g2
    rw [cells_int] at g3 g4
    simp only [List.drop_zero, List.drop_succ_cons, List.take_succ_cons, List.take_zero] at g0 g1 g2 g3 g4
    rw [List.getElem?_eq_getElem (by omega)] at g0 g1 g2 g3 g4
    obtain ⟨s0, e0, _, _⟩ := DataW.trod_string Try.underlying9 g0
    obtain ⟨s1, e1, _, z1⟩ := DataW.trod_string Try.underlying9 g1
    obtain ⟨i3, e3, _, _⟩ := DataW.trod_int Try.underlying3 g3
    obtain ⟨i4, e4, _, _⟩ := DataW.trod_int Try.underlying3 g4
    cases e0; cases e1; cases e3; cases e4
    have z1' : s1.size ≤ 9223372036854775807 := Nat.le_trans z1 (by decide)
    rcases DataW.trod_slice Try.underlying24 g2 with ⟨e2, _⟩ | ⟨a, len, cap, elems, rest, k, rfl, e2, _, _, hlc, hcm, hlen, hel, _⟩
    · cases e2
      exact ⟨⟨s0, s1, i3, i4, .nil⟩, none, 0, rfl, Or.inl rfl, ⟨z1', trivial⟩, ⟨Nat.zero_le _, trivial⟩⟩
    · cases e2
      have hlm : len ≤ 9223372036854775807 := Nat.le_trans (Nat.le_trans hlc hcm) (by decide)
      have each : ∀ i, i < len → ∃ c5 y, w.cells? base (a.add (i * 5)) 5 = some c5 ∧ DataW.trod enc Try.prog w base sp held k 26 c5 = some y := fun i hi => by
        have h1 := hel i hi
        rw [List.getElem?_eq_getElem (by rw [hlen]; exact hi), cells_ere] at h1
        obtain ⟨c5, h2, h3⟩ := Option.bind_eq_some_iff.1 h1
        exact ⟨c5, _, h2, h3⟩
      have hspot : 0 < len → a.spot = none := fun h0 => by
        obtain ⟨c5, _, h2, h3⟩ := each 0 h0
        obtain ⟨_, h5, h4⟩ := World.cells?_some h2
        have h6 := h4 0 (by omega)
        rw [List.getElem?_eq_getElem (by omega)] at h6
        have h7 := World.cell?_spot h6
        rw [Nat.zero_mul] at h7
        simpa [Addr.add] using h7
      have key : ∀ i, i < len → TAt w a.block (a.off + i * 5) := fun i hi => by
        have hs := hspot (by omega)
        obtain ⟨c5, _, h2, h3⟩ := each i hi
        obtain ⟨_, _, h4⟩ := World.cells?_some h2
        obtain ⟨t, a', cap', rfl, h5, h6, h7⟩ := ih k (by omega) c5 _ h3
        rw [add_none hs] at h4
        have h8 : ∀ j, j < 5 → w.cell? ⟨a.block, a.off + i * 5 + j, none⟩ = [.string t.op, .string t.set, .slice a' t.kids.len cap', .int .i64 t.lo, .int .i64 t.hi][j]? := fun j hj => by
          have := h4 j hj
          rw [add_none rfl] at this
          exact this
        exact ⟨t, a', cap', h8 0 (by omega), h8 1 (by omega), h8 2 (by omega), h8 3 (by omega), h8 4 (by omega), h5, h6, h7⟩
      obtain ⟨f, f1, f2, f3, f4⟩ := forest_of len a.off key
      subst f1
      refine ⟨⟨s0, s1, i3, i4, f⟩, some a, cap, rfl, ?_, ⟨z1', f3⟩, ⟨hlm, f4⟩⟩
      by_cases h0 : f.len = 0
      · left
        cases f with
        | nil => rfl
        | cons _ _ _ _ _ r => simp only [Forest.len] at h0; omega
      · right
        have hs := hspot (by omega)
        exact ⟨a.block, a.off, by rw [← hs], f2⟩
end Go.Proofs.Ythebpkcifnndnaa.part

namespace Go.Proofs.Ythebpkcifnndnaa.part
set_option linter.unusedVariables false set_option linter.unusedSimpArgs false
open Go.ChangeShapes Go.WideShapes Go.ChangeAt Go.RowKit Go.Proofs.Ythebpkcifnndnaa.base Go.Proofs.Ythebpkcifnndnaa.spec Go.Proofs.Ythebpkcifnndnaa.nfa Go.Proofs.Ythebpkcifnndnaa.set Go.Proofs.Ythebpkcifnndnaa.parts Go.Proofs.Ythebpkcifnndnaa.items

/-- The nodes of the first k trees. -/
def fszN : Forest → Nat → Nat
  | .nil, _ => 0
  | .cons _ _ _ _ _ _, 0 => 0
  | .cons _ _ _ _ k r, n + 1 => 1 + fsz k + fszN r n
theorem fszN_zero (f : Forest) : fszN f 0 = 0 := by cases f <;> rfl
theorem fszN_succ {f : Forest} {k : Nat} {t : T} (h : nthF f k = some t) : fszN f (k + 1) = fszN f k + nd t := by
  induction f generalizing k with
  | nil => cases h
  | cons op set lo hi kk r _ ih =>
    cases k with
    | zero => cases h; simp only [fszN, fszN_zero, nd]; omega
    | succ k => have := ih h; simp only [fszN]; omega
theorem fszN_len (f : Forest) : fszN f f.len = fsz f := by
  induction f with
  | nil => rfl
  | cons op set lo hi kk r _ ih => simp only [Forest.len, fsz, fszN]; omega

def NodesPost (w : World) (t : T) (en : Ending) (w' : World) : Prop := ∃ n : Nat, en = .returned (.int .i64 (n : Int)) ∧ n ≤ 1000 ∧ (n ≤ 300 → nd t = n) ∧ Frm No w w'

set_option maxRecDepth 20000 in
set_option maxHeartbeats 4000000 in
theorem nodes_all (k : Nat) : ∀ (t : T) (w : World) (C : Array Value) (d : Nat), d + k = 101 → TAV w C t → LnT t → Calls Try.prog 16 #[.agg C, .int .i64 (d : Int)] w (NodesPost w t) := by
  induction k with
  | zero =>
    rintro t w C d hd ⟨a, cap, rfl, hk⟩ hln
    have h1 : (100 : Int) < (d : Int) := by omega
    clear hk hln
    go_enter Try.func16, Try.ntmps16
    go_wp2
    go_ret
    exact ⟨1000, rfl, by omega, fun h => by omega, (Frm.refl No w).alloc _⟩
  | succ k ih =>
    rintro t w C d hd ⟨a, cap, rfl, hk⟩ hln
    have h1 : (d : Int) ≤ 100 := by omega
    have hd0 : (0 : Int) ≤ (d : Int) := by omega
    have hll : (t.kids.len : Int) ≤ 9223372036854775807 := by have := hln.1; omega
    have HLN := Lib.hid hln.2
    have HK := Lib.hid hk
    have HIH := Lib.hid (fun (tk : T) (w' : World) (ak : Option Addr) (ck : Nat) (h : TK w' tk.kids ak) (hl : LnT tk) => (show ((d + 1 : Nat) : Int) = (d : Int) + 1 by omega) ▸ ih tk w' #[.string tk.op, .string tk.set, .slice ak tk.kids.len ck, .int .i64 tk.lo, .int .i64 tk.hi] (d + 1) (by omega) ⟨ak, ck, rfl, h⟩ hl)
    clear hk hln ih
    go_enter Try.func16, Try.ntmps16
    go_wp2
    go_loopw [5, 13] (fun nv iv wr => ∃ (i n : Nat), i ≤ t.kids.len ∧ iv = .int .i64 (i : Int) ∧ nv = .int .i64 (n : Int) ∧ Hid (n = 1 + fszN t.kids i) ∧ n ≤ 300 ∧ Frm No w wr) (fun _ iv _ => t.kids.len - (intOf iv).toNat)
    case atStart => exact ⟨0, 1, by omega, rfl, rfl, Lib.hid (by rw [fszN_zero]), by omega, (Frm.refl _ w).alloc _⟩
    case round =>
      obtain ⟨i, n, hi, rfl, rfl, HN, hn3, hf⟩ := hrel
      have HF := Lib.hid hf
      clear hf
      by_cases hlt : i < t.kids.len
      · have h0 : (0 : Int) ≤ (i : Int) := by omega
        have h2 : (i : Int) < (t.kids.len : Int) := by omega
        obtain ⟨tk, htk⟩ := nthF_some hlt
        have HTK := Lib.hid htk
        have hK2 := HK.out.move HF.out
        rcases hK2 with hnil | ⟨g, o, rfl, hta⟩
        · rw [hnil] at hlt; cases hlt
        · obtain ⟨q3, q4, q5, q6, ak, ck, q7, htkk⟩ := hta.nth htk
          have HKK := Lib.hid htkk
          clear hta htkk htk
          have hf1 := (Frm.refl No wr).alloc (.cells #[.string tk.op, .string tk.set, .slice ak tk.kids.len ck, .int .i64 tk.lo, .int .i64 tk.hi] 26)
          have HF1 := Lib.hid hf1
          clear hf1
          have HC := Lib.hid (HIH.out tk (wr.alloc (.cells #[.string tk.op, .string tk.set, .slice ak tk.kids.len ck, .int .i64 tk.lo, .int .i64 tk.hi] 26)) ak ck (HKK.out.move HF1.out) (HLN.out.nth HTK.out))
          go_upto_region 8 with ((go_at_call 16; go_must (refine HC.out.mono ?_; rintro en w2 ⟨m, rfl, hm, hmn, hf2⟩)))
          have HMN := Lib.hid hmn
          have HF2 := Lib.hid ((HF.out.trans HF1.out).trans hf2)
          clear hmn hf2
          by_cases hgt : 300 < n + m
          · have h3 : (300 : Int) < (n : Int) + (m : Int) := by omega
            go_wp2
            go_ret
            exact ⟨1000, rfl, by omega, fun h => by omega, HF2.out⟩
          · have h3 : (n : Int) + (m : Int) ≤ 300 := by omega
            go_wp2
            exact ⟨⟨i + 1, n + m, by omega, by go_num, by go_num, Lib.hid (by rw [fszN_succ HTK.out, HMN.out (by omega)]; have := HN.out; omega), by omega, HF2.out⟩, by simp [intOf]; omega⟩
      · obtain rfl : i = t.kids.len := by omega
        go_wp2
        go_ret
        exact ⟨n, rfl, by omega, fun _ => by have := HN.out; rw [fszN_len] at this; unfold nd; omega, HF.out⟩
end Go.Proofs.Ythebpkcifnndnaa.part

namespace Go.Proofs.Ythebpkcifnndnaa.part
set_option linter.unusedVariables false set_option linter.unusedSimpArgs false
open Go.ChangeShapes Go.WideShapes Go.ChangeAt Go.RowKit Go.Proofs.Ythebpkcifnndnaa.base Go.Proofs.Ythebpkcifnndnaa.spec Go.Proofs.Ythebpkcifnndnaa.nfa Go.Proofs.Ythebpkcifnndnaa.set Go.Proofs.Ythebpkcifnndnaa.parts Go.Proofs.Ythebpkcifnndnaa.items

def szL : List (Option Nat) → Nat → Option Nat
  | [], n => some n
  | none :: _, _ => none
  | some m :: r, n => if 2000 < n + m then none else szL r (n + m)
/-- The size of a node whose kids have these. -/
def szNode (op : ByteArray) (lo hi : Int) (l : List (Option Nat)) : Option Nat :=
  if op = setW ∨ op = bolW ∨ op = eolW then (if l.length = 0 then some 1 else none)
  else if op = catW then szL l 0
  else if op = altW then (if l.length = 0 then none else (szL l 0).bind fun n => if 2000 < n + 1 then none else some (n + 1))
  else if op = repW then (if l.length ≠ 1 ∨ bounds lo hi = false then none else (szL l 0).bind fun n => if 2000 < repN lo hi n then none else some (repN lo hi n))
  else none
def szK : Forest → List (Option Nat)
  | .nil => []
  | .cons op _ lo hi kids rest => szNode op lo hi (szK kids) :: szK rest
def szT (t : T) : Option Nat := szNode t.op t.lo t.hi (szK t.kids)
def sz2 (x : Option (T × Nat)) : Option Nat := x.map (·.2)
theorem szL_le {l : List (Option Nat)} {n k : Nat} (h : szL l n = some k) : n ≤ k := by
  induction l generalizing n with
  | nil => cases h; exact Nat.le_refl _
  | cons x r ih =>
    cases x with
    | none => cases h
    | some m =>
      rw [szL] at h
      split at h
      · cases h
      · have := ih h
        omega
theorem row_sz (l : List (Option (T × Nat))) : ∀ (f : Forest) (n : Nat) (o : Bool), (rowF l f n o).map (·.2.1) = szL (l.map sz2) n := by
  induction l with
  | nil => intro f n o; rfl
  | cons x r ih =>
    intro f n o
    rcases x with _ | ⟨p, m⟩
    · rfl
    · rw [rowF, List.map_cons, show sz2 (some (p, m)) = some m from rfl, szL]
      split
      · rfl
      · split
        · exact ih _ _ _
        · exact ih _ _ _
theorem szL_one (l : List (Option Nat)) : ∀ n, n + 1 ≤ 2000 → szL l (n + 1) = (szL l n).bind fun k => if 2000 < k + 1 then none else some (k + 1) := by
  induction l with
  | nil => intro n h; show some (n + 1) = _; rw [szL, Option.bind_some, if_neg (by omega)]
  | cons x r ih =>
    intro n h
    cases x with
    | none => rfl
    | some m =>
      rw [szL, szL]
      by_cases h1 : 2000 < n + 1 + m
      · rw [if_pos h1]
        by_cases h2 : 2000 < n + m
        · rw [if_pos h2]; rfl
        · rw [if_neg h2]
          cases hs : szL r (n + m) with
          | none => rfl
          | some k =>
            have := szL_le hs
            rw [Option.bind_some, if_pos (by omega)]
      · rw [if_neg h1, if_neg (by omega), show n + 1 + m = n + m + 1 by omega]
        exact ih (n + m) (by omega)
theorem repN_gt {lo hi : Int} (hb : bounds lo hi = true) (n : Nat) : n < repN lo hi n := by
  unfold bounds at hb
  simp only [Bool.and_eq_true, Bool.or_eq_true, decide_eq_true_eq] at hb
  unfold repN
  have h1 : 1 ≤ (if hi = -1 then lo + 1 else max 1 hi).toNat := by
    split <;> omega
  have := Nat.mul_le_mul_left n h1
  omega
theorem node_sz (op set : ByteArray) (lo hi : Int) (l : List (Option (T × Nat))) (d : Nat) (hd : d ≤ 2000) : sz2 (rdNode op set lo hi l d) = szNode op lo hi (l.map sz2) := by
  unfold rdNode szNode
  rw [if_neg (by omega), List.length_map]
  by_cases h1 : op = setW ∨ op = bolW ∨ op = eolW
  · rw [if_pos h1, if_pos h1]
    split <;> rfl
  · rw [if_neg h1, if_neg h1]
    by_cases h2 : op = catW
    · rw [if_pos h2, if_pos h2, ← row_sz l .nil 0 false]
      cases rowF l .nil 0 false with
      | none => rfl
      | some x => rfl
    · rw [if_neg h2, if_neg h2]
      by_cases h3 : op = altW
      · rw [if_pos h3, if_pos h3]
        by_cases h4 : l.length = 0
        · rw [if_pos h4, if_pos h4]; rfl
        · rw [if_neg h4, if_neg h4, ← szL_one _ 0 (by omega), ← row_sz l .nil 1 false]
          cases rowF l .nil 1 false with
          | none => rfl
          | some x => rfl
      · rw [if_neg h3, if_neg h3]
        by_cases h5 : op = repW
        · rw [if_pos h5, if_pos h5]
          by_cases h6 : l.length ≠ 1 ∨ bounds lo hi = false
          · rw [if_pos h6, if_pos h6]; rfl
          · rw [if_neg h6, if_neg h6]
            have h7 : l.length = 1 := by
              rcases Nat.lt_trichotomy l.length 1 with h | h | h
              · exact absurd (Or.inl (by omega)) h6
              · exact h
              · exact absurd (Or.inl (by omega)) h6
            have h8 : bounds lo hi = true := by
              cases hb : bounds lo hi with
              | true => rfl
              | false => exact absurd (Or.inr hb) h6
            match l, h7 with
            | [x], _ =>
              rcases x with _ | ⟨p, n⟩
              · rfl
              · have hgt := repN_gt h8 n
                simp only [List.headD_cons, List.map_cons, List.map_nil, show sz2 (some (p, n)) = some n from rfl, szL, Nat.zero_add]
                by_cases h9 : 2000 < n
                · rw [if_pos (show 2000 < repN lo hi n by omega), if_pos h9]; rfl
                · rw [if_neg h9, Option.bind_some]
                  split
                  · rfl
                  · split <;> rfl
        · rw [if_neg h5, if_neg h5]; rfl
theorem rdF_sz (f : Forest) : ∀ d, fsz f + d ≤ 2001 → (rdF f d).map sz2 = szK f := by
  induction f with
  | nil => intro d _; rfl
  | cons op set lo hi k r ih1 ih2 =>
    intro d h
    simp only [fsz] at h
    rw [rdF, List.map_cons, szK, node_sz _ _ _ _ _ _ (by omega), ih1 (d + 1) (by omega), ih2 d (by omega)]
/-- There is a machine just of such a tree as has a size. -/
theorem rdT_sz {t : T} (h : nd t ≤ 2000) : ((rdT t 0).isSome) = (szT t).isSome := by
  have h1 := rdF_sz t.kids 1 (by unfold nd at h; omega)
  have h2 := node_sz t.op t.set t.lo t.hi (rdF t.kids 1) 0 (by omega)
  rw [h1] at h2
  have h3 : sz2 (rdT t 0) = szT t := h2
  rw [← h3]
  unfold sz2
  cases rdT t 0 <;> rfl
end Go.Proofs.Ythebpkcifnndnaa.part
