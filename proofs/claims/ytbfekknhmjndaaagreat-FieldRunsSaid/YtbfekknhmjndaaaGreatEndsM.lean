/- Sets of places as rows of bools, and what a relation makes of them. The document's Ends at a leaf: bol and eol. The document's Ends at a cat. The document's Ends at an alt. The document's Ends at a rep: what many times lead to. The document's Ends at a rep: the walks. The document's Ends at a rep: without a bound. The document's Ends, by induction; its Whole; right trees. -/
import Derived.Test.YtbfekknhmjndaaaGreatDocM

namespace Go.Proofs.YtbfekknhmjndaaaGreat.part
set_option linter.unusedVariables false set_option linter.unusedSimpArgs false
open Go.Proofs.YtbfekknhmjndaaaGreat.base Go.Proofs.YtbfekknhmjndaaaGreat.spec Go.Proofs.YtbfekknhmjndaaaGreat.nfa

/-- out is where R leads from l. -/
structure Img (R : Rel) (s : List UInt8) (l out : List Bool) : Prop where
  len : out.length = s.length + 1
  mem : ∀ j, out[j]? = some true ↔ ∃ i, l[i]? = some true ∧ R s i j
theorem img_id {s : List UInt8} {l : List Bool} (h : l.length = s.length + 1) : Img idR s l l :=
  ⟨h, fun j => ⟨fun hj => ⟨j, hj, rfl⟩, fun ⟨i, hi, hr⟩ => by cases hr; exact hi⟩⟩
theorem img_comp {R Q : Rel} {s : List UInt8} {l m o : List Bool} (h : Img R s l m) (k : Img Q s m o) : Img (compR R Q) s l o :=
  ⟨k.len, fun j => (k.mem j).trans ⟨fun ⟨i, hi, hq⟩ => by
    obtain ⟨i', h1, h2⟩ := (h.mem i).1 hi
    exact ⟨i', h1, i, h2, hq⟩, fun ⟨i', h1, i, h2, hq⟩ => ⟨i, (h.mem i).2 ⟨i', h1, h2⟩, hq⟩⟩⟩
theorem img_congr {R Q : Rel} {s : List UInt8} {l o : List Bool} (h : Img R s l o) (he : ∀ i j, R s i j ↔ Q s i j) : Img Q s l o :=
  ⟨h.len, fun j => (h.mem j).trans ⟨fun ⟨i, h1, h2⟩ => ⟨i, h1, (he i j).1 h2⟩, fun ⟨i, h1, h2⟩ => ⟨i, h1, (he i j).2 h2⟩⟩⟩
theorem or_mem {a b : List Bool} (hl : b.length = a.length) (j : Nat) : (List.zipWith (· || ·) a b)[j]? = some true ↔ (a[j]? = some true ∨ b[j]? = some true) := by
  rw [List.getElem?_zipWith]
  by_cases hj : j < a.length
  · rw [List.getElem?_eq_getElem hj, List.getElem?_eq_getElem (l := b) (by omega)]
    simp
  · rw [List.getElem?_eq_none (l := a) (by omega), List.getElem?_eq_none (l := b) (by omega)]
    simp
theorem img_or {R Q : Rel} {s : List UInt8} {l a b : List Bool} (h : Img R s l a) (k : Img Q s l b) : Img (orR R Q) s l (List.zipWith (· || ·) a b) := by
  refine ⟨by rw [List.length_zipWith, h.len, k.len, Nat.min_self], fun j => ?_⟩
  rw [or_mem (by rw [h.len, k.len]), h.mem, k.mem]
  constructor
  · rintro (⟨i, h1, h2⟩ | ⟨i, h1, h2⟩)
    · exact ⟨i, h1, Or.inl h2⟩
    · exact ⟨i, h1, Or.inr h2⟩
  · rintro ⟨i, h1, h2 | h2⟩
    · exact Or.inl ⟨i, h1, h2⟩
    · exact Or.inr ⟨i, h1, h2⟩
theorem pow_snoc (R : Rel) (n : Nat) : ∀ s i j, powR R (n + 1) s i j ↔ compR (powR R n) R s i j := by
  induction n with
  | zero => intro s i j; exact ⟨fun ⟨m, h1, h2⟩ => ⟨i, rfl, by have e : j = m := h2; subst e; exact h1⟩, fun ⟨m, h1, h2⟩ => by have e : m = i := h1; subst e; exact ⟨j, h2, rfl⟩⟩
  | succ n ih =>
    intro s i j
    constructor
    · rintro ⟨m, h1, h2⟩
      obtain ⟨m2, h3, h4⟩ := (ih s m j).1 h2
      exact ⟨m2, ⟨m, h1, h3⟩, h4⟩
    · rintro ⟨m2, ⟨m, h1, h3⟩, h4⟩
      exact ⟨m, h1, (ih s m j).2 ⟨m2, h3, h4⟩⟩
/-- Any number of times: a set that holds the first one, that some number of times leads to, and out of which R doesn't lead. -/
theorem img_star {R : Rel} {s : List UInt8} {l o r : List Bool} (hlen : o.length = s.length + 1) (h0 : ∀ j : Nat, l[j]? = some true → o[j]? = some true) (h1 : ∀ j : Nat, o[j]? = some true → ∃ i, l[i]? = some true ∧ starR R s i j)
    (hr : Img R s o r) (hc : ∀ j : Nat, r[j]? = some true → o[j]? = some true) : Img (starR R) s l o := by
  refine ⟨hlen, fun j => ⟨h1 j, ?_⟩⟩
  rintro ⟨i, hi, n, hn⟩
  induction n generalizing j with
  | zero => have e : j = i := hn; subst e; exact h0 _ hi
  | succ n ih =>
    obtain ⟨m, h2, h3⟩ := (pow_snoc R n s i j).1 hn
    exact hc j ((hr.mem j).2 ⟨m, ih m h2, h3⟩)
end Go.Proofs.YtbfekknhmjndaaaGreat.part

namespace Go.Proofs.YtbfekknhmjndaaaGreat.part
set_option linter.unusedVariables false set_option linter.unusedSimpArgs false
open Go.ChangeShapes Go.WideShapes Go.ChangeAt Go.RowKit Go.Proofs.YtbfekknhmjndaaaGreat.base Go.Proofs.YtbfekknhmjndaaaGreat.spec Go.Proofs.YtbfekknhmjndaaaGreat.nfa Go.Proofs.YtbfekknhmjndaaaGreat.set Go.Proofs.YtbfekknhmjndaaaGreat.parts Go.Proofs.YtbfekknhmjndaaaGreat.items

def EndsPost (w : World) (s : ByteArray) (l : List Bool) (R : Rel) (en : Ending) (w' : World) : Prop := ∃ v out, en = .returned v ∧ RB w' v out ∧ Img R s.data.toList l out ∧ Frm No w w'
theorem set_img {n p : Nat} {b : Bool} {l : List Bool} (hp : p < n) (hb : l[p]? = some b) (j : Nat) : ((List.replicate n false).set p b)[j]? = some true ↔ j = p ∧ l[p]? = some true := by
  rw [List.getElem?_set]
  by_cases e : p = j
  · subst e
    rw [if_pos rfl, if_pos (by simpa using hp), hb]
    simp
  · rw [if_neg e]
    constructor
    · intro h
      have := List.eq_of_mem_replicate (List.mem_of_getElem? h)
      cases this
    · rintro ⟨h, _⟩; exact absurd h.symm e

theorem own_bools_set (w : World) (n p : Nat) (b : Bool) (h : n ≤ 1000000) : (w.alloc (.cells ((madeCells #[.bool false] n).setIfInBounds p (.bool b)) 4)).ownsRow w.heap.size 4 1 (.slice (some ⟨w.heap.size, 0, none⟩) n n) n (((List.replicate n false).set p b).map Value.bool) := by
  refine ⟨by simp, Or.inr ⟨w.heap.size, n, (madeCells #[.bool false] n).setIfInBounds p (.bool b), rfl, Nat.le_refl _, heap_alloc_new w _, Nat.le_refl _, by unfold maxLen; omega, by simp [size_madeCells], ?_⟩⟩
  rw [Array.toList_setIfInBounds, toList_madeCells_one, List.map_set, List.take_of_length_le (by simp)]
  simp
theorem made_at (n p : Nat) (h : p < n) : (madeCells #[Value.bool false] n)[p]? = some (.bool false) := by
  rw [← Array.getElem?_toList, toList_madeCells_one, List.getElem?_replicate, if_pos h]
set_option maxRecDepth 20000 in
set_option maxHeartbeats 2000000 in
theorem ends_bol (w : World) (t : T) (a : Option Addr) (cap : Nat) (s : ByteArray) (v : Value) (l : List Bool) (hop : t.op = bolW) (hv : RB w v l) (hl : l.length = s.size + 1) (hz : s.size ≤ 100000) :
    Calls Tryz.prog 32 #[.agg #[.string t.op, .string t.set, .slice a t.kids.len cap, .int .i64 t.lo, .int .i64 t.hi], .string s, v] w (EndsPost w s l (relT t)) := by
  obtain ⟨g, gc, rfl, hv⟩ := hv
  have hr : relT t = bolR := by unfold relT nodeR; rw [hop]; rfl
  rw [hr, hl]
  have h_set : (t.op.toList == [115, 101, 116]) = false := by rw [hop]; decide +kernel
  have h_bol : (t.op.toList == [98, 111, 108]) = true := by rw [hop]; decide +kernel
  obtain ⟨b, hb⟩ : ∃ b, l[0]? = some b := ⟨_, List.getElem?_eq_getElem (by omega)⟩
  have q1 : w.cell? ⟨g, 0, none⟩ = some (.bool b) := hv 0 b hb
  have HB := Lib.hid hb
  have HL := Lib.hid hl
  have hmk := run_make_row' (P := Tryz.prog) 65 4 (.bool false) 1 Tryz.underlying65 info_bool rfl .i64 .i64 (s.size + 1) (by omega) (by omega)
  have e1 : ((s.size + 1 : Nat) : Int) = (s.size : Int) + 1 := by omega
  simp only [e1] at hmk
  clear e1
  have hglt := World.block_lt_of_cell? w _ q1
  have hpos : (0 : Int) < (s.size : Int) + 1 := by omega
  have HO := Lib.hid (own_bools_set (w.alloc (.cells #[.string t.op, .string t.set, .slice a t.kids.len cap, .int .i64 t.lo, .int .i64 t.hi] 47)) (s.size + 1) 0 b (by omega))
  have hsz : (w.alloc (.cells #[.string t.op, .string t.set, .slice a t.kids.len cap, .int .i64 t.lo, .int .i64 t.hi] 47)).heap.size = w.heap.size + 1 := World.size_alloc _ _
  have hmc := made_at (s.size + 1) 0 (by omega)
  clear hr hop hb hl hv
  go_enter Tryz.func32, Tryz.ntmps32
  go_wp2
  go_ret
  have h := HO.out
  rw [hsz] at h
  have hX : ((List.replicate (s.size + 1) false).set 0 b).length = s.size + 1 := by simp
  refine ⟨_, (List.replicate (s.size + 1) false).set 0 b, rfl, ?_, ⟨by simp, fun j => ?_⟩, ((Frm.refl No w).alloc _).alloc _⟩
  · have h2 := rb_own (by rw [hX]; exact h)
    rw [hX] at h2
    exact h2
  · rw [set_img (by omega) HB.out]
    exact ⟨fun ⟨h1, h2⟩ => ⟨0, h2, rfl, h1⟩, fun ⟨i, h1, h2, h3⟩ => by subst h2; exact ⟨h3, h1⟩⟩
set_option maxRecDepth 20000 in
set_option maxHeartbeats 2000000 in
theorem ends_eol (w : World) (t : T) (a : Option Addr) (cap : Nat) (s : ByteArray) (v : Value) (l : List Bool) (hop : t.op = eolW) (hv : RB w v l) (hl : l.length = s.size + 1) (hz : s.size ≤ 100000) :
    Calls Tryz.prog 32 #[.agg #[.string t.op, .string t.set, .slice a t.kids.len cap, .int .i64 t.lo, .int .i64 t.hi], .string s, v] w (EndsPost w s l (relT t)) := by
  obtain ⟨g, gc, rfl, hv⟩ := hv
  have hr : relT t = eolR := by unfold relT nodeR; rw [hop]; rfl
  rw [hr, hl]
  have h_set : (t.op.toList == [115, 101, 116]) = false := by rw [hop]; decide +kernel
  have h_bol : (t.op.toList == [98, 111, 108]) = false := by rw [hop]; decide +kernel
  have h_eol : (t.op.toList == [101, 111, 108]) = true := by rw [hop]; decide +kernel
  obtain ⟨b, hb⟩ : ∃ b, l[s.size]? = some b := ⟨_, List.getElem?_eq_getElem (by omega)⟩
  have q1 : w.cell? ⟨g, s.size, none⟩ = some (.bool b) := hv s.size b hb
  have HB := Lib.hid hb
  have HL := Lib.hid hl
  have hmk := run_make_row' (P := Tryz.prog) 65 4 (.bool false) 1 Tryz.underlying65 info_bool rfl .i64 .i64 (s.size + 1) (by omega) (by omega)
  have e1 : ((s.size + 1 : Nat) : Int) = (s.size : Int) + 1 := by omega
  simp only [e1] at hmk
  clear e1
  have hglt := World.block_lt_of_cell? w _ q1
  have hpos : (s.size : Int) < (s.size : Int) + 1 := by omega
  have hpos0 : (0 : Int) ≤ (s.size : Int) := by omega
  have HO := Lib.hid (own_bools_set (w.alloc (.cells #[.string t.op, .string t.set, .slice a t.kids.len cap, .int .i64 t.lo, .int .i64 t.hi] 47)) (s.size + 1) s.size b (by omega))
  have hsz : (w.alloc (.cells #[.string t.op, .string t.set, .slice a t.kids.len cap, .int .i64 t.lo, .int .i64 t.hi] 47)).heap.size = w.heap.size + 1 := World.size_alloc _ _
  have hmc := made_at (s.size + 1) s.size (by omega)
  clear hr hop hb hl hv
  go_enter Tryz.func32, Tryz.ntmps32
  go_wp2
  go_ret
  have h := HO.out
  rw [hsz] at h
  have hX : ((List.replicate (s.size + 1) false).set s.size b).length = s.size + 1 := by simp
  refine ⟨_, (List.replicate (s.size + 1) false).set s.size b, rfl, ?_, ⟨by simp, fun j => ?_⟩, ((Frm.refl No w).alloc _).alloc _⟩
  · have h2 := rb_own (by rw [hX]; exact h)
    rw [hX] at h2
    exact h2
  · rw [set_img (by omega) HB.out]
    exact ⟨fun ⟨h1, h2⟩ => ⟨s.size, h2, by simp, h1⟩, fun ⟨i, h1, h2, h3⟩ => by have e : i = s.size := by simpa using h2
                                                                                subst e; exact ⟨h3, h1⟩⟩
/-- The places that are found when k bytes were looked at. -/
def SetAt (s : List UInt8) (l : List Bool) (f : Nat → Bool) (k : Nat) (X : List Bool) : Prop := ∀ j : Nat, X[j]? = some true ↔ ∃ i : Nat, i < k ∧ l[i]? = some true ∧ takeR f s i j
theorem setAt_hit {s : List UInt8} {l X : List Bool} {f : Nat → Bool} {k : Nat} {c : UInt8} (h : SetAt s l f k X) (hl : l[k]? = some true) (hs : s[k]? = some c) (hf : f c.toNat = true) (hX : k + 1 < X.length) : SetAt s l f (k + 1) (X.set (k + 1) true) := fun j => by
  rw [List.getElem?_set]
  by_cases e : k + 1 = j
  · subst e
    rw [if_pos rfl, if_pos hX]
    exact ⟨fun _ => ⟨k, by omega, hl, rfl, c, hs, hf⟩, fun _ => rfl⟩
  · rw [if_neg e, h j]
    exact ⟨fun ⟨i, h1, h2, h3⟩ => ⟨i, by omega, h2, h3⟩, fun ⟨i, h1, h2, h3⟩ => ⟨i, by have := h3.1; omega, h2, h3⟩⟩
theorem setAt_miss {s : List UInt8} {l X : List Bool} {f : Nat → Bool} {k : Nat} (h : SetAt s l f k X) (hno : ¬ (l[k]? = some true ∧ ∃ c, s[k]? = some c ∧ f c.toNat = true)) : SetAt s l f (k + 1) X := fun j => by
  rw [h j]
  refine ⟨fun ⟨i, h1, h2, h3⟩ => ⟨i, by omega, h2, h3⟩, fun ⟨i, h1, h2, h3⟩ => ⟨i, ?_, h2, h3⟩⟩
  by_cases e : i = k
  · subst e; exact absurd ⟨h2, h3.2⟩ hno
  · omega

set_option maxRecDepth 20000 in
set_option maxHeartbeats 4000000 in
theorem ends_set (w : World) (t : T) (a : Option Addr) (cap : Nat) (s : ByteArray) (v : Value) (l : List Bool) (hop : t.op = setW) (hsz : t.set.size ≤ 9223372036854775807) (hv : RB w v l) (hl : l.length = s.size + 1) (hz : s.size ≤ 100000) :
    Calls Tryz.prog 32 #[.agg #[.string t.op, .string t.set, .slice a t.kids.len cap, .int .i64 t.lo, .int .i64 t.hi], .string s, v] w (EndsPost w s l (relT t)) := by
  obtain ⟨g, gc, rfl, hv⟩ := hv
  have hr : relT t = takeR (inS t.set) := by unfold relT nodeR; rw [hop]; rfl
  rw [hr, hl]
  have h_set : (t.op.toList == [115, 101, 116]) = true := by rw [hop]; decide +kernel
  have HV := Lib.hid hv
  have HL := Lib.hid hl
  have hmk := run_make_row' (P := Tryz.prog) 65 4 (.bool false) 1 Tryz.underlying65 info_bool rfl .i64 .i64 (s.size + 1) (by omega) (by omega)
  have e1 : ((s.size + 1 : Nat) : Int) = (s.size : Int) + 1 := by omega
  simp only [e1] at hmk
  clear e1
  have HO := Lib.hid (own_bools (w.alloc (.cells #[.string t.op, .string t.set, .slice a t.kids.len cap, .int .i64 t.lo, .int .i64 t.hi] 47)) (s.size + 1) (by omega))
  have hws : (w.alloc (.cells #[.string t.op, .string t.set, .slice a t.kids.len cap, .int .i64 t.lo, .int .i64 t.hi] 47)).heap.size = w.heap.size + 1 := World.size_alloc _ _
  have HBX := Lib.hid ((Box.new w 47 #[.string t.op, .string t.set, .slice a t.kids.len cap, .int .i64 t.lo, .int .i64 t.hi]).alloc (.cells (madeCells #[.bool false] (s.size + 1)) 4))
  clear hr hop hl hv
  have HSZB := Lib.hid hsz
  clear hsz
  go_enter Tryz.func32, Tryz.ntmps32
  go_wp2
  go_loopw [8] (fun cv wr => ∃ (k : Nat) (X : List Bool), k ≤ s.size ∧ cv = .int .i64 (k : Int) ∧ X.length = s.size + 1 ∧ Hid (wr.ownsRow (w.heap.size + 1) 4 1 (.slice (some ⟨w.heap.size + 1, 0, none⟩) (s.size + 1) (s.size + 1)) (s.size + 1) (X.map Value.bool)) ∧ Hid (SetAt s.data.toList l (inS t.set) k X) ∧ Hid (Box wr w.heap.size 47 #[.string t.op, .string t.set, .slice a t.kids.len cap, .int .i64 t.lo, .int .i64 t.hi]) ∧ Frm No w wr) (fun cv _ => s.size - (intOf cv).toNat)
  case atStart =>
    refine ⟨0, List.replicate (s.size + 1) false, by omega, rfl, by simp, Lib.hid (by have h := HO.out; rw [hws] at h; exact h), Lib.hid (fun j => ⟨fun h => ?_, fun ⟨i, h, _⟩ => absurd h (Nat.not_lt_zero _)⟩), HBX, ((Frm.refl _ w).alloc _).alloc _⟩
    have := List.eq_of_mem_replicate (List.mem_of_getElem? h)
    cases this
  case round =>
    obtain ⟨k, X, hk, rfl, hX, HOW, HSA, HB, hf⟩ := hrel
    have HF := Lib.hid hf
    clear hf
    by_cases hlt : k < s.size
    · have h0 : (0 : Int) ≤ (k : Int) := by omega
      have h1 : (k : Int) < (s.size : Int) := by omega
      have h2 : (k : Int) < (s.size : Int) + 1 := by omega
      have h3 : (k : Int) + 1 < (s.size : Int) + 1 := by omega
      obtain ⟨b, hb⟩ : ∃ b, l[k]? = some b := ⟨_, List.getElem?_eq_getElem (by have := HL.out; omega)⟩
      have q1 : wr.cell? ⟨g, k, none⟩ = some (.bool b) := cell_frm HF.out (HV.out k b hb) id
      have q2 : wr.cell? ⟨w.heap.size, 1, none⟩ = some (.string t.set) := HB.out.cell 1
      have q3 := HOW.out.frozenAt (k + 1)
      have HLK := Lib.hid hb
      clear hb
      obtain ⟨v4, q4⟩ : ∃ v4, wr.cell? ⟨w.heap.size + 1, k + 1, none⟩ = some v4 := ⟨_, (HOW.out.cellAt (k + 1) (by omega)).trans (List.getElem?_eq_getElem (by rw [List.length_map]; omega))⟩
      cases b with
      | false =>
        have HM := Lib.hid (setAt_miss HSA.out (k := k) (fun h => by rw [HLK.out] at h; cases h.1))
        go_wp2
        go_quiet (fail)
        go_wp2
        exact ⟨⟨k + 1, X, by omega, by go_num, hX, HOW, HM, HB, HF.out.drewN _⟩, by simp [intOf]; omega⟩
      | true =>
        have HHAS := Lib.hid (fun W => has_all W t.set s[k] HSZB.out)
        have hsk := lst_get s k hlt
        cases hc : inS t.set s[k].toNat with
        | false =>
          rw [hc] at HHAS
          have HM := Lib.hid (setAt_miss HSA.out (k := k) (fun h => by
            obtain ⟨_, c, h4, h5⟩ := h
            rw [hsk] at h4; cases h4
            rw [hc] at h5; cases h5))
          clear hc hsk
          go_wp2
          go_quiet ((go_at_call 41; exact Calls.quiet_of_same (HHAS.out _)))
          go_wp2
          exact ⟨⟨k + 1, X, by omega, by go_num, hX, HOW, HM, HB, HF.out.drewN _⟩, by simp [intOf]; omega⟩
        | true =>
          rw [hc] at HHAS
          have HM := Lib.hid (setAt_hit HSA.out HLK.out hsk hc (by omega))
          clear hc hsk
          have HO2 := Lib.hid (show ∀ n, ((wr.drewN n).setCell ⟨w.heap.size + 1, k + 1, none⟩ (.bool true)).ownsRow (w.heap.size + 1) 4 1 (.slice (some ⟨w.heap.size + 1, 0, none⟩) (s.size + 1) (s.size + 1)) (s.size + 1) ((X.set (k + 1) true).map Value.bool) from fun n => by
            rw [List.map_set]
            exact (World.ownsRow.stored (w := wr.drewN n) HOW.out (k + 1) (.bool true)).1)
          go_wp2
          go_quiet ((go_at_call 41; exact Calls.quiet_of_same (HHAS.out _)))
          go_wp2
          exact ⟨⟨k + 1, X.set (k + 1) true, by omega, by go_num, by simpa using hX, Lib.hid (HO2.out _), HM, Lib.hid (Box.set_ne (w := wr.drewN _) HB.out (.bool true) (by omega)), (HF.out.drewN _).setCell ⟨w.heap.size + 1, k + 1, none⟩ _ (fun h => absurd (show w.heap.size + 1 < w.heap.size from h) (by omega))⟩, by simp [intOf]; omega⟩
    · obtain rfl : k = s.size := by omega
      go_wp2
      go_ret
      refine ⟨_, X, rfl, ?_, ⟨by rw [hX]; simp, fun j => (HSA.out j).trans ⟨fun ⟨i, _, h2, h3⟩ => ⟨i, h2, h3⟩, fun ⟨i, h2, h3⟩ => ⟨i, ?_, h2, h3⟩⟩⟩, HF.out⟩
      · have h := HOW.out
        have h2 := rb_own (by rw [hX]; exact h)
        rw [hX] at h2
        exact h2
      · obtain ⟨_, c, h4, _⟩ := h3
        have := (List.getElem?_eq_some_iff.1 h4).1
        simpa using this
end Go.Proofs.YtbfekknhmjndaaaGreat.part

namespace Go.Proofs.YtbfekknhmjndaaaGreat.part
set_option linter.unusedVariables false set_option linter.unusedSimpArgs false
open Go.ChangeShapes Go.WideShapes Go.ChangeAt Go.RowKit Go.Proofs.YtbfekknhmjndaaaGreat.base Go.Proofs.YtbfekknhmjndaaaGreat.spec Go.Proofs.YtbfekknhmjndaaaGreat.nfa Go.Proofs.YtbfekknhmjndaaaGreat.set Go.Proofs.YtbfekknhmjndaaaGreat.parts Go.Proofs.YtbfekknhmjndaaaGreat.items

def catR (L : List Rel) : Rel := L.foldr compR idR
theorem cat_snoc (L : List Rel) (R : Rel) : ∀ s i j, catR (L ++ [R]) s i j ↔ compR (catR L) R s i j := by
  induction L with
  | nil => intro s i j; exact ⟨fun ⟨m, h1, h2⟩ => ⟨i, rfl, by have e : j = m := h2; subst e; exact h1⟩, fun ⟨m, h1, h2⟩ => by have e : m = i := h1; subst e; exact ⟨j, h2, rfl⟩⟩
  | cons Q L ih =>
    intro s i j
    constructor
    · rintro ⟨m, h1, h2⟩
      obtain ⟨m2, h3, h4⟩ := (ih s m j).1 h2
      exact ⟨m2, ⟨m, h1, h3⟩, h4⟩
    · rintro ⟨m2, ⟨m, h1, h3⟩, h4⟩
      exact ⟨m, h1, (ih s m j).2 ⟨m2, h3, h4⟩⟩
theorem img_catS {L : List Rel} {R : Rel} {i : Nat} {s : List UInt8} {l X Y : List Bool} (h : Img (catR (L.take i)) s l X) (hR : L[i]? = some R) (k : Img R s X Y) : Img (catR (L.take (i + 1))) s l Y := by
  rw [List.take_add_one, hR]
  exact img_congr (img_comp h k) (fun a b => (cat_snoc _ _ s a b).symm)
/-- The induction's word for Ends. -/
def EIH (N : Nat) : Prop := ∀ (t : T) (w : World) (C : Array Value) (s : ByteArray) (v : Value) (l : List Bool), nd t ≤ N → okT t → SzT t → TAV w C t → RB w v l → l.length = s.size + 1 → s.size ≤ 100000 →
  Calls Tryz.prog 32 #[.agg C, .string s, v] w (EndsPost w s l (relT t))

set_option maxRecDepth 20000 in
set_option maxHeartbeats 4000000 in
theorem ends_cat (N : Nat) (IH : EIH N) (w : World) (t : T) (a : Option Addr) (cap : Nat) (s : ByteArray) (v : Value) (l : List Bool) (hop : t.op = catW) (hk : TK w t.kids a) (hn : fsz t.kids ≤ N) (hok : okF t.kids) (hsz : SzF t.kids) (hlen : t.kids.len ≤ 1000000) (hv : RB w v l) (hl : l.length = s.size + 1) (hz : s.size ≤ 100000) :
    Calls Tryz.prog 32 #[.agg #[.string t.op, .string t.set, .slice a t.kids.len cap, .int .i64 t.lo, .int .i64 t.hi], .string s, v] w (EndsPost w s l (relT t)) := by
  have hr : relT t = catR (relF t.kids) := by unfold relT nodeR; rw [hop]; rfl
  rw [hr]
  have h_set : (t.op.toList == [115, 101, 116]) = false := by rw [hop]; decide +kernel
  have h_bol : (t.op.toList == [98, 111, 108]) = false := by rw [hop]; decide +kernel
  have h_eol : (t.op.toList == [101, 111, 108]) = false := by rw [hop]; decide +kernel
  have h_cat : (t.op.toList == [99, 97, 116]) = true := by rw [hop]; decide +kernel
  have HIH := Lib.hid IH
  have HV := Lib.hid hv
  have HL := Lib.hid hl
  have HK := Lib.hid hk
  have HN := Lib.hid hn
  have HOK := Lib.hid hok
  have HSZ := Lib.hid hsz
  have hmk := run_make_row' (P := Tryz.prog) 65 4 (.bool false) 1 Tryz.underlying65 info_bool rfl .i64 .i64 (s.size + 1) (by omega) (by omega)
  have e1 : ((s.size + 1 : Nat) : Int) = (s.size : Int) + 1 := by omega
  simp only [e1] at hmk
  clear e1
  have HBX := Lib.hid ((Box.new w 47 #[.string t.op, .string t.set, .slice a t.kids.len cap, .int .i64 t.lo, .int .i64 t.hi]).alloc (.cells (madeCells #[.bool false] (s.size + 1)) 4))
  clear hr hop hl hv IH hk hn hok hsz
  go_enter Tryz.func32, Tryz.ntmps32
  go_wp2
  go_loopw [7, 9] (fun ov cv wr => ∃ (i : Nat) (X : List Bool), i ≤ t.kids.len ∧ cv = .int .i64 (i : Int) ∧ Hid (RB wr ov X) ∧ Hid (Img (catR ((relF t.kids).take i)) s.data.toList l X) ∧ Hid (Box wr w.heap.size 47 #[.string t.op, .string t.set, .slice a t.kids.len cap, .int .i64 t.lo, .int .i64 t.hi]) ∧ Frm No w wr) (fun _ cv _ => t.kids.len - (intOf cv).toNat)
  case atStart =>
    exact ⟨0, l, by omega, rfl, Lib.hid (HV.out.move (((Frm.refl No w).alloc _).alloc _)), Lib.hid (img_id (by simpa using HL.out)), HBX, ((Frm.refl _ w).alloc _).alloc _⟩
  case round =>
    obtain ⟨i, X, hi, rfl, HX, HI, HB, hf⟩ := hrel
    have HF := Lib.hid hf
    clear hf
    have q2 : wr.cell? ⟨w.heap.size, 2, none⟩ = some (.slice a t.kids.len cap) := HB.out.cell 2
    by_cases hlt : i < t.kids.len
    · have h0 : (0 : Int) ≤ (i : Int) := by omega
      have h1 : (i : Int) < (t.kids.len : Int) := by omega
      obtain ⟨tk, htk⟩ := nthF_some hlt
      have HTK := Lib.hid htk
      have hK2 := HK.out.move HF.out
      rcases hK2 with hnil | ⟨g, o, rfl, hta⟩
      · rw [hnil] at hlt; cases hlt
      · obtain ⟨q3, q4, q5, q6, ak, ck, q7, htkk⟩ := hta.nth htk
        have HKK := Lib.hid htkk
        clear hta htkk htk
        have HC := Lib.hid (HIH.out tk wr #[.string tk.op, .string tk.set, .slice ak tk.kids.len ck, .int .i64 tk.lo, .int .i64 tk.hi] s)
        go_wp2_with ((go_at_call 32; go_must (refine (HC.out _ X (Nat.le_trans (nthF_nd HTK.out) HN.out) (okF_nth HOK.out HTK.out) (HSZ.out.nth HTK.out) ⟨ak, ck, rfl, HKK.out⟩ HX.out (by have := HI.out.len; simpa using this) hz).mono ?_; rintro en w2 ⟨v2, Y, rfl, hv2, hi2, hf2⟩)))
        exact ⟨⟨i + 1, Y, by omega, by go_num, Lib.hid hv2, Lib.hid (img_catS HI.out (relF_nth HTK.out) hi2), Lib.hid (HB.out.frm hf2 id), HF.out.trans hf2⟩, by simp [intOf]; omega⟩
    · obtain rfl : i = t.kids.len := by omega
      go_wp2
      go_ret
      have h := HI.out
      rw [List.take_of_length_le (by rw [relF_len]; exact Nat.le_refl _)] at h
      exact ⟨_, X, rfl, HX.out, h, HF.out⟩
end Go.Proofs.YtbfekknhmjndaaaGreat.part

namespace Go.Proofs.YtbfekknhmjndaaaGreat.part
set_option linter.unusedVariables false set_option linter.unusedSimpArgs false
open Go.ChangeShapes Go.WideShapes Go.ChangeAt Go.RowKit Go.Proofs.YtbfekknhmjndaaaGreat.base Go.Proofs.YtbfekknhmjndaaaGreat.spec Go.Proofs.YtbfekknhmjndaaaGreat.nfa Go.Proofs.YtbfekknhmjndaaaGreat.set Go.Proofs.YtbfekknhmjndaaaGreat.parts Go.Proofs.YtbfekknhmjndaaaGreat.items

def altR (L : List Rel) : Rel := fun s i j => ∃ R ∈ L, R s i j
theorem img_none {s : List UInt8} {l : List Bool} {n : Nat} (h : n = s.length + 1) : Img (altR []) s l (List.replicate n false) :=
  ⟨by simpa using h, fun j => Iff.intro (fun h => by
    have := List.eq_of_mem_replicate (List.mem_of_getElem? h)
    cases this) (fun ⟨i, _, R, hR, _⟩ => absurd hR List.not_mem_nil)⟩
theorem img_altS {L : List Rel} {R : Rel} {i : Nat} {s : List UInt8} {l X Y : List Bool} (h : Img (altR (L.take i)) s l X) (hR : L[i]? = some R) (k : Img R s l Y) : Img (altR (L.take (i + 1))) s l (List.zipWith (· || ·) X Y) := by
  rw [List.take_add_one, hR]
  refine img_congr (img_or h k) (fun a b => ?_)
  constructor
  · rintro (⟨Q, h1, h2⟩ | h2)
    · exact ⟨Q, List.mem_append_left _ h1, h2⟩
    · exact ⟨R, List.mem_append_right _ (by simp), h2⟩
  · rintro ⟨Q, h1, h2⟩
    rcases List.mem_append.1 h1 with h3 | h3
    · exact Or.inl ⟨Q, h3, h2⟩
    · have e : Q = R := by simpa using h3
      exact Or.inr (e ▸ h2)
set_option maxRecDepth 20000 in
set_option maxHeartbeats 4000000 in
theorem ends_alt (N : Nat) (IH : EIH N) (w : World) (t : T) (a : Option Addr) (cap : Nat) (s : ByteArray) (v : Value) (l : List Bool) (hop : t.op = altW) (hk : TK w t.kids a) (hn : fsz t.kids ≤ N) (hok : okF t.kids) (hsz : SzF t.kids) (hlen : t.kids.len ≤ 1000000) (hv : RB w v l) (hl : l.length = s.size + 1) (hz : s.size ≤ 100000) :
    Calls Tryz.prog 32 #[.agg #[.string t.op, .string t.set, .slice a t.kids.len cap, .int .i64 t.lo, .int .i64 t.hi], .string s, v] w (EndsPost w s l (relT t)) := by
  have hr : relT t = altR (relF t.kids) := by unfold relT nodeR; rw [hop]; rfl
  rw [hr]
  have h_set : (t.op.toList == [115, 101, 116]) = false := by rw [hop]; decide +kernel
  have h_bol : (t.op.toList == [98, 111, 108]) = false := by rw [hop]; decide +kernel
  have h_eol : (t.op.toList == [101, 111, 108]) = false := by rw [hop]; decide +kernel
  have h_cat : (t.op.toList == [99, 97, 116]) = false := by rw [hop]; decide +kernel
  have h_alt : (t.op.toList == [97, 108, 116]) = true := by rw [hop]; decide +kernel
  have HIH := Lib.hid IH
  have HV := Lib.hid hv
  have HL := Lib.hid hl
  have HK := Lib.hid hk
  have HN := Lib.hid hn
  have HOK := Lib.hid hok
  have HSZ := Lib.hid hsz
  have hmk := run_make_row' (P := Tryz.prog) 65 4 (.bool false) 1 Tryz.underlying65 info_bool rfl .i64 .i64 (s.size + 1) (by omega) (by omega)
  have e1 : ((s.size + 1 : Nat) : Int) = (s.size : Int) + 1 := by omega
  simp only [e1] at hmk
  clear e1
  have HBX := Lib.hid ((Box.new w 47 #[.string t.op, .string t.set, .slice a t.kids.len cap, .int .i64 t.lo, .int .i64 t.hi]).alloc (.cells (madeCells #[.bool false] (s.size + 1)) 4))
  have HO := Lib.hid (own_bools (w.alloc (.cells #[.string t.op, .string t.set, .slice a t.kids.len cap, .int .i64 t.lo, .int .i64 t.hi] 47)) (s.size + 1) (by omega))
  have hws : (w.alloc (.cells #[.string t.op, .string t.set, .slice a t.kids.len cap, .int .i64 t.lo, .int .i64 t.hi] 47)).heap.size = w.heap.size + 1 := World.size_alloc _ _
  clear hr hop hl hv IH hk hn hok hsz
  go_enter Tryz.func32, Tryz.ntmps32
  go_wp2
  go_loopw [7, 10] (fun ov cv wr => ∃ (i : Nat) (X : List Bool), i ≤ t.kids.len ∧ cv = .int .i64 (i : Int) ∧ Hid (RB wr ov X) ∧ Hid (Img (altR ((relF t.kids).take i)) s.data.toList l X) ∧ Hid (Box wr w.heap.size 47 #[.string t.op, .string t.set, .slice a t.kids.len cap, .int .i64 t.lo, .int .i64 t.hi]) ∧ Frm No w wr) (fun _ cv _ => t.kids.len - (intOf cv).toNat)
  case atStart =>
    refine ⟨0, List.replicate (s.size + 1) false, by omega, rfl, Lib.hid ?_, Lib.hid (img_none (by simp)), HBX, ((Frm.refl _ w).alloc _).alloc _⟩
    have h := HO.out
    rw [hws] at h
    have hX : (List.replicate (s.size + 1) false).length = s.size + 1 := by simp
    have h2 := rb_own (by rw [hX]; exact h)
    rw [hX] at h2
    exact h2
  case round =>
    obtain ⟨i, X, hi, rfl, HX, HI, HB, hf⟩ := hrel
    have HF := Lib.hid hf
    clear hf
    have q2 : wr.cell? ⟨w.heap.size, 2, none⟩ = some (.slice a t.kids.len cap) := HB.out.cell 2
    by_cases hlt : i < t.kids.len
    · have h0 : (0 : Int) ≤ (i : Int) := by omega
      have h1 : (i : Int) < (t.kids.len : Int) := by omega
      obtain ⟨tk, htk⟩ := nthF_some hlt
      have HTK := Lib.hid htk
      have hK2 := HK.out.move HF.out
      rcases hK2 with hnil | ⟨g, o, rfl, hta⟩
      · rw [hnil] at hlt; cases hlt
      · obtain ⟨q3, q4, q5, q6, ak, ck, q7, htkk⟩ := hta.nth htk
        have HKK := Lib.hid htkk
        clear hta htkk htk
        have HC := Lib.hid (HIH.out tk wr #[.string tk.op, .string tk.set, .slice ak tk.kids.len ck, .int .i64 tk.lo, .int .i64 tk.hi] s)
        go_wp2_with (first | (go_at_call 42; go_must (refine (both_all w2 _ _ X Y (HX.out.move hf2) hv2 (by rw [HI.out.len, hi2.len]) (by have := HI.out.len; simp at this; omega)).mono ?_; rintro en w3 ⟨v3, rfl, hv3, hf3⟩)) | (go_at_call 32; go_must (refine (HC.out _ l (Nat.le_trans (nthF_nd HTK.out) HN.out) (okF_nth HOK.out HTK.out) (HSZ.out.nth HTK.out) ⟨ak, ck, rfl, HKK.out⟩ (HV.out.move HF.out) HL.out hz).mono ?_; rintro en w2 ⟨v2, Y, rfl, hv2, hi2, hf2⟩)))
        exact ⟨⟨i + 1, _, by omega, by go_num, Lib.hid hv3, Lib.hid (img_altS HI.out (relF_nth HTK.out) hi2), Lib.hid ((HB.out.frm hf2 id).frm hf3 id), (HF.out.trans hf2).trans hf3⟩, by simp [intOf]; omega⟩
    · obtain rfl : i = t.kids.len := by omega
      go_wp2
      go_ret
      have h := HI.out
      rw [List.take_of_length_le (by rw [relF_len]; exact Nat.le_refl _)] at h
      exact ⟨_, X, rfl, HX.out, h, HF.out⟩
end Go.Proofs.YtbfekknhmjndaaaGreat.part

namespace Go.Proofs.YtbfekknhmjndaaaGreat.part
set_option linter.unusedVariables false set_option linter.unusedSimpArgs false
open Go.ChangeShapes Go.WideShapes Go.ChangeAt Go.RowKit Go.Proofs.YtbfekknhmjndaaaGreat.base Go.Proofs.YtbfekknhmjndaaaGreat.spec Go.Proofs.YtbfekknhmjndaaaGreat.nfa Go.Proofs.YtbfekknhmjndaaaGreat.set Go.Proofs.YtbfekknhmjndaaaGreat.parts Go.Proofs.YtbfekknhmjndaaaGreat.items

/-- Between lo and k times. -/
def spanR (R : Rel) (lo k : Nat) : Rel := fun s i j => ∃ n, lo ≤ n ∧ n ≤ k ∧ powR R n s i j
theorem img_powS {R : Rel} {s : List UInt8} {l X Y : List Bool} {k : Nat} (h : Img (powR R k) s l X) (hk : Img R s X Y) : Img (powR R (k + 1)) s l Y :=
  img_congr (img_comp h hk) (fun a b => (pow_snoc R k s a b).symm)
theorem img_spanS {R : Rel} {s : List UInt8} {l O Y : List Bool} {lo k : Nat} (ho : Img (spanR R lo k) s l O) (hy : Img (powR R (k + 1)) s l Y) (hlo : lo ≤ k + 1) : Img (spanR R lo (k + 1)) s l (List.zipWith (· || ·) O Y) :=
  img_congr (img_or ho hy) (fun a b => ⟨fun h => h.elim (fun ⟨n, h1, h2, h3⟩ => ⟨n, h1, by omega, h3⟩) (fun h => ⟨k + 1, hlo, Nat.le_refl _, h⟩), fun ⟨n, h1, h2, h3⟩ => by
    by_cases e : n ≤ k
    · exact Or.inl ⟨n, h1, e, h3⟩
    · obtain rfl : n = k + 1 := by omega
      exact Or.inr h3⟩)
theorem img_span0 {R : Rel} {s : List UInt8} {l X : List Bool} {lo : Nat} (h : Img (powR R lo) s l X) : Img (spanR R lo lo) s l X :=
  img_congr h (fun a b => ⟨fun h => ⟨lo, Nat.le_refl _, Nat.le_refl _, h⟩, fun ⟨n, h1, h2, h3⟩ => by
    obtain rfl : n = lo := by omega
    exact h3⟩)
theorem pow_add (R : Rel) (a b : Nat) : ∀ s i j, powR R (a + b) s i j ↔ compR (powR R a) (powR R b) s i j := by
  induction a with
  | zero => intro s i j; rw [Nat.zero_add]; exact (id_comp _ s i j).symm
  | succ a ih =>
    intro s i j
    rw [show a + 1 + b = (a + b) + 1 by omega]
    exact (comp_congr (fun _ _ _ => Iff.rfl) ih s i j).trans (comp_assoc R (powR R a) (powR R b) s i j).symm
theorem opt_pow (R : Rel) (n : Nat) : ∀ s i j, optR R n s i j ↔ ∃ m, m ≤ n ∧ powR R m s i j := by
  induction n with
  | zero => exact fun s i j => ⟨fun h => ⟨0, Nat.le_refl _, h⟩, fun ⟨m, h1, h2⟩ => by
      obtain rfl : m = 0 := by omega
      exact h2⟩
  | succ n ih =>
    intro s i j
    constructor
    · rintro (⟨m, h1, h2⟩ | h)
      · obtain ⟨k, h3, h4⟩ := (ih s m j).1 h2
        exact ⟨k + 1, by omega, m, h1, h4⟩
      · exact ⟨0, by omega, h⟩
    · rintro ⟨m, h1, h2⟩
      cases m with
      | zero => exact Or.inr h2
      | succ m =>
        obtain ⟨m2, h3, h4⟩ := h2
        exact Or.inl ⟨m2, h3, (ih s m2 j).2 ⟨m, by omega, h4⟩⟩
theorem span_opt (R : Rel) {lo hi : Nat} (h : lo ≤ hi) : ∀ s i j, spanR R lo hi s i j ↔ compR (powR R lo) (optR R (hi - lo)) s i j := by
  intro s i j
  constructor
  · rintro ⟨n, h1, h2, h3⟩
    rw [show n = lo + (n - lo) by omega] at h3
    obtain ⟨m, h4, h5⟩ := (pow_add R lo (n - lo) s i j).1 h3
    exact ⟨m, h4, (opt_pow R _ s m j).2 ⟨n - lo, by omega, h5⟩⟩
  · rintro ⟨m, h4, h5⟩
    obtain ⟨n, h6, h7⟩ := (opt_pow R _ s m j).1 h5
    exact ⟨lo + n, by omega, by omega, (pow_add R lo n s i j).2 ⟨m, h4, h7⟩⟩
/-- The places found when some number of times were gone. -/
structure StarAt (R : Rel) (s : List UInt8) (l X : List Bool) : Prop where
  len : X.length = s.length + 1
  sub : ∀ j : Nat, l[j]? = some true → X[j]? = some true
  sup : ∀ j : Nat, X[j]? = some true → ∃ i, l[i]? = some true ∧ starR R s i j
theorem star_at0 {R : Rel} {s : List UInt8} {l : List Bool} (h : l.length = s.length + 1) : StarAt R s l l := ⟨h, fun _ h => h, fun j h => ⟨j, h, 0, rfl⟩⟩
theorem star_atS {R : Rel} {s : List UInt8} {l X Y : List Bool} (h : StarAt R s l X) (k : Img R s X Y) : StarAt R s l (List.zipWith (· || ·) X Y) := by
  have he : Y.length = X.length := by rw [k.len, h.len]
  refine ⟨by rw [List.length_zipWith, he, Nat.min_self, h.len], fun j hj => (or_mem he j).2 (Or.inl (h.sub j hj)), fun j hj => ?_⟩
  rcases (or_mem he j).1 hj with h1 | h1
  · exact h.sup j h1
  · obtain ⟨i, h2, h3⟩ := (k.mem j).1 h1
    obtain ⟨i', h4, n, h5⟩ := h.sup i h2
    exact ⟨i', h4, n + 1, (pow_snoc R n s i' j).2 ⟨i, h5, h3⟩⟩
theorem star_atE {R : Rel} {s : List UInt8} {l X Y : List Bool} (h : StarAt R s l X) (k : Img R s X Y) (e : List.zipWith (· || ·) X Y = X) : Img (starR R) s l X := by
  have he : Y.length = X.length := by rw [k.len, h.len]
  refine img_star h.len h.sub h.sup k (fun j hj => ?_)
  rw [← e]
  exact (or_mem he j).2 (Or.inr hj)
theorem count_or : ∀ (X Y : List Bool), Y.length = X.length → X.count true ≤ (List.zipWith (· || ·) X Y).count true ∧ (List.zipWith (· || ·) X Y ≠ X → X.count true + 1 ≤ (List.zipWith (· || ·) X Y).count true) := by
  intro X
  induction X with
  | nil => intro Y _; exact ⟨Nat.zero_le _, fun h => absurd rfl h⟩
  | cons a X ih =>
    intro Y hY
    cases Y with
    | nil => cases hY
    | cons b Y =>
      obtain ⟨h1, h2⟩ := ih Y (by simpa using hY)
      rw [List.zipWith_cons_cons]
      cases a with
      | true =>
        simp only [Bool.true_or, List.count_cons_self]
        exact ⟨by omega, fun h => by have := h2 (fun e => h (by rw [e])); omega⟩
      | false =>
        cases b with
        | true =>
          simp only [Bool.false_or, List.count_cons_self, List.count_cons_of_ne (show (false : Bool) ≠ true by decide)]
          exact ⟨by omega, fun _ => by omega⟩
        | false =>
          simp only [Bool.false_or, List.count_cons_of_ne (show (false : Bool) ≠ true by decide)]
          exact ⟨by omega, fun h => by have := h2 (fun e => h (by rw [e])); omega⟩
theorem rep_rel (op set : ByteArray) (lo hi : Int) (k : Forest) (tk : T) (hop : op = repW) (h1 : k.len = 1) (ht : nthF k 0 = some tk) : relT ⟨op, set, lo, hi, k⟩ = compR (powR (relT tk) lo.toNat) (if hi = -1 then starR (relT tk) else optR (relT tk) (hi - lo).toNat) := by
  have he : relF k = [relT tk] := by
    cases k with
    | nil => cases h1
    | cons op' set' lo' hi' kk r =>
      cases r with
      | nil => cases ht; rfl
      | cons _ _ _ _ _ _ => simp only [Forest.len] at h1; omega
  unfold relT nodeR
  simp only []
  rw [he, hop]
  rfl
end Go.Proofs.YtbfekknhmjndaaaGreat.part

namespace Go.Proofs.YtbfekknhmjndaaaGreat.part
set_option linter.unusedVariables false set_option linter.unusedSimpArgs false
open Go.ChangeShapes Go.WideShapes Go.ChangeAt Go.RowKit Go.Proofs.YtbfekknhmjndaaaGreat.base Go.Proofs.YtbfekknhmjndaaaGreat.spec Go.Proofs.YtbfekknhmjndaaaGreat.nfa Go.Proofs.YtbfekknhmjndaaaGreat.set Go.Proofs.YtbfekknhmjndaaaGreat.parts Go.Proofs.YtbfekknhmjndaaaGreat.items

set_option maxRecDepth 20000 in
set_option maxHeartbeats 8000000 in
theorem ends_span (N : Nat) (IH : EIH N) (w : World) (op set : ByteArray) (k : Forest) (m h : Nat) (a : Option Addr) (cap : Nat) (s : ByteArray) (v : Value) (l : List Bool) (hop : op = repW) (hk : TK w k a) (hk1 : k.len = 1) (hn : fsz k ≤ N) (hok : okF k) (hsz : SzF k) (hm : m ≤ 255) (hmh : m ≤ h) (hh : h ≤ 255) (hv : RB w v l) (hl : l.length = s.size + 1) (hz : s.size ≤ 100000) :
    Calls Tryz.prog 32 #[.agg #[.string op, .string set, .slice a 1 cap, .int .i64 (m : Int), .int .i64 (h : Int)], .string s, v] w (EndsPost w s l (relT ⟨op, set, (m : Int), (h : Int), k⟩)) := by
  obtain ⟨tk, htk⟩ := nthF_some (f := k) (j := 0) (by omega)
  have hRR := rep_rel op set (m : Int) (h : Int) k tk hop hk1 htk
  rw [if_neg (by omega), Int.toNat_natCast, show ((h : Int) - (m : Int)).toNat = h - m by omega] at hRR
  rw [hRR]
  have HREL := Lib.hid (fun i j => span_opt (relT tk) hmh s.data.toList i j)
  have h_set : (op.toList == [115, 101, 116]) = false := by rw [hop]; decide +kernel
  have h_bol : (op.toList == [98, 111, 108]) = false := by rw [hop]; decide +kernel
  have h_eol : (op.toList == [101, 111, 108]) = false := by rw [hop]; decide +kernel
  have h_cat : (op.toList == [99, 97, 116]) = false := by rw [hop]; decide +kernel
  have h_alt : (op.toList == [97, 108, 116]) = false := by rw [hop]; decide +kernel
  have h_rep : (op.toList == [114, 101, 112]) = true := by rw [hop]; decide +kernel
  have HIH := Lib.hid IH
  have HV := Lib.hid hv
  have HL := Lib.hid hl
  have HN := Lib.hid (Nat.le_trans (nthF_nd htk) hn)
  have HOK := Lib.hid (okF_nth hok htk)
  have HSZ := Lib.hid (hsz.nth htk)
  obtain ⟨g, o, rfl, hta⟩ : ∃ g o, a = some ⟨g, o, none⟩ ∧ TA w k g o := by
    rcases hk with hnil | ⟨g, o, h1, h2⟩
    · rw [hnil] at hk1; cases hk1
    · exact ⟨g, o, h1, h2⟩
  have HTA := Lib.hid hta
  have HTK := Lib.hid htk
  have HKF := Lib.hid (show ∀ w', Frm No w w' → ∃ ak ck, w'.cell? ⟨g, o, none⟩ = some (.string tk.op) ∧ w'.cell? ⟨g, o + 1, none⟩ = some (.string tk.set) ∧ w'.cell? ⟨g, o + 2, none⟩ = some (.slice ak tk.kids.len ck) ∧ w'.cell? ⟨g, o + 3, none⟩ = some (.int .i64 tk.lo) ∧ w'.cell? ⟨g, o + 4, none⟩ = some (.int .i64 tk.hi) ∧ TK w' tk.kids ak from fun w' hf => by
    obtain ⟨q3, q4, q5, q6, ak, ck, q7, h7⟩ := (TA.move hf (fun _ => id) hta).nth htk
    simp only [Nat.zero_mul, Nat.add_zero] at q3 q4 q5 q6 q7
    exact ⟨ak, ck, q3, q4, q7, q5, q6, h7⟩)
  have hmk := run_make_row' (P := Tryz.prog) 65 4 (.bool false) 1 Tryz.underlying65 info_bool rfl .i64 .i64 (s.size + 1) (by omega) (by omega)
  have e1 : ((s.size + 1 : Nat) : Int) = (s.size : Int) + 1 := by omega
  simp only [e1] at hmk
  clear e1
  have HBX := Lib.hid ((Box.new w 47 #[.string op, .string set, .slice (some ⟨g, o, none⟩) 1 cap, .int .i64 (m : Int), .int .i64 (h : Int)]).alloc (.cells (madeCells #[.bool false] (s.size + 1)) 4))
  clear hRR hop hl hv IH hk hk1 hn hok hsz hta htk HTA HTK
  go_enter Tryz.func32, Tryz.ntmps32
  go_wp2
  go_loopw [11, 12] (fun ov cv wr => ∃ (i : Nat) (X : List Bool), i ≤ m ∧ cv = .int .i64 (i : Int) ∧ Hid (RB wr ov X) ∧ Hid (Img (powR (relT tk) i) s.data.toList l X) ∧ Hid (Box wr w.heap.size 47 #[.string op, .string set, .slice (some ⟨g, o, none⟩) 1 cap, .int .i64 (m : Int), .int .i64 (h : Int)]) ∧ Frm No w wr) (fun _ cv _ => m - (intOf cv).toNat)
  case atStart =>
    exact ⟨0, l, by omega, rfl, Lib.hid (HV.out.move (((Frm.refl No w).alloc _).alloc _)), Lib.hid (img_id (by simpa using HL.out)), HBX, ((Frm.refl _ w).alloc _).alloc _⟩
  case round =>
    obtain ⟨i, X, hi, rfl, HX, HI, HB, hf⟩ := hrel
    have HF := Lib.hid hf
    clear hf
    have c2 : wr.cell? ⟨w.heap.size, 2, none⟩ = some (.slice (some ⟨g, o, none⟩) 1 cap) := HB.out.cell 2
    have c3 : wr.cell? ⟨w.heap.size, 3, none⟩ = some (.int .i64 (m : Int)) := HB.out.cell 3
    by_cases hlt : i < m
    · have h0 : (0 : Int) ≤ (i : Int) := by omega
      have h1 : (i : Int) < (m : Int) := by omega
      obtain ⟨ak, ck, q3, q4, q7, q5, q6, hkk⟩ := HKF.out wr HF.out
      have HKK := Lib.hid hkk
      clear hkk
      go_wp2_with ((go_at_call 32; go_must (refine (HIH.out tk wr #[.string tk.op, .string tk.set, .slice ak tk.kids.len ck, .int .i64 tk.lo, .int .i64 tk.hi] s _ X HN.out HOK.out HSZ.out ⟨ak, ck, rfl, HKK.out⟩ HX.out (by have := HI.out.len; simpa using this) hz).mono ?_; rintro en w2 ⟨v2, Y, rfl, hv2, hi2, hf2⟩)))
      exact ⟨⟨i + 1, Y, by omega, by go_num, Lib.hid hv2, Lib.hid (img_powS HI.out hi2), Lib.hid (HB.out.frm hf2 id), HF.out.trans hf2⟩, by simp [intOf]; omega⟩
    · obtain rfl : m = i := by omega
      have c4 : wr.cell? ⟨w.heap.size, 4, none⟩ = some (.int .i64 (h : Int)) := HB.out.cell 4
      go_wp2
      go_loopw [7, 11, 13] (fun ov av cv wr => ∃ (j : Nat) (O Z : List Bool), m ≤ j ∧ j ≤ h ∧ cv = .int .i64 (j : Int) ∧ Hid (RB wr ov O) ∧ Hid (RB wr av Z) ∧ Hid (Img (spanR (relT tk) m j) s.data.toList l O) ∧ Hid (Img (powR (relT tk) j) s.data.toList l Z) ∧ Hid (Box wr w.heap.size 47 #[.string op, .string set, .slice (some ⟨g, o, none⟩) 1 cap, .int .i64 (m : Int), .int .i64 (h : Int)]) ∧ Frm No w wr) (fun _ _ cv _ => h - (intOf cv).toNat)
      case atStart => exact ⟨m, X, X, Nat.le_refl _, hmh, rfl, HX, HX, Lib.hid (img_span0 HI.out), HI, HB, HF.out⟩
      case round =>
        obtain ⟨j, O, Z, hj1, hj2, rfl, HO, HZ, HIO, HIZ, HB2, hf3⟩ := hrel
        have HF2 := Lib.hid hf3
        clear hf3
        have d2 : wr.cell? ⟨w.heap.size, 2, none⟩ = some (.slice (some ⟨g, o, none⟩) 1 cap) := HB2.out.cell 2
        have d4 : wr.cell? ⟨w.heap.size, 4, none⟩ = some (.int .i64 (h : Int)) := HB2.out.cell 4
        obtain ⟨ak, ck, q3, q4, q7, q5, q6, hkk⟩ := HKF.out wr HF2.out
        have HKK := Lib.hid hkk
        clear hkk
        by_cases hlt2 : j < h
        · have h0 : (0 : Int) ≤ (j : Int) := by omega
          have h1 : (j : Int) < (h : Int) := by omega
          have h2 : ((j : Int) == (h : Int)) = false := by rw [beq_eq_false_iff_ne]; omega
          have h3 : (0 : Int) ≤ (h : Int) := by omega
          go_wp2_with (first | (go_at_call 42; go_must (refine (both_all w2 _ _ O Y (HO.out.move hf2) hv2 (by rw [HIO.out.len, hi2.len]) (by have := HIO.out.len; simp at this; omega)).mono ?_; rintro en w3 ⟨v3, rfl, hv3, hf4⟩; have e4 : w3.cell? ⟨w.heap.size, 4, none⟩ = some (.int .i64 (h : Int)) := ((HB2.out.frm hf2 id).frm hf4 id).cell 4)) | (go_at_call 32; go_must (refine (HIH.out tk wr #[.string tk.op, .string tk.set, .slice ak tk.kids.len ck, .int .i64 tk.lo, .int .i64 tk.hi] s _ Z HN.out HOK.out HSZ.out ⟨ak, ck, rfl, HKK.out⟩ HZ.out (by have := HIZ.out.len; simpa using this) hz).mono ?_; rintro en w2 ⟨v2, Y, rfl, hv2, hi2, hf2⟩)))
          exact ⟨⟨j + 1, _, Y, by omega, by omega, by go_num, Lib.hid hv3, Lib.hid (hv2.move hf4), Lib.hid (img_spanS HIO.out (img_powS HIZ.out hi2) (by omega)), Lib.hid (img_powS HIZ.out hi2), Lib.hid ((HB2.out.frm hf2 id).frm hf4 id), (HF2.out.trans hf2).trans hf4⟩, by simp [intOf]; omega⟩
        · obtain rfl : j = h := by omega
          go_wp2
          go_ret
          exact ⟨_, O, rfl, HO.out, img_congr HIO.out HREL.out, HF2.out⟩
end Go.Proofs.YtbfekknhmjndaaaGreat.part

namespace Go.Proofs.YtbfekknhmjndaaaGreat.part
set_option linter.unusedVariables false set_option linter.unusedSimpArgs false
open Go.ChangeShapes Go.WideShapes Go.ChangeAt Go.RowKit Go.Proofs.YtbfekknhmjndaaaGreat.base Go.Proofs.YtbfekknhmjndaaaGreat.spec Go.Proofs.YtbfekknhmjndaaaGreat.nfa Go.Proofs.YtbfekknhmjndaaaGreat.set Go.Proofs.YtbfekknhmjndaaaGreat.parts Go.Proofs.YtbfekknhmjndaaaGreat.items


set_option maxRecDepth 20000 in
set_option maxHeartbeats 8000000 in
theorem ends_star (N : Nat) (IH : EIH N) (w : World) (op set : ByteArray) (k : Forest) (m : Nat) (a : Option Addr) (cap : Nat) (s : ByteArray) (v : Value) (l : List Bool) (hop : op = repW) (hk : TK w k a) (hk1 : k.len = 1) (hn : fsz k ≤ N) (hok : okF k) (hsz : SzF k) (hm : m ≤ 255) (hv : RB w v l) (hl : l.length = s.size + 1) (hz : s.size ≤ 100000) :
    Calls Tryz.prog 32 #[.agg #[.string op, .string set, .slice a 1 cap, .int .i64 (m : Int), .int .i64 (-1)], .string s, v] w (EndsPost w s l (relT ⟨op, set, (m : Int), (-1), k⟩)) := by
  obtain ⟨tk, htk⟩ := nthF_some (f := k) (j := 0) (by omega)
  have hRR := rep_rel op set (m : Int) (-1) k tk hop hk1 htk
  rw [if_pos rfl, Int.toNat_natCast] at hRR
  rw [hRR]
  have h_set : (op.toList == [115, 101, 116]) = false := by rw [hop]; decide +kernel
  have h_bol : (op.toList == [98, 111, 108]) = false := by rw [hop]; decide +kernel
  have h_eol : (op.toList == [101, 111, 108]) = false := by rw [hop]; decide +kernel
  have h_cat : (op.toList == [99, 97, 116]) = false := by rw [hop]; decide +kernel
  have h_alt : (op.toList == [97, 108, 116]) = false := by rw [hop]; decide +kernel
  have h_rep : (op.toList == [114, 101, 112]) = true := by rw [hop]; decide +kernel
  have HIH := Lib.hid IH
  have HV := Lib.hid hv
  have HL := Lib.hid hl
  have HN := Lib.hid (Nat.le_trans (nthF_nd htk) hn)
  have HOK := Lib.hid (okF_nth hok htk)
  have HSZ := Lib.hid (hsz.nth htk)
  obtain ⟨g, o, rfl, hta⟩ : ∃ g o, a = some ⟨g, o, none⟩ ∧ TA w k g o := by
    rcases hk with hnil | ⟨g, o, h1, h2⟩
    · rw [hnil] at hk1; cases hk1
    · exact ⟨g, o, h1, h2⟩
  have HTA := Lib.hid hta
  have HTK := Lib.hid htk
  have HKF := Lib.hid (show ∀ w', Frm No w w' → ∃ ak ck, w'.cell? ⟨g, o, none⟩ = some (.string tk.op) ∧ w'.cell? ⟨g, o + 1, none⟩ = some (.string tk.set) ∧ w'.cell? ⟨g, o + 2, none⟩ = some (.slice ak tk.kids.len ck) ∧ w'.cell? ⟨g, o + 3, none⟩ = some (.int .i64 tk.lo) ∧ w'.cell? ⟨g, o + 4, none⟩ = some (.int .i64 tk.hi) ∧ TK w' tk.kids ak from fun w' hf => by
    obtain ⟨q3, q4, q5, q6, ak, ck, q7, h7⟩ := (TA.move hf (fun _ => id) hta).nth htk
    simp only [Nat.zero_mul, Nat.add_zero] at q3 q4 q5 q6 q7
    exact ⟨ak, ck, q3, q4, q7, q5, q6, h7⟩)
  have hmk := run_make_row' (P := Tryz.prog) 65 4 (.bool false) 1 Tryz.underlying65 info_bool rfl .i64 .i64 (s.size + 1) (by omega) (by omega)
  have e1 : ((s.size + 1 : Nat) : Int) = (s.size : Int) + 1 := by omega
  simp only [e1] at hmk
  clear e1
  have HBX := Lib.hid ((Box.new w 47 #[.string op, .string set, .slice (some ⟨g, o, none⟩) 1 cap, .int .i64 (m : Int), .int .i64 (-1)]).alloc (.cells (madeCells #[.bool false] (s.size + 1)) 4))
  clear hRR hop hl hv IH hk hk1 hn hok hsz hta htk HTA HTK
  go_enter Tryz.func32, Tryz.ntmps32
  go_wp2
  go_loopw [11, 12] (fun ov cv wr => ∃ (i : Nat) (X : List Bool), i ≤ m ∧ cv = .int .i64 (i : Int) ∧ Hid (RB wr ov X) ∧ Hid (Img (powR (relT tk) i) s.data.toList l X) ∧ Hid (Box wr w.heap.size 47 #[.string op, .string set, .slice (some ⟨g, o, none⟩) 1 cap, .int .i64 (m : Int), .int .i64 (-1)]) ∧ Frm No w wr) (fun _ cv _ => m - (intOf cv).toNat)
  case atStart =>
    exact ⟨0, l, by omega, rfl, Lib.hid (HV.out.move (((Frm.refl No w).alloc _).alloc _)), Lib.hid (img_id (by simpa using HL.out)), HBX, ((Frm.refl _ w).alloc _).alloc _⟩
  case round =>
    obtain ⟨i, X, hi, rfl, HX, HI, HB, hf⟩ := hrel
    have HF := Lib.hid hf
    clear hf
    have c2 : wr.cell? ⟨w.heap.size, 2, none⟩ = some (.slice (some ⟨g, o, none⟩) 1 cap) := HB.out.cell 2
    have c3 : wr.cell? ⟨w.heap.size, 3, none⟩ = some (.int .i64 (m : Int)) := HB.out.cell 3
    by_cases hlt : i < m
    · have h0 : (0 : Int) ≤ (i : Int) := by omega
      have h1 : (i : Int) < (m : Int) := by omega
      obtain ⟨ak, ck, q3, q4, q7, q5, q6, hkk⟩ := HKF.out wr HF.out
      have HKK := Lib.hid hkk
      clear hkk
      go_wp2_with ((go_at_call 32; go_must (refine (HIH.out tk wr #[.string tk.op, .string tk.set, .slice ak tk.kids.len ck, .int .i64 tk.lo, .int .i64 tk.hi] s _ X HN.out HOK.out HSZ.out ⟨ak, ck, rfl, HKK.out⟩ HX.out (by have := HI.out.len; simpa using this) hz).mono ?_; rintro en w2 ⟨v2, Y, rfl, hv2, hi2, hf2⟩)))
      exact ⟨⟨i + 1, Y, by omega, by go_num, Lib.hid hv2, Lib.hid (img_powS HI.out hi2), Lib.hid (HB.out.frm hf2 id), HF.out.trans hf2⟩, by simp [intOf]; omega⟩
    · obtain rfl : m = i := by omega
      have c4 : wr.cell? ⟨w.heap.size, 4, none⟩ = some (.int .i64 (-1)) := HB.out.cell 4
      go_wp2
      go_loopw [7, 11, 13] (fun ov av cv wr => ∃ (j : Nat) (O : List Bool), m ≤ j ∧ j ≤ m + O.count true ∧ cv = .int .i64 (j : Int) ∧ Hid (RB wr ov O) ∧ Hid (RB wr av O) ∧ Hid (StarAt (relT tk) s.data.toList X O) ∧ Hid (Box wr w.heap.size 47 #[.string op, .string set, .slice (some ⟨g, o, none⟩) 1 cap, .int .i64 (m : Int), .int .i64 (-1)]) ∧ Frm No w wr) (fun _ _ cv _ => m + s.size + 2 - (intOf cv).toNat)
      case atStart => exact ⟨m, X, Nat.le_refl _, by omega, rfl, HX, HX, Lib.hid (star_at0 HI.out.len), HB, HF.out⟩
      case round =>
        obtain ⟨j, O, hj1, hj2, rfl, HO, HZ, HIO, HB2, hf3⟩ := hrel
        have hcnt : O.count true ≤ s.size + 1 := by
          have h1 := List.count_le_length (a := true) (l := O)
          have h2 := HIO.out.len
          simp only [Array.length_toList] at h2
          exact Nat.le_trans h1 (Nat.le_of_eq h2)
        have HCN := Lib.hid hj2
        have HOL := Lib.hid (show O.length = s.size + 1 by have h := HIO.out.len; simp only [Array.length_toList] at h; exact h)
        have HOB := Lib.hid (show O.length ≤ 1000000 by have h := HOL.out; omega)
        have hj3 : j ≤ m + s.size + 1 := by omega
        clear hj2 hcnt
        have HF2 := Lib.hid hf3
        clear hf3
        have d2 : wr.cell? ⟨w.heap.size, 2, none⟩ = some (.slice (some ⟨g, o, none⟩) 1 cap) := HB2.out.cell 2
        have d4 : wr.cell? ⟨w.heap.size, 4, none⟩ = some (.int .i64 (-1)) := HB2.out.cell 4
        obtain ⟨ak, ck, q3, q4, q7, q5, q6, hkk⟩ := HKF.out wr HF2.out
        have HKK := Lib.hid hkk
        clear hkk
        have h0 : (0 : Int) ≤ (j : Int) := by omega
        have h2 : ((j : Int) == (-1 : Int)) = false := by rw [beq_eq_false_iff_ne]; omega
        go_upto_region 36 with (first | (go_at_call 42; go_must (refine (both_all w2 _ _ O Y (HO.out.move hf2) hv2 (hi2.len.trans HIO.out.len.symm) HOB.out).mono ?_; rintro en w3 ⟨v3, rfl, hv3, hf4⟩)) | (go_at_call 32; go_must (refine (HIH.out tk wr #[.string tk.op, .string tk.set, .slice ak tk.kids.len ck, .int .i64 tk.lo, .int .i64 tk.hi] s _ O HN.out HOK.out HSZ.out ⟨ak, ck, rfl, HKK.out⟩ HZ.out HOL.out hz).mono ?_; rintro en w2 ⟨v2, Y, rfl, hv2, hi2, hf2⟩)))
        have HB3 := Lib.hid ((HB2.out.frm hf2 id).frm hf4 id)
        have e4 : w3.cell? ⟨w.heap.size, 4, none⟩ = some (.int .i64 (-1)) := HB3.out.cell 4
        have HF3 := Lib.hid ((HF2.out.trans hf2).trans hf4)
        have HV3 := Lib.hid hv3
        have HO3 := Lib.hid ((HO.out.move hf2).move hf4)
        have HI2 := Lib.hid hi2
        have HYL := Lib.hid (show Y.length = O.length by rw [hi2.len, HIO.out.len])
        have HSAME := Lib.hid (same_all w3 _ _ _ O HV3.out HO3.out (by rw [List.length_zipWith, HYL.out, Nat.min_self]) (by rw [List.length_zipWith]; exact Nat.le_trans (Nat.min_le_left _ _) HOB.out))
        clear hv3 hi2 hf4 hf2 hv2
        cases hd : decide (List.zipWith (· || ·) O Y = O) with
        | true =>
          have HE := Lib.hid (of_decide_eq_true hd)
          rw [hd] at HSAME
          clear hd
          go_wp2_with (go_at_call 43; go_must (refine HSAME.out.mono ?_; rintro en w4 ⟨rfl, hf5⟩))
          go_ret
          exact ⟨_, O, rfl, HO3.out.move hf5, img_comp HI.out (star_atE HIO.out HI2.out HE.out), HF3.out.trans hf5⟩
        | false =>
          have HE := Lib.hid (of_decide_eq_false hd)
          rw [hd] at HSAME
          clear hd
          have e5 : ∀ w', Frm No w3 w' → w'.cell? ⟨w.heap.size, 4, none⟩ = some (.int .i64 (-1)) := fun w' hf => (HB3.out.frm hf id).cell 4
          have HE5 := Lib.hid e5
          clear e5
          go_wp2_with (go_at_call 43; go_must (refine HSAME.out.mono ?_; rintro en w4 ⟨rfl, hf5⟩; have e6 := HE5.out w4 hf5))
          have hc := (count_or O Y HYL.out).2 HE.out
          exact ⟨⟨j + 1, _, by omega, by have := HCN.out; omega, by go_num, Lib.hid (HV3.out.move hf5), Lib.hid (HV3.out.move hf5), Lib.hid (star_atS HIO.out HI2.out), Lib.hid (HB3.out.frm hf5 id), HF3.out.trans hf5⟩, by simp [intOf]; omega⟩
end Go.Proofs.YtbfekknhmjndaaaGreat.part

namespace Go.Proofs.YtbfekknhmjndaaaGreat.part
set_option linter.unusedVariables false set_option linter.unusedSimpArgs false
open Go.ChangeShapes Go.WideShapes Go.ChangeAt Go.RowKit Go.Proofs.YtbfekknhmjndaaaGreat.base Go.Proofs.YtbfekknhmjndaaaGreat.spec Go.Proofs.YtbfekknhmjndaaaGreat.nfa Go.Proofs.YtbfekknhmjndaaaGreat.set Go.Proofs.YtbfekknhmjndaaaGreat.parts Go.Proofs.YtbfekknhmjndaaaGreat.items

theorem ends_all (N : Nat) (hN : N ≤ 1000000) : EIH N := by
  induction N with
  | zero =>
    intro t w C s v l hn
    unfold nd at hn
    omega
  | succ N ih =>
    have IH := ih (by omega)
    rintro t w C s v l hn hok hsz ⟨a, cap, rfl, hk⟩ hv hl hz
    have hf : fsz t.kids ≤ N := by unfold nd at hn; omega
    have hlen : t.kids.len ≤ 1000000 := Nat.le_trans (len_fsz _) (by omega)
    rcases hok.1 with h | h | h | h | ⟨h, _⟩ | ⟨h, h1, h2, h3, h4⟩
    · exact ends_set w t a cap s v l h hsz.1 hv hl hz
    · exact ends_bol w t a cap s v l h hv hl hz
    · exact ends_eol w t a cap s v l h hv hl hz
    · exact ends_cat N IH w t a cap s v l h hk hf hok.2 hsz.2 hlen hv hl hz
    · exact ends_alt N IH w t a cap s v l h hk hf hok.2 hsz.2 hlen hv hl hz
    · obtain ⟨op, set, lo, hi, k⟩ := t
      simp only at h h1 h2 h3 h4 hk hf hlen ⊢
      obtain ⟨m, rfl⟩ := Int.eq_ofNat_of_zero_le h2
      rw [h1]
      rcases h4 with rfl | ⟨h5, h6⟩
      · exact ends_star N IH w op set k m a cap s v l h hk h1 hf hok.2 hsz.2 (by omega) hv hl hz
      · obtain ⟨u, rfl⟩ := Int.eq_ofNat_of_zero_le (show 0 ≤ hi by omega)
        exact ends_span N IH w op set k m u a cap s v l h hk h1 hf hok.2 hsz.2 (by omega) (by omega) (by omega) hv hl hz


/-- A tree that has a size is right. -/
theorem szL_all {l : List (Option Nat)} : ∀ {n k : Nat}, szL l n = some k → ∀ x ∈ l, x ≠ none := by
  induction l with
  | nil => intro n k _ x hx; cases hx
  | cons y r ih =>
    intro n k h x hx
    cases y with
    | none => cases h
    | some m =>
      rw [szL] at h
      split at h
      · cases h
      · rcases List.mem_cons.1 hx with e | e
        · rw [e]; exact fun h => by cases h
        · exact ih h x e
theorem szNode_ok {op : ByteArray} {lo hi : Int} {l : List (Option Nat)} {k : Nat} (h : szNode op lo hi l = some k) : okN op lo hi l.length ∧ ∀ x ∈ l, x ≠ none := by
  unfold szNode at h
  by_cases h1 : op = setW ∨ op = bolW ∨ op = eolW
  · rw [if_pos h1] at h
    by_cases h2 : l.length = 0
    · have e : l = [] := List.length_eq_zero_iff.1 h2
      subst e
      refine ⟨?_, fun x hx => by cases hx⟩
      rcases h1 with h1 | h1 | h1
      · exact Or.inl h1
      · exact Or.inr (Or.inl h1)
      · exact Or.inr (Or.inr (Or.inl h1))
    · rw [if_neg h2] at h; cases h
  · rw [if_neg h1] at h
    by_cases h2 : op = catW
    · rw [if_pos h2] at h
      exact ⟨Or.inr (Or.inr (Or.inr (Or.inl h2))), szL_all h⟩
    · rw [if_neg h2] at h
      by_cases h3 : op = altW
      · rw [if_pos h3] at h
        by_cases h4 : l.length = 0
        · rw [if_pos h4] at h; cases h
        · rw [if_neg h4] at h
          obtain ⟨n, h5, _⟩ := Option.bind_eq_some_iff.1 h
          exact ⟨Or.inr (Or.inr (Or.inr (Or.inr (Or.inl ⟨h3, by omega⟩)))), szL_all h5⟩
      · rw [if_neg h3] at h
        by_cases h4 : op = repW
        · rw [if_pos h4] at h
          by_cases h5 : l.length ≠ 1 ∨ bounds lo hi = false
          · rw [if_pos h5] at h; cases h
          · rw [if_neg h5] at h
            obtain ⟨n, h6, _⟩ := Option.bind_eq_some_iff.1 h
            have h7 : l.length = 1 := Decidable.byContradiction (fun e => h5 (Or.inl e))
            have h8 : bounds lo hi = true := by
              cases hb : bounds lo hi with
              | true => rfl
              | false => exact absurd (Or.inr hb) h5
            unfold bounds at h8
            simp only [Bool.and_eq_true, Bool.or_eq_true, decide_eq_true_eq] at h8
            exact ⟨Or.inr (Or.inr (Or.inr (Or.inr (Or.inr ⟨h4, h7, h8.1.1, h8.1.2, h8.2⟩)))), szL_all h6⟩
        · rw [if_neg h4] at h; cases h
theorem szK_len (f : Forest) : (szK f).length = f.len := by
  induction f with
  | nil => rfl
  | cons op set lo hi k r _ ih => simp only [szK, List.length_cons, ih, Forest.len]
theorem szK_ok (f : Forest) : (∀ x ∈ szK f, x ≠ none) → okF f := by
  induction f with
  | nil => intro _; trivial
  | cons op set lo hi k r ih1 ih2 =>
    intro h
    rw [szK] at h
    have h1 := h _ (List.mem_cons_self)
    cases hs : szNode op lo hi (szK k) with
    | none => exact absurd hs h1
    | some n =>
      have h2 := szNode_ok hs
      rw [szK_len] at h2
      exact ⟨h2.1, ih1 h2.2, ih2 (fun x hx => h x (List.mem_cons_of_mem _ hx))⟩
theorem szT_ok {t : T} {k : Nat} (h : szT t = some k) : okT t := by
  have h2 := szNode_ok h
  rw [szK_len] at h2
  exact ⟨h2.1, szK_ok _ h2.2⟩
end Go.Proofs.YtbfekknhmjndaaaGreat.part
