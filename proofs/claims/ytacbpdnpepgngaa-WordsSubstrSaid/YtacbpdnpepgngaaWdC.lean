/- What stands in memory while words.Sub goes through the matches. -/
import Derived.Test.YtacbpdnpepgngaaWdI
import Derived.Test.YtacbpdnpepgngaaWdS
import Derived.Test.YtacbpdnpepgngaaWdF
namespace Go.Proofs.Ytacbpdnpepgngaa.wrd
set_option linter.unusedVariables false set_option linter.unusedSimpArgs false
open Go.ChangeShapes Go.WideShapes Go.ChangeAt Go.RowKit Go.Shelf Go.Proofs.Ytacbpdnpepgngaa.base Go.Proofs.Ytacbpdnpepgngaa.nfa Go.Proofs.Ytacbpdnpepgngaa.part Go.Proofs.Ytacbpdnpepgngaa.rng

theorem ext_mid (s : ByteArray) (a b : Nat) : (s.extract a b).data.toList = mid s.data.toList a b := by
  rw [extract_list]
  unfold mid
  simp [List.drop_take]

/-- What Sub answers. -/
def SubAns (most : Int) (t : List UInt8) (k : Nat) : Value := if (t.length : Int) ≤ most then .tuple #[.string ⟨t.toArray⟩, .int .i64 (k : Int), .bool true] else .tuple #[.string ⟨#[]⟩, .int .i64 0, .bool false]

/-- fill, whatever matched. -/
theorem fill_all (w : World) (B b g c : Nat) (l : List UInt8) (most : Int) (h : WR B b l most w) (repl : List UInt8) (n : Nat) (hn : n = (parts repl []).length) (em : ByteArray) (hem : em.data.toList = byF [] repl)
    (hg : g < B) (hP : ∀ j x, (parts repl [])[j]? = some x → w.cell? ⟨g, j, none⟩ = some (sV x))
    (hB : B ≤ w.heap.size) (h1 : -9223372036854775808 ≤ most - (l.length : Int)) (h2 : most ≤ 9223372036854775807) (ms : ByteArray) (m : List UInt8) (hms : ms.data.toList = m)
    (hl : l.length + (byF m repl).length ≤ 140737488355328) (hr : repl.length ≤ 1000000) :
    Calls Try.prog 29 #[.pointer (some ⟨b, 0, none⟩), .agg #[.slice (some ⟨g, 0, none⟩) n c, .string em], .string ms] w (FillPost w B b l (byF m repl) most) := by
  have hj : joinP m (parts repl []) = byF m repl := by rw [join_parts]; rfl
  by_cases h0 : ms.size = 0
  · have hm0 : m = [] := by
      rw [← hms]
      exact List.eq_nil_of_length_eq_zero (by simpa using h0)
    subst hm0
    exact fill_nil w B b g c l most h n em _ hem hB h1 h2 hl ms h0
  · have := fill_some w B b g c l most h n em (parts repl []) hn hg hP (by have := parts_len repl []; omega) hB h1 h2 ms m hms h0 (by rw [hj]; exact hl) (Nat.pos_of_ne_zero (fun e => parts_ne repl [] (List.eq_nil_of_length_eq_zero e)))
    rw [hj] at this
    exact this

/-- What doesn't change. -/
structure SX (w : World) (T : Nat) (pa : Option Addr) (s : ByteArray) (all : Bool) (repl : List UInt8) (g c : Nat) (W : World) : Prop where
  base : Frm No w W
  bS : Box W w.heap.size 9 #[.string s]
  bA : Box W (w.heap.size + 1) 4 #[.bool all]
  r0 : Box W (w.heap.size + 1 + 1) 9 #[.string ⟨#[]⟩]
  r1 : Box W (w.heap.size + 1 + 1 + 1) 3 #[.int .i64 0]
  r2 : Box W (w.heap.size + 1 + 1 + 1 + 1) 4 #[.bool false]
  bT : Box W T 58 #[.slice (some ⟨g, 0, none⟩) (parts repl []).length c, .string ⟨(byF [] repl).toArray⟩]
  hg : g < T
  bG : ∃ cur, Box W g 9 cur ∧ ∀ (j : Nat) x, (parts repl [])[j]? = some x → cur[j]? = some (sV x)
  bm : Box W (T + 4) 38 #[.pointer pa]
  bs : Box W (T + 5) 9 #[.string s]
  hT : w.heap.size + 5 ≤ T
theorem SX.move {w : World} {T : Nat} {pa : Option Addr} {s : ByteArray} {all : Bool} {repl : List UInt8} {g c : Nat} {W W' : World} {S : Nat → Prop} (h : SX w T pa s all repl g c W) (hf : Frm S W W')
    (hs : ∀ k t C, Box W k t C → (k ≤ T ∨ k = T + 4 ∨ k = T + 5) → t ≠ 5 → ¬ S k) (hb : ∀ k, k < w.heap.size → ¬ S k) : SX w T pa s all repl g c W' := by
  have hT := h.hT
  obtain ⟨cur, hg1, hg2⟩ := h.bG
  exact ⟨h.base.then hf (fun k hk e => hb k hk e), h.bS.frm hf (hs _ _ _ h.bS (by omega) (by decide)), h.bA.frm hf (hs _ _ _ h.bA (by omega) (by decide)), h.r0.frm hf (hs _ _ _ h.r0 (by omega) (by decide)),
    h.r1.frm hf (hs _ _ _ h.r1 (by omega) (by decide)), h.r2.frm hf (hs _ _ _ h.r2 (by omega) (by decide)), h.bT.frm hf (hs _ _ _ h.bT (by omega) (by decide)), h.hg,
    ⟨cur, hg1.frm hf (hs _ _ _ hg1 (.inl (Nat.le_of_lt h.hg)) (by decide)), hg2⟩, h.bm.frm hf (hs _ _ _ h.bm (by omega) (by decide)), h.bs.frm hf (hs _ _ _ h.bs (by omega) (by decide)), hT⟩
theorem box_type {W : World} {k : Nat} {t t' : TypeId} {C C' : Array Value} {f : Nat × Nat} (h : Box W k t C) (h' : W.heap[k]? = some (.cells C' t' f)) : t = t' := by
  rw [show W.heap[k]? = _ from h] at h'
  injection h' with h'
  injection h'
theorem SX.kb {w : World} {T : Nat} {pa : Option Addr} {s : ByteArray} {all : Bool} {repl : List UInt8} {g c : Nat} {W W' : World} (h : SX w T pa s all repl g c W) (hk : Kb (T + 1) (T + 1) W W') : SX w T pa s all repl g c W' := by
  have hT := h.hT
  have hf : Frm (fun k => SW (T + 1) W k ∧ T + 1 ≤ k) W W' := ⟨hk.bel.os, hk.bel.tape, hk.bel.output, hk.bel.size, fun k hk' hn => by
    by_cases hlt : k < T + 1
    · exact hk.bel.block k hlt
    · exact hk.frm.block k hk' (fun e => hn ⟨e, by omega⟩)⟩
  refine h.move hf (fun k t C hb ho ht e => ?_) (fun k hk' e => by have := e.2; omega)
  rcases e.1 with e | ⟨C', f, e⟩
  · omega
  · exact ht (box_type hb e)
theorem SX.at {w : World} {T : Nat} {pa : Option Addr} {s : ByteArray} {all : Bool} {repl : List UInt8} {g c : Nat} {W W' : World} {k : Nat} (h : SX w T pa s all repl g c W) (hf : Frm (At k) W W') (hk : k = T + 1 + 1 ∨ k = T + 1 + 1 + 1) : SX w T pa s all repl g c W' := by
  have hT := h.hT
  refine h.move hf (fun i t C hb ho ht e => ?_) (fun i hi e => ?_) <;> (have e2 : i = k := e; omega)
theorem WR.move {S : Nat → Prop} {B b : Nat} {l : List UInt8} {most : Int} {w w' : World} (h : WR B b l most w) (k : Frm S w w') (hs : ∀ i t C, Box w i t C → ¬ S i) : WR B b l most w' := by
  obtain ⟨h0, p, v, h1, h2, h3, h4⟩ := h
  refine ⟨h0, p, v, h1, h2.frm k (hs _ _ _ h2), OwnB.frm h3 k (fun q hq => ?_), h4⟩
  rcases h3.2 with ⟨rfl, _⟩ | ⟨g, cap, cur, rfl, _, hh, _⟩
  · cases hq
  · obtain rfl : g = q := by injection hq
    exact hs _ _ _ hh

/-- Between two rounds, and behind the last one. -/
structure SB (w : World) (T : Nat) (pa : Option Addr) (s : ByteArray) (all : Bool) (repl : List UInt8) (g c : Nat) (most : Int) (pre : List (Nat × Nat)) (W : World) : Prop where
  x : SX w T pa s all repl g c W
  wr : WR (T + 1) (T + 1) (txt (fun m => byF m repl) s.data.toList 0 pre) most W
  bC : Box W (T + 1 + 1) 3 #[.int .i64 (pre.length : Int)]
  bD : Box W (T + 1 + 1 + 1) 3 #[.int .i64 (dn 0 pre : Int)]
  fit : pre = [] ∨ ((txt (fun m => byF m repl) s.data.toList 0 pre).length : Int) ≤ most
theorem SB.move {w : World} {T : Nat} {pa : Option Addr} {s : ByteArray} {all : Bool} {repl : List UInt8} {g c : Nat} {most : Int} {pre : List (Nat × Nat)} {W W' : World} {S : Nat → Prop} (h : SB w T pa s all repl g c most pre W) (hf : Frm S W W')
    (hs : ∀ k t C, Box W k t C → ¬ S k) (hb : ∀ k, k < w.heap.size → ¬ S k) : SB w T pa s all repl g c most pre W' :=
  ⟨h.x.move hf (fun k t C hx _ _ => hs k t C hx) hb, h.wr.move hf hs, h.bC.frm hf (hs _ _ _ h.bC), h.bD.frm hf (hs _ _ _ h.bD), h.fit⟩
theorem ncs_box {B : Nat} {W : World} (k : Nat) (t : TypeId) (C : Array Value) (h : Box W k t C) : ¬ NCs B W k := fun ⟨_, o, ho, hc⟩ => by
  rw [show W.heap[k]? = _ from h] at ho
  cases ho
  cases hc
theorem SB.ncs {w : World} {T B : Nat} {pa : Option Addr} {s : ByteArray} {all : Bool} {repl : List UInt8} {g c : Nat} {most : Int} {pre : List (Nat × Nat)} {W W' : World} (h : SB w T pa s all repl g c most pre W) (hf : Frm (NCs B W) W W') (hB : w.heap.size ≤ B) : SB w T pa s all repl g c most pre W' :=
  h.move hf (fun k t C hx => ncs_box k t C hx) (fun k hk e => by have := e.1; omega)

/-- Which matches are replaced. -/
def Lst (all : Bool) (H : List (Nat × Nat)) : List (Nat × Nat) := if all = true then H else H.take 1
theorem lst_pre {all : Bool} {H l r : List (Nat × Nat)} {x : Nat × Nat} (h : l ++ x :: r = H) (k : all = true ∨ l = []) : ∃ r', Lst all H = l ++ x :: r' := by
  unfold Lst
  rcases k with rfl | rfl
  · exact ⟨r, by rw [if_pos rfl]; exact h.symm⟩
  · cases all with
    | true => exact ⟨r, by rw [if_pos rfl]; exact h.symm⟩
    | false => exact ⟨[], by rw [if_neg (by decide), ← h]; rfl⟩

/-- Behind a text that would be too long. -/
def Over (w : World) (most : Int) (t : List UInt8) (W : World) : Prop :=
  Frm No w W ∧ Box W (w.heap.size + 1 + 1) 9 #[.string ⟨#[]⟩] ∧ Box W (w.heap.size + 1 + 1 + 1) 3 #[.int .i64 0] ∧ Box W (w.heap.size + 1 + 1 + 1 + 1) 4 #[.bool false] ∧ most < (t.length : Int)
theorem Over.ncs {w : World} {B : Nat} {most : Int} {t : List UInt8} {W W' : World} (h : Over w most t W) (hf : Frm (NCs B W) W W') (hB : w.heap.size ≤ B) : Over w most t W' :=
  ⟨h.1.then hf (fun k hk e => by have := e.1; omega), h.2.1.frm hf (ncs_box _ _ _ h.2.1), h.2.2.1.frm hf (ncs_box _ _ _ h.2.2.1), h.2.2.2.1.frm hf (ncs_box _ _ _ h.2.2.2.1), h.2.2.2.2⟩
/-- The results of a refusal are stored. -/
theorem SX.over {w : World} {T : Nat} {pa : Option Addr} {s : ByteArray} {all : Bool} {repl : List UInt8} {g c : Nat} {W : World} (h : SX w T pa s all repl g c W) {most : Int} {t : List UInt8} (ht : most < (t.length : Int)) :
    Over w most t (((W.setCell ⟨w.heap.size + 1 + 1, 0, none⟩ (.string ⟨#[]⟩)).setCell ⟨w.heap.size + 1 + 1 + 1, 0, none⟩ (.int .i64 0)).setCell ⟨w.heap.size + 1 + 1 + 1 + 1, 0, none⟩ (.bool false)) :=
  ⟨((h.base.setCell _ _ (fun hk => by simp at hk; omega)).setCell _ _ (fun hk => by simp at hk; omega)).setCell _ _ (fun hk => by simp at hk; omega),
   ((h.r0.set 0 (.string ⟨#[]⟩)).set_ne _ (by omega)).set_ne _ (by omega), (((h.r1.set_ne _ (by omega)).set 0 (.int .i64 0)).set_ne _ (by omega)), (((h.r2.set_ne _ (by omega)).set_ne _ (by omega)).set 0 (.bool false)), ht⟩

/-- How a range is left before its end. -/
def SIx (w : World) (T : Nat) (pa : Option Addr) (s : ByteArray) (all : Bool) (repl : List UInt8) (g c : Nat) (most : Int) (t : List UInt8) (cd : Code) (pre : List (Nat × Nat)) (W : World) : Prop :=
  (cd = .ret ∧ Over w most t W) ∨ (cd = .exit 0 ∧ SB w T pa s all repl g c most pre W ∧ all = false ∧ pre.length = 1)

theorem Kb.box {B b : Nat} {W W' : World} (h : Kb B b W W') {k : Nat} {t : TypeId} {C : Array Value} (hb : Box W k t C) (ht : t ≠ 5) (hk : k ≠ b) : Box W' k t C :=
  hb.frm h.frm (fun e => e.elim hk (fun ⟨C', f, e⟩ => ht (box_type hb e)))
theorem WR.int {B b : Nat} {l : List UInt8} {most : Int} {w w' : World} (h : WR B b l most w) {k : Nat} {C : Array Value} (hb : Box w k 3 C) (hf : Frm (At k) w w') : WR B b l most w' := by
  obtain ⟨h0, p, v, h1, h2, h3, h4⟩ := h
  refine ⟨h0, p, v, h1, h2.frm hf (fun e => ?_), OwnB.frm h3 hf (fun q hq e => ?_), h4⟩
  · have e2 : b = k := e
    subst e2
    exact absurd (box_type hb h2) (by decide)
  · have e2 : q = k := e
    subst e2
    rcases h3.2 with ⟨rfl, _⟩ | ⟨g, cap, cur, rfl, _, hh, _⟩
    · cases hq
    · obtain rfl : g = q := by injection hq
      exact absurd (box_type hb hh) (by decide)
theorem Kb.keep {B b B' : Nat} {l : List UInt8} {most : Int} {w w' : World} (h : Kb B b w w') (hw : WR B b l most w) : Keep B' w w' := by
  obtain ⟨_, p, v, _, h2, _, _⟩ := hw
  refine Keep.of h.frm (fun k o ho hc e => ?_)
  rcases e with e | ⟨C, f, e⟩
  · subst e
    rw [show w.heap[k]? = _ from h2] at ho
    cases ho
    cases hc
  · rw [e] at ho
    cases ho
    cases hc
theorem keep_at {B' k : Nat} {t : TypeId} {C : Array Value} {w w' : World} (hb : Box w k t C) (hf : Frm (At k) w w') : Keep B' w w' := by
  refine Keep.of hf (fun i o ho hc e => ?_)
  have e2 : i = k := e
  subst e2
  rw [show w.heap[i]? = _ from hb] at ho
  cases ho
  cases hc
theorem keep_no {B' : Nat} {w w' : World} (hf : Frm No w w') : Keep B' w w' := Keep.of hf (fun _ _ _ _ => id)
theorem at_set (w : World) (k o : Nat) (v : Value) : Frm (At k) w (w.setCell ⟨k, o, none⟩ v) := (Frm.refl (At k) w).setCell ⟨k, o, none⟩ v (fun _ => rfl)

/-- A round behind which it goes on. -/
theorem SB.round {w : World} {T : Nat} {pa : Option Addr} {s : ByteArray} {all : Bool} {repl : List UInt8} {g c : Nat} {most : Int} {pre : List (Nat × Nat)} {W W' : World} (h : SB w T pa s all repl g c most pre W) (hk : Kb (T + 1) (T + 1) W W')
    {i e : Nat} (hw : WR (T + 1) (T + 1) ((txt (fun m => byF m repl) s.data.toList 0 pre ++ mid s.data.toList (dn 0 pre) i) ++ byF (mid s.data.toList i e) repl) most W')
    (hfit : ((txt (fun m => byF m repl) s.data.toList 0 pre ++ mid s.data.toList (dn 0 pre) i).length : Int) + ((byF (mid s.data.toList i e) repl).length : Int) ≤ most) (B : Nat) (n1 n2 : Int) (hn1 : n1 = (pre.length : Int) + 1) (hn2 : n2 = (e : Int)) :
    SB w T pa s all repl g c most (pre ++ [(i, e)]) ((W'.setCell ⟨T + 1 + 1, 0, none⟩ (.int .i64 n1)).setCell ⟨T + 1 + 1 + 1, 0, none⟩ (.int .i64 n2)) ∧
    Keep B W ((W'.setCell ⟨T + 1 + 1, 0, none⟩ (.int .i64 n1)).setCell ⟨T + 1 + 1 + 1, 0, none⟩ (.int .i64 n2)) := by
  subst hn1 hn2
  have bC := hk.box h.bC (by decide) (by omega)
  have bD := hk.box h.bD (by decide) (by omega)
  have f1 := at_set W' (T + 1 + 1) 0 (.int .i64 ((pre.length : Int) + 1))
  have bD1 := bD.frm f1 (fun e => by have e2 : T + 1 + 1 + 1 = T + 1 + 1 := e; omega)
  have f2 := at_set (W'.setCell ⟨T + 1 + 1, 0, none⟩ (.int .i64 ((pre.length : Int) + 1))) (T + 1 + 1 + 1) 0 (.int .i64 (e : Int))
  have htx := txt_snoc (fun m => byF m repl) s.data.toList pre i e 0
  refine ⟨⟨((h.x.kb hk).at f1 (.inl rfl)).at f2 (.inr rfl), ?_, ?_, ?_, .inr ?_⟩, ((hk.keep h.wr).trans (keep_at bC f1)).trans (keep_at bD1 f2)⟩
  · rw [htx, ← List.append_assoc]
    exact (hw.int bC f1).int bD1 f2
  · have := (bC.set 0 (.int .i64 ((pre.length : Int) + 1))).frm f2 (fun e => by have e2 : T + 1 + 1 = T + 1 + 1 + 1 := e; omega)
    rw [List.length_append]
    exact this
  · rw [dn_snoc]
    exact bD1.set 0 (.int .i64 (e : Int))
  · rw [htx, ← List.append_assoc, List.length_append]
    exact hfit
/-- A round behind which it is refused. -/
theorem SB.refuse {w : World} {T : Nat} {pa : Option Addr} {s : ByteArray} {all : Bool} {repl : List UInt8} {g c : Nat} {most : Int} {pre : List (Nat × Nat)} {W W' : World} (h : SB w T pa s all repl g c most pre W) (hk : Kb (T + 1) (T + 1) W W')
    {t : List UInt8} (ht : most < (t.length : Int)) (B : Nat) :
    Over w most t (((W'.setCell ⟨w.heap.size + 1 + 1, 0, none⟩ (.string ⟨#[]⟩)).setCell ⟨w.heap.size + 1 + 1 + 1, 0, none⟩ (.int .i64 0)).setCell ⟨w.heap.size + 1 + 1 + 1 + 1, 0, none⟩ (.bool false)) ∧
    Keep B W (((W'.setCell ⟨w.heap.size + 1 + 1, 0, none⟩ (.string ⟨#[]⟩)).setCell ⟨w.heap.size + 1 + 1 + 1, 0, none⟩ (.int .i64 0)).setCell ⟨w.heap.size + 1 + 1 + 1 + 1, 0, none⟩ (.bool false)) := by
  have hx := h.x.kb hk
  have f1 := at_set W' (w.heap.size + 1 + 1) 0 (.string ⟨#[]⟩)
  have b1 := hx.r1.frm f1 (fun e => by have e2 : w.heap.size + 1 + 1 + 1 = w.heap.size + 1 + 1 := e; omega)
  have f2 := at_set (W'.setCell ⟨w.heap.size + 1 + 1, 0, none⟩ (.string ⟨#[]⟩)) (w.heap.size + 1 + 1 + 1) 0 (.int .i64 0)
  have b2 := (hx.r2.frm f1 (fun e => by have e2 : w.heap.size + 1 + 1 + 1 + 1 = w.heap.size + 1 + 1 := e; omega)).frm f2 (fun e => by have e2 : w.heap.size + 1 + 1 + 1 + 1 = w.heap.size + 1 + 1 + 1 := e; omega)
  exact ⟨hx.over ht, (((hk.keep h.wr).trans (keep_at hx.r0 f1)).trans (keep_at b1 f2)).trans (keep_at b2 (at_set _ _ 0 _))⟩
end Go.Proofs.Ytacbpdnpepgngaa.wrd
