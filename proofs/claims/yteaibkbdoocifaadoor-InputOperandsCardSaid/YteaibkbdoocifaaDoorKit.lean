/- Small laws on byte slices that a call makes itself, over whatever program. -/
import Derived.WalkKit
import Derived.ProofKit
import Derived.Below
import Derived.BigQuiet
import Derived.Deep.QuietTactic
import Derived.WalkLawsBesides
import Derived.WalkSpells
import Derived.Lib.Hide
import Derived.Maps.AppendAt
import Derived.Laws.IdiomStrings
import Derived.OwnWalk
import Derived.Lib.AppendStr
import Derived.Lib.OthersKept
namespace Go.Proofs.YteaibkbdoocifaaDoor
set_option linter.unusedVariables false
open Go.ChangeShapes Go.WideShapes Go.ChangeAt Go.RowKit

theorem ret_int {k : IntKind} {a b : Int} (h : a = b) : Ending.returned (.int k a) = .returned (.int k b) := by rw [h]
theorem ret_bool {a b : Bool} (h : a = b) : Ending.returned (.bool a) = .returned (.bool b) := by rw [h]
theorem ret_str {a b : List UInt8} (h : a = b) : Ending.returned (.string ⟨a.toArray⟩) = .returned (.string ⟨b.toArray⟩) := by rw [h]

theorem extract_list (s : ByteArray) (a b : Nat) : s.extract a b = ⟨((s.data.toList.take b).drop a).toArray⟩ := by
  apply ByteArray.ext
  apply Array.toList_inj.1
  simp [ByteArray.data_extract, Array.toList_extract, List.extract_eq_take_drop, List.drop_take]

/-- The text of some bytes. -/
theorem str_eta (s : ByteArray) : (⟨s.data.toList.toArray⟩ : ByteArray) = s := by
  apply ByteArray.ext
  simp

theorem app_list (a b : List UInt8) : (⟨a.toArray⟩ ++ ⟨b.toArray⟩ : ByteArray) = ⟨(a ++ b).toArray⟩ := by
  apply ByteArray.ext
  apply Array.toList_inj.1
  simp
theorem get_list (s : ByteArray) (k : Nat) (h : k < s.size) : s.data.toList[k]? = some s[k] := by
  rw [List.getElem?_eq_getElem (by simpa using h)]
  rfl
theorem len_list (s : ByteArray) : s.data.toList.length = s.size := by simp
theorem take_snoc (s : ByteArray) (k : Nat) (h : k < s.size) : s.data.toList.take (k + 1) = s.data.toList.take k ++ [s[k]] := by
  rw [List.take_succ_eq_append_getElem (by simpa using h)]; rfl

def bV (b : UInt8) : Value := .int .u8 (b.toNat : Int)

/-- v is a slice of bytes of the call's own (from block B on): the bytes l. -/
def OwnB (w : World) (B : Nat) (e : TypeId) (v : Value) (l : List UInt8) : Prop := w.ownsRow B e 1 v l.length (l.map bV)

theorem OwnB.nil (w : World) (B : Nat) (e : TypeId) : OwnB w B e (.slice none 0 0) [] := World.ownsRow_nil _ _ _ _

theorem OwnB.alloc {w : World} {B : Nat} {e : TypeId} {v : Value} {l : List UInt8} (h : OwnB w B e v l) (o : Obj) : OwnB (w.alloc o) B e v l := World.ownsRow.alloc h o

theorem OwnB.drew {w : World} {B : Nat} {e : TypeId} {v : Value} {l : List UInt8} (h : OwnB w B e v l) : OwnB w.drew B e v l := h

theorem OwnB.mono {w : World} {B B' : Nat} {e : TypeId} {v : Value} {l : List UInt8} (h : OwnB w B e v l) (hb : B' ≤ B) : OwnB w B' e v l :=
  ⟨h.1, h.2.elim Or.inl (fun ⟨g, cap, cur, hv, hg, r⟩ => Or.inr ⟨g, cap, cur, hv, Nat.le_trans hb hg, r⟩)⟩

/-- What is owned below some block stays so where only blocks from there on are new or written. -/
theorem OwnB.below {w w' : World} {B : Nat} {e : TypeId} {v : Value} {l : List UInt8} (h : OwnB w B e v l) (hb : Below w.heap.size w w') : OwnB w' B e v l := by
  refine ⟨h.1, h.2.elim Or.inl (fun ⟨g, cap, cur, hv, hg, hh, r⟩ => Or.inr ⟨g, cap, cur, hv, hg, ?_, r⟩)⟩
  rw [hb.block g (by exact (Array.getElem?_eq_some_iff.1 hh).1)]
  exact hh

theorem OwnB.forms {w : World} {B : Nat} {e : TypeId} {v : Value} {l : List UInt8} (h : OwnB w B e v l) : (v = .slice none 0 0 ∧ l = []) ∨ ∃ g cap, v = .slice (some ⟨g, 0, none⟩) l.length cap := by
  rcases h.2 with ⟨h0, h1⟩ | ⟨g, cap, _, hv, _⟩
  · exact Or.inl ⟨h0, List.eq_nil_of_length_eq_zero h1⟩
  · exact Or.inr ⟨g, cap, hv⟩

/-- 'string(b)'. -/
theorem OwnB.str {P : Program} {w : World} {B : Nat} {e : TypeId} {v : Value} {l : List UInt8} (h : OwnB w B e v l) (src dst : TypeId) (hs : P.underlying src = some (.slice e)) (he : P.underlying e = some (.int .u8)) (hd : P.underlying dst = some .string) :
    (convert src dst v).run P w = .ok (.string ⟨l.toArray⟩) w := by
  rcases h.2 with ⟨h0, h1⟩ | ⟨g, cap, cur, hv, hg, hh, hn, hm, hc, ht⟩
  · obtain rfl : l = [] := List.eq_nil_of_length_eq_zero h1
    subst h0
    rw [run_convert_bytes_string w src dst e _ _ _ hs he hd]
    rfl
  · subst hv
    refine run_convert_bytes_back w src dst e _ _ l hs he hd ?_
    intro j hj
    have hx := World.ownsRow.cells h (g := g) rfl j (bV l[j]) (by rw [List.getElem?_map, List.getElem?_eq_getElem hj]; rfl)
    exact hx

theorem OwnB.len {P : Program} {w : World} {B : Nat} {e : TypeId} {v : Value} {l : List UInt8} (h : OwnB w B e v l) (t ty : TypeId) (ht : P.underlying t = some (.slice (P.elem t))) :
    (Builtin.len_ #[t] ty #[v]).run P w = .ok (goInt l.length) w := by
  rcases h.forms with ⟨rfl, rfl⟩ | ⟨g, cap, rfl⟩
  · exact run_len_slice w t ty none 0 0 ht
  · exact run_len_slice w t ty _ _ _ ht

/-- 'append(b, c)': the byte lies in a new block of its own. -/
theorem wpList_app1 {P : Program} (w : World) {ops : Array Oper} {rest : List Oper} {o : Oper} {a : Act} {Q : Exit → Act → World → Prop} (hgd : o.guard = none) (s x : Operand) (t : TypeId)
    (ho : o.op = .call { callee := .builtin .append, args := #[s, x], argTypes := #[t, t] })
    (B : Nat) (e : TypeId) (ht : P.underlying t = some (.slice e)) (hinf : (P.info? e).map (fun i => (i.zero, i.size, i.bytes)) = some (some (.int .u8 0), 1, 1))
    (v : Value) (l : List UInt8) (hs : a.eval s = v) (hown : OwnB w B e v l) (n : Int)
    (hx : a.eval x = .slice (some ⟨w.heap.size, 0, none⟩) 1 1) (b : UInt8) (hn : n = (b.toNat : Int)) (hl : l.length + 1 ≤ 140737488355328) (hB : B ≤ w.heap.size)
    (h : ∀ v' w', OwnB w' B e v' (l ++ [b]) → Below B w w' → wpList P ops Q rest (a.put o.dst v') w') :
    wpList P ops Q (o :: rest) a (w.alloc (.cells #[.int .u8 n] e)) := by
  obtain ⟨i0, hi, hz0, hz1, hz2⟩ := info_parts hinf
  subst hn
  refine wpList_append_own _ hgd s x t ho B e i0 (.int .u8 0) 1 1 ht hi hz0 hz1 hz2 rfl (by decide) v _ _ hs (World.ownsRow.alloc hown _) ⟨w.heap.size, 0, none⟩ 1 1 [bV b] hx rfl (cell_one_new _ _ _) (fun u hu => by simp at hu; subst hu; rfl) (by unfold maxLen; omega) (by omega) (by simp; omega) ?_
  intro v' w' hown' hg _
  refine h v' w' ?_ ?_
  · have e2 : l.length + 1 = (l ++ [b]).length := by simp
    have e3 : l.map bV ++ [bV b] = (l ++ [b]).map bV := by simp
    unfold OwnB
    rw [← e2, ← e3]
    exact hown'
  · exact ((Below.refl _ _).alloc hB _).grown hg (by simp; omega) (fun q hq => ((World.ownsRow.lt hown) q hq).1)

/-- 'append(b, c0, c1, ..)': the bytes lie in a new block of their own. -/
theorem wpList_appN {P : Program} (w : World) {ops : Array Oper} {rest : List Oper} {o : Oper} {a : Act} {Q : Exit → Act → World → Prop} (hgd : o.guard = none) (s x : Operand) (t : TypeId)
    (ho : o.op = .call { callee := .builtin .append, args := #[s, x], argTypes := #[t, t] })
    (B : Nat) (e : TypeId) (ht : P.underlying t = some (.slice e)) (hinf : (P.info? e).map (fun i => (i.zero, i.size, i.bytes)) = some (some (.int .u8 0), 1, 1))
    (v : Value) (l : List UInt8) (hs : a.eval s = v) (hown : OwnB w B e v l) (C : Array Value) (news : List UInt8) (hC : C = (news.map bV).toArray) (N : Nat) (hN : N = news.length)
    (hx : a.eval x = .slice (some ⟨w.heap.size, 0, none⟩) N N) (hl : l.length + news.length ≤ 140737488355328) (hB : B ≤ w.heap.size)
    (h : ∀ v' w', OwnB w' B e v' (l ++ news) → Below B w w' → wpList P ops Q rest (a.put o.dst v') w') :
    wpList P ops Q (o :: rest) a (w.alloc (.cells C e)) := by
  obtain ⟨i0, hi, hz0, hz1, hz2⟩ := info_parts hinf
  subst hC hN
  refine wpList_append_own _ hgd s x t ho B e i0 (.int .u8 0) 1 1 ht hi hz0 hz1 hz2 rfl (by decide) v _ _ hs (World.ownsRow.alloc hown _) ⟨w.heap.size, 0, none⟩ news.length news.length (news.map bV) hx (by simp) ?_ (fun u hu => by obtain ⟨b, _, rfl⟩ := List.mem_map.1 hu; rfl) (by unfold maxLen; omega) (by omega) (by simp; omega) ?_
  · intro j u hj
    rw [Addr.add_lit, Nat.zero_add]
    simp only [World.cell?, heap_alloc_new]
    simpa using hj
  · intro v' w' hown' hg _
    refine h v' w' ?_ ?_
    · have e2 : l.length + news.length = (l ++ news).length := by simp
      have e3 : l.map bV ++ news.map bV = (l ++ news).map bV := by simp
      unfold OwnB
      rw [← e2, ← e3]
      exact hown'
    · exact ((Below.refl _ _).alloc hB _).grown hg (by simp; omega) (fun q hq => ((World.ownsRow.lt hown) q hq).1)

theorem strCells_bV (s : ByteArray) : Lib.strCells s = s.data.toList.map bV := rfl

/-- 'append(b, s...)' of a string. -/
theorem wpList_appS {P : Program} (w : World) {ops : Array Oper} {rest : List Oper} {o : Oper} {a : Act} {Q : Exit → Act → World → Prop} (hgd : o.guard = none) (s x : Operand) (t u : TypeId)
    (ho : o.op = .call { callee := .builtin .append, args := #[s, x], argTypes := #[t, u] })
    (B : Nat) (e : TypeId) (ht : P.underlying t = some (.slice e)) (hu : P.underlying u = some .string) (hinf : (P.info? e).map (fun i => (i.zero, i.size, i.bytes)) = some (some (.int .u8 0), 1, 1))
    (v : Value) (l : List UInt8) (hs : a.eval s = v) (hown : OwnB w B e v l) (str : ByteArray) (news : List UInt8) (hx : a.eval x = .string str) (hnews : str.data.toList = news)
    (hl : l.length + news.length ≤ 140737488355328) (hB : B ≤ w.heap.size)
    (h : ∀ v' w', OwnB w' B e v' (l ++ news) → Below B w w' → wpList P ops Q rest (a.put o.dst v') w') :
    wpList P ops Q (o :: rest) a w := by
  obtain ⟨i0, hi, hz0, hz1, hz2⟩ := info_parts hinf
  subst hnews
  have hsz : str.data.toList.length = str.size := by simp
  refine Lib.wpList_append_own_string w hgd s x t u ho B e i0 ht hu hi hz0 hz1 hz2 v _ _ hs hown str hx (by unfold maxLen; omega) (by omega) hB ?_
  intro v' w' hown' hg _
  refine h v' w' ?_ ?_
  · unfold OwnB
    rw [List.length_append, List.map_append, hsz]
    exact hown'
  · exact (Below.refl _ _).grown hg hB (fun q hq => ((World.ownsRow.lt hown) q hq).1)

/-- 'string([]byte{..})' of bytes that were just laid. -/
theorem str_lit {P : Program} (w : World) (C : Array Value) (news : List UInt8) (hC : C = (news.map bV).toArray) (N : Nat) (hN : N = news.length) (src dst e : TypeId) (hs : P.underlying src = some (.slice e)) (he : P.underlying e = some (.int .u8)) (hd : P.underlying dst = some .string) :
    (convert src dst (.slice (some ⟨w.heap.size, 0, none⟩) N N)).run P (w.alloc (.cells C e)) = .ok (.string ⟨news.toArray⟩) (w.alloc (.cells C e)) := by
  subst hC hN
  refine run_convert_bytes_back _ src dst e _ _ news hs he hd ?_
  intro j hj
  rw [Addr.add_lit, Nat.zero_add]
  simp only [World.cell?, heap_alloc_new]
  rw [List.getElem?_toArray, List.getElem?_map, List.getElem?_eq_getElem hj]
  rfl

theorem OwnB.iterAt {w : World} {B : Nat} {e : TypeId} {v : Value} {l : List UInt8} (h : OwnB w B e v l) {k : Nat} (hk : k < B) (s : ByteArray) (pos : Nat) : OwnB (w.iterAt k s pos) B e v l := by
  refine ⟨h.1, h.2.elim Or.inl (fun ⟨g, cap, cur, hv, hg, hh, r⟩ => Or.inr ⟨g, cap, cur, hv, hg, ?_, r⟩)⟩
  rw [Lib.iterAt_other _ _ _ _ _ (by omega)]
  exact hh

/-- Block g holds the bytes l at its head; no cell of it is frozen. -/
def RowB (w : World) (g : Nat) (e : TypeId) (l : List UInt8) : Prop :=
  ∃ (C : Array Value) (N : Nat), w.heap[g]? = some (.cells C e (N, N + 1)) ∧ C.size = N ∧ l.length ≤ N ∧ ∀ j (h : j < l.length), C[j]? = some (bV l[j])

theorem RowB.cell {w : World} {g : Nat} {e : TypeId} {l : List UInt8} (h : RowB w g e l) {j : Nat} {c : UInt8} (hj : l[j]? = some c) : w.cell? ⟨g, j, none⟩ = some (.int .u8 (c.toNat : Int)) := by
  obtain ⟨C, N, hh, _, _, hc⟩ := h
  obtain ⟨h1, rfl⟩ := List.getElem?_eq_some_iff.1 hj
  simp only [World.cell?, hh]
  exact hc j h1

theorem RowB.free {w : World} {g : Nat} {e : TypeId} {l : List UInt8} (h : RowB w g e l) {j : Nat} {c : UInt8} (hj : l[j]? = some c) : w.frozen? ⟨g, j, none⟩ = false := by
  obtain ⟨C, N, hh, hN, hl, _⟩ := h
  obtain ⟨h1, rfl⟩ := List.getElem?_eq_some_iff.1 hj
  simp only [World.frozen?, hh, Bool.and_eq_false_iff, decide_eq_false_iff_not]
  left
  omega

theorem RowB.set {w : World} {g : Nat} {e : TypeId} {l : List UInt8} (h : RowB w g e l) (j : Nat) (hj : j < l.length) (n : Int) (b : UInt8) (hn : n = (b.toNat : Int)) : RowB (w.setCell ⟨g, j, none⟩ (.int .u8 n)) g e (l.set j b) := by
  subst hn
  obtain ⟨C, N, hh, hN, hl, hc⟩ := h
  refine ⟨C.setIfInBounds j (bV b), N, ?_, by simpa using hN, by simpa using hl, ?_⟩
  · rw [setCell_eq_setRow w g j C e (N, N + 1) _ hh]
    exact setRow_heap w g _ _ e _ hh
  · intro i hi
    simp only [List.length_set] at hi
    rw [Array.getElem?_setIfInBounds, List.getElem_set]
    by_cases hij : j = i
    · subst hij
      rw [if_pos rfl, if_pos (by omega), if_pos rfl]
    · rw [if_neg hij, if_neg hij]
      exact hc i hi

theorem RowB.str {P : Program} {w : World} {g : Nat} {e : TypeId} {l : List UInt8} (h : RowB w g e l) (n : Nat) (hn : n = l.length) (cap : Nat) (src dst : TypeId) (hs : P.underlying src = some (.slice e)) (he : P.underlying e = some (.int .u8)) (hd : P.underlying dst = some .string) :
    (convert src dst (.slice (some ⟨g, 0, none⟩) n cap)).run P w = .ok (.string ⟨l.toArray⟩) w := by
  subst hn
  refine run_convert_bytes_back w src dst e _ _ l hs he hd ?_
  intro j hj
  rw [Addr.add_lit, Nat.zero_add]
  exact h.cell (List.getElem?_eq_getElem hj)

/-- '[]byte(s)'. -/
theorem RowB.made (w : World) (s : ByteArray) (e : TypeId) (cap : Nat) : RowB (w.drew.alloc (.cells (bytesRow s cap) e ((bytesRow s cap).size, (bytesRow s cap).size + 1))) w.heap.size e s.data.toList := by
  refine ⟨bytesRow s cap, _, ?_, rfl, by simp [bytesRow], ?_⟩
  · exact heap_alloc_new w.drew _
  · intro j hj
    have hj' : j < s.size := by simpa using hj
    have hj2 : j < s.data.size := by simpa using hj
    unfold bytesRow
    rw [Array.getElem?_append_left (by simpa using hj2), Array.getElem?_map, Array.getElem?_eq_getElem hj2]
    simp [bV]
end Go.Proofs.YteaibkbdoocifaaDoor
