/- Slices of texts: owned, and as they are read; contracts of the document's Same, of strings.Clone. -/
import Derived.Test.YteaibkbdoocifaaDoorInB
namespace Go.Proofs.YteaibkbdoocifaaDoor.inps
set_option linter.unusedVariables false set_option linter.unusedSimpArgs false
open Go.ChangeShapes Go.WideShapes Go.ChangeAt Go.RowKit Go.Proofs.YteaibkbdoocifaaDoor.base

theorem info_str : (Tryd.prog.info? 9).map (fun i => (i.zero, i.size, i.bytes)) = some (some (.string ⟨#[]⟩), 1, 16) := by kernel_rfl

/-- v is a slice of texts of the call's own, from block B on. -/
def OwnS (w : World) (B : Nat) (v : Value) (L : List ByteArray) : Prop := w.ownsRow B 9 1 v L.length (L.map Value.string)
/-- v is a slice that reads as these texts. -/
def RdS (w : World) (v : Value) (L : List ByteArray) : Prop :=
  ∃ p c, v = .slice p L.length c ∧ (L = [] ∨ ∃ g o, p = some ⟨g, o, none⟩ ∧ ∀ k x, L[k]? = some x → w.cell? ⟨g, o + k, none⟩ = some (.string x))

theorem OwnS.rd {w : World} {B : Nat} {v : Value} {L : List ByteArray} (h : OwnS w B v L) : RdS w v L := by
  rcases h.2 with ⟨rfl, h0⟩ | ⟨g, cap, cur, rfl, hb, hg, rest⟩
  · obtain rfl := List.eq_nil_of_length_eq_zero h0
    exact ⟨none, 0, rfl, .inl rfl⟩
  · refine ⟨_, cap, rfl, .inr ⟨g, 0, rfl, fun k x hx => ?_⟩⟩
    have := World.ownsRow.cells h (g := g) rfl k (.string x) (by rw [List.getElem?_map, hx]; rfl)
    rw [Addr.add_lit] at this
    exact this
theorem OwnS.below {w w' : World} {B : Nat} {v : Value} {L : List ByteArray} (h : OwnS w B v L) (hb : Below w.heap.size w w') : OwnS w' B v L :=
  World.ownsRow.kept (row := none) h ⟨hb.os, hb.tape, hb.output, hb.size, fun k hk _ => hb.block k hk⟩ (Classical.em _)
theorem OwnS.mono {w : World} {B B' : Nat} {v : Value} {L : List ByteArray} (h : OwnS w B v L) (hb : B' ≤ B) : OwnS w B' v L := by
  refine ⟨h.1, ?_⟩
  rcases h.2 with h0 | ⟨g, cap, cur, hv, hg, r⟩
  · exact .inl h0
  · exact .inr ⟨g, cap, cur, hv, Nat.le_trans hb hg, r⟩
theorem OwnS.nil (w : World) (B : Nat) : OwnS w B (.slice none 0 0) [] := World.ownsRow_nil _ _ _ _
theorem OwnS.frm {S : Nat → Prop} {w w' : World} {B : Nat} {v : Value} {L : List ByteArray} (h : OwnS w B v L) (hf : Frm S w w') (hs : ∀ k, v.ownBlock = some k → ¬ S k) : OwnS w' B v L := by
  refine ⟨h.1, ?_⟩
  rcases h.2 with h0 | ⟨g, cap, cur, hv, hb, hg, r⟩
  · exact .inl h0
  · refine .inr ⟨g, cap, cur, hv, hb, ?_, r⟩
    rw [hf.block g (Array.getElem?_eq_some_iff.1 hg).1 (hs g (by rw [hv]; rfl))]
    exact hg

theorem cell_lt {w : World} {p : Addr} {v : Value} (h : w.cell? p = some v) : p.block < w.heap.size := World.block_lt_of_cell? w _ h
theorem cell_move {w w' : World} {p : Addr} {v : Value} (h : w.cell? p = some v) (hf : Frm No w w') : w'.cell? p = some v := by
  have hl := cell_lt h
  simp only [World.cell?] at h ⊢
  rw [hf.block p.block hl (fun h => h)]
  exact h
theorem RdS.move {w w' : World} {v : Value} {L : List ByteArray} (h : RdS w v L) (hf : Frm No w w') : RdS w' v L := by
  obtain ⟨p, c, rfl, h⟩ := h
  refine ⟨p, c, rfl, ?_⟩
  rcases h with h | ⟨g, o, hp, h⟩
  · exact .inl h
  · exact .inr ⟨g, o, hp, fun k x hx => cell_move (h k x hx) hf⟩

theorem take_get {la lb : List ByteArray} {k : Nat} {x y : ByteArray} (h : la.take k = lb.take k) (hx : la[k]? = some x) (hy : lb[k]? = some y) (e : x = y) : la.take (k + 1) = lb.take (k + 1) := by
  rw [List.take_add_one, List.take_add_one, h, hx, hy, e]

theorem str_ne {x y : ByteArray} (h : x = y) : (!(x.toList == y.toList)) = false := by subst h; simp
theorem str_ne' {x y : ByteArray} (h : x ≠ y) : (!(x.toList == y.toList)) = true := by
  rw [Bool.not_eq_true', beq_eq_false_iff_ne]
  intro e
  rw [Lib.toList_data, Lib.toList_data] at e
  exact h (ByteArray.ext (Array.toList_inj.1 e))

set_option maxHeartbeats 1000000 in
theorem same_all (la lb : List ByteArray) (va vb : Value) (w : World) (ha : RdS w va la) (hb : RdS w vb lb) (hl : la.length ≤ 1000000) (hl2 : lb.length ≤ 140737488355328) :
    Calls Tryd.prog 9 #[va, vb] w fun e w' => e = .returned (.bool (decide (la = lb))) ∧ Frm No w w' := by
  obtain ⟨pa, ca, rfl, ha⟩ := ha
  obtain ⟨pb, cb, rfl, hb⟩ := hb
  by_cases hlen : la.length = lb.length
  · have HA := Lib.hid ha
    have HB := Lib.hid hb
    clear ha hb
    obtain ⟨n, hn⟩ : ∃ n, la.length = n := ⟨_, rfl⟩
    have hn2 : lb.length = n := by omega
    have HN := Lib.hid hn
    have HN2 := Lib.hid hn2
    rw [hn, hn2]
    have hln : n ≤ 1000000 := by omega
    clear hn hn2 hlen hl hl2
    go_enter Tryd.func9, Tryd.ntmps9
    go_wp2
    go_loopw [5] (fun iv wr => ∃ k : Nat, k ≤ n ∧ iv = .int .i64 k ∧ la.take k = lb.take k ∧ Frm No w wr) (fun iv _ => n - (intOf iv).toNat)
    case atStart => exact ⟨0, Nat.zero_le _, rfl, by simp, Frm.refl _ _⟩
    case round =>
      obtain ⟨k, hk, rfl, htk, hf⟩ := hrel
      have HT := Lib.hid htk
      have HF := Lib.hid hf
      clear htk hf
      by_cases hlt : k < n
      · obtain ⟨x, hx⟩ : ∃ x, la[k]? = some x := ⟨_, List.getElem?_eq_getElem (by rw [HN.out]; exact hlt)⟩
        obtain ⟨y, hy⟩ : ∃ y, lb[k]? = some y := ⟨_, List.getElem?_eq_getElem (by rw [HN2.out]; exact hlt)⟩
        obtain ⟨ga, oa, rfl, hta⟩ : ∃ g o, pa = some ⟨g, o, none⟩ ∧ ∀ k x, la[k]? = some x → w.cell? ⟨g, o + k, none⟩ = some (.string x) := by
          rcases HA.out with h | h
          · subst h; cases hx
          · exact h
        obtain ⟨gb, ob, rfl, htb⟩ : ∃ g o, pb = some ⟨g, o, none⟩ ∧ ∀ k x, lb[k]? = some x → w.cell? ⟨g, o + k, none⟩ = some (.string x) := by
          rcases HB.out with h | h
          · subst h; cases hy
          · exact h
        have x0 := cell_move (hta k x hx) HF.out
        have y0 := cell_move (htb k y hy) HF.out
        have hk0 : (0 : Int) ≤ (k : Int) := by omega
        have hk1 : (k : Int) < (n : Int) := by omega
        clear hta htb
        by_cases hxy : x = y
        · have HX := Lib.hid (take_get HT.out hx hy hxy)
          have hcmp := str_ne hxy
          clear hx hy hxy
          go_wp2
          go_quiet (fail)
          go_wp2
          go_roundw
          case rel => exact ⟨k + 1, by omega, by go_num, HX.out, (HF.out.drewN _)⟩
          case measure => simp [intOf]; omega
        · have HR := Lib.hid (show decide (la = lb) = false by
            simp only [decide_eq_false_iff_not]
            intro e
            subst e
            rw [hx] at hy
            exact hxy (Option.some.inj hy))
          have hcmp := str_ne' hxy
          clear hx hy hxy
          go_wp2
          go_quiet (fail)
          go_wp2
          go_ret
          exact ⟨ret_bool HR.out.symm, HF.out.drewN _⟩
      · have HR := Lib.hid (show decide (la = lb) = true by
          simp only [decide_eq_true_eq]
          have hkn : k = n := by omega
          have := HT.out
          rw [List.take_of_length_le (by rw [HN.out]; omega), List.take_of_length_le (by rw [HN2.out]; omega)] at this
          exact this)
        go_wp2
        go_ret
        exact ⟨ret_bool HR.out.symm, HF.out⟩
  · have HR := Lib.hid (show decide (la = lb) = false by
      simp only [decide_eq_false_iff_not]
      intro e
      exact hlen (by rw [e]))
    have hne : ¬ ((la.length : Int) = (lb.length : Int)) := by omega
    clear ha hb
    go_enter Tryd.func9, Tryd.ntmps9
    go_wp2
    go_ret
    exact ⟨ret_bool HR.out.symm, Frm.refl _ _⟩

theorem clone_c (s : ByteArray) (w : World) (hs : s.size ≤ 140737488355328) :
    Calls Tryd.prog 16 #[.string s] w fun e w' => e = .returned (.string s) ∧ Below w.heap.size w w' := by
  have HC := Lib.hid (Tryd.stringslite_Clone s w (by omega))
  clear hs
  go_enter Tryd.func16, Tryd.ntmps16
  go_wp2_with (go_at_call 25; go_must (refine HC.out.mono ?_; rintro e w1 ⟨rfl, hb1⟩))
  go_ret
  exact ⟨rfl, hb1⟩


/-- 'append(l, x)' of one text: it lies in a new block of its own. -/
theorem wpList_appX (w : World) {ops : Array Oper} {rest : List Oper} {o : Oper} {a : Act} {Q : Exit → Act → World → Prop} (hgd : o.guard = none) (s x : Operand)
    (ho : o.op = .call { callee := .builtin .append, args := #[s, x], argTypes := #[27, 27] })
    (B : Nat) (v : Value) (L : List ByteArray) (n : Nat) (hn : L.length = n) (hs : a.eval s = v) (hown : OwnS w B v L) (X x0 : ByteArray) (hX : X = x0)
    (p : Nat) (hx : a.eval x = .slice (some ⟨p, 0, none⟩) 1 1) (hp : p = w.heap.size) (hl : n ≤ 100000) (hB : B ≤ w.heap.size)
    (h : ∀ a' c' w', OwnS w' B (.slice a' (n + 1) c') (L ++ [x0]) → Frm (fun k => v.ownBlock = some k) w w' → wpList Tryd.prog ops Q rest (a.put o.dst (.slice a' (n + 1) c')) w') :
    wpList Tryd.prog ops Q (o :: rest) a (w.alloc (.cells #[.string X] 9)) := by
  obtain ⟨i0, hi, hz0, hz1, hz2⟩ := info_parts info_str
  subst hX hp hn
  refine wpList_append_own _ hgd s x 27 ho B 9 i0 (.string ⟨#[]⟩) 1 16 Tryd.underlying27 hi hz0 hz1 hz2 rfl (by decide) v _ _ hs (World.ownsRow.alloc hown _) ⟨w.heap.size, 0, none⟩ 1 1 [.string X] hx rfl (World.news_of_block (cs := #[.string X]) (t := 9) (fr := (0, 0)) (heap_alloc_new w _)) (by simp [Value.oneCell']) (by unfold maxLen; omega) (by omega) (by simp; omega) ?_
  intro v' w' hown' hg _
  obtain ⟨a', c', rfl⟩ := own_slice hown'
  refine h a' c' w' ?_ ?_
  · unfold OwnS
    rw [List.length_append, List.map_append]
    exact hown'
  · exact ((Frm.refl _ w).alloc _).grown hg (fun k hk _ => hk)
theorem frm_appX {w0 w w' : World} {B : Nat} {v : Value} {L : List ByteArray} (h : Frm No w0 w) (ho : OwnS w B v L) (hB : w0.heap.size ≤ B) (hg : Frm (fun k => v.ownBlock = some k) w w') : Frm No w0 w' :=
  h.then hg (fun q hq e => absurd (own_lt ho e).1 (by omega))
theorem OwnS.form {w : World} {B : Nat} {v : Value} {L : List ByteArray} (h : OwnS w B v L) : ∃ a c, v = .slice a L.length c := own_slice h
theorem OwnS.move {w w' : World} {B : Nat} {v : Value} {L : List ByteArray} (h : OwnS w B v L) (hf : Frm No w w') : OwnS w' B v L := own_frm h hf

/-- Pairs of places, as they are read. -/
def PG (w : World) (g : Nat) (L : List (Nat × Nat)) : Prop := ∀ i p, L[i]? = some p → w.cell? ⟨g, i * 2, none⟩ = some (.int .i64 (p.1 : Int)) ∧ w.cell? ⟨g, i * 2 + 1, none⟩ = some (.int .i64 (p.2 : Int))
theorem PG.move {w w' : World} {g : Nat} {L : List (Nat × Nat)} (h : PG w g L) (hf : Frm No w w') : PG w' g L := fun i p hi => ⟨cell_move (h i p hi).1 hf, cell_move (h i p hi).2 hf⟩
theorem OwnP.pg {w : World} {B : Nat} {v : Value} {L : List (Nat × Nat)} (h : OwnP w B v L) (hne : L ≠ []) : ∃ g c, v = .slice (some ⟨g, 0, none⟩) L.length c ∧ PG w g L ∧ B ≤ g ∧ L.length ≤ c := by
  have h2 := h.2
  rcases h.2.2 with ⟨_, h1⟩ | ⟨g, cap, cur, hv, hg, hh, hc, _⟩
  · exact absurd (List.eq_nil_of_length_eq_zero h1) hne
  · refine ⟨g, cap, hv, ?_, hg, hc⟩
    rw [hv] at h2
    intro i t hi
    have hlt := (List.getElem?_eq_some_iff.1 hi).1
    have := pCs_get hi
    rw [World.ownsRow.cellAt h2 _ (by omega), World.ownsRow.cellAt h2 _ (by omega)]
    exact this
/-- A slice of pairs, as it is read. -/
def PS (w : World) (v : Value) (L : List (Nat × Nat)) : Prop := ∃ a c, v = .slice a L.length c ∧ (L = [] ∨ ∃ g, a = some ⟨g, 0, none⟩ ∧ PG w g L)
theorem OwnP.ps {w : World} {B : Nat} {v : Value} {L : List (Nat × Nat)} (h : OwnP w B v L) : PS w v L := by
  by_cases e : L = []
  · obtain ⟨a, c, hv⟩ := h.1
    exact ⟨a, c, hv, Or.inl e⟩
  · obtain ⟨g, c, hv, ht, _⟩ := h.pg e
    exact ⟨_, c, hv, Or.inr ⟨g, rfl, ht⟩⟩
theorem PS.move {w w' : World} {v : Value} {L : List (Nat × Nat)} (h : PS w v L) (hf : Frm No w w') : PS w' v L := by
  obtain ⟨a, c, e, h | ⟨g, ea, ht⟩⟩ := h
  · exact ⟨a, c, e, Or.inl h⟩
  · exact ⟨a, c, e, Or.inr ⟨g, ea, ht.move hf⟩⟩
theorem PS.at {w : World} {a : Option Addr} {n c : Nat} {L : List (Nat × Nat)} (h : PS w (.slice a n c) L) {k : Nat} {p : Nat × Nat} (hk : L[k]? = some p) : ∃ g, a = some ⟨g, 0, none⟩ ∧ w.cell? ⟨g, k * 2, none⟩ = some (.int .i64 (p.1 : Int)) ∧ w.cell? ⟨g, k * 2 + 1, none⟩ = some (.int .i64 (p.2 : Int)) := by
  obtain ⟨a', c', e, h | ⟨g, ea, ht⟩⟩ := h
  · subst h; cases hk
  · injection e with e1
    subst e1
    exact ⟨g, ea, ht k p hk⟩

/-- Each place lies in the text. -/
def In (n : Nat) (L : List (Nat × Nat)) : Prop := ∀ p ∈ L, p.1 ≤ p.2 ∧ p.2 ≤ n
theorem spn_in (b : UInt8) : ∀ (l : List UInt8) (f p : Nat), f ≤ p → In (p + l.length) (spn b l f p) ∧ (spn b l f p).length ≤ l.length + 1
  | [], f, p, h => by
    simp only [spn]
    split
    · exact ⟨fun q hq => by simp at hq; subst hq; exact ⟨h, by simp⟩, by simp⟩
    · exact ⟨fun q hq => by simp at hq, by simp⟩
  | c :: r, f, p, h => by
    simp only [spn]
    split
    · obtain ⟨h1, h2⟩ := spn_in b r (p + 1) (p + 1) (Nat.le_refl _)
      refine ⟨fun q hq => ?_, by simp; omega⟩
      rcases List.mem_cons.1 hq with rfl | hq
      · exact ⟨h, by simp⟩
      · have := h1 q hq
        simp only [List.length_cons]
        exact ⟨this.1, by omega⟩
    · obtain ⟨h1, h2⟩ := spn_in b r f (p + 1) (by omega)
      refine ⟨fun q hq => ?_, by simp; omega⟩
      have := h1 q hq
      simp only [List.length_cons]
      exact ⟨this.1, by omega⟩
theorem pgs_in : ∀ (n : Nat) (l : List UInt8) (p : Nat), l.length ≤ n → In (p + l.length) (pgs l p) ∧ (pgs l p).length ≤ l.length
  | 0, l, p, h => by
    obtain rfl := List.eq_nil_of_length_eq_zero (Nat.le_zero.1 h)
    rw [pgs_nil]
    exact ⟨fun q hq => by simp at hq, by simp⟩
  | n + 1, l, p, h => by
    by_cases hl : l = []
    · subst hl
      rw [pgs_nil]
      exact ⟨fun q hq => by simp at hq, by simp⟩
    · have h1 := adv_pos hl
      have h2 := adv_le l
      have h3 := bdy_le l
      obtain ⟨h4, h5⟩ := pgs_in n (l.drop (adv l)) (p + adv l) (by rw [List.length_drop]; omega)
      rw [List.length_drop] at h4 h5
      rw [pgs_cons hl]
      refine ⟨fun q hq => ?_, by simp only [List.length_cons]; omega⟩
      rcases List.mem_cons.1 hq with rfl | hq
      · exact ⟨by simp, by simp only; omega⟩
      · have := h4 q hq
        exact ⟨this.1, by omega⟩
theorem plc_in (s rs : ByteArray) : In s.size (plc s rs) ∧ (plc s rs).length ≤ s.size + 1 := by
  unfold plc
  split
  · have := spn_in (rs[0]) (sx s 0) 0 0 (Nat.le_refl _)
    rw [sx_len] at this
    simpa using this
  · unfold par
    have h := pgs_in _ (sx s (nls (sx s 0))) (nls (sx s 0)) (Nat.le_refl _)
    have hn := nls_le (sx s 0)
    rw [sx_len] at hn h
    refine ⟨?_, by omega⟩
    have h1 := h.1
    rw [show nls (sx s 0) + (s.size - nls (sx s 0)) = s.size by omega] at h1
    exact h1
/-- The records. -/
def recs (s rs : ByteArray) : List ByteArray := (plc s rs).map (fun p => s.extract p.1 p.2)
theorem recs_len (s rs : ByteArray) : (recs s rs).length = (plc s rs).length := by simp [recs]
theorem recs_next {s rs : ByteArray} {k : Nat} {p : Nat × Nat} (h : (plc s rs)[k]? = some p) : (recs s rs).take (k + 1) = (recs s rs).take k ++ [s.extract p.1 p.2] := by
  rw [List.take_add_one]
  congr 1
  unfold recs
  rw [List.getElem?_map, h]
  rfl

end Go.Proofs.YteaibkbdoocifaaDoor.inps
