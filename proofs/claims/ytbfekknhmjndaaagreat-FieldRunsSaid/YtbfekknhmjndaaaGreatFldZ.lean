/- No run in this text: fields parted by blanks, byte by byte: what strings.FieldsFunc answers at the document's three blanks; that blanks ahead, behind and between change none; fields parted by one byte; lines put together. Slices of texts: owned, and as they are read; contracts of the document's Same, of Clone, isBlank, and of parted and Split where the separator is a blank. Records in memory: contracts of NF, Line, mayHave, Get, resize, join, Set, SetNF, for every record. Contracts of a record's Set and SetNF, and of New where the separator is a blank. New, awake (tedderlaw10); the law FieldBlanks. Contracts of byByte, parted and Split where the separator is one byte. parted and Split where the separator is one byte that is no blank; pure facts for the law FieldBack. -/
import Derived.Lib.FieldsP
import Derived.Lib.SpaceUEq
import Derived.Lib.Join
import Derived.Test.YtbfekknhmjndaaaGreatShelf
import Derived.Test.YtbfekknhmjndaaaGreatRead
import Derived.Deep.RegionLaw
import Derived.Deep.AppendLies
import Derived.Deep.DrawnRows
import Derived.Maps.AppendAt
import Derived.Laws.OwnMore
import Derived.Deep.LoopGhost

namespace Go.Proofs.YtbfekknhmjndaaaGreat.fldp
set_option linter.unusedVariables false set_option linter.unusedSimpArgs false
open Go.Lib

/-- A blank: 32, 9, 10. -/
def isB (c : UInt8) : Bool := c.toNat == 32 || c.toNat == 9 || c.toNat == 10
def pB (x : Nat) : Bool := x == 32 || x == 9 || x == 10

/-- The longest runs of other bytes; cur is what is read of the one at hand. -/
def words : List UInt8 → List UInt8 → List (List UInt8)
  | [], cur => if cur = [] then [] else [cur]
  | c :: t, cur => if isB c then (if cur = [] then words t [] else cur :: words t []) else words t (cur ++ [c])

/-- Go's spans, byte by byte. -/
def spB : List UInt8 → Nat → Option Nat → List (Nat × Nat) → List (Nat × Nat) × Option Nat
  | [], _, st, acc => (acc, st)
  | c :: t, pos, st, acc =>
    if isB c then (match st with | some a => spB t (pos + 1) none (acc ++ [(a, pos)]) | none => spB t (pos + 1) none acc)
    else (match st with | some a => spB t (pos + 1) (some a) acc | none => spB t (pos + 1) (some pos) acc)

theorem spB_skip : ∀ (q t : List UInt8) (pos a : Nat) (acc : List (Nat × Nat)), (∀ c ∈ q, isB c = false) → spB (q ++ t) pos (some a) acc = spB t (pos + q.length) (some a) acc
  | [], t, pos, a, acc, _ => by simp
  | c :: q, t, pos, a, acc, h => by
    have h0 := h c (by simp)
    simp only [List.cons_append, spB, h0, Bool.false_eq_true, if_false]
    rw [spB_skip q t (pos + 1) a acc (fun x hx => h x (by simp [hx]))]
    congr 1
    simp only [List.length_cons]
    omega

theorem spB_open (c : UInt8) (q t : List UInt8) (pos : Nat) (st : Option Nat) (acc : List (Nat × Nat)) (h : ∀ x ∈ c :: q, isB x = false) :
    spB (c :: q ++ t) pos st acc = spB t (pos + (c :: q).length) (some (st.getD pos)) acc := by
  have h0 := h c (by simp)
  have hq : ∀ x ∈ q, isB x = false := fun x hx => h x (by simp [hx])
  cases st with
  | none =>
    simp only [List.cons_append, spB, h0, Bool.false_eq_true, if_false, Option.getD_none]
    rw [spB_skip q t (pos + 1) pos acc hq]
    congr 1
    simp only [List.length_cons]
    omega
  | some a =>
    simp only [List.cons_append, spB, h0, Bool.false_eq_true, if_false, Option.getD_some]
    rw [spB_skip q t (pos + 1) a acc hq]
    congr 1
    simp only [List.length_cons]
    omega

/-- What is decoded at a list's first place: one byte below 128, or bytes of which none is. -/
theorem decode_two (l : List UInt8) (c : UInt8) (t : List UInt8) (hl : l = c :: t) :
    (c.toNat < 128 ∧ decodeL l = (c.toNat, 1)) ∨ (128 ≤ (decodeL l).1 ∧ 1 ≤ (decodeL l).2 ∧ (decodeL l).2 ≤ l.length ∧ ∀ x ∈ l.take (decodeL l).2, 128 ≤ x.toNat) := by
  by_cases hc : c.toNat < 128
  · refine .inl ⟨hc, ?_⟩
    subst hl
    exact decodeL_ascii c t hc
  · right
    have hlen : 0 < l.length := by subst hl; simp
    have hw := decodeL_width l
    have hN := decodeL_N l
    have hcs := decodeN_conts l.length (l.getD 0 0).toNat (l.getD 1 0).toNat (l.getD 2 0).toNat (l.getD 3 0).toNat
    rw [← hN] at hcs
    obtain ⟨c2, c3, c4, c5⟩ := hcs
    have h0 : (l.getD 0 0).toNat = c.toNat := by subst hl; rfl
    have hr : 128 ≤ (decodeL l).1 := by
      rw [hN]
      unfold decodeN
      rw [if_neg (by omega)]
      repeat' split
      all_goals (simp only; omega)
    refine ⟨hr, hw, by omega, ?_⟩
    intro x hx
    obtain ⟨j, hj, hxj⟩ := List.getElem_of_mem hx
    rw [List.length_take] at hj
    rw [List.getElem_take] at hxj
    have hgd : l.getD j 0 = x := by rw [List.getD_eq_getElem?_getD, List.getElem?_eq_getElem (by omega), Option.getD_some, hxj]
    match j, hj, hgd with
    | 0, _, hgd => rw [← hgd, h0]; omega
    | 1, hj, hgd => have := (c2 (by omega)).1; rw [hgd] at this; omega
    | 2, hj, hgd => have := (c3 (by omega)).1; rw [hgd] at this; omega
    | 3, hj, hgd => have := (c4 (by omega)).1; rw [hgd] at this; omega
    | j + 4, hj, _ => omega

theorem isB_great (x : UInt8) (h : 128 ≤ x.toNat) : isB x = false := by
  unfold isB
  simp only [Bool.or_eq_false_iff, beq_eq_false_iff_ne, ne_eq]
  omega
theorem pB_great (x : Nat) (h : 128 ≤ x) : pB x = false := by
  unfold pB
  simp only [Bool.or_eq_false_iff, beq_eq_false_iff_ne, ne_eq]
  omega

theorem spans_eq (s : ByteArray) : ∀ (f pos : Nat) (st : Option Nat) (acc : List (Nat × Nat)), s.size ≤ pos + f → spansFromP pB s f pos st acc = spB (s.data.toList.drop pos) pos st acc
  | 0, pos, st, acc, h => by
    have : s.data.toList.drop pos = [] := List.drop_eq_nil_of_le (by simp; omega)
    rw [this]
    rfl
  | f + 1, pos, st, acc, h => by
    by_cases hp : pos < s.size
    · have hd : decodeL (s.data.toList.drop pos) = Utf8.decode s pos := decodeL_drop s pos
      have hlt : pos < s.data.toList.length := by simpa using hp
      obtain ⟨c, t, hct⟩ : ∃ c t, s.data.toList.drop pos = c :: t := ⟨_, _, List.drop_eq_getElem_cons hlt⟩
      have hnext : ∀ k, (s.data.toList.drop pos).drop k = s.data.toList.drop (pos + k) := fun k => by rw [List.drop_drop]
      unfold spansFromP
      rw [if_pos hp, ← hd]
      rcases decode_two _ c t hct with ⟨hc, he⟩ | ⟨hr, hw, hle, hall⟩
      · rw [he]
        have ht : s.data.toList.drop (pos + 1) = t := by rw [← hnext 1, hct]; rfl
        have hpb : pB c.toNat = isB c := rfl
        simp only [hpb]
        rw [hct]
        cases hb : isB c
        · simp only [Bool.false_eq_true, if_false, spB, hb]
          cases st <;> simp only <;> rw [spans_eq s f _ _ _ (by omega), ht]
        · simp only [if_true, spB, hb]
          cases st <;> simp only <;> rw [spans_eq s f _ _ _ (by omega), ht]
      · rw [pB_great _ hr]
        simp only [Bool.false_eq_true, if_false]
        obtain ⟨q, hq⟩ : ∃ q, (s.data.toList.drop pos).take (decodeL (s.data.toList.drop pos)).2 = c :: q := by
          rw [hct] at hw ⊢
          obtain ⟨k, hk⟩ : ∃ k, (decodeL (c :: t)).2 = k + 1 := ⟨(decodeL (c :: t)).2 - 1, by omega⟩
          rw [hk]
          exact ⟨_, rfl⟩
        have hsplit : s.data.toList.drop pos = (c :: q) ++ s.data.toList.drop (pos + (decodeL (s.data.toList.drop pos)).2) := by
          rw [← hq, ← hnext, List.take_append_drop]
        have hlq : (c :: q).length = (decodeL (s.data.toList.drop pos)).2 := by
          rw [← hq, List.length_take]
          omega
        have hnb : ∀ x ∈ c :: q, isB x = false := fun x hx => isB_great x (hall x (by rw [hq]; exact hx))
        generalize hk : (decodeL (s.data.toList.drop pos)).2 = k at *
        have : spB (s.data.toList.drop pos) pos st acc = spB (s.data.toList.drop (pos + k)) (pos + k) (some (st.getD pos)) acc := by
          rw [hsplit, spB_open c q _ pos st acc hnb, hlq]
        rw [this]
        cases st <;> simp only [Option.getD_none, Option.getD_some] <;> rw [spans_eq s f _ _ _ (by omega)]
    · have : s.data.toList.drop pos = [] := List.drop_eq_nil_of_le (by simp; omega)
      rw [this, spansFromP_end pB s _ pos st acc hp]
      rfl

theorem words_sp (l : List UInt8) : ∀ (r : List UInt8) (pos : Nat) (st : Option Nat) (acc : List (Nat × Nat)), l.drop pos = r → pos + r.length = l.length → (∀ a, st = some a → a < pos) →
    ((match (spB r pos st acc).2 with | some a => (spB r pos st acc).1 ++ [(a, l.length)] | none => (spB r pos st acc).1).map fun p : Nat × Nat => pieceU l p.1 p.2) = acc.map (fun p => pieceU l p.1 p.2) ++ words r (openPiece l st pos)
  | [], pos, st, acc, hr, hp, hst => by
    simp only [List.length_nil, Nat.add_zero] at hp
    cases st with
    | none => simp [spB, words, openPiece]
    | some a =>
      have ha := hst a rfl
      have hne := pieceU_ne l a pos ha (by omega)
      subst hp
      simp [spB, words, openPiece, hne]
  | c :: t, pos, st, acc, hr, hp, hst => by
    simp only [List.length_cons] at hp
    have hlt : pos < l.length := by omega
    have ht : l.drop (pos + 1) = t := by rw [← List.drop_drop, hr]; rfl
    have hgrow : ∀ a, a ≤ pos → pieceU l a pos ++ [c] = pieceU l a (pos + 1) := fun a ha => by
      rw [← pieceU_grow l a pos 1 ha, hr]; rfl
    cases hb : isB c
    · cases st with
      | none =>
        have ih := words_sp l t (pos + 1) (some pos) acc ht (by omega) (fun a h => by cases h; omega)
        simp only [spB, hb, Bool.false_eq_true, if_false, words, openPiece, List.nil_append] at ih ⊢
        rw [ih, ← hgrow pos (Nat.le_refl _)]
        congr 2
        unfold pieceU
        simp
      | some a =>
        have ha := hst a rfl
        have ih := words_sp l t (pos + 1) (some a) acc ht (by omega) (fun b h => by cases h; omega)
        simp only [spB, hb, Bool.false_eq_true, if_false, words, openPiece] at ih ⊢
        rw [ih, ← hgrow a (by omega)]
    · cases st with
      | none =>
        have ih := words_sp l t (pos + 1) none acc ht (by omega) (fun b h => by cases h)
        simp only [spB, hb, if_true, words, openPiece] at ih ⊢
        exact ih
      | some a =>
        have ha := hst a rfl
        have hne := pieceU_ne l a pos ha (by omega)
        have ih := words_sp l t (pos + 1) none (acc ++ [(a, pos)]) ht (by omega) (fun b h => by cases h)
        have e : words (c :: t) (openPiece l (some a) pos) = pieceU l a pos :: words t [] := by
          show words (c :: t) (pieceU l a pos) = _
          simp only [words, hb, if_true, if_neg hne]
        rw [e]
        simp only [spB, hb, if_true, openPiece] at ih ⊢
        rw [ih, List.map_append]
        simp

/-- strings.FieldsFunc at the three blanks, byte by byte. -/
theorem fields_words (s : ByteArray) : (goFieldsP pB s).map (·.data.toList) = words s.data.toList [] := by
  have h := words_sp s.data.toList s.data.toList 0 none [] (by simp) (by simp) (fun a h => by cases h)
  simp only [List.map_nil, List.nil_append, openPiece] at h
  rw [← h]
  unfold goFieldsP spansOfP closeSpans
  rw [spans_eq s s.size 0 none [] (by omega), List.drop_zero, List.map_map]
  have hsz : s.data.toList.length = s.size := by simp
  have hext : ∀ p : Nat × Nat, ((fun b : ByteArray => b.data.toList) ∘ fun x : Nat × Nat => s.extract x.1 x.2) p = pieceU s.data.toList p.1 p.2 := fun p => by
    simp [pieceU, ByteArray.data_extract, Array.toList_extract, List.extract_eq_take_drop]
  rw [hsz]
  cases (spB s.data.toList 0 none []).2 <;> (simp only; exact List.map_congr_left fun p _ => hext p)




theorem words_len : ∀ (l cur : List UInt8), (words l cur).length ≤ l.length + 1
  | [], cur => by unfold words; split <;> simp
  | c :: t, cur => by
    have ih := words_len t []
    have ih2 := words_len t (cur ++ [c])
    unfold words
    split
    · split <;> simp only [List.length_cons] <;> omega
    · simp only [List.length_cons]; omega

/-- What stands between bytes b; cur is what is read of the one at hand. -/
def parts (b : UInt8) : List UInt8 → List UInt8 → List (List UInt8)
  | [], cur => [cur]
  | c :: t, cur => if c = b then cur :: parts b t [] else parts b t (cur ++ [c])



end Go.Proofs.YtbfekknhmjndaaaGreat.fldp

namespace Go.Proofs.YtbfekknhmjndaaaGreat.flds
set_option linter.unusedVariables false set_option linter.unusedSimpArgs false
open Go.ChangeShapes Go.WideShapes Go.ChangeAt Go.RowKit Go.Proofs.YtbfekknhmjndaaaGreat.base Go.Proofs.YtbfekknhmjndaaaGreat.fldp

theorem info_str : (Tryz.prog.info? 9).map (fun i => (i.zero, i.size, i.bytes)) = some (some (.string ⟨#[]⟩), 1, 16) := by kernel_rfl

/-- v is a slice of texts of the call's own, from block B on. -/
def OwnS (w : World) (B : Nat) (v : Value) (L : List ByteArray) : Prop := w.ownsRow B 9 1 v L.length (L.map Value.string)
/-- v is a slice that reads as these texts. -/
def RdS (w : World) (v : Value) (L : List ByteArray) : Prop :=
  ∃ p c, v = .slice p L.length c ∧ (L = [] ∨ ∃ g o, p = some ⟨g, o, none⟩ ∧ ∀ k x, L[k]? = some x → w.cell? ⟨g, o + k, none⟩ = some (.string x))

theorem OwnS.rd {w : World} {B : Nat} {v : Value} {L : List ByteArray} (h : OwnS w B v L) : RdS w v L := by
  rcases h.2 with ⟨rfl, h0⟩ | ⟨g, cap, cur, rfl, hb, hg, rest⟩
  · obtain rfl := List.eq_nil_of_length_eq_zero h0
    exact ⟨none, 0, rfl, .inl rfl⟩
  · refine ⟨_, cap, rfl, .inr ⟨g, 0, rfl, fun k x hx => ?_⟩⟩
    have := World.ownsRow.cells h (g := g) rfl k (.string x) (by rw [List.getElem?_map, hx]; rfl)
    rw [Addr.add_lit] at this
    exact this
theorem OwnS.below {w w' : World} {B : Nat} {v : Value} {L : List ByteArray} (h : OwnS w B v L) (hb : Below w.heap.size w w') : OwnS w' B v L :=
  World.ownsRow.kept (row := none) h ⟨hb.os, hb.tape, hb.output, hb.size, fun k hk _ => hb.block k hk⟩ (Classical.em _)
theorem OwnS.mono {w : World} {B B' : Nat} {v : Value} {L : List ByteArray} (h : OwnS w B v L) (hb : B' ≤ B) : OwnS w B' v L := by
  refine ⟨h.1, ?_⟩
  rcases h.2 with h0 | ⟨g, cap, cur, hv, hg, r⟩
  · exact .inl h0
  · exact .inr ⟨g, cap, cur, hv, Nat.le_trans hb hg, r⟩
theorem OwnS.nil (w : World) (B : Nat) : OwnS w B (.slice none 0 0) [] := World.ownsRow_nil _ _ _ _
theorem OwnS.frm {S : Nat → Prop} {w w' : World} {B : Nat} {v : Value} {L : List ByteArray} (h : OwnS w B v L) (hf : Frm S w w') (hs : ∀ k, v.ownBlock = some k → ¬ S k) : OwnS w' B v L := by
  refine ⟨h.1, ?_⟩
  rcases h.2 with h0 | ⟨g, cap, cur, hv, hb, hg, r⟩
  · exact .inl h0
  · refine .inr ⟨g, cap, cur, hv, hb, ?_, r⟩
    rw [hf.block g (Array.getElem?_eq_some_iff.1 hg).1 (hs g (by rw [hv]; rfl))]
    exact hg

theorem cell_lt {w : World} {p : Addr} {v : Value} (h : w.cell? p = some v) : p.block < w.heap.size := World.block_lt_of_cell? w _ h
theorem cell_move {w w' : World} {p : Addr} {v : Value} (h : w.cell? p = some v) (hf : Frm No w w') : w'.cell? p = some v := by
  have hl := cell_lt h
  simp only [World.cell?] at h ⊢
  rw [hf.block p.block hl (fun h => h)]
  exact h
theorem RdS.move {w w' : World} {v : Value} {L : List ByteArray} (h : RdS w v L) (hf : Frm No w w') : RdS w' v L := by
  obtain ⟨p, c, rfl, h⟩ := h
  refine ⟨p, c, rfl, ?_⟩
  rcases h with h | ⟨g, o, hp, h⟩
  · exact .inl h
  · exact .inr ⟨g, o, hp, fun k x hx => cell_move (h k x hx) hf⟩


theorem str_ne {x y : ByteArray} (h : x = y) : (!(x.toList == y.toList)) = false := by subst h; simp

theorem clone_c (s : ByteArray) (w : World) (hs : s.size ≤ 140737488355328) :
    Calls Tryz.prog 15 #[.string s] w fun e w' => e = .returned (.string s) ∧ Below w.heap.size w w' := by
  have HC := Lib.hid (Tryz.stringslite_Clone s w (by omega))
  clear hs
  go_enter Tryz.func15, Tryz.ntmps15
  go_wp2_with (go_at_call 23; go_must (refine HC.out.mono ?_; rintro e w1 ⟨rfl, hb1⟩))
  go_ret
  exact ⟨rfl, hb1⟩

theorem blank_pays (w : World) : PredAtRunes Tryz.prog 27 #[] pB w := by
  intro W x hx hb
  show Calls Tryz.prog 27 #[.int .i32 (x : Int)] W _
  have HP : pB x = (((x : Int) == 32) || ((x : Int) == 9) || ((x : Int) == 10)) := by
    unfold pB
    rw [Bool.eq_iff_iff]
    simp only [Bool.or_eq_true, beq_iff_eq]
    omega
  rw [HP]
  have hx0 : (0 : Int) ≤ (x : Int) := by omega
  have hx1 : (x : Int) ≤ 1114111 := by omega
  generalize (x : Int) = n at *
  clear hb HP hx
  go_enter Tryz.func27, Tryz.ntmps27
  go_wp2
  all_goals
    go_ret
    refine ⟨ret_bool ?_, 0, rfl⟩
    simp_all

set_option maxHeartbeats 1000000 in
/-- parted at a blank. -/
theorem parted_blank (s : ByteArray) (lines : Bool) (w : World) (hs : s.size ≤ 1000000) :
    Calls Tryz.prog 16 #[.string s, .string ⟨#[32]⟩, .bool lines] w fun e w' => ∃ v, e = .returned (.tuple #[v, .bool true]) ∧ OwnS w' w.heap.size v (Lib.goFieldsP pB s) ∧ Below w.heap.size w w' := by
  by_cases h0 : s.size = 0
  · obtain rfl : s = ⟨#[]⟩ := by
      apply ByteArray.ext
      exact Array.eq_empty_of_size_eq_zero h0
    go_enter Tryz.func16, Tryz.ntmps16
    go_wp2
    go_ret2
    exact ⟨_, rfl, OwnS.nil _ _, Below.refl _ _⟩
  · have hne : (s.toList == []) = false := by
      rw [beq_eq_false_iff_ne]
      intro e
      rw [Lib.toList_data] at e
      exact h0 (by have := congrArg List.length e; simpa using this)
    have HF := Lib.hid (Tryz.strings_FieldsFunc_runes 27 #[] (enters_of Tryz.func27 (by kernel_rfl) rfl) pB s w (by omega) (blank_pays w))
    clear h0 hs
    go_enter Tryz.func16, Tryz.ntmps16
    go_wp2_with (go_at_call 26; go_must (refine HF.out.mono ?_; rintro e w1 ⟨A, rfl, hA, hown, hb1⟩))
    go_ret2
    exact ⟨_, rfl, hown, hb1⟩

end Go.Proofs.YtbfekknhmjndaaaGreat.flds

namespace Go.Proofs.YtbfekknhmjndaaaGreat.flds
set_option linter.unusedVariables false set_option linter.unusedSimpArgs false
open Go.ChangeShapes Go.WideShapes Go.ChangeAt Go.RowKit Go.Proofs.YtbfekknhmjndaaaGreat.base Go.Proofs.YtbfekknhmjndaaaGreat.fldp

/-- Block R holds a record: this line, and the slice v of these fields. -/
def RecV (w : World) (B R : Nat) (v : Value) (line : ByteArray) (L : List ByteArray) : Prop :=
  Box w R 44 #[.string line, v] ∧ OwnS w B v L ∧ B ≤ R

/-- The record's block and its fields'. -/
def At2v (R : Nat) (v : Value) : Nat → Prop := fun k => k = R ∨ v.ownBlock = some k

theorem OwnS.form {w : World} {B : Nat} {v : Value} {L : List ByteArray} (h : OwnS w B v L) : ∃ a c, v = .slice a L.length c := by
  rcases h.2 with ⟨rfl, h0⟩ | ⟨g, cap, cur, rfl, _⟩
  · rw [h0]; exact ⟨_, _, rfl⟩
  · exact ⟨_, _, rfl⟩
theorem OwnS.ty {w : World} {B g : Nat} {v : Value} {L : List ByteArray} (h : OwnS w B v L) (hg : v.ownBlock = some g) : ∃ cur, w.heap[g]? = some (.cells cur 9 (0, 0)) := by
  rcases h.2 with ⟨rfl, h0⟩ | ⟨g', cap, cur, rfl, hb, hh, _⟩
  · cases hg
  · cases hg; exact ⟨cur, hh⟩
theorem RecV.apart {w : World} {B R : Nat} {v : Value} {line : ByteArray} {L : List ByteArray} (h : RecV w B R v line L) : v.ownBlock ≠ some R := by
  intro e
  obtain ⟨cur, hc⟩ := h.2.1.ty e
  have hb : w.heap[R]? = _ := h.1
  rw [hb] at hc
  injection hc with hc
  injection hc with _ ht
  revert ht
  decide
theorem RecV.frm {S : Nat → Prop} {w w' : World} {B R : Nat} {v : Value} {line : ByteArray} {L : List ByteArray} (h : RecV w B R v line L) (hf : Frm S w w') (hs : ∀ k, At2v R v k → ¬ S k) : RecV w' B R v line L :=
  ⟨h.1.frm hf (hs R (.inl rfl)), h.2.1.frm hf (fun k e => hs k (.inr e)), h.2.2⟩
theorem RecV.lt {w : World} {B R : Nat} {v : Value} {line : ByteArray} {L : List ByteArray} (h : RecV w B R v line L) : ∀ k, At2v R v k → B ≤ k ∧ k < w.heap.size := by
  intro k hk
  rcases hk with rfl | hk
  · exact ⟨h.2.2, h.1.lt⟩
  · exact World.ownsRow.lt h.2.1 k hk

theorem nf_all (w : World) (B R : Nat) (v : Value) (line : ByteArray) (L : List ByteArray) (h : RecV w B R v line L) :
    Calls Tryz.prog 7 #[.pointer (some ⟨R, 0, none⟩)] w fun e w' => e = .returned (.int .i64 L.length) ∧ w' = w := by
  obtain ⟨a, c, rfl⟩ := h.2.1.form
  have c0 := h.1.cell 0
  have c1 := h.1.cell 1
  clear h
  go_enter Tryz.func7, Tryz.ntmps7
  go_wp2
  go_ret
  exact ⟨rfl, rfl⟩

theorem line_all (w : World) (B R : Nat) (v : Value) (line : ByteArray) (L : List ByteArray) (h : RecV w B R v line L) :
    Calls Tryz.prog 8 #[.pointer (some ⟨R, 0, none⟩)] w fun e w' => e = .returned (.string line) ∧ w' = w := by
  obtain ⟨a, c, rfl⟩ := h.2.1.form
  have c0 := h.1.cell 0
  have c1 := h.1.cell 1
  clear h
  go_enter Tryz.func8, Tryz.ntmps8
  go_wp2
  go_ret
  exact ⟨rfl, rfl⟩

/-- May n be a count of fields? -/
def mayH (n : Int) (k : Nat) : Bool := decide (0 ≤ n ∧ n ≤ max 1000 (k : Int))

theorem mayHave_all (w : World) (B R : Nat) (v : Value) (line : ByteArray) (L : List ByteArray) (h : RecV w B R v line L) (n : Int) (hn : -9223372036854775808 ≤ n) (hn2 : n ≤ 9223372036854775807) :
    Calls Tryz.prog 19 #[.pointer (some ⟨R, 0, none⟩), .int .i64 n] w fun e w' => e = .returned (.bool (mayH n L.length)) ∧ w' = w := by
  obtain ⟨a, c, rfl⟩ := h.2.1.form
  have c0 := h.1.cell 0
  have c1 := h.1.cell 1
  have HM := Lib.hid (show mayH n L.length = decide (0 ≤ n ∧ n ≤ max 1000 (L.length : Int)) from rfl)
  clear h
  go_enter Tryz.func19, Tryz.ntmps19
  go_wp2
  all_goals
    go_ret
    refine ⟨ret_bool ?_, rfl⟩
    rw [HM.out]
    simp
    omega

/-- What Get answers. -/
def getR (line : ByteArray) (L : List ByteArray) (i : Int) : ByteArray × Bool :=
  if mayH i L.length then (if i = 0 then (line, true) else if (L.length : Int) < i then (⟨#[]⟩, true) else (L.getD (i.toNat - 1) ⟨#[]⟩, true)) else (⟨#[]⟩, false)

theorem RecV.cellAt {w : World} {B R : Nat} {a : Option Addr} {n c : Nat} {line : ByteArray} {L : List ByteArray} (h : RecV w B R (.slice a n c) line L) (hn : n = L.length) (j : Nat) (hj : j < L.length) :
    ∃ g, a = some ⟨g, 0, none⟩ ∧ w.cell? ⟨g, j, none⟩ = some (.string (L.getD j ⟨#[]⟩)) := by
  obtain ⟨p, c', hv, hr⟩ := h.2.1.rd
  injection hv with h1 h2 h3
  subst h1
  rcases h.2.1.2 with ⟨h0, h0'⟩ | ⟨g, cap, cur, hv, hb, hg, _⟩
  · omega
  · injection hv with h1 h2 h3
    subst h1
    rcases hr with hr | ⟨g', o, hp, hr⟩
    · subst hr; simp at hj
    · injection hp with hp
      injection hp with h4 h5
      subst h4 h5
      have := hr j L[j] (List.getElem?_eq_getElem hj)
      rw [Nat.zero_add] at this
      exact ⟨g, rfl, by rw [List.getD_eq_getElem?_getD, List.getElem?_eq_getElem hj]; exact this⟩

set_option maxHeartbeats 1000000 in
theorem get_all (w : World) (B R : Nat) (v : Value) (line : ByteArray) (L : List ByteArray) (h : RecV w B R v line L) (n : Int) (hn : -9223372036854775808 ≤ n) (hn2 : n ≤ 9223372036854775807) (hL : L.length ≤ 1000000) :
    Calls Tryz.prog 13 #[.pointer (some ⟨R, 0, none⟩), .int .i64 n] w fun e w' => e = .returned (.tuple #[.string (getR line L n).1, .bool (getR line L n).2]) ∧ w' = w := by
  obtain ⟨a, c, rfl⟩ := h.2.1.form
  have c0 := h.1.cell 0
  have c1 := h.1.cell 1
  have HH := Lib.hid (mayHave_all w B R _ line L h n hn hn2)
  cases hm : mayH n L.length
  · have HG := Lib.hid (show getR line L n = (⟨#[]⟩, false) by unfold getR; rw [hm]; rfl)
    rw [HG.out]
    rw [hm] at HH
    clear h hm hn hn2
    go_enter Tryz.func13, Tryz.ntmps13
    go_wp2_with (go_at_call 19; go_must (refine HH.out.mono ?_; rintro e w1 ⟨rfl, rfl⟩))
    go_ret2
    exact ⟨rfl, rfl⟩
  · have hm' := hm
    unfold mayH at hm'
    simp only [decide_eq_true_eq] at hm'
    by_cases h0 : n = 0
    · have HG := Lib.hid (show getR line L n = (line, true) by unfold getR; rw [hm, if_pos rfl, if_pos h0])
      rw [HG.out]
      rw [hm] at HH
      subst h0
      clear h hm hn hn2 hm'
      go_enter Tryz.func13, Tryz.ntmps13
      go_wp2_with (go_at_call 19; go_must (refine HH.out.mono ?_; rintro e w1 ⟨rfl, rfl⟩))
      go_ret2
      exact ⟨rfl, rfl⟩
    · by_cases hgt : (L.length : Int) < n
      · have HG := Lib.hid (show getR line L n = (⟨#[]⟩, true) by unfold getR; rw [hm, if_pos rfl, if_neg h0, if_pos hgt])
        rw [HG.out]
        rw [hm] at HH
        clear h hm hn hn2 hm'
        go_enter Tryz.func13, Tryz.ntmps13
        go_wp2_with (go_at_call 19; go_must (refine HH.out.mono ?_; rintro e w1 ⟨rfl, rfl⟩))
        go_ret2
        exact ⟨rfl, rfl⟩
      · have HG := Lib.hid (show getR line L n = (L.getD (n.toNat - 1) ⟨#[]⟩, true) by unfold getR; rw [hm, if_pos rfl, if_neg h0, if_neg hgt])
        rw [HG.out]
        rw [hm] at HH
        obtain ⟨g, rfl, hc⟩ := h.cellAt rfl (n.toNat - 1) (by omega)
        obtain ⟨j, hj⟩ : ∃ j : Nat, n.toNat - 1 = j := ⟨_, rfl⟩
        rw [hj] at hc ⊢
        obtain rfl : n = (j : Int) + 1 := by omega
        have hj1 : (j : Int) < (L.length : Int) := by omega
        have hj2 : (j : Int) ≤ 1000000 := by omega
        generalize L.getD j ⟨#[]⟩ = x at hc ⊢
        clear h hm hn hn2 hm' HG hj
        go_enter Tryz.func13, Tryz.ntmps13
        go_wp2_with (go_at_call 19; go_must (refine HH.out.mono ?_; rintro e w1 ⟨rfl, rfl⟩))
        go_ret2
        exact ⟨rfl, rfl⟩

/-- n fields: the last ones taken away, or empty ones put behind. -/
def resz (L : List ByteArray) (n : Nat) : List ByteArray := L.take n ++ List.replicate (n - L.length) ⟨#[]⟩

theorem OwnS.cut {w : World} {B : Nat} {a : Option Addr} {m c : Nat} {L : List ByteArray} (h : OwnS w B (.slice a m c) L) (hm : m = L.length) (n : Nat) (hn : n ≤ L.length) : OwnS w B (.slice a n c) (L.take n) := by
  subst hm
  have hl : (L.take n).length = n := by rw [List.length_take]; omega
  refine ⟨by simp, ?_⟩
  rw [hl]
  rcases h.2 with ⟨hv, h0⟩ | ⟨g, cap, cur, hv, hb, hg, h1, h2, h3, h4⟩
  · injection hv with h5 h6 h7
    subst h5 h7
    exact .inl ⟨by rw [show n = 0 by omega], by omega⟩
  · injection hv with h5 h6 h7
    subst h5 h7
    refine .inr ⟨g, _, cur, rfl, hb, hg, by omega, h2, h3, ?_⟩
    rw [Nat.mul_one] at h4 ⊢
    rw [List.map_take, ← h4, List.take_take, Nat.min_eq_left hn]

theorem OwnS.cap {w : World} {B : Nat} {a : Option Addr} {m c : Nat} {L : List ByteArray} (h : OwnS w B (.slice a m c) L) : (a = none ∧ L = [] ∧ c = 0) ∨ ∃ g, a = some ⟨g, 0, none⟩ ∧ L.length ≤ c ∧ g < w.heap.size := by
  rcases h.2 with ⟨hv, h0⟩ | ⟨g, cap, cur, hv, hb, hg, h1, h2, h3, h4⟩
  · injection hv with h5 h6 h7
    exact .inl ⟨h5, List.eq_nil_of_length_eq_zero h0, h7⟩
  · injection hv with h5 h6 h7
    subst h7
    exact .inr ⟨g, h5, h1, (Array.getElem?_eq_some_iff.1 hg).1⟩

theorem rep_snoc (L : List ByteArray) (j : Nat) : L ++ List.replicate (j + 1) ⟨#[]⟩ = (L ++ List.replicate j ⟨#[]⟩) ++ [⟨#[]⟩] := by
  rw [List.replicate_succ', List.append_assoc]

theorem resz_take (L : List ByteArray) (n j : Nat) (h1 : n ≤ L.length + j) (h2 : j ≤ n - L.length) : (L ++ List.replicate j (⟨#[]⟩ : ByteArray)).take n = resz L n := by
  unfold resz
  rw [List.take_append, List.take_replicate]
  congr 2
  omega

set_option maxHeartbeats 2000000 in
set_option maxRecDepth 20000 in
theorem resize_all (w : World) (B R : Nat) (v : Value) (line : ByteArray) (L : List ByteArray) (h : RecV w B R v line L) (n : Nat) (hn : n ≤ 1000000) (hL : L.length ≤ 1000000) :
    Calls Tryz.prog 20 #[.pointer (some ⟨R, 0, none⟩), .int .i64 n] w fun e w' => e = .returned (.tuple #[]) ∧
      ∃ v', RecV w' B R v' line (resz L n) ∧ Frm (At2v R v) w w' ∧ (∀ k, v'.ownBlock = some k → v.ownBlock = some k ∨ w.heap.size ≤ k) := by
  obtain ⟨i0, hi, hz0, hz1, hz2⟩ := info_parts info_str
  have H := Lib.hid h
  have hRl := h.1.lt
  have hBR := h.2.2
  clear h
  go_enter Tryz.func20, Tryz.ntmps20
  go_wp2
  go_loopg [] (n - L.length) (fun gf wx => ∃ (j : Nat) (v' : Value), n - L.length = gf + j ∧ RecV wx B R v' line (L ++ List.replicate j ⟨#[]⟩) ∧ Frm (At2v R v) w wx ∧ (∀ k, v'.ownBlock = some k → v.ownBlock = some k ∨ w.heap.size ≤ k))
  case atStart => exact ⟨0, v, rfl, by simpa using H.out, Frm.refl _ _, fun k e => .inl e⟩
  case round =>
    obtain ⟨j, v', hgk, hrec, hf, hob⟩ := hrel
    obtain ⟨a, c, hv⟩ := hrec.2.1.form
    have hlen : (L ++ List.replicate j (⟨#[]⟩ : ByteArray)).length = L.length + j := by simp
    rw [hlen] at hv
    have hne := hrec.apart
    subst hv
    have HREC := Lib.hid hrec
    have HF := Lib.hid hf
    have HOB := Lib.hid hob
    have c1 := hrec.1.cell 1
    have hRw := hrec.1.lt
    have hsz := hf.size
    obtain ⟨m, hm⟩ : ∃ m, L.length + j = m := ⟨_, rfl⟩
    have hmk : n - L.length = gk + j := hgk
    have HNE := Lib.hid hne
    rw [hm] at c1 HREC HOB HNE
    clear hrec hf hob hgk hne
    by_cases hlt : m < n
    · have hltI : (m : Int) < (n : Int) := by omega
      have hwN : w.heap.size ≤ wr.heap.size := hsz
      obtain ⟨XS, hXS⟩ : ∃ XS, L ++ List.replicate j (⟨#[]⟩ : ByteArray) = XS := ⟨_, rfl⟩
      have HXS := Lib.hid hXS
      have hxl : XS.length = m := by rw [← hXS, hlen, hm]
      rw [hXS] at HREC
      have HOWN := Lib.hid (show wr.ownsRow B 9 1 (.slice a m c) m (XS.map Value.string) by have := HREC.out.2.1; unfold OwnS at this; rw [hxl] at this; exact this)
      clear hXS hlen
      go_wp2_with ((refine wpList_append_lies _ rfl _ _ _ rfl B 9 i0 (.string ⟨#[]⟩) 1 16 Tryz.underlying27 hi hz0 hz1 hz2 rfl (by decide) (.slice a m c) m (XS.map Value.string) rfl (World.ownsRow.alloc HOWN.out _) ⟨wr.heap.size, 0, none⟩ 1 1 [.string ⟨#[]⟩] rfl rfl (World.news_of_block (heap_alloc_new wr _)) (by simp [Value.oneCell']) (by omega) (by unfold maxLen; omega) (by omega) (by simp; omega) (wr.heap.size + 1) (by simp) ?_; intro g gcap w5 hown5 hgrow hat hlt5; have f2 : w5.frozen? ⟨R, 1, none⟩ = false := (hgrow.frozen_far _ (by simp; omega) (Ne.symm HNE.out)).trans (by exact (HREC.out.1.alloc _).f 1); have e2 : w5.cell? ⟨R, 1, none⟩ = some (.slice a m c) := (hgrow.cell_far _ (by simp; omega) (Ne.symm HNE.out)).trans (by exact (HREC.out.1.alloc _).cell 1)))
      go_roundg (n - L.length - (j + 1))
      case measure => omega
      case rel =>
        have hFw : Frm (fun k => (Value.slice a m c).ownBlock = some k) wr w5 := ((Frm.refl _ wr).alloc _).grown hgrow (fun k h _ => h)
        have hR2 : g ≠ R := by
          rcases hat with hat | hat
          · intro e; subst e; exact HNE.out hat
          · omega
        have hbox : Box (w5.setCell ⟨R, 1, none⟩ (.slice (some ⟨g, 0, none⟩) (m + 1) gcap)) R 44 #[.string line, .slice (some ⟨g, 0, none⟩) (m + 1) gcap] := by
          have h5 : Box w5 R 44 #[.string line, .slice a m c] := HREC.out.1.frm hFw HNE.out
          exact h5.set 1 _
        refine ⟨j + 1, .slice (some ⟨g, 0, none⟩) (m + 1) gcap, by omega, ⟨hbox, ?_, HREC.out.2.2⟩, ?_, ?_⟩
        · rw [rep_snoc, HXS.out]
          have ho5 : OwnS w5 B (.slice (some ⟨g, 0, none⟩) (m + 1) gcap) (XS ++ [⟨#[]⟩]) := by
            unfold OwnS
            rw [List.length_append, hxl, List.map_append]
            exact hown5
          exact ho5.frm (S := At R) ((Frm.refl _ w5).setCell _ _ (fun _ => rfl)) (fun k e h => hR2 (by injection e with e; exact e.trans h))
        · refine (HF.out.then hFw (fun k hk e => ?_)).setCell _ _ (fun _ => .inl rfl)
          rcases HOB.out k e with h | h
          · exact .inr h
          · omega
        · intro k e
          injection e with e
          subst e
          rcases hat with hat | hat
          · exact HOB.out _ hat
          · right
            show w.heap.size ≤ g
            omega
    · have hge : (n : Int) ≤ (m : Int) := by omega
      have hn0 : (0 : Int) ≤ (n : Int) := by omega
      have HX := Lib.hid (resz_take L n j (by omega) (by omega))
      have HM := Lib.hid hm
      have hcut := HREC.out.2.1.cut (by rw [hlen, hm]) n (by rw [hlen, hm]; omega)
      have HCUT := Lib.hid hcut
      have HE := Lib.hid (show ∀ v2 : Value, (∀ k, v2.ownBlock = some k → (Value.slice a m c).ownBlock = some k) → OwnS wr B v2 (resz L n) →
          (RecV (wr.setCell ⟨R, 1, none⟩ v2) B R v2 line (resz L n) ∧ Frm (At2v R v) w (wr.setCell ⟨R, 1, none⟩ v2) ∧ (∀ k, v2.ownBlock = some k → v.ownBlock = some k ∨ w.heap.size ≤ k)) from fun v2 h1 h2 =>
        ⟨⟨HREC.out.1.set 1 v2, h2.frm (S := At R) ((Frm.refl _ wr).setCell _ _ (fun _ => rfl)) (fun k e h => HNE.out (by rw [h1 k e]; exact congrArg some h)), HREC.out.2.2⟩, HF.out.setCell _ _ (fun _ => .inl rfl), fun k e => HOB.out k (h1 k e)⟩)
      have f1 := HREC.out.1.f 1
      rcases HREC.out.2.1.cap with ⟨ha, hl, hc⟩ | ⟨g, ha, hc, hg⟩
      · subst ha hc
        have hm0 : m = 0 := by rw [← hm, ← hlen, hl]; rfl
        subst hm0
        obtain rfl : n = 0 := by omega
        rw [HX.out] at HCUT
        clear hcut hl hlen hm hge hlt
        go_wp2
        refine bodyPost_end (v := .tuple #[]) (by simp [results, Tryz.results20, go_sem]) rfl ⟨rfl, ?_⟩
        exact ⟨_, HE.out _ (fun k e => by cases e) HCUT.out⟩
      · subst ha
        rw [hlen, hm] at hc
        have hcI : (n : Int) ≤ (c : Int) := by omega
        rw [HX.out] at HCUT
        clear hcut hlen hm hlt
        go_wp2
        refine bodyPost_end (v := .tuple #[]) (by simp [results, Tryz.results20, go_sem]) rfl ⟨rfl, ?_⟩
        exact ⟨_, HE.out _ (fun k e => e) HCUT.out⟩

/-- The line that is made of fields. -/
def joinL (L : List ByteArray) (sep : ByteArray) : ByteArray := ⟨(Lib.join (L.map (·.data.toList)) sep.data.toList).toArray⟩

theorem joinS (w : World) (B : Nat) (a : Option Addr) (m c : Nat) (L : List ByteArray) (sep : ByteArray) (h : OwnS w B (.slice a m c) L) (hm : m = L.length) (hL : L.length ≤ 1000000) (hl : (joinL L sep).size ≤ 140737488355328) :
    Calls Tryz.prog 33 #[.slice a m c, .string sep] w fun e w' => e = .returned (.string (joinL L sep)) ∧ Below w.heap.size w w' := by
  subst hm
  rcases h.cap with ⟨rfl, rfl, rfl⟩ | ⟨g, rfl, hc, hg⟩
  · refine (Tryz.strings_Join_none none 0 sep w).mono fun e w' ⟨h1, h2⟩ => ⟨?_, h2 ▸ Below.refl _ _⟩
    rw [h1]
    rfl
  · refine Tryz.strings_Join g 0 c L sep w (fun j x hx => ?_) hg (by omega) hc (by simpa [joinL, ByteArray.size] using hl)
    have := World.ownsRow.cells h (g := g) rfl j (.string x) (by rw [List.getElem?_map, hx]; rfl)
    rw [Addr.add_lit] at this
    exact this

theorem join_all (w : World) (B R : Nat) (v : Value) (line : ByteArray) (L : List ByteArray) (h : RecV w B R v line L) (sep : ByteArray) (hL : L.length ≤ 1000000) (hl : (joinL L sep).size ≤ 140737488355328) :
    Calls Tryz.prog 21 #[.pointer (some ⟨R, 0, none⟩), .string sep] w fun e w' => e = .returned (.tuple #[]) ∧ RecV w' B R v (joinL L sep) L ∧ Frm (At R) w w' := by
  obtain ⟨a, c, rfl⟩ := h.2.1.form
  have H := Lib.hid h
  have HJ := Lib.hid (joinS w B a L.length c L sep h.2.1 rfl hL hl)
  have c1 := h.1.cell 1
  have HNE := Lib.hid h.apart
  have hRl := h.1.lt
  obtain ⟨J, hJ⟩ : ∃ J, joinL L sep = J := ⟨_, rfl⟩
  rw [hJ] at HJ ⊢
  clear h hl hJ
  go_enter Tryz.func21, Tryz.ntmps21
  go_wp2_with (go_at_call 33; go_must (refine HJ.out.mono ?_; rintro e w1 ⟨rfl, hb1⟩; have HB1 := Lib.hid (show Box w1 R 44 #[.string line, .slice a L.length c] from (hb1.block R hRl).trans H.out.1); have f0 := HB1.out.f 0; have d0 := HB1.out.cell 0))
  refine bodyPost_end (v := .tuple #[]) (by simp [results, Tryz.results21, go_sem]) rfl ⟨rfl, ?_⟩
  have hf : Frm No w w1 := Frm.ofBelow hb1 (Nat.le_refl _)
  have hf2 : Frm (At R) w1 (w1.setCell ⟨R, 0, none⟩ (.string J)) := (Frm.refl _ w1).setCell _ _ (fun _ => rfl)
  exact ⟨⟨HB1.out.set 0 _, (H.out.2.1.frm hf (fun _ _ h => h)).frm hf2 (fun k e h => HNE.out (e.trans (congrArg some h))), H.out.2.2⟩, (hf.mono (fun _ _ h => h.elim)).trans hf2⟩

end Go.Proofs.YtbfekknhmjndaaaGreat.flds

namespace Go.Proofs.YtbfekknhmjndaaaGreat.flds
set_option linter.unusedVariables false set_option linter.unusedSimpArgs false
open Go.ChangeShapes Go.WideShapes Go.ChangeAt Go.RowKit Go.Proofs.YtbfekknhmjndaaaGreat.base Go.Proofs.YtbfekknhmjndaaaGreat.fldp

theorem wrap_small (n : Nat) (h : n ≤ 100000) : IntKind.i64.wrap (n : Int) = (n : Int) := by
  rw [IntKind.wrap_i64]
  have h2 : wrap64 (n : Int) = (n : Int) := IntWalk.wrap64_in _ ⟨by omega, by omega⟩
  unfold wrap64 at h2
  omega

theorem resz_len (L : List ByteArray) (n : Nat) : (resz L n).length = n := by
  unfold resz
  rw [List.length_append, List.length_take, List.length_replicate]
  omega

/-- The fields behind Set. -/
def setL (L : List ByteArray) (i : Nat) (s : ByteArray) : List ByteArray := (resz L (max i L.length)).set (i - 1) s
theorem setL_len (L : List ByteArray) (i : Nat) (s : ByteArray) : (setL L i s).length = max i L.length := by
  unfold setL
  rw [List.length_set, resz_len]

/-- What Set and SetNF may write: the record's blocks, and new ones. -/
def After (w w' : World) (B R : Nat) (v : Value) (line : ByteArray) (L : List ByteArray) : Prop :=
  ∃ v', RecV w' B R v' line L ∧ Frm (At2v R v) w w' ∧ (∀ k, v'.ownBlock = some k → v.ownBlock = some k ∨ w.heap.size ≤ k)

theorem RecV.store {w : World} {B R : Nat} {g m c j : Nat} {line : ByteArray} {L : List ByteArray} (h : RecV w B R (.slice (some ⟨g, 0, none⟩) m c) line L) (hm : m = L.length) (s : ByteArray) :
    RecV (w.setCell ⟨g, j, none⟩ (.string s)) B R (.slice (some ⟨g, 0, none⟩) m c) line (L.set j s) := by
  subst hm
  have hne : g ≠ R := fun e => h.apart (by subst e; rfl)
  refine ⟨h.1.set_ne _ hne, ?_, h.2.2⟩
  have := (World.ownsRow.stored h.2.1 j (.string s)).1
  unfold OwnS
  rw [List.length_set, List.map_set]
  exact this

set_option maxHeartbeats 2000000 in
set_option maxRecDepth 20000 in
theorem setnf_all (w : World) (B R : Nat) (v : Value) (line : ByteArray) (L : List ByteArray) (h : RecV w B R v line L) (n : Int) (hn : -9223372036854775808 ≤ n) (hn2 : n ≤ 9223372036854775807) (sep : ByteArray) (hL : L.length ≤ 100000)
    (hl : mayH n L.length = true → (joinL (resz L n.toNat) sep).size ≤ 140737488355328) :
    Calls Tryz.prog 11 #[.pointer (some ⟨R, 0, none⟩), .int .i64 n, .string sep] w fun e w' => e = .returned (.bool (mayH n L.length)) ∧
      (if mayH n L.length then After w w' B R v (joinL (resz L n.toNat) sep) (resz L n.toNat) else w' = w) := by
  have HM := Lib.hid (mayHave_all w B R v line L h n hn hn2)
  cases hm : mayH n L.length
  · rw [hm] at HM
    simp only [Bool.false_eq_true, if_false]
    clear h hl hm
    go_enter Tryz.func11, Tryz.ntmps11
    go_wp2_with (go_at_call 19; go_must (refine HM.out.mono ?_; rintro e w1 ⟨rfl, rfl⟩))
    go_ret
    exact ⟨rfl, rfl⟩
  · rw [hm] at HM
    simp only [if_true]
    have hm' := hm
    unfold mayH at hm'
    simp only [decide_eq_true_eq] at hm'
    obtain ⟨k, rfl⟩ : ∃ k : Nat, n = (k : Int) := ⟨n.toNat, by omega⟩
    simp only [Int.toNat_natCast] at hl ⊢
    have hk : k ≤ 100000 := by omega
    have HR := Lib.hid (resize_all w B R v line L h k (by omega) (by omega))
    have HJ := Lib.hid (fun w1 v1 (h1 : RecV w1 B R v1 line (resz L k)) => join_all w1 B R v1 line (resz L k) h1 sep (by rw [resz_len]; omega) (hl hm))
    obtain ⟨J, hJ⟩ : ∃ J, joinL (resz L k) sep = J := ⟨_, rfl⟩
    rw [hJ] at HJ ⊢
    clear h hl hm hm' hn hn2 hJ
    go_enter Tryz.func11, Tryz.ntmps11
    go_wp2_with (first | (go_at_call 19; go_must (refine HM.out.mono ?_; rintro e w1 ⟨rfl, rfl⟩)) | (go_at_call 20; go_must (refine HR.out.mono ?_; rintro e w2 ⟨rfl, v2, hr2, hf2, hb2⟩; have HR2 := Lib.hid hr2; have HF2 := Lib.hid hf2; have HB2 := Lib.hid hb2; clear hr2 hf2 hb2)) | (go_at_call 21; go_must (refine (HJ.out _ _ HR2.out).mono ?_; rintro e w3 ⟨rfl, hr3, hf3⟩)))
    go_ret
    exact ⟨rfl, v2, hr3, HF2.out.then hf3 (fun k hk e => .inl e), HB2.out⟩

/-- May the ith field be set? -/
def maySet (i : Int) (k : Nat) : Bool := decide (1 ≤ i ∧ i ≤ max 1000 (k : Int))

set_option maxHeartbeats 4000000 in
set_option maxRecDepth 20000 in
theorem set_all (w : World) (B R : Nat) (v : Value) (line : ByteArray) (L : List ByteArray) (h : RecV w B R v line L) (i : Int) (hn : -9223372036854775808 ≤ i) (hn2 : i ≤ 9223372036854775807) (s sep : ByteArray) (hL : L.length ≤ 100000)
    (hs : s.size ≤ 140737488355328) (hl : maySet i L.length = true → (joinL (setL L i.toNat s) sep).size ≤ 140737488355328) :
    Calls Tryz.prog 9 #[.pointer (some ⟨R, 0, none⟩), .int .i64 i, .string s, .string sep] w fun e w' => e = .returned (.bool (maySet i L.length)) ∧
      (if maySet i L.length then After w w' B R v (joinL (setL L i.toNat s) sep) (setL L i.toNat s) else w' = w) := by
  by_cases h0 : i = 0
  · subst h0
    have hm : maySet 0 L.length = false := by unfold maySet; simp
    rw [hm]
    simp only [Bool.false_eq_true, if_false]
    clear h hl hm hs
    go_enter Tryz.func9, Tryz.ntmps9
    go_wp2
    go_ret
    exact ⟨rfl, rfl⟩
  · have hms : maySet i L.length = mayH i L.length := by unfold maySet mayH; rw [decide_eq_decide]; omega
    rw [hms] at hl ⊢
    have HM := Lib.hid (mayHave_all w B R v line L h i hn hn2)
    have h0b : (i == 0) = false := by simpa using h0
    cases hm : mayH i L.length
    · rw [hm] at HM
      simp only [Bool.false_eq_true, if_false]
      clear h hl hm hs hms
      go_enter Tryz.func9, Tryz.ntmps9
      go_wp2_with (go_at_call 19; go_must (refine HM.out.mono ?_; rintro e w1 ⟨rfl, rfl⟩))
      go_ret
      exact ⟨rfl, rfl⟩
    · rw [hm] at HM
      simp only [if_true]
      have hm' := hm
      unfold mayH at hm'
      simp only [decide_eq_true_eq] at hm'
      obtain ⟨j, rfl⟩ : ∃ j : Nat, i = (j : Int) + 1 := ⟨i.toNat - 1, by omega⟩
      have hj : j ≤ 100000 := by omega
      have hjt : ((j : Int) + 1).toNat = j + 1 := by omega
      rw [hjt] at hl ⊢
      obtain ⟨n, hn'⟩ : ∃ n : Nat, max (j + 1) L.length = n := ⟨_, rfl⟩
      have hnI : max ((j : Int) + 1) (L.length : Int) = (n : Int) := by omega
      have hjn : (j : Int) < (n : Int) := by omega
      have hn5 : n ≤ 100001 := by omega
      have HR := Lib.hid (resize_all w B R v line L h n (by omega) (by omega))
      have HC := Lib.hid (fun w1 => clone_c s w1 hs)
      have HS := Lib.hid (show setL L (j + 1) s = (resz L n).set j s by unfold setL; rw [hn']; rfl)
      have HJ := Lib.hid (fun w1 v1 (h1 : RecV w1 B R v1 line ((resz L n).set j s)) => join_all w1 B R v1 line ((resz L n).set j s) h1 sep (by rw [List.length_set, resz_len]; omega) (by rw [← HS.out]; exact hl hm))
      rw [HS.out]
      obtain ⟨J, hJ⟩ : ∃ J, joinL ((resz L n).set j s) sep = J := ⟨_, rfl⟩
      rw [hJ] at HJ ⊢
      obtain ⟨a, c, hv⟩ := h.2.1.form
      subst hv
      have c1 := h.1.cell 1
      clear h hl hm hm' hn hn2 hJ hs hms h0 hL HS hjt
      go_enter Tryz.func9, Tryz.ntmps9
      go_wp2_with (first | (go_at_call 19; go_must (refine HM.out.mono ?_; rintro e w1 ⟨rfl, rfl⟩)) | (go_at_call 20; go_must (refine HR.out.mono ?_; rintro e w2 ⟨rfl, v2, hr2, hf2, hb2⟩; have HR2 := Lib.hid hr2; have HF2 := Lib.hid hf2; have HB2 := Lib.hid hb2; clear hr2 hf2 hb2)))
      obtain ⟨a2, c2, hv2⟩ := HR2.out.2.1.form
      rw [resz_len] at hv2
      subst hv2
      rcases HR2.out.2.1.cap with ⟨ha, hl2, hc2⟩ | ⟨g, ha, hc2, hg⟩
      · exfalso
        have := congrArg List.length hl2
        rw [resz_len] at this
        simp at this
        omega
      subst ha
      have d1 := HR2.out.1.cell 1
      have hRl := HR2.out.1.lt
      have hj0 : (0 : Int) ≤ (j : Int) := by omega
      have hln : (resz L n).length = n := resz_len L n
      have hgx : ∃ x, w2.cell? ⟨g, j, none⟩ = some (.string x) := ⟨_, by
        have := World.ownsRow.cells HR2.out.2.1 (g := g) rfl j (.string ((resz L n)[j]'(by omega))) (by rw [List.getElem?_map, List.getElem?_eq_getElem (by omega)]; rfl)
        rw [Addr.add_lit, Nat.zero_add] at this
        exact this⟩
      obtain ⟨x, hgx⟩ := hgx
      have HGX := Lib.hid hgx
      clear hgx
      have HSW := Lib.hid (show ∀ w3, Frm No w2 w3 → RecV (w3.setCell ⟨g, j, none⟩ (.string s)) B R (.slice (some ⟨g, 0, none⟩) n c2) line ((resz L n).set j s) from fun w3 hf => by
        exact (HR2.out.frm hf (fun _ _ h => h)).store hln.symm s)
      have hwr : IntKind.i64.wrap (j : Int) = (j : Int) := wrap_small j hj
      clear hln hc2
      have HT := Lib.hid (show ∀ w3, Below w2.drew.heap.size w2.drew w3 → Frm No w2 w3 ∧ w3.cell? ⟨R, 1, none⟩ = some (.slice (some ⟨g, 0, none⟩) n c2) ∧ w3.cell? ⟨g, j, none⟩ = some (.string x) ∧ w3.frozen? ⟨g, j, none⟩ = false from fun w3 hb3 => by
        have hf3 : Frm No w2 w3 := ((Frm.refl No w2).drew).trans (Frm.ofBelow hb3 (Nat.le_refl _))
        refine ⟨hf3, (HR2.out.1.frm hf3 (fun h => h)).cell 1, cell_move HGX.out hf3, ?_⟩
        have h3 := (HR2.out.2.1.frm hf3 (fun _ _ h => h))
        unfold OwnS at h3
        rw [resz_len] at h3
        exact World.ownsRow.frozenAt h3 j)
      go_region_law (first | (go_simp; refine (HC.out _).mono ?_; rintro e w3 ⟨rfl, hb3⟩; dsimp only; obtain ⟨hf3, e1, g1, f1⟩ := HT.out _ hb3; have HF3 := Lib.hid hf3; clear hf3 hb3))
      all_goals
        have HR4 := Lib.hid (HSW.out _ HF3.out)
        have HF4 := Lib.hid (show Frm (At g) w3 (w3.setCell ⟨g, j, none⟩ (.string s)) from (Frm.refl _ w3).setCell _ _ (fun _ => rfl))
        clear e1 g1 f1
        generalize w3.setCell ⟨g, j, none⟩ (.string s) = w4 at HR4 HF4 ⊢
        go_wp2_with ((go_at_call 21; go_must (refine (HJ.out _ _ HR4.out).mono ?_; rintro e w5 ⟨rfl, hr5, hf5⟩)))
        go_ret
        refine ⟨rfl, _, hr5, ((HF2.out.then HF3.out (fun k hk e => e.elim)).then HF4.out (fun k hk e => ?_)).then hf5 (fun k hk e => .inl e), HB2.out⟩
        have e : k = g := e
        subst e
        rcases HB2.out k rfl with h | h
        · exact .inr h
        · omega

end Go.Proofs.YtbfekknhmjndaaaGreat.flds

namespace Go.Proofs.YtbfekknhmjndaaaGreat.flds
set_option linter.unusedVariables false set_option linter.unusedSimpArgs false
open Go.ChangeShapes Go.WideShapes Go.ChangeAt Go.RowKit Go.Proofs.YtbfekknhmjndaaaGreat.base Go.Proofs.YtbfekknhmjndaaaGreat.fldp

theorem new_box (w : World) (line : ByteArray) (v : Value) : Box (w.alloc (.cells #[.string line, v] 44)) w.heap.size 44 #[.string line, v] := heap_alloc_new w _

theorem new_of (line sep : ByteArray) (lines : Bool) (L : List ByteArray) (w : World) (hs : line.size ≤ 140737488355328)
    (hp : ∀ w1, Calls Tryz.prog 16 #[.string line, .string sep, .bool lines] w1 fun e w' => ∃ v, e = .returned (.tuple #[v, .bool true]) ∧ OwnS w' w1.heap.size v L ∧ Below w1.heap.size w1 w') :
    Calls Tryz.prog 5 #[.string line, .string sep, .bool lines] w fun e w' => ∃ R v, e = .returned (.tuple #[.pointer (some ⟨R, 0, none⟩), .bool true]) ∧ RecV w' w.heap.size R v line L ∧ Below w.heap.size w w' := by
  have HC := Lib.hid (clone_c line w hs)
  have HP := Lib.hid hp
  clear hs hp
  go_enter Tryz.func5, Tryz.ntmps5
  go_wp2_with (first | (go_at_call 15; go_must (refine HC.out.mono ?_; rintro e w1 ⟨rfl, hb1⟩; have hz1 := hb1.size)) | (go_at_call 16; go_must (refine (HP.out _).mono ?_; rintro e w2 ⟨v, rfl, hown, hb2⟩; obtain ⟨a, c, rfl⟩ := hown.form; have HOWN := Lib.hid hown; have HZ := Lib.hid (show w.heap.size ≤ w2.heap.size from Nat.le_trans hz1 hb2.size); have HB := Lib.hid (hb1.trans (hb2.mono hz1)); clear hown hb1 hb2)))
  go_ret2
  exact ⟨w2.heap.size, _, rfl, ⟨new_box w2 _ _, (OwnS.mono HOWN.out hz1).frm (S := No) ((Frm.refl _ _).alloc _) (fun _ _ h => h), HZ.out⟩, HB.out.alloc HZ.out _⟩

theorem abc : Lib.goFieldsP pB ⟨#[97, 32, 98, 32, 99]⟩ = [⟨#[97]⟩, ⟨#[98]⟩, ⟨#[99]⟩] := by decide +kernel

theorem axc : setL [⟨#[97]⟩, ⟨#[98]⟩, ⟨#[99]⟩] 2 ⟨#[120]⟩ = [⟨#[97]⟩, ⟨#[120]⟩, ⟨#[99]⟩] := by decide +kernel
theorem axcJ : joinL [⟨#[97]⟩, ⟨#[120]⟩, ⟨#[99]⟩] ⟨#[45]⟩ = ⟨#[97, 45, 120, 45, 99]⟩ := by decide +kernel
theorem got : getR ⟨#[97, 32, 98, 32, 99]⟩ [⟨#[97]⟩, ⟨#[98]⟩, ⟨#[99]⟩] 2 = (⟨#[98]⟩, true) := by decide +kernel

theorem After.below {w w' : World} {B R : Nat} {v : Value} {line line' : ByteArray} {L L' : List ByteArray} (h : After w w' B R v line' L') (hr : RecV w B R v line L) (hB : B ≤ w.heap.size) : Below B w w' := by
  obtain ⟨v', _, hf, _⟩ := h
  exact hf.below hB (fun k hk e => by have := (hr.lt k e).1; omega)

set_option maxHeartbeats 1000000 in
set_option maxRecDepth 20000 in
theorem awake_all (w : World) : Calls Tryz.prog 4 #[] w fun e w' => e = .returned (.bool true) ∧ Below w.heap.size w w' := by
  have HN := Lib.hid (fun w => new_of ⟨#[97, 32, 98, 32, 99]⟩ ⟨#[32]⟩ false _ w (by decide) (fun w1 => parted_blank ⟨#[97, 32, 98, 32, 99]⟩ false w1 (by decide)))
  rw [abc] at HN
  go_enter Tryz.func4, Tryz.ntmps4
  go_wp2_with (first
    | (go_at_call 5; go_must (refine (HN.out _).mono ?_; rintro e w1 ⟨R, v, rfl, hr1, hb1⟩; have HR1 := Lib.hid hr1; have HB1 := Lib.hid hb1; have HG := Lib.hid (get_all w1 _ R v _ _ hr1 2 (by omega) (by omega) (by decide)); rw [got] at HG; have HF := Lib.hid (nf_all w1 _ R v _ _ hr1); have HS := Lib.hid (set_all w1 _ R v _ _ hr1 2 (by omega) (by omega) ⟨#[120]⟩ ⟨#[45]⟩ (by decide) (by decide) (fun _ => by rw [show (2 : Int).toNat = 2 from rfl, axc, axcJ]; decide)); rw [show maySet 2 [(⟨#[97]⟩ : ByteArray), ⟨#[98]⟩, ⟨#[99]⟩].length = true from rfl, show (2 : Int).toNat = 2 from rfl, axc, axcJ] at HS; clear hr1 hb1))
    | (go_at_call 13; go_must (refine HG.out.mono ?_; rintro e w2 ⟨rfl, rfl⟩))
    | (go_at_call 7; go_must (refine HF.out.mono ?_; rintro e w2 ⟨rfl, rfl⟩))
    | (go_at_call 9; go_must (refine HS.out.mono ?_; rintro e w3 ⟨rfl, hs3⟩; have hs3' : After _ w3 _ R v ⟨#[97, 45, 120, 45, 99]⟩ [⟨#[97]⟩, ⟨#[120]⟩, ⟨#[99]⟩] := hs3; have HB3 := Lib.hid (hs3'.below HR1.out (HB1.out.size)); obtain ⟨v3, hr3, _, _⟩ := hs3'; have HL := Lib.hid (line_all w3 _ R v3 _ _ hr3); clear hs3 hr3))
    | (go_at_call 8; go_must (refine HL.out.mono ?_; rintro e w4 ⟨rfl, rfl⟩)))
  go_ret
  exact ⟨rfl, HB1.out.trans HB3.out⟩

end Go.Proofs.YtbfekknhmjndaaaGreat.flds

namespace Go.Proofs.YtbfekknhmjndaaaGreat.flds
set_option linter.unusedVariables false set_option linter.unusedSimpArgs false
open Go.ChangeShapes Go.WideShapes Go.ChangeAt Go.RowKit Go.Proofs.YtbfekknhmjndaaaGreat.base Go.Proofs.YtbfekknhmjndaaaGreat.fldp

def lists (L : List ByteArray) : List (List UInt8) := L.map (·.data.toList)
theorem lists_snoc (L : List ByteArray) (x : ByteArray) : lists (L ++ [x]) = lists L ++ [x.data.toList] := by simp [lists]

/-- What is parted so far, and what is left. -/
def SoFar (b : UInt8) (s : ByteArray) (L : List ByteArray) (f k : Nat) : Prop :=
  lists L ++ parts b (s.data.toList.drop k) ((s.data.toList.take k).drop f) = parts b s.data.toList []

theorem sofar_zero (b : UInt8) (s : ByteArray) : SoFar b s [] 0 0 := by simp [SoFar, lists]
theorem drop_cons (s : ByteArray) (k : Nat) (h : k < s.size) : s.data.toList.drop k = s[k] :: s.data.toList.drop (k + 1) := by
  rw [List.drop_eq_getElem_cons (by simpa using h)]
  rfl
theorem sofar_same {b : UInt8} {s : ByteArray} {L : List ByteArray} {f k : Nat} (h : SoFar b s L f k) (hf : f ≤ k) (hk : k < s.size) (hc : s[k] ≠ b) : SoFar b s L f (k + 1) := by
  unfold SoFar at h ⊢
  rw [drop_cons s k hk] at h
  simp only [parts, if_neg hc] at h
  rw [take_snoc s k hk, List.drop_append_of_le_length (by simp; omega)]
  exact h
theorem sofar_cut {b : UInt8} {s : ByteArray} {L : List ByteArray} {f k : Nat} (h : SoFar b s L f k) (hf : f ≤ k) (hk : k < s.size) (hc : s[k] = b) : SoFar b s (L ++ [s.extract f k]) (k + 1) (k + 1) := by
  unfold SoFar at h ⊢
  rw [drop_cons s k hk] at h
  simp only [parts, if_pos hc] at h
  have h0 : (s.data.toList.take (k + 1)).drop (k + 1) = [] := List.drop_eq_nil_of_le (by simp; omega)
  rw [h0, lists_snoc, extract_list]
  simpa using h
theorem sofar_end {b : UInt8} {s : ByteArray} {L : List ByteArray} {f : Nat} (h : SoFar b s L f s.size) : lists (L ++ [s.extract f s.size]) = parts b s.data.toList [] := by
  unfold SoFar at h
  have h0 : s.data.toList.drop s.size = [] := List.drop_eq_nil_of_le (by simp)
  rw [h0] at h
  rw [lists_snoc, extract_list]
  simpa [parts] using h

set_option maxHeartbeats 2000000 in
set_option maxRecDepth 20000 in
theorem byByte_all (s : ByteArray) (b : UInt8) (w : World) (hs : s.size ≤ 1000000) :
    Calls Tryz.prog 28 #[.string s, .int .u8 (b.toNat : Int), .bool false] w fun e w' => ∃ v L, e = .returned v ∧ OwnS w' w.heap.size v L ∧ lists L = parts b s.data.toList [] ∧ L.length ≤ s.size + 1 ∧ Below w.heap.size w w' := by
  obtain ⟨i0, hi, hz0, hz1, hz2⟩ := info_parts info_str
  go_enter Tryz.func28, Tryz.ntmps28
  go_wp2
  go_loopw [7, 8, 12] (fun v fv iv wr => ∃ (k f : Nat) (a : Option Addr) (n c : Nat) (L : List ByteArray), k ≤ s.size ∧ f ≤ k ∧ n ≤ f ∧ L.length = n ∧ iv = .int .i64 k ∧ fv = .int .i64 f ∧ v = .slice a n c ∧ OwnS wr w.heap.size (.slice a n c) L ∧ SoFar b s L f k ∧ Below w.heap.size w wr) (fun _ _ iv _ => s.size - (intOf iv).toNat)
  case atStart => exact ⟨0, 0, none, 0, 0, [], Nat.zero_le _, Nat.le_refl _, Nat.le_refl _, rfl, rfl, rfl, rfl, OwnS.nil _ _, sofar_zero b s, Below.refl _ _⟩
  case round =>
    obtain ⟨k, f, a, n, c, L, hk, hf, hn, hln, rfl, rfl, rfl, hown, hsf, hbel⟩ := hrel
    have HLN := Lib.hid hln
    have HOW := Lib.hid (show wr.ownsRow w.heap.size 9 1 (.slice a n c) n (L.map Value.string) by unfold OwnS at hown; rw [hln] at hown; exact hown)
    have HSF := Lib.hid hsf
    have HB := Lib.hid hbel
    have hzr := hbel.size
    clear hown hsf hbel hln
    have hf0 : (0 : Int) ≤ (f : Int) := by omega
    have hfk : (f : Int) ≤ (k : Int) := by omega
    by_cases hlt : k < s.size
    · have hx0 : (0 : Int) ≤ (k : Int) := by omega
      have hx1 : (k : Int) < (s.size : Int) := by omega
      by_cases hc : s[k] = b
      · have HCUT := Lib.hid (sofar_cut HSF.out hf hlt hc)
        have hcb : ((s[k].toNat : Int) == (b.toNat : Int)) = true := by rw [hc]; simp
        clear hc
        go_wp2_with ((refine wpList_append_lies _ rfl _ _ _ rfl w.heap.size 9 i0 (.string ⟨#[]⟩) 1 16 Tryz.underlying27 hi hz0 hz1 hz2 rfl (by decide) (.slice a n c) n (L.map Value.string) rfl (World.ownsRow.alloc HOW.out _) ⟨wr.heap.size, 0, none⟩ 1 1 [.string (s.extract f k)] rfl rfl (World.news_of_block (heap_alloc_new wr _)) (by simp [Value.oneCell']) (by omega) (by unfold maxLen; omega) (by omega) (by simp; omega) (wr.heap.size + 1) (by simp) ?_; intro g gcap w5 hown5 hgrow hat hlt5))
        go_roundw
        case rel =>
          refine ⟨k + 1, k + 1, some ⟨g, 0, none⟩, n + 1, gcap, L ++ [s.extract f k], by omega, Nat.le_refl _, by omega, by rw [List.length_append, HLN.out]; rfl, by go_num, by go_num, rfl, ?_, HCUT.out, (HB.out.alloc hzr _).grown hgrow (by simp; omega) (fun q hq => ((World.ownsRow.lt HOW.out) q hq).1)⟩
          unfold OwnS
          rw [List.length_append, HLN.out, List.map_append]
          exact hown5
        case measure => simp [intOf]; omega
      · have HSAME := Lib.hid (sofar_same HSF.out hf hlt hc)
        have hcb : ((s[k].toNat : Int) == (b.toNat : Int)) = false := by rw [u8_beq]; simpa using hc
        clear hc
        go_wp2
        go_roundw
        case rel =>
          refine ⟨k + 1, f, a, n, c, L, by omega, by omega, hn, HLN.out, by go_num, rfl, rfl, ?_, HSAME.out, HB.out⟩
          unfold OwnS
          rw [HLN.out]
          exact HOW.out
        case measure => simp [intOf]; omega
    · obtain rfl : k = s.size := by omega
      have HEND := Lib.hid (sofar_end HSF.out)
      go_wp2_with ((refine wpList_append_lies _ rfl _ _ _ rfl w.heap.size 9 i0 (.string ⟨#[]⟩) 1 16 Tryz.underlying27 hi hz0 hz1 hz2 rfl (by decide) (.slice a n c) n (L.map Value.string) rfl (World.ownsRow.alloc HOW.out _) ⟨wr.heap.size, 0, none⟩ 1 1 [.string (s.extract f s.size)] rfl rfl (World.news_of_block (heap_alloc_new wr _)) (by simp [Value.oneCell']) (by omega) (by unfold maxLen; omega) (by omega) (by simp; omega) (wr.heap.size + 1) (by simp) ?_; intro g gcap w5 hown5 hgrow hat hlt5))
      go_ret
      refine ⟨_, L ++ [s.extract f s.size], rfl, ?_, HEND.out, by rw [List.length_append, HLN.out]; simp; omega, (HB.out.alloc hzr _).grown hgrow (by simp; omega) (fun q hq => ((World.ownsRow.lt HOW.out) q hq).1)⟩
      unfold OwnS
      rw [List.length_append, HLN.out, List.map_append]
      exact hown5

end Go.Proofs.YtbfekknhmjndaaaGreat.flds

namespace Go.Proofs.YtbfekknhmjndaaaGreat.flds
set_option linter.unusedVariables false set_option linter.unusedSimpArgs false
open Go.ChangeShapes Go.WideShapes Go.ChangeAt Go.RowKit Go.Proofs.YtbfekknhmjndaaaGreat.base Go.Proofs.YtbfekknhmjndaaaGreat.fldp

/-- The fields by one byte. -/
def byteF (b : UInt8) (s : ByteArray) : List (List UInt8) := if s.size = 0 then [] else parts b s.data.toList []

set_option maxHeartbeats 1000000 in
theorem parted_byte (s : ByteArray) (b : UInt8) (hb : b ≠ 32) (w : World) (hs : s.size ≤ 1000000) :
    Calls Tryz.prog 16 #[.string s, .string ⟨#[b]⟩, .bool false] w fun e w' => ∃ v L, e = .returned (.tuple #[v, .bool true]) ∧ OwnS w' w.heap.size v L ∧ lists L = byteF b s ∧ L.length ≤ s.size + 1 ∧ Below w.heap.size w w' := by
  by_cases h0 : s.size = 0
  · obtain rfl : s = ⟨#[]⟩ := by
      apply ByteArray.ext
      exact Array.eq_empty_of_size_eq_zero h0
    have HF := Lib.hid (show lists [] = byteF b ⟨#[]⟩ from rfl)
    go_enter Tryz.func16, Tryz.ntmps16
    go_wp2
    go_ret2
    exact ⟨_, [], rfl, OwnS.nil _ _, HF.out, Nat.zero_le _, Below.refl _ _⟩
  · have hne : (s.toList == []) = false := by
      rw [beq_eq_false_iff_ne]
      intro e
      rw [Lib.toList_data] at e
      exact h0 (by have := congrArg List.length e; simpa using this)
    have hbl : (b == 32) = false := by simpa using hb
    have HF := Lib.hid (show parts b s.data.toList [] = byteF b s by unfold byteF; rw [if_neg h0])
    have HB := Lib.hid (byByte_all s b w hs)
    rw [HF.out] at HB
    clear h0 hs hb
    go_enter Tryz.func16, Tryz.ntmps16
    go_wp2_with (go_at_call 28; go_must (refine HB.out.mono ?_; rintro e w1 ⟨v, L, rfl, hown, hl, hlen, hb1⟩))
    go_ret2
    exact ⟨_, _, rfl, hown, hl, hlen, hb1⟩


theorem lists_inj (a b : List ByteArray) (h : lists a = lists b) : a = b := by
  induction a generalizing b with
  | nil => cases b with
    | nil => rfl
    | cons y b => simp [lists] at h
  | cons x a ih => cases b with
    | nil => simp [lists] at h
    | cons y b =>
      simp only [lists, List.map_cons, List.cons.injEq] at h
      rw [ih b h.2, show x = y from ByteArray.ext (Array.toList_inj.1 h.1)]

end Go.Proofs.YtbfekknhmjndaaaGreat.flds
