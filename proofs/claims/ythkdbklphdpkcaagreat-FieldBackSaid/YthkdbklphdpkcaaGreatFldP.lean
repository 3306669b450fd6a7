/- No run in this text: fields parted by blanks, byte by byte: what strings.FieldsFunc answers at the document's three blanks; that blanks ahead, behind and between change none; fields parted by one byte; lines put together. -/
import Derived.Lib.FieldsP
import Derived.Lib.SpaceUEq
import Derived.Lib.Join
namespace Go.Proofs.YthkdbklphdpkcaaGreat.fldp
set_option linter.unusedVariables false set_option linter.unusedSimpArgs false
open Go.Lib

/-- A blank: 32, 9, 10. -/
def isB (c : UInt8) : Bool := c.toNat == 32 || c.toNat == 9 || c.toNat == 10
def pB (x : Nat) : Bool := x == 32 || x == 9 || x == 10

/-- The longest runs of other bytes; cur is what is read of the one at hand. -/
def words : List UInt8 → List UInt8 → List (List UInt8)
  | [], cur => if cur = [] then [] else [cur]
  | c :: t, cur => if isB c then (if cur = [] then words t [] else cur :: words t []) else words t (cur ++ [c])

/-- Go's spans, byte by byte. -/
def spB : List UInt8 → Nat → Option Nat → List (Nat × Nat) → List (Nat × Nat) × Option Nat
  | [], _, st, acc => (acc, st)
  | c :: t, pos, st, acc =>
    if isB c then (match st with | some a => spB t (pos + 1) none (acc ++ [(a, pos)]) | none => spB t (pos + 1) none acc)
    else (match st with | some a => spB t (pos + 1) (some a) acc | none => spB t (pos + 1) (some pos) acc)

theorem spB_skip : ∀ (q t : List UInt8) (pos a : Nat) (acc : List (Nat × Nat)), (∀ c ∈ q, isB c = false) → spB (q ++ t) pos (some a) acc = spB t (pos + q.length) (some a) acc
  | [], t, pos, a, acc, _ => by simp
  | c :: q, t, pos, a, acc, h => by
    have h0 := h c (by simp)
    simp only [List.cons_append, spB, h0, Bool.false_eq_true, if_false]
    rw [spB_skip q t (pos + 1) a acc (fun x hx => h x (by simp [hx]))]
    congr 1
    simp only [List.length_cons]
    omega

theorem spB_open (c : UInt8) (q t : List UInt8) (pos : Nat) (st : Option Nat) (acc : List (Nat × Nat)) (h : ∀ x ∈ c :: q, isB x = false) :
    spB (c :: q ++ t) pos st acc = spB t (pos + (c :: q).length) (some (st.getD pos)) acc := by
  have h0 := h c (by simp)
  have hq : ∀ x ∈ q, isB x = false := fun x hx => h x (by simp [hx])
  cases st with
  | none =>
    simp only [List.cons_append, spB, h0, Bool.false_eq_true, if_false, Option.getD_none]
    rw [spB_skip q t (pos + 1) pos acc hq]
    congr 1
    simp only [List.length_cons]
    omega
  | some a =>
    simp only [List.cons_append, spB, h0, Bool.false_eq_true, if_false, Option.getD_some]
    rw [spB_skip q t (pos + 1) a acc hq]
    congr 1
    simp only [List.length_cons]
    omega

/-- What is decoded at a list's first place: one byte below 128, or bytes of which none is. -/
theorem decode_two (l : List UInt8) (c : UInt8) (t : List UInt8) (hl : l = c :: t) :
    (c.toNat < 128 ∧ decodeL l = (c.toNat, 1)) ∨ (128 ≤ (decodeL l).1 ∧ 1 ≤ (decodeL l).2 ∧ (decodeL l).2 ≤ l.length ∧ ∀ x ∈ l.take (decodeL l).2, 128 ≤ x.toNat) := by
  by_cases hc : c.toNat < 128
  · refine .inl ⟨hc, ?_⟩
    subst hl
    exact decodeL_ascii c t hc
  · right
    have hlen : 0 < l.length := by subst hl; simp
    have hw := decodeL_width l
    have hN := decodeL_N l
    have hcs := decodeN_conts l.length (l.getD 0 0).toNat (l.getD 1 0).toNat (l.getD 2 0).toNat (l.getD 3 0).toNat
    rw [← hN] at hcs
    obtain ⟨c2, c3, c4, c5⟩ := hcs
    have h0 : (l.getD 0 0).toNat = c.toNat := by subst hl; rfl
    have hr : 128 ≤ (decodeL l).1 := by
      rw [hN]
      unfold decodeN
      rw [if_neg (by omega)]
      repeat' split
      all_goals (simp only; omega)
    refine ⟨hr, hw, by omega, ?_⟩
    intro x hx
    obtain ⟨j, hj, hxj⟩ := List.getElem_of_mem hx
    rw [List.length_take] at hj
    rw [List.getElem_take] at hxj
    have hgd : l.getD j 0 = x := by rw [List.getD_eq_getElem?_getD, List.getElem?_eq_getElem (by omega), Option.getD_some, hxj]
    match j, hj, hgd with
    | 0, _, hgd => rw [← hgd, h0]; omega
    | 1, hj, hgd => have := (c2 (by omega)).1; rw [hgd] at this; omega
    | 2, hj, hgd => have := (c3 (by omega)).1; rw [hgd] at this; omega
    | 3, hj, hgd => have := (c4 (by omega)).1; rw [hgd] at this; omega
    | j + 4, hj, _ => omega

theorem isB_great (x : UInt8) (h : 128 ≤ x.toNat) : isB x = false := by
  unfold isB
  simp only [Bool.or_eq_false_iff, beq_eq_false_iff_ne, ne_eq]
  omega
theorem pB_great (x : Nat) (h : 128 ≤ x) : pB x = false := by
  unfold pB
  simp only [Bool.or_eq_false_iff, beq_eq_false_iff_ne, ne_eq]
  omega

theorem spans_eq (s : ByteArray) : ∀ (f pos : Nat) (st : Option Nat) (acc : List (Nat × Nat)), s.size ≤ pos + f → spansFromP pB s f pos st acc = spB (s.data.toList.drop pos) pos st acc
  | 0, pos, st, acc, h => by
    have : s.data.toList.drop pos = [] := List.drop_eq_nil_of_le (by simp; omega)
    rw [this]
    rfl
  | f + 1, pos, st, acc, h => by
    by_cases hp : pos < s.size
    · have hd : decodeL (s.data.toList.drop pos) = Utf8.decode s pos := decodeL_drop s pos
      have hlt : pos < s.data.toList.length := by simpa using hp
      obtain ⟨c, t, hct⟩ : ∃ c t, s.data.toList.drop pos = c :: t := ⟨_, _, List.drop_eq_getElem_cons hlt⟩
      have hnext : ∀ k, (s.data.toList.drop pos).drop k = s.data.toList.drop (pos + k) := fun k => by rw [List.drop_drop]
      unfold spansFromP
      rw [if_pos hp, ← hd]
      rcases decode_two _ c t hct with ⟨hc, he⟩ | ⟨hr, hw, hle, hall⟩
      · rw [he]
        have ht : s.data.toList.drop (pos + 1) = t := by rw [← hnext 1, hct]; rfl
        have hpb : pB c.toNat = isB c := rfl
        simp only [hpb]
        rw [hct]
        cases hb : isB c
        · simp only [Bool.false_eq_true, if_false, spB, hb]
          cases st <;> simp only <;> rw [spans_eq s f _ _ _ (by omega), ht]
        · simp only [if_true, spB, hb]
          cases st <;> simp only <;> rw [spans_eq s f _ _ _ (by omega), ht]
      · rw [pB_great _ hr]
        simp only [Bool.false_eq_true, if_false]
        obtain ⟨q, hq⟩ : ∃ q, (s.data.toList.drop pos).take (decodeL (s.data.toList.drop pos)).2 = c :: q := by
          rw [hct] at hw ⊢
          obtain ⟨k, hk⟩ : ∃ k, (decodeL (c :: t)).2 = k + 1 := ⟨(decodeL (c :: t)).2 - 1, by omega⟩
          rw [hk]
          exact ⟨_, rfl⟩
        have hsplit : s.data.toList.drop pos = (c :: q) ++ s.data.toList.drop (pos + (decodeL (s.data.toList.drop pos)).2) := by
          rw [← hq, ← hnext, List.take_append_drop]
        have hlq : (c :: q).length = (decodeL (s.data.toList.drop pos)).2 := by
          rw [← hq, List.length_take]
          omega
        have hnb : ∀ x ∈ c :: q, isB x = false := fun x hx => isB_great x (hall x (by rw [hq]; exact hx))
        generalize hk : (decodeL (s.data.toList.drop pos)).2 = k at *
        have : spB (s.data.toList.drop pos) pos st acc = spB (s.data.toList.drop (pos + k)) (pos + k) (some (st.getD pos)) acc := by
          rw [hsplit, spB_open c q _ pos st acc hnb, hlq]
        rw [this]
        cases st <;> simp only [Option.getD_none, Option.getD_some] <;> rw [spans_eq s f _ _ _ (by omega)]
    · have : s.data.toList.drop pos = [] := List.drop_eq_nil_of_le (by simp; omega)
      rw [this, spansFromP_end pB s _ pos st acc hp]
      rfl

theorem words_sp (l : List UInt8) : ∀ (r : List UInt8) (pos : Nat) (st : Option Nat) (acc : List (Nat × Nat)), l.drop pos = r → pos + r.length = l.length → (∀ a, st = some a → a < pos) →
    ((match (spB r pos st acc).2 with | some a => (spB r pos st acc).1 ++ [(a, l.length)] | none => (spB r pos st acc).1).map fun p : Nat × Nat => pieceU l p.1 p.2) = acc.map (fun p => pieceU l p.1 p.2) ++ words r (openPiece l st pos)
  | [], pos, st, acc, hr, hp, hst => by
    simp only [List.length_nil, Nat.add_zero] at hp
    cases st with
    | none => simp [spB, words, openPiece]
    | some a =>
      have ha := hst a rfl
      have hne := pieceU_ne l a pos ha (by omega)
      subst hp
      simp [spB, words, openPiece, hne]
  | c :: t, pos, st, acc, hr, hp, hst => by
    simp only [List.length_cons] at hp
    have hlt : pos < l.length := by omega
    have ht : l.drop (pos + 1) = t := by rw [← List.drop_drop, hr]; rfl
    have hgrow : ∀ a, a ≤ pos → pieceU l a pos ++ [c] = pieceU l a (pos + 1) := fun a ha => by
      rw [← pieceU_grow l a pos 1 ha, hr]; rfl
    cases hb : isB c
    · cases st with
      | none =>
        have ih := words_sp l t (pos + 1) (some pos) acc ht (by omega) (fun a h => by cases h; omega)
        simp only [spB, hb, Bool.false_eq_true, if_false, words, openPiece, List.nil_append] at ih ⊢
        rw [ih, ← hgrow pos (Nat.le_refl _)]
        congr 2
        unfold pieceU
        simp
      | some a =>
        have ha := hst a rfl
        have ih := words_sp l t (pos + 1) (some a) acc ht (by omega) (fun b h => by cases h; omega)
        simp only [spB, hb, Bool.false_eq_true, if_false, words, openPiece] at ih ⊢
        rw [ih, ← hgrow a (by omega)]
    · cases st with
      | none =>
        have ih := words_sp l t (pos + 1) none acc ht (by omega) (fun b h => by cases h)
        simp only [spB, hb, if_true, words, openPiece] at ih ⊢
        exact ih
      | some a =>
        have ha := hst a rfl
        have hne := pieceU_ne l a pos ha (by omega)
        have ih := words_sp l t (pos + 1) none (acc ++ [(a, pos)]) ht (by omega) (fun b h => by cases h)
        have e : words (c :: t) (openPiece l (some a) pos) = pieceU l a pos :: words t [] := by
          show words (c :: t) (pieceU l a pos) = _
          simp only [words, hb, if_true, if_neg hne]
        rw [e]
        simp only [spB, hb, if_true, openPiece] at ih ⊢
        rw [ih, List.map_append]
        simp

/-- strings.FieldsFunc at the three blanks, byte by byte. -/
theorem fields_words (s : ByteArray) : (goFieldsP pB s).map (·.data.toList) = words s.data.toList [] := by
  have h := words_sp s.data.toList s.data.toList 0 none [] (by simp) (by simp) (fun a h => by cases h)
  simp only [List.map_nil, List.nil_append, openPiece] at h
  rw [← h]
  unfold goFieldsP spansOfP closeSpans
  rw [spans_eq s s.size 0 none [] (by omega), List.drop_zero, List.map_map]
  have hsz : s.data.toList.length = s.size := by simp
  have hext : ∀ p : Nat × Nat, ((fun b : ByteArray => b.data.toList) ∘ fun x : Nat × Nat => s.extract x.1 x.2) p = pieceU s.data.toList p.1 p.2 := fun p => by
    simp [pieceU, ByteArray.data_extract, Array.toList_extract, List.extract_eq_take_drop]
  rw [hsz]
  cases (spB s.data.toList 0 none []).2 <;> (simp only; exact List.map_congr_left fun p _ => hext p)

/-- Fields aren't empty, and have no blanks. -/
theorem words_good : ∀ (l cur : List UInt8), (∀ c ∈ cur, isB c = false) → ∀ f ∈ words l cur, f ≠ [] ∧ ∀ c ∈ f, isB c = false
  | [], cur, h, f, hf => by
    unfold words at hf
    split at hf
    · simp at hf
    · rename_i hne
      obtain rfl := List.mem_singleton.1 hf
      exact ⟨hne, h⟩
  | c :: t, cur, h, f, hf => by
    unfold words at hf
    split at hf
    · split at hf
      · exact words_good t [] (fun x hx => by simp at hx) f hf
      · rename_i hne
        rcases List.mem_cons.1 hf with rfl | hf
        · exact ⟨hne, h⟩
        · exact words_good t [] (fun x hx => by simp at hx) f hf
    · rename_i hb
      refine words_good t (cur ++ [c]) (fun x hx => ?_) f hf
      rcases List.mem_append.1 hx with hx | hx
      · exact h x hx
      · obtain rfl := List.mem_singleton.1 hx
        simpa using hb

/-- Behind each blank a blank and a line's end more. -/
def wid : List UInt8 → List UInt8
  | [] => []
  | c :: t => if isB c then c :: 32 :: 10 :: wid t else c :: wid t
theorem wid_snoc : ∀ (l : List UInt8) (c : UInt8), wid (l ++ [c]) = wid l ++ (if isB c then [c, 32, 10] else [c])
  | [], c => by cases h : isB c <;> simp [wid, h]
  | x :: t, c => by
    have ih := wid_snoc t c
    cases h : isB x <;> simp [wid, h, ih]
theorem wid_len : ∀ l : List UInt8, (wid l).length ≤ 3 * l.length
  | [] => by simp [wid]
  | c :: t => by
    have ih := wid_len t
    cases h : isB c <;> simp only [wid, h, Bool.false_eq_true, if_false, if_true, List.length_cons] <;> omega

theorem words_wid : ∀ (l cur : List UInt8), words (wid l ++ [10]) cur = words l cur
  | [], cur => by
    have h10 : isB 10 = true := by decide
    by_cases hc : cur = []
    · subst hc; simp [wid, words, h10]
    · simp [wid, words, h10, hc]
  | c :: t, cur => by
    have h10 : isB 10 = true := by decide
    have h32 : isB 32 = true := by decide
    have ih := words_wid t
    cases h : isB c
    · simp [wid, words, h, ih]
    · by_cases hc : cur = []
      · subst hc; simp [wid, words, h, h10, h32, ih]
      · simp [wid, words, h, h10, h32, hc, ih]
theorem words_wide (l : List UInt8) : words (9 :: (wid l ++ [10])) [] = words l [] := by
  have h9 : isB 9 = true := by decide
  simp [words, h9, words_wid]

theorem words_len : ∀ (l cur : List UInt8), (words l cur).length ≤ l.length + 1
  | [], cur => by unfold words; split <;> simp
  | c :: t, cur => by
    have ih := words_len t []
    have ih2 := words_len t (cur ++ [c])
    unfold words
    split
    · split <;> simp only [List.length_cons] <;> omega
    · simp only [List.length_cons]; omega

/-- What stands between bytes b; cur is what is read of the one at hand. -/
def parts (b : UInt8) : List UInt8 → List UInt8 → List (List UInt8)
  | [], cur => [cur]
  | c :: t, cur => if c = b then cur :: parts b t [] else parts b t (cur ++ [c])

theorem parts_none (b : UInt8) : ∀ (x : List UInt8) (cur : List UInt8), (∀ c ∈ x, c ≠ b) → parts b x cur = [cur ++ x]
  | [], cur, _ => by simp [parts]
  | c :: t, cur, h => by
    have h0 := h c (by simp)
    simp only [parts, if_neg h0]
    rw [parts_none b t (cur ++ [c]) (fun x hx => h x (by simp [hx]))]
    simp
theorem parts_app (b : UInt8) : ∀ (x y cur : List UInt8), (∀ c ∈ x, c ≠ b) → parts b (x ++ b :: y) cur = (cur ++ x) :: parts b y []
  | [], y, cur, _ => by simp [parts]
  | c :: t, y, cur, h => by
    have h0 := h c (by simp)
    simp only [List.cons_append, parts, if_neg h0]
    rw [parts_app b t y (cur ++ [c]) (fun x hx => h x (by simp [hx]))]
    simp

theorem parts_tail (b : UInt8) : ∀ (r : List (List UInt8)) (x cur : List UInt8), (∀ c ∈ x, c ≠ b) → (∀ y ∈ r, ∀ c ∈ y, c ≠ b) → parts b (x ++ joinTail [b] r) cur = (cur ++ x) :: r
  | [], x, cur, hx, _ => by simp [joinTail, parts_none b x cur hx]
  | y :: r, x, cur, hx, hr => by
    have e : joinTail [b] (y :: r) = b :: (y ++ joinTail [b] r) := by simp [joinTail]
    rw [e, parts_app b x _ cur hx, parts_tail b r y [] (hr y (by simp)) (fun z hz => hr z (by simp [hz]))]
    simp
/-- What is put together with a byte between that none has is parted into the same. -/
theorem parts_join (b : UInt8) (L : List (List UInt8)) (hne : L ≠ []) (h : ∀ y ∈ L, ∀ c ∈ y, c ≠ b) : parts b (join L [b]) [] = L := by
  cases L with
  | nil => exact absurd rfl hne
  | cons x r =>
    rw [join_cons, parts_tail b r x [] (h x (by simp)) (fun y hy => h y (by simp [hy]))]
    simp

end Go.Proofs.YthkdbklphdpkcaaGreat.fldp
