/- What reads tokens without a fault reads them the same with more tokens behind, an nl or a ; first, and no else behind ends. -/
import Derived.Test.YtgbibfhacjjaeaaGreatSynSpec
namespace Go.Proofs.YtgbibfhacjjaeaaGreat.syn.bx
set_option maxRecDepth 20000 set_option linter.unusedVariables false set_option linter.unusedSimpArgs false
open Go.Proofs.YtgbibfhacjjaeaaGreat.lexs (Tok kNl kNum kStr kEre kOp kName kFunc kWord kBuilt)
open Go.Proofs.YtgbibfhacjjaeaaGreat.syn.ex (E Ext ExtI ok_le ne_lt E_f peek_E next_E dw_app dw_all lines_E ends_E ne_joined stepAhead_E)

/-- What may stand behind. -/
structure Good (X : List Tok) : Prop where
  nl : ∃ t Y, X = t :: Y ∧ (t.k = kNl ∨ t = ⟨kOp, o_semi⟩)
  el : ((X.dropWhile isEnd).headD tok0 == ⟨kWord, w_else⟩) = false
class NS (t : B) : Prop where ns : t ≠ o_semi
class NL (L : List B) : Prop where ns : L.contains o_semi = false
instance : NS o_comma := ⟨by decide⟩
instance : NS o_lbr := ⟨by decide⟩
instance : NS o_rpar := ⟨by decide⟩
instance : NS o_hat := ⟨by decide⟩
instance : NS o_quest := ⟨by decide⟩
instance : NS o_lpar := ⟨by decide⟩
instance : NS o_rbrace := ⟨by decide⟩
instance : NS o_lbrace := ⟨by decide⟩
instance : NL opsStep := ⟨by decide⟩
instance : NL opsAssign := ⟨by decide⟩
instance : NL opsComp := ⟨by decide⟩
instance : NL opsJoin := ⟨by decide⟩
instance : NL opsMatch := ⟨by decide⟩
instance : NL opsProduct := ⟨by decide⟩
instance : NL opsSum := ⟨by decide⟩
instance : NL opsSend := ⟨by decide⟩
instance : NL [o_lpar] := ⟨by decide⟩
instance : NL [o_plus, o_minus] := ⟨by decide⟩
instance : NL [o_bang, o_plus, o_minus] := ⟨by decide⟩
instance : NL [o_gt] := ⟨by decide⟩
instance : NL [o_andand] := ⟨by decide⟩
instance : NL [o_oror] := ⟨by decide⟩
instance : NL [o_rbrace] := ⟨by decide⟩
instance : NL [o_rbrace, o_rpar] := ⟨by decide⟩
instance : NL [o_rpar] := ⟨by decide⟩
instance : NL [o_lbrace] := ⟨by decide⟩
theorem end_op {t : Tok} (h : t.k = kNl ∨ t = ⟨kOp, o_semi⟩) (c : B) [n : NS c] : (t == (⟨kOp, c⟩ : Tok)) = false := by
  rw [beq_eq_false_iff_ne]
  intro e
  rcases h with h | h
  · rw [e] at h; exact absurd (show kOp = kNl from h) (by decide)
  · rw [h] at e; exact n.ns (by injection e with e1 e2; exact e2.symm)
theorem end_word {t : Tok} (h : t.k = kNl ∨ t = ⟨kOp, o_semi⟩) (c : B) : (t == (⟨kWord, c⟩ : Tok)) = false := by
  rw [beq_eq_false_iff_ne]
  intro e
  rcases h with h | h
  · rw [e] at h; exact absurd (show kWord = kNl from h) (by decide)
  · rw [h] at e; injection e with e1 e2; revert e1; decide
theorem end_ops {t : Tok} (h : t.k = kNl ∨ t = ⟨kOp, o_semi⟩) (L : List B) [n : NL L] : (t.k == kOp && L.contains t.t) = false := by
  rcases h with h | h
  · rw [h]; rfl
  · rw [h, Bool.and_eq_false_iff]; exact Or.inr n.ns
theorem end_name {t : Tok} (h : t.k = kNl ∨ t = ⟨kOp, o_semi⟩) : isName t = false := by
  unfold isName
  rcases h with h | h
  · rw [h]; decide
  · rw [h]; decide
theorem end_kind {t : Tok} (h : t.k = kNl ∨ t = ⟨kOp, o_semi⟩) : ¬ (t.k = kNum ∨ t.k = kStr ∨ t.k = kEre ∨ t.k = kName ∨ t.k = kFunc ∨ t.k = kBuilt) := by
  rcases h with h | h
  · rw [h]; decide
  · rw [h]; decide
section
variable {X : List Tok} (hX : Good X)
include hX
theorem peek_E0 {s : PS} (h : s.r = []) : (peek (E X s)).k = kNl ∨ peek (E X s) = ⟨kOp, o_semi⟩ := by
  obtain ⟨t, Y, rfl, ht⟩ := hX.nl
  unfold peek E
  rw [h]
  exact ht
theorem isOp_E (s : PS) (t : B) [NS t] : isOp (E X s) t = isOp s t := by
  by_cases h : s.r = []
  · unfold isOp
    rw [end_op (peek_E0 hX h) t, peek_nil h]
    exact (beq_eq_false_iff_ne.2 (fun e => by cases e)).symm
  · unfold isOp; rw [peek_E h]
theorem isWord_E (s : PS) (t : B) : isWord (E X s) t = isWord s t := by
  by_cases h : s.r = []
  · unfold isWord
    rw [end_word (peek_E0 hX h) t, peek_nil h]
    exact (beq_eq_false_iff_ne.2 (fun e => by cases e)).symm
  · unfold isWord; rw [peek_E h]
theorem atOp_E (s : PS) (L : List B) [NL L] : atOp (E X s) L = atOp s L := by
  by_cases h : s.r = []
  · unfold atOp
    rw [end_ops (peek_E0 hX h) L, peek_nil h]
    rfl
  · unfold atOp; rw [peek_E h]
theorem isName_E (s : PS) : isName (peek (E X s)) = isName (peek s) := by
  by_cases h : s.r = []
  · rw [end_name (peek_E0 hX h), peek_nil h]
    rfl
  · rw [peek_E h]
omit hX in
theorem wantO_E (hX : Good X) (t : B) (s : PS) (h : (wantO t s).f = false) : wantO t (E X s) = E X (wantO t s) := by
  unfold wantO at h ⊢
  cases hc : isOp s t with
  | false => rw [hc, if_neg (by decide)] at h; cases h
  | true =>
    have hne := ne_of_isOp hc
    have e : isOp (E X s) t = true := by unfold isOp; rw [peek_E hne]; exact hc
    rw [e, if_pos rfl, if_pos rfl, next_E hne]
theorem wantW_E (t : B) (s : PS) (h : (wantW t s).f = false) : wantW t (E X s) = E X (wantW t s) := by
  unfold wantW at h ⊢
  rw [isWord_E hX]
  cases hc : isWord s t with
  | false => rw [hc, if_neg (by decide)] at h; cases h
  | true => rw [if_pos rfl, if_pos rfl, next_E (ne_of_isWord hc)]
theorem name_E : Ext X name := by
  intro s h
  have hn : isName (peek s) = true := by
    cases hc : isName (peek s) with
    | true => rfl
    | false => unfold name nameS at h; rw [hc, if_neg (by decide)] at h; cases h
  have hne : s.r ≠ [] := ne_of_peek (fun e => by rw [e] at hn; revert hn; decide)
  unfold name nameS
  rw [isName_E hX, hn, if_pos rfl, if_pos rfl, peek_E hne, next_E hne]
end
section
variable {X : List Tok} (hX : Good X) {I : Inn} (hI : ExtI X I) (hL : LtI I)
include hX hI hL
theorem listL_E (k k' : Nat) (f : Fo) (s : PS) (hk : s.r.length ≤ k) (hk' : k ≤ k') (h : (listL I k f s).2.f = false) : listL I k' f (E X s) = ((listL I k f s).1, E X (listL I k f s).2) := by
  induction k generalizing k' f s with
  | zero =>
    have hr : s.r = [] := List.eq_nil_of_length_eq_zero (by omega)
    have hc : isOp s o_comma = false := by
      cases hc : isOp s o_comma with
      | false => rfl
      | true => exact absurd hr (ne_of_isOp hc)
    cases k' with
    | zero => rfl
    | succ k' => unfold listL; rw [isOp_E hX, hc, if_neg (by decide)]
  | succ k ih =>
    obtain ⟨k', rfl⟩ : ∃ m, k' = m + 1 := ⟨k' - 1, by omega⟩
    unfold listL at h ⊢
    rw [isOp_E hX]
    cases hc : isOp s o_comma with
    | false => rw [if_neg (by decide), if_neg (by decide)]
    | true =>
      rw [hc, if_pos rfl] at h
      rw [if_pos rfl, if_pos rfl]
      have hne := ne_of_isOp hc
      have h1 := ok_le (listL_le hL _ _ _) h
      have h2 := ne_lt (hL .expr _) h1
      rw [next_E hne, lines_E h2, hI .expr _ h1]
      refine ih _ _ _ ?_ (by omega) h
      have e1 := (hL .expr (skipLines (nextS s))).1.1
      have e2 := (skipLines_le (nextS s)).1
      have e3 : (nextS s).r.length = s.r.length - 1 := by unfold nextS; simp
      have e4 := List.length_pos_iff.2 hne
      omega
theorem list_E : Ext X (list I) := by
  intro s h
  have h1 := ok_le (listL_le hL _ _ _) h
  unfold list
  rw [hI .expr s h1]
  exact listL_E hX hI hL _ _ _ _ (Nat.le_refl _) (by simp [E]) h
theorem closedList_E (c : B) : Ext X (closedList c I) := by
  intro s h
  have h1 : (list I { s with s := false }).2.f = false := ok_le (wantO_lt c { (list I { s with s := false }).2 with s := s.s }).1 h
  have e := list_E hX hI hL { s with s := false } h1
  have e2 : E X { s with s := false } = { E X s with s := false } := rfl
  rw [e2] at e
  unfold closedList
  rw [e]
  have h2 := wantO_E hX c { (list I { s with s := false }).2 with s := s.s } h
  have e3 : E X { (list I { s with s := false }).2 with s := s.s } = { E X (list I { s with s := false }).2 with s := (E X s).s } := rfl
  rw [e3] at h2
  rw [h2]
theorem arguments_E : Ext X (arguments I) := by
  intro s h
  unfold arguments at h ⊢
  cases hc : isOp (wantO o_lpar s) o_rpar with
  | true =>
    rw [hc, if_pos rfl] at h
    have h1 : (wantO o_lpar s).f = false := h
    rw [wantO_E hX _ _ h1, isOp_E hX, hc, if_pos rfl, if_pos rfl, next_E (ne_of_isOp hc)]
  | false =>
    rw [hc, if_neg (by decide)] at h
    have h1 := ok_le (closedList_lt hL _ _).1 h
    rw [wantO_E hX _ _ h1, isOp_E hX, hc, if_neg (by decide), if_neg (by decide)]
    exact closedList_E hX hI hL _ _ h
theorem built_E (nm : B) : Ext X (built nm I) := by
  intro s h
  unfold built at h ⊢
  rw [atOp_E hX]
  split at h
  · rename_i hc
    rw [if_pos hc, if_pos hc]
  · rename_i hc
    rw [if_neg hc, if_neg hc]
    split at h
    · rename_i hr
      rw [arguments_E hX hI hL _ h, if_pos hr, if_pos hr]
    · cases h
theorem parenthesized_E : Ext X (parenthesized I) := by
  intro s h
  unfold parenthesized at h ⊢
  split at h
  · rename_i hc
    rw [closedList_E hX hI hL _ _ h, if_pos hc, if_pos hc]
  · rename_i hc
    have h1 := ok_le (name_lt _).1 h
    have h2 := ok_le (wantW_lt _ _).1 h1
    rw [closedList_E hX hI hL _ _ h2, if_neg hc, if_neg hc]
    dsimp only
    rw [wantW_E hX _ _ h1, name_E hX _ h]
omit hL
theorem field_E : Ext X (field I) := by
  intro s h
  unfold field at h ⊢
  rw [atOp_E hX]
  split at h
  · rename_i hc
    rw [if_pos hc, if_pos hc, hI .step s h]
  · rename_i hc
    rw [if_neg hc, if_neg hc, hI .operand s h]
include hL
theorem operand_E : Ext X (operand I) := by
  intro s h
  have hne : s.r ≠ [] := ne_lt (operand_lt hL s) h
  unfold operand at h ⊢
  rw [peek_E hne]
  split at h
  · rename_i h1
    rw [if_pos h1, if_pos h1, next_E hne]
  rename_i h1
  rw [if_neg h1, if_neg h1]
  split at h
  · rename_i h2
    rw [if_pos h2, if_pos h2, next_E hne, isOp_E hX]
    split at h
    · rename_i h3
      have h3' : isOp (nextS s) o_lbr = true := h3
      rw [if_pos h3', if_pos h3', next_E (ne_of_isOp h3'), closedList_E hX hI hL _ _ h]
    · rename_i h3
      have h3' : ¬ isOp (nextS s) o_lbr = true := h3
      rw [if_neg h3', if_neg h3']
  rename_i h2
  rw [if_neg h2, if_neg h2]
  split at h
  · rename_i h3
    rw [if_pos h3, if_pos h3, next_E hne, arguments_E hX hI hL _ h]
  rename_i h3
  rw [if_neg h3, if_neg h3]
  split at h
  · rename_i h4
    rw [if_pos h4, if_pos h4, next_E hne, built_E hX hI hL _ _ h]
  rename_i h4
  rw [if_neg h4, if_neg h4]
  split at h
  · rename_i h5
    rw [if_pos h5, if_pos h5, next_E hne, parenthesized_E hX hI hL _ h]
  rename_i h5
  rw [if_neg h5, if_neg h5]
  split at h
  · rename_i h6
    rw [if_pos h6, if_pos h6, next_E hne, field_E hX hI _ h]
  · cases h
theorem stepped_E : Ext X (stepped I) := by
  intro s h
  have hne : s.r ≠ [] := ne_lt (stepped_lt hL s) h
  unfold stepped at h ⊢
  rw [atOp_E hX]
  split at h
  · rename_i hc
    rw [if_pos hc, if_pos hc, stepAhead_E hI s hne h]
  · rename_i hc
    rw [if_neg hc, if_neg hc]
    have h1 : (operand I s).2.f = false := by
      split at h
      · exact h
      · exact h
    rw [operand_E hX hI hL s h1]
    dsimp only
    rw [atOp_E hX]
    split at h
    · rename_i hd
      have hd2 : atOp (operand I s).2 opsStep = true := by
        rw [Bool.and_eq_true] at hd
        exact hd.2
      rw [if_pos hd, if_pos hd, peek_E (ne_of_atOp hd2), next_E (ne_of_atOp hd2)]
    · rename_i hd
      rw [if_neg hd, if_neg hd]
theorem power_E : Ext X (power I) := by
  intro s h
  have hJ := stepped_E hX hI hL
  have hl := stepped_lt hL
  unfold power at h ⊢
  generalize stepped I = J at *
  split at h
  · rename_i hc
    have h1 : (nextS (J s).2).f = false := ok_le (hL .exponent _).1 h
    rw [hJ s h1]
    dsimp only
    rw [isOp_E hX, if_pos hc, if_pos hc, next_E (ne_of_isOp hc), hI .exponent _ h]
  · rename_i hc
    rw [hJ s h]
    dsimp only
    rw [isOp_E hX, if_neg hc, if_neg hc]
theorem exponent_E : Ext X (exponent I) := by
  intro s h
  unfold exponent at h ⊢
  rw [atOp_E hX]
  split at h
  · rename_i hc
    rw [if_pos hc, if_pos hc, peek_E (ne_of_atOp hc), next_E (ne_of_atOp hc), hI .exponent _ h]
  · rename_i hc
    rw [if_neg hc, if_neg hc, power_E hX hI hL s h]
theorem signed_E : Ext X (signed I) := by
  intro s h
  unfold signed at h ⊢
  rw [atOp_E hX]
  split at h
  · rename_i hc
    rw [if_pos hc, if_pos hc, peek_E (ne_of_atOp hc), next_E (ne_of_atOp hc), hI .signed _ h]
  · rename_i hc
    rw [if_neg hc, if_neg hc, power_E hX hI hL s h]
omit hI hL
theorem leftL_E {t : Rd} (ht : Ext X t) (hl : ∀ s, Lt (t s).2 s) (L : List B) [NL L] (k k' : Nat) (n : Nd) (s : PS) (hk : s.r.length ≤ k) (hk' : k ≤ k') (h : (leftL t L k n s).2.f = false) : leftL t L k' n (E X s) = ((leftL t L k n s).1, E X (leftL t L k n s).2) := by
  induction k generalizing k' n s with
  | zero =>
    have hr : s.r = [] := List.eq_nil_of_length_eq_zero (by omega)
    have hc : atOp s L = false := by
      cases hc : atOp s L with
      | false => rfl
      | true => exact absurd hr (ne_of_atOp hc)
    cases k' with
    | zero => rfl
    | succ k' => unfold leftL; rw [atOp_E hX, hc, if_neg (by decide)]
  | succ k ih =>
    obtain ⟨k', rfl⟩ : ∃ m, k' = m + 1 := ⟨k' - 1, by omega⟩
    unfold leftL at h ⊢
    rw [atOp_E hX]
    cases hc : atOp s L with
    | false => rw [if_neg (by decide), if_neg (by decide)]
    | true =>
      rw [hc, if_pos rfl] at h
      rw [if_pos rfl, if_pos rfl]
      have hne := ne_of_atOp hc
      have h1 := ok_le (leftL_le hl L _ _ _) h
      have h2 := ne_lt (hl _) h1
      have h3 : lineS (peek s).t (E X (nextS s)) = E X (lineS (peek s).t (nextS s)) := by
        unfold lineS at h2 ⊢
        split
        · rename_i hp
          rw [if_pos hp] at h2
          exact lines_E h2
        · rfl
      rw [peek_E hne, next_E hne, h3, ht _ h1]
      refine ih _ _ _ ?_ (by omega) h
      have e1 := (hl (lineS (peek s).t (nextS s))).1.1
      have e2 := (lineS_le (peek s).t (nextS s)).1
      have e3 : (nextS s).r.length = s.r.length - 1 := by unfold nextS; simp
      have e4 := List.length_pos_iff.2 hne
      omega
theorem fromLeft_E {t : Rd} (ht : Ext X t) (hl : ∀ s, Lt (t s).2 s) (L : List B) [NL L] : Ext X (fromLeft t L) := by
  intro s h
  have h1 := ok_le (leftL_le hl L _ _ _) h
  unfold fromLeft
  rw [ht s h1]
  exact leftL_E hX ht hl L _ _ _ _ (Nat.le_refl _) (by simp [E]) h
theorem joined_at (s : PS) : atJoined (E X s) = atJoined s := by
  unfold atJoined
  by_cases h : s.r = []
  · rw [atOp_E hX, if_neg (end_kind (peek_E0 hX h)), peek_nil h, if_neg (by decide)]
  · rw [atOp_E hX, peek_E h]
theorem joinL_E {t : Rd} (ht : Ext X t) (hl : ∀ s, Lt (t s).2 s) (k k' : Nat) (n : Nd) (s : PS) (hk : s.r.length ≤ k) (hk' : k ≤ k') (h : (joinL t k n s).2.f = false) : joinL t k' n (E X s) = ((joinL t k n s).1, E X (joinL t k n s).2) := by
  induction k generalizing k' n s with
  | zero =>
    have hr : s.r = [] := List.eq_nil_of_length_eq_zero (by omega)
    have hc : atJoined s = false := by
      cases hc : atJoined s with
      | false => rfl
      | true => exact absurd hr (ne_joined hc)
    cases k' with
    | zero => rfl
    | succ k' => unfold joinL; rw [joined_at hX, hc, if_neg (by decide)]
  | succ k ih =>
    obtain ⟨k', rfl⟩ : ∃ m, k' = m + 1 := ⟨k' - 1, by omega⟩
    unfold joinL at h ⊢
    rw [joined_at hX]
    cases hc : atJoined s with
    | false => rw [if_neg (by decide), if_neg (by decide)]
    | true =>
      rw [hc, if_pos rfl] at h
      rw [if_pos rfl, if_pos rfl]
      have hne := ne_joined hc
      have h1 := ok_le (joinL_le hl _ _ _) h
      rw [ht _ h1]
      refine ih _ _ _ ?_ (by omega) h
      have e1 := (hl s).2.2
      have e4 := List.length_pos_iff.2 hne
      omega
theorem memL_E (k k' : Nat) (n : Nd) (s : PS) (hk : s.r.length ≤ k) (hk' : k ≤ k') (h : (memL k n s).2.f = false) : memL k' n (E X s) = ((memL k n s).1, E X (memL k n s).2) := by
  induction k generalizing k' n s with
  | zero =>
    have hr : s.r = [] := List.eq_nil_of_length_eq_zero (by omega)
    have hc : isWord s w_in = false := by
      cases hc : isWord s w_in with
      | false => rfl
      | true => exact absurd hr (ne_of_isWord hc)
    cases k' with
    | zero => rfl
    | succ k' => unfold memL; rw [isWord_E hX, hc, if_neg (by decide)]
  | succ k ih =>
    obtain ⟨k', rfl⟩ : ∃ m, k' = m + 1 := ⟨k' - 1, by omega⟩
    unfold memL at h ⊢
    rw [isWord_E hX]
    cases hc : isWord s w_in with
    | false => rw [if_neg (by decide), if_neg (by decide)]
    | true =>
      rw [hc, if_pos rfl] at h
      rw [if_pos rfl, if_pos rfl]
      have hne := ne_of_isWord hc
      have h1 := ok_le (memL_le _ _ _) h
      rw [next_E hne, name_E hX _ h1]
      refine ih _ _ _ ?_ (by omega) h
      have e1 := (name_lt (nextS s)).1.1
      have e3 : (nextS s).r.length = s.r.length - 1 := by unfold nextS; simp
      have e4 := List.length_pos_iff.2 hne
      omega
include hI hL
theorem product_E : Ext X (product I) := by
  have h1 := signed_E hX hI hL
  have h2 := signed_lt hL
  unfold product
  generalize signed I = J at *
  exact fromLeft_E hX h1 h2 _
theorem sum_E : Ext X (sum I) := by
  have h1 := product_E hX hI hL
  have h2 := product_lt hL
  unfold sum
  generalize product I = J at *
  exact fromLeft_E hX h1 h2 _
theorem joined_E : Ext X (joined I) := by
  intro s h
  have hJ := sum_E hX hI hL
  have hl := sum_lt hL
  unfold joined at h ⊢
  generalize sum I = J at *
  have h1 := ok_le (joinL_le hl _ _ _) h
  rw [hJ s h1]
  exact joinL_E hX hJ hl _ _ _ _ (Nat.le_refl _) (by simp [E]) h
theorem compared_E : Ext X (compared I) := by
  intro s h
  have hJ := joined_E hX hI hL
  have hl := joined_lt hL
  unfold compared at h ⊢
  generalize joined I = J at *
  have h1 : (J s).2.f = false := by
    split at h
    · exact ok_le (nextS_le _) (ok_le (hl _).1 h)
    · exact h
  rw [hJ s h1]
  dsimp only
  rw [atOp_E hX, atOp_E hX]
  split at h
  · rename_i hc
    have hne : (J s).2.r ≠ [] := by
      rw [Bool.or_eq_true, Bool.and_eq_true] at hc
      rcases hc with hc | hc
      · exact ne_of_atOp hc
      · exact ne_of_atOp hc.1
    have hc2 : (atOp (J s).2 opsComp || atOp (J s).2 [o_gt] && !(E X (J s).2).s) = true := hc
    rw [if_pos hc2, if_pos hc, peek_E hne, next_E hne, hJ _ h]
  · rename_i hc
    have hc2 : ¬ (atOp (J s).2 opsComp || atOp (J s).2 [o_gt] && !(E X (J s).2).s) = true := hc
    rw [if_neg hc2, if_neg hc]
theorem matched_E : Ext X (matched I) := by
  have h1 := compared_E hX hI hL
  have h2 := compared_lt hL
  unfold matched
  generalize compared I = J at *
  exact fromLeft_E hX h1 h2 _
theorem member_E : Ext X (member I) := by
  intro s h
  have hJ := matched_E hX hI hL
  unfold member at h ⊢
  generalize matched I = J at *
  have h1 := ok_le (memL_le _ _ _) h
  rw [hJ s h1]
  exact memL_E hX _ _ _ _ (Nat.le_refl _) (by simp [E]) h
theorem both_E : Ext X (both I) := by
  have h1 := member_E hX hI hL
  have h2 := member_lt hL
  unfold both
  generalize member I = J at *
  exact fromLeft_E hX h1 h2 _
theorem either_E : Ext X (either I) := by
  have h1 := both_E hX hI hL
  have h2 := both_lt hL
  unfold either
  generalize both I = J at *
  exact fromLeft_E hX h1 h2 _
theorem alternative_E : Ext X (alternative I) := by
  intro s h
  have hJ := either_E hX hI hL
  have hl := either_lt hL
  unfold alternative at h ⊢
  generalize either I = J at *
  split at h
  · rename_i hc
    have h1 := ok_le (hL .expr _).1 h
    have n1 := ne_lt (hL .expr _) h
    have h2 : (wantO o_colon (I .expr (skipLines (nextS (J s).2))).2).f = false := h1
    have h3 := ok_le (wantO_lt _ _).1 h2
    have n3 := ne_lt (hL .expr _) h3
    have h4 : (J s).2.f = false := show (skipLines (nextS (J s).2)).f = false from ok_le (hL .expr _).1 h3
    rw [hJ s h4]
    dsimp only
    rw [isOp_E hX, if_pos hc, if_pos hc, next_E (ne_of_isOp hc), lines_E n3, hI .expr _ h3]
    dsimp only
    rw [wantO_E hX _ _ h2, lines_E n1, hI .expr _ h]
  · rename_i hc
    rw [hJ s h]
    dsimp only
    rw [isOp_E hX, if_neg hc, if_neg hc]
theorem expression_E : Ext X (expression I) := by
  intro s h
  have hJ := alternative_E hX hI hL
  have hl := alternative_lt hL
  unfold expression at h ⊢
  generalize alternative I = J at *
  split at h
  · rename_i hc
    split at h
    · rename_i hp
      have h1 : (J s).2.f = false := show (nextS (J s).2).f = false from ok_le (hL .expr _).1 h
      rw [hJ s h1]
      dsimp only
      rw [atOp_E hX, if_pos hc, if_pos hc, if_pos hp, if_pos hp, peek_E (ne_of_atOp hc), next_E (ne_of_atOp hc), hI .expr _ h]
    · cases h
  · rename_i hc
    rw [hJ s h]
    dsimp only
    rw [atOp_E hX, if_neg hc, if_neg hc]
end
section
variable {X : List Tok} (hX : Good X)
theorem atEnd_E {s : PS} (h : s.r ≠ []) : atEnd (E X s) = atEnd s := by unfold atEnd; rw [peek_E h]
include hX
theorem simpleEnd_E {s : PS} (h : s.r ≠ []) : atSimpleEnd (E X s) = atSimpleEnd s := by unfold atSimpleEnd; rw [atEnd_E h, atOp_E hX]
omit hX
theorem atEnd_nil {s : PS} (h : s.r = []) : atEnd s = false := by unfold atEnd; rw [peek_nil h]; decide
theorem atOp_nil {s : PS} (h : s.r = []) (L : List B) : atOp s L = false := by
  cases hc : atOp s L with
  | false => rfl
  | true => exact absurd h (ne_of_atOp hc)
theorem simpleEnd_nil {s : PS} (h : s.r = []) : atSimpleEnd s = false := by unfold atSimpleEnd; rw [atEnd_nil h, atOp_nil h]; rfl
include hX
theorem takeElse_E (s : PS) : takeElse (E X s) = ((takeElse s).1, E X (takeElse s).2) := by
  unfold takeElse
  by_cases h : (skipEnds s).r = []
  · have h1 : isWord (skipEnds s) w_else = false := by
      cases hc : isWord (skipEnds s) w_else with
      | false => rfl
      | true => exact absurd h (ne_of_isWord hc)
    have h2 : skipEnds (E X s) = { s with r := X.dropWhile isEnd } := by
      unfold skipEnds E
      have := dw_all isEnd s.r X h
      simp only [this]
    have h3 : isWord (skipEnds (E X s)) w_else = false := by rw [h2]; exact hX.el
    rw [h1, h3, if_neg (by decide), if_neg (by decide)]
  · rw [ends_E h, isWord_E hX]
    cases hc : isWord (skipEnds s) w_else with
    | false => rw [if_neg (by decide), if_neg (by decide)]
    | true => rw [if_pos rfl, if_pos rfl, next_E (ne_of_isWord hc)]
theorem isForIn_E (s : PS) : isForIn (E X s) = isForIn s := by
  obtain ⟨t, Y, rfl, ht⟩ := hX.nl
  have e1 := end_word ht w_in
  have e2 := end_op ht o_rpar
  have e3 := end_name ht
  have f1 : (tok0 == (⟨kWord, w_in⟩ : Tok)) = false := by decide
  have f2 : (tok0 == (⟨kOp, o_rpar⟩ : Tok)) = false := by decide
  have f3 : isName tok0 = false := rfl
  unfold isForIn ahead peek E
  rcases s.r with _ | ⟨a, _ | ⟨b, _ | ⟨c, _ | ⟨d, l⟩⟩⟩⟩
  · simp only [List.nil_append, List.headD, List.getD, f3, e3, Bool.false_and]
  · simp [List.headD, List.getD, f1, e1]
  · simp [List.headD, List.getD, f3, e3]
  · simp [List.headD, List.getD, f2, e2]
  · simp [List.headD, List.getD]
end

section
variable {X : List Tok} (hX : Good X) {I : Inn} (hI : ExtI X I) (hL : LtI I)
include hX hI hL
theorem leaving_E (nm : B) (s : PS) (h : (leaving nm I s).2.f = false) : leaving nm I (E X s) = ((leaving nm I s).1, E X (leaving nm I s).2) := by
  unfold leaving at h ⊢
  by_cases hne : s.r = []
  · rw [simpleEnd_nil hne, if_neg (by decide)] at h
    exact absurd hne (ne_lt (hL .expr s) h)
  · rw [simpleEnd_E hX hne]
    split at h
    · rename_i hc
      rw [if_pos hc, if_pos hc]
    · rename_i hc
      rw [if_neg hc, if_neg hc, hI .expr s h]
theorem deletion_E : Ext X (deletion I) := by
  intro s h
  unfold deletion at h ⊢
  have h1 : (wantO o_lbr (name s).2).f = false := ok_le (closedList_lt hL _ _).1 h
  have h2 : (name s).2.f = false := ok_le (wantO_lt _ _).1 h1
  rw [name_E hX s h2]
  dsimp only
  rw [wantO_E hX _ _ h1, closedList_E hX hI hL _ _ h]
theorem sentList_E : Ext X (sentList I) := by
  intro s h
  unfold sentList at h ⊢
  have e := list_E hX hI hL { s with s := true } h
  have e2 : E X { s with s := true } = { E X s with s := true } := rfl
  rw [e2] at e
  rw [e]
  rfl
theorem printed_E : Ext X (printed I) := by
  intro s h
  have hC := closedList_E hX hI hL o_rpar
  have hS := sentList_E hX hI hL
  unfold printed at h ⊢
  rw [isOp_E hX]
  generalize closedList o_rpar I = C at *
  cases hc : isOp s o_lpar with
  | false =>
    rw [hc, if_neg (by decide)] at h
    rw [if_neg (by decide), if_neg (by decide), hS s h]
  | true =>
    rw [hc, if_pos rfl] at h
    rw [if_pos rfl, if_pos rfl, next_E (ne_of_isOp hc)]
    have hf : (C (nextS s)).2.f = false := by
      split at h
      · exact h
      · rename_i hn
        cases hf : (C (nextS s)).2.f with
        | false => rfl
        | true => rw [hf] at hn; exact absurd rfl hn
    rw [hC _ hf]
    dsimp only
    rw [isWord_E hX]
    have hE : (E X (C (nextS s)).2).f = (C (nextS s)).2.f := rfl
    rw [hE]
    split at h
    · rename_i hd
      rw [if_pos hd, if_pos hd]
    · rename_i hd
      rw [if_neg hd, if_neg hd]
      exact hS { (C (nextS s)).2 with r := s.r } h
omit hX hI
theorem printed_ne (s : PS) (h : (printed I s).2.f = false) : s.r ≠ [] := by
  unfold printed at h
  cases hc : isOp s o_lpar with
  | true => exact ne_of_isOp hc
  | false =>
    rw [hc, if_neg (by decide)] at h
    exact ne_lt (list_lt hL { s with s := true }) h
include hX hI
omit hL
theorem sent_E (nm : B) (l : Fo) : Ext X (sent nm I l) := by
  intro s h
  unfold sent at h ⊢
  rw [atOp_E hX]
  split at h
  · rename_i hc
    rw [if_pos hc, if_pos hc, peek_E (ne_of_atOp hc), next_E (ne_of_atOp hc), hI .joined _ h]
  · rename_i hc
    rw [if_neg hc, if_neg hc]
include hL
theorem printing_E (nm : B) : Ext X (printing nm I) := by
  intro s h
  have hP := printed_E hX hI hL
  have hN := printed_ne hL
  have hS := sent_E hX hI nm
  have hSl := sent_le hL nm
  unfold printing at h ⊢
  generalize printed I = P at *
  have hne : s.r ≠ [] := by
    intro e
    rw [simpleEnd_nil e, atOp_nil e, if_pos (by rfl)] at h
    exact hN s (ok_le (hSl _ _) h) e
  rw [simpleEnd_E hX hne, atOp_E hX]
  split at h
  · rename_i hc
    rw [if_pos hc, if_pos hc, hP s (ok_le (hSl _ _) h), hS _ _ h]
  · rename_i hc
    rw [if_neg hc, if_neg hc]
    split at h
    · cases h
    · rename_i hd
      rw [if_neg hd, if_neg hd, hS _ _ h]
theorem command_E (nm : B) : Ext X (command nm I) := by
  intro s h
  have hP := printing_E hX hI hL nm
  have hD := deletion_E hX hI hL
  have hV := leaving_E hX hI hL nm
  unfold command at h ⊢
  have ek : (E X s).k = s.k := rfl
  have el : (E X s).l = s.l := rfl
  rw [ek, el]
  split at h
  · rename_i hc; rw [if_pos hc, if_pos hc, hP s h]
  rename_i hc; rw [if_neg hc, if_neg hc]
  split at h
  · rename_i hd; rw [if_pos hd, if_pos hd, hD s h]
  rename_i hd; rw [if_neg hd, if_neg hd]
  split at h
  · rename_i he; rw [if_pos he, if_pos he, hV s h]
  rename_i he; rw [if_neg he, if_neg he]
  split at h
  · rename_i hr; rw [if_pos hr, if_pos hr]
    split at h
    · rename_i hk; rw [if_pos hk, if_pos hk, hV s h]
    · cases h
  rename_i hr; rw [if_neg hr, if_neg hr]
  split at h
  · rename_i hn; rw [if_pos hn, if_pos hn]
    split at h
    · rename_i hk; rw [if_pos hk, if_pos hk]
    · cases h
  rename_i hn; rw [if_neg hn, if_neg hn]
  split at h
  · rename_i hb; rw [if_pos hb, if_pos hb]
    split at h
    · rename_i hk; rw [if_pos hk, if_pos hk]
    · cases h
  · cases h
theorem simple_E : Ext X (simple I) := by
  intro s h
  have hne := ne_lt (simple_lt hL s) h
  have hC := fun nm => command_E hX hI hL nm
  unfold simple at h ⊢
  rw [peek_E hne]
  split at h
  · rename_i hc
    rw [if_pos hc, if_pos hc, next_E hne, hC _ _ h]
  · rename_i hc
    rw [if_neg hc, if_neg hc, hI .expr s h]
omit hX hI
theorem blkL_ne (k : Nat) (f : Fo) (s : PS) (hk : 1 ≤ k) (h : (blkL I k f s).2.f = false) : s.r ≠ [] := by
  obtain ⟨k, rfl⟩ : ∃ m, k = m + 1 := ⟨k - 1, by omega⟩
  unfold blkL at h
  split at h
  · rename_i hf
    have : s.f = false := h
    rw [hf] at this
    cases this
  · split at h
    · rename_i hc
      exact ne_of_isOp hc
    · exact ne_lt (hL .statement s) (show (I .statement s).2.f = false from ok_le (skipEnds_le _) (ok_le (blkL_le hL _ _ _) h))
include hX hI
theorem blkL_E (k k' : Nat) (f : Fo) (s : PS) (hk : s.r.length + 2 ≤ k) (hk' : k ≤ k') (h : (blkL I k f s).2.f = false) : blkL I k' f (E X s) = ((blkL I k f s).1, E X (blkL I k f s).2) := by
  induction k generalizing k' f s with
  | zero => omega
  | succ k ih =>
    obtain ⟨k', rfl⟩ : ∃ m, k' = m + 1 := ⟨k' - 1, by omega⟩
    unfold blkL at h ⊢
    have ef : (E X s).f = s.f := rfl
    rw [isOp_E hX, ef]
    split at h
    · rename_i hf
      rw [if_pos hf, if_pos hf]
    rename_i hf
    rw [if_neg hf, if_neg hf]
    split at h
    · rename_i hc
      rw [if_pos hc, if_pos hc, next_E (ne_of_isOp hc)]
    rename_i hc
    rw [if_neg hc, if_neg hc]
    have h1 : (I .statement s).2.f = false := show (skipEnds (I .statement s).2).f = false from ok_le (blkL_le hL _ _ _) h
    have hlt := hL .statement s
    have hne := ne_lt hlt h1
    have hn2 := blkL_ne hL k _ _ (by have := List.length_pos_iff.2 hne; omega) h
    rw [hI .statement s h1]
    dsimp only
    rw [ends_E hn2]
    refine ih _ _ _ ?_ (by omega) h
    have e1 := (skipEnds_le (I .statement s).2).1
    have e2 : (I .statement s).2.r.length < s.r.length := by
      rcases hlt.2.1 with e | e
      · rw [h1] at e; cases e
      · exact e
    omega
theorem block_E : Ext X (block I) := by
  intro s h
  unfold block at h ⊢
  dsimp only at h ⊢
  have hn := blkL_ne hL _ _ _ (by omega) h
  have h1 : (wantO o_lbrace s).f = false := show (skipEnds (wantO o_lbrace s)).f = false from ok_le (blkL_le hL _ _ _) h
  rw [wantO_E hX _ _ h1, ends_E hn]
  rw [blkL_E hX hI hL _ ((E X (skipEnds (wantO o_lbrace s))).r.length + 2) .nil _ (Nat.le_refl _) (by simp [E]) h]
theorem condition_E : Ext X (condition I) := by
  intro s h
  unfold condition at h ⊢
  have h1 : (I .expr (wantO o_lpar s)).2.f = false := ok_le (wantO_lt _ _).1 h
  have h2 := ok_le (hL .expr _).1 h1
  rw [wantO_E hX _ _ h2, hI .expr _ h1]
  dsimp only
  rw [wantO_E hX _ _ h]
theorem choice_E (s : PS) (hne : s.r ≠ []) (h : (choice I s).2.f = false) : choice I (E X s) = ((choice I s).1, E X (choice I s).2) := by
  have hC := condition_E hX hI hL
  have hCl := condition_lt hL
  unfold choice at h ⊢
  dsimp only at h ⊢
  generalize condition I = C at *
  have ht : (takeElse (I .statement (skipLines (C (nextS s)).2)).2).2.f = false := by
    split at h
    · exact show (skipLines _).f = false from ok_le (hL .statement _).1 h
    · exact h
  have h1 : (I .statement (skipLines (C (nextS s)).2)).2.f = false := ok_le (takeElse_le _) ht
  have h2 : (C (nextS s)).2.f = false := show (skipLines (C (nextS s)).2).f = false from ok_le (hL .statement _).1 h1
  rw [next_E hne, hC _ h2]
  dsimp only
  rw [lines_E (ne_lt (hL .statement _) h1), hI .statement _ h1]
  dsimp only
  rw [takeElse_E hX]
  dsimp only
  split at h
  · rename_i hd
    rw [if_pos hd, if_pos hd, lines_E (ne_lt (hL .statement _) h), hI .statement _ h]
  · rename_i hd
    rw [if_neg hd, if_neg hd]
omit hX
theorem loopStatement_E : Ext X (loopStatement I) := by
  intro s h
  unfold loopStatement at h ⊢
  have h1 : (I .statement (moreL (skipLines s))).2.f = false := h
  have hn : (skipLines s).r ≠ [] := ne_lt (hL .statement (moreL (skipLines s))) h1
  rw [lines_E hn]
  have e : moreL (E X (skipLines s)) = E X (moreL (skipLines s)) := rfl
  rw [e, hI .statement _ h1]
  rfl
include hX
theorem doLoop_E : Ext X (doLoop I) := by
  intro s h
  have hC := condition_E hX hI hL
  have hCl := condition_lt hL
  have hP := loopStatement_E hI hL
  unfold doLoop at h ⊢
  dsimp only at h ⊢
  generalize condition I = C at *
  generalize loopStatement I = P at *
  have h1 : (wantW w_while (skipEnds (P s).2)).f = false := ok_le (hCl _).1 h
  have h2 : (P s).2.f = false := show (skipEnds (P s).2).f = false from ok_le (wantW_lt _ _).1 h1
  have hn : (skipEnds (P s).2).r ≠ [] := ne_lt (wantW_lt _ _) h1
  rw [hP s h2]
  dsimp only
  rw [ends_E hn, wantW_E hX _ _ h1, hC _ h]
theorem whileLoop_E (s : PS) (hne : s.r ≠ []) (h : (whileLoop I s).2.f = false) : whileLoop I (E X s) = ((whileLoop I s).1, E X (whileLoop I s).2) := by
  have hC := condition_E hX hI hL
  have hP := loopStatement_E hI hL
  have hPl := loopStatement_lt hL
  unfold whileLoop at h ⊢
  dsimp only at h ⊢
  generalize condition I = C at *
  generalize loopStatement I = P at *
  have h1 : (C (nextS s)).2.f = false := ok_le (hPl _).1 h
  rw [next_E hne, hC _ h1]
  dsimp only
  rw [hP _ h]
theorem forIn_E : Ext X (forIn I) := by
  intro s h
  have hP := loopStatement_E hI hL
  have hPl := loopStatement_lt hL
  unfold forIn at h ⊢
  dsimp only at h ⊢
  generalize loopStatement I = P at *
  have h1 : (wantO o_rpar (name (wantW w_in (name s).2)).2).f = false := ok_le (hPl _).1 h
  have h2 : (name (wantW w_in (name s).2)).2.f = false := ok_le (wantO_lt _ _).1 h1
  have h3 : (wantW w_in (name s).2).f = false := ok_le (name_lt _).1 h2
  have h4 : (name s).2.f = false := ok_le (wantW_lt _ _).1 h3
  rw [name_E hX s h4]
  dsimp only
  rw [wantW_E hX _ _ h3, name_E hX _ h2]
  dsimp only
  rw [wantO_E hX _ _ h1, hP _ h]
omit hL
omit hX in
theorem unless_E (hL : LtI I) (o : B) (x : W) : Ext X (unlessO o x I) := by
  intro s h
  by_cases hne : s.r = []
  · unfold unlessO at h
    rw [show atOp s [o] = false from atOp_nil hne _, if_neg (by decide)] at h
    exact absurd hne (ne_lt (hL x s) h)
  · unfold unlessO at h ⊢
    have e : atOp (E X s) [o] = atOp s [o] := by unfold atOp; rw [peek_E hne]
    rw [e]
    split at h
    · rename_i hc; rw [if_pos hc, if_pos hc]
    · rename_i hc; rw [if_neg hc, if_neg hc, hI x s h]
include hL
theorem forThree_E : Ext X (forThree I) := by
  intro s h
  have hU1 := unless_E hI hL o_semi .simple
  have hU2 := unless_E hI hL o_semi .expr
  have hU3 := unless_E hI hL o_rpar .simple
  have hl1 := unlessO_le hL o_semi .simple
  have hl2 := unlessO_le hL o_semi .expr
  have hl3 := unlessO_le hL o_rpar .simple
  have hP := loopStatement_E hI hL (X := X)
  have hPl := loopStatement_lt hL
  unfold forThree at h ⊢
  dsimp only at h ⊢
  generalize loopStatement I = P at *
  generalize unlessO o_semi .simple I = U1 at *
  generalize unlessO o_semi .expr I = U2 at *
  generalize unlessO o_rpar .simple I = U3 at *
  have h1 := ok_le (hPl _).1 h
  have h2 := ok_le (wantO_lt _ _).1 h1
  have h3 : (wantO o_semi (U2 (skipLines (wantO o_semi (U1 s).2))).2).f = false := show (skipLines _).f = false from ok_le (hl3 _) h2
  have h4 := ok_le (wantO_lt _ _).1 h3
  have h5 : (wantO o_semi (U1 s).2).f = false := show (skipLines _).f = false from ok_le (hl2 _) h4
  have h6 := ok_le (wantO_lt _ _).1 h5
  have n1 : (skipLines (wantO o_semi (U2 (skipLines (wantO o_semi (U1 s).2))).2)).r ≠ [] := by
    intro e
    have k1 := (hl3 (skipLines (wantO o_semi (U2 (skipLines (wantO o_semi (U1 s).2))).2))).1
    have k2 := ne_lt (wantO_lt _ _) h1
    rw [e] at k1
    exact k2 (List.eq_nil_of_length_eq_zero (Nat.le_zero.1 k1))
  have n2 : (skipLines (wantO o_semi (U1 s).2)).r ≠ [] := by
    intro e
    have k1 := (hl2 (skipLines (wantO o_semi (U1 s).2))).1
    have k2 := ne_lt (wantO_lt _ _) h3
    rw [e] at k1
    exact k2 (List.eq_nil_of_length_eq_zero (Nat.le_zero.1 k1))
  rw [hU1 s h6]
  dsimp only
  rw [wantO_E hX _ _ h5, lines_E n2, hU2 _ h4]
  dsimp only
  rw [wantO_E hX _ _ h3, lines_E n1, hU3 _ h2]
  dsimp only
  rw [wantO_E hX _ _ h1, hP _ h]
theorem forLoop_E (s : PS) (hne : s.r ≠ []) (h : (forLoop I s).2.f = false) : forLoop I (E X s) = ((forLoop I s).1, E X (forLoop I s).2) := by
  have hA := forIn_E hX hI hL
  have hB := forThree_E hX hI hL
  have hAl := forIn_lt hL
  have hBl := forThree_lt hL
  unfold forLoop at h ⊢
  generalize forIn I = A at *
  generalize forThree I = C at *
  have h1 : (wantO o_lpar (nextS s)).f = false := by
    split at h
    · exact ok_le (hAl _).1 h
    · exact ok_le (hBl _).1 h
  rw [next_E hne, wantO_E hX _ _ h1, isForIn_E hX]
  split at h
  · rename_i hc; rw [if_pos hc, if_pos hc, hA _ h]
  · rename_i hc; rw [if_neg hc, if_neg hc, hB _ h]
omit hI hL
theorem orFail_E (q : Nd × PS) (h : (orFail q).2.f = false) : orFail (q.1, E X q.2) = ((orFail q).1, E X (orFail q).2) ∧ q.2.f = false := by
  unfold orFail at h ⊢
  split at h
  · cases h
  · rename_i hc
    have hne : q.2.r ≠ [] := by
      intro e
      rw [atEnd_nil e, atOp_nil e] at hc
      exact hc rfl
    rw [if_neg hc]
    dsimp only
    rw [atEnd_E hne, atOp_E hX, if_neg hc]
    exact ⟨rfl, h⟩
include hI hL
theorem endedSimple_E (s : PS) (hne : s.r ≠ []) (h : (endedSimple I s).2.f = false) : endedSimple I (E X s) = ((endedSimple I s).1, E X (endedSimple I s).2) := by
  have hD := doLoop_E hX hI hL
  have hS := simple_E hX hI hL
  unfold endedSimple at h ⊢
  rw [isWord_E hX]
  obtain ⟨h1, h2⟩ := orFail_E hX _ h
  rw [← h1]
  congr 1
  split at h2
  · rename_i hc; rw [if_pos hc, if_pos hc, next_E hne, hD _ h2]
  · rename_i hc; rw [if_neg hc, if_neg hc, hS _ h2]
theorem statement_E : Ext X (statement I) := by
  intro s h
  have hne := ne_lt (statement_lt hL s) h
  have h1 := block_E hX hI hL
  have h2 := choice_E hX hI hL s hne
  have h3 := whileLoop_E hX hI hL s hne
  have h4 := forLoop_E hX hI hL s hne
  have h5 := endedSimple_E hX hI hL s hne
  unfold statement at h ⊢
  have es : ∀ c, isOp (E X s) c = isOp s c := fun c => by unfold isOp; rw [peek_E hne]
  rw [es, es, isWord_E hX, isWord_E hX, isWord_E hX]
  split at h
  · rename_i hc; rw [if_pos hc, if_pos hc, h1 s h]
  rename_i hc; rw [if_neg hc, if_neg hc]
  split at h
  · rename_i hd; rw [if_pos hd, if_pos hd, next_E hne]
  rename_i hd; rw [if_neg hd, if_neg hd]
  split at h
  · rename_i he; rw [if_pos he, if_pos he, h2 h]
  rename_i he; rw [if_neg he, if_neg he]
  split at h
  · rename_i hg; rw [if_pos hg, if_pos hg, h3 h]
  rename_i hg; rw [if_neg hg, if_neg hg]
  split at h
  · rename_i hk; rw [if_pos hk, if_pos hk, h4 h]
  rename_i hk; rw [if_neg hk, if_neg hk, h5 h]
omit hX
theorem stepAhead_E' : Ext X (stepAhead I) := fun s h => stepAhead_E hI s (ne_lt (stepAhead_lt hL s) h) h
include hX
theorem body_E (x : W) : Ext X (body I x) := by
  cases x with
  | expr => exact expression_E hX hI hL
  | signed => exact signed_E hX hI hL
  | exponent => exact exponent_E hX hI hL
  | operand => exact operand_E hX hI hL
  | step => exact stepAhead_E' hI hL
  | joined => exact joined_E hX hI hL
  | statement => exact statement_E hX hI hL
  | simple => exact simple_E hX hI hL
end
theorem inn_E {X : List Tok} (hX : Good X) (d : Nat) : ExtI X (inn d) := by
  induction d with
  | zero => intro x s h; cases h
  | succ d ih => exact fun x => body_E hX ih (inn_lt d) x
end Go.Proofs.YtgbibfhacjjaeaaGreat.syn.bx
