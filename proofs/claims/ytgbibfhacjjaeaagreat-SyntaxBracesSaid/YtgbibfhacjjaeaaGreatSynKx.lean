/- What is read of an expression changes neither the item's kind nor the count of loops. -/
import Derived.Test.YtgbibfhacjjaeaaGreatSynSpec
namespace Go.Proofs.YtgbibfhacjjaeaaGreat.syn.kx
set_option linter.unusedVariables false set_option linter.unusedSimpArgs false
open Go.Proofs.YtgbibfhacjjaeaaGreat.lexs (Tok kNl kNum kStr kEre kOp kName kFunc kWord kBuilt)

def Le (s' s : PS) : Prop := s'.k = s.k ∧ s'.l = s.l
def Lt (s' s : PS) : Prop := Le s' s ∧ True
theorem Le.refl (s : PS) : Le s s := ⟨rfl, rfl⟩
theorem Le.trans {a b c : PS} (h : Le a b) (k : Le b c) : Le a c := ⟨h.1.trans k.1, h.2.trans k.2⟩
theorem Lt.trans {a b c : PS} (h : Le a b) (k : Lt b c) : Lt a c := ⟨h.trans k.1, trivial⟩
theorem Lt.trans' {a b c : PS} (h : Lt a b) (k : Le b c) : Lt a c := ⟨h.1.trans k, trivial⟩
theorem failS_lt (s : PS) : Lt (failS s) s := ⟨⟨rfl, rfl⟩, trivial⟩
theorem failN_lt (s : PS) : Lt (failN s).2 s := failS_lt s
theorem nextS_le (s : PS) : Le (nextS s) s := ⟨rfl, rfl⟩
theorem nextS_lt {s : PS} (h : s.r ≠ []) : Lt (nextS s) s := ⟨⟨rfl, rfl⟩, trivial⟩
theorem wantO_lt (t : B) (s : PS) : Lt (wantO t s) s := by
  unfold wantO
  split
  · exact nextS_lt (ne_of_isOp (by assumption))
  · exact failS_lt s
theorem wantW_lt (t : B) (s : PS) : Lt (wantW t s) s := by
  unfold wantW
  split
  · exact nextS_lt (ne_of_isWord (by assumption))
  · exact failS_lt s
theorem nameS_le (s : PS) : Le (nameS s) s := by
  unfold nameS
  split
  · exact Le.refl s
  · exact (failS_lt s).1
theorem name_lt (s : PS) : Lt (name s).2 s := by
  unfold name nameS
  split
  · exact ⟨nextS_le s, trivial⟩
  · exact Lt.trans (nextS_le _) (failS_lt s)

theorem skipLines_le (s : PS) : Le (skipLines s) s := ⟨rfl, rfl⟩
theorem skipEnds_le (s : PS) : Le (skipEnds s) s := ⟨rfl, rfl⟩

/-- What holds of all that is read one node deeper. -/
def isE : W → Bool
  | .statement => false
  | .simple => false
  | _ => true
def LtI (I : Inn) : Prop := ∀ x s, isE x = true → Lt (I x s).2 s
section
variable {I : Inn} (hI : LtI I)
include hI
theorem listL_le (k : Nat) (f : Fo) (s : PS) : Le (listL I k f s).2 s := by
  induction k generalizing f s with
  | zero => exact Le.refl s
  | succ k ih =>
    unfold listL
    split
    · exact (ih _ _).trans ((hI _ _ rfl).1.trans ((skipLines_le _).trans (nextS_le s)))
    · exact Le.refl s
theorem list_lt (s : PS) : Lt (list I s).2 s := Lt.trans (listL_le hI _ _ _) (hI _ _ rfl)
theorem closedList_lt (c : B) (s : PS) : Lt (closedList c I s).2 s := by
  have h1 := (list_lt hI { s with s := false }).1
  have h2 := (wantO_lt c { (list I { s with s := false }).2 with s := s.s }).1
  exact ⟨⟨h2.1.trans h1.1, h2.2.trans h1.2⟩, trivial⟩
theorem arguments_lt (s : PS) : Lt (arguments I s).2 s := by
  unfold arguments
  split
  · exact Lt.trans (nextS_le _) (wantO_lt _ s)
  · exact (closedList_lt hI _ _).trans' (wantO_lt _ s).1
theorem built_le (nm : B) (s : PS) : Le (built nm I s).2 s := by
  unfold built
  split
  · exact Le.refl s
  · split
    · exact (arguments_lt hI s).1
    · exact (failN_lt _).1.trans (arguments_lt hI s).1
theorem parenthesized_lt (s : PS) : Lt (parenthesized I s).2 s := by
  unfold parenthesized
  split
  · exact closedList_lt hI _ s
  · exact Lt.trans ((name_lt _).1.trans (wantW_lt _ _).1) (closedList_lt hI _ s)
theorem field_lt (s : PS) : Lt (field I s).2 s := by
  unfold field
  split
  · exact hI _ s rfl
  · exact hI _ s rfl
theorem operand_lt (s : PS) : Lt (operand I s).2 s := by
  unfold operand
  split
  · rename_i h
    refine nextS_lt ?_
    rcases h with h | h | h
    · exact ne_of_k h (by decide)
    · exact ne_of_k h (by decide)
    · exact ne_of_k h (by decide)
  · split
    · rename_i h
      have hn := nextS_lt (ne_of_k h (by decide))
      split
      · exact Lt.trans ((closedList_lt hI _ _).1.trans (nextS_le _)) hn
      · exact hn
    · split
      · rename_i h
        exact Lt.trans (arguments_lt hI _).1 (nextS_lt (ne_of_k h (by decide)))
      · split
        · rename_i h
          exact Lt.trans (built_le hI _ _) (nextS_lt (ne_of_k h (by decide)))
        · split
          · rename_i h
            exact Lt.trans (parenthesized_lt hI _).1 (nextS_lt (ne_of_k h.1 (by decide)))
          · split
            · rename_i h
              exact Lt.trans (field_lt hI _).1 (nextS_lt (ne_of_k h.1 (by decide)))
            · exact (failN_lt _).trans' (nextS_le s)
theorem stepAhead_lt (s : PS) : Lt (stepAhead I s).2 s := by
  unfold stepAhead
  split
  · exact (hI _ _ rfl).trans' (nextS_le s)
  · exact (failN_lt _).trans' ((hI _ _ rfl).1.trans (nextS_le s))
theorem stepped_lt (s : PS) : Lt (stepped I s).2 s := by
  unfold stepped
  split
  · exact stepAhead_lt hI s
  · split
    · exact Lt.trans (nextS_le _) (operand_lt hI s)
    · exact operand_lt hI s
theorem power_lt (s : PS) : Lt (power I s).2 s := by
  unfold power
  split
  · exact Lt.trans ((hI _ _ rfl).1.trans (nextS_le _)) (stepped_lt hI s)
  · exact stepped_lt hI s
theorem exponent_lt (s : PS) : Lt (exponent I s).2 s := by
  unfold exponent
  split
  · exact (hI _ _ rfl).trans' (nextS_le s)
  · exact power_lt hI s
theorem signed_lt (s : PS) : Lt (signed I s).2 s := by
  unfold signed
  split
  · exact (hI _ _ rfl).trans' (nextS_le s)
  · exact power_lt hI s
omit hI
theorem lineS_le (t : B) (s : PS) : Le (lineS t s) s := by
  unfold lineS
  split
  · exact skipLines_le s
  · exact Le.refl s
theorem leftL_le {t : Rd} (ht : ∀ s, Lt (t s).2 s) (ops : List B) (k : Nat) (n : Nd) (s : PS) : Le (leftL t ops k n s).2 s := by
  induction k generalizing n s with
  | zero => exact Le.refl s
  | succ k ih =>
    unfold leftL
    split
    · exact (ih _ _).trans ((ht _).1.trans ((lineS_le _ _).trans (nextS_le s)))
    · exact Le.refl s
theorem fromLeft_lt {t : Rd} (ht : ∀ s, Lt (t s).2 s) (ops : List B) (s : PS) : Lt (fromLeft t ops s).2 s := Lt.trans (leftL_le ht _ _ _ _) (ht s)
theorem joinL_le {t : Rd} (ht : ∀ s, Lt (t s).2 s) (k : Nat) (n : Nd) (s : PS) : Le (joinL t k n s).2 s := by
  induction k generalizing n s with
  | zero => exact Le.refl s
  | succ k ih =>
    unfold joinL
    split
    · exact (ih _ _).trans (ht _).1
    · exact Le.refl s
theorem memL_le (k : Nat) (n : Nd) (s : PS) : Le (memL k n s).2 s := by
  induction k generalizing n s with
  | zero => exact Le.refl s
  | succ k ih =>
    unfold memL
    split
    · exact (ih _ _).trans ((name_lt _).1.trans (nextS_le s))
    · exact Le.refl s
include hI
theorem product_lt (s : PS) : Lt (product I s).2 s := fromLeft_lt (signed_lt hI) _ s
theorem sum_lt (s : PS) : Lt (sum I s).2 s := fromLeft_lt (product_lt hI) _ s
theorem joined_lt (s : PS) : Lt (joined I s).2 s := Lt.trans (joinL_le (sum_lt hI) _ _ _) (sum_lt hI s)
theorem compared_lt (s : PS) : Lt (compared I s).2 s := by
  have h := joined_lt hI s
  unfold compared
  generalize joined I s = q at *
  split
  · exact Lt.trans ((joined_lt hI _).1.trans (nextS_le _)) h
  · exact h
theorem matched_lt (s : PS) : Lt (matched I s).2 s := fromLeft_lt (compared_lt hI) _ s
theorem member_lt (s : PS) : Lt (member I s).2 s := Lt.trans (memL_le _ _ _) (matched_lt hI s)
theorem both_lt (s : PS) : Lt (both I s).2 s := fromLeft_lt (member_lt hI) _ s
theorem either_lt (s : PS) : Lt (either I s).2 s := fromLeft_lt (both_lt hI) _ s
theorem alternative_lt (s : PS) : Lt (alternative I s).2 s := by
  unfold alternative
  split
  · exact Lt.trans ((hI _ _ rfl).1.trans ((skipLines_le _).trans ((wantO_lt _ _).1.trans ((hI _ _ rfl).1.trans ((skipLines_le _).trans (nextS_le _)))))) (either_lt hI s)
  · exact either_lt hI s
theorem expression_lt (s : PS) : Lt (expression I s).2 s := by
  unfold expression
  split
  · split
    · exact Lt.trans ((hI _ _ rfl).1.trans (nextS_le _)) (alternative_lt hI s)
    · exact (failN_lt _).trans' (alternative_lt hI s).1
  · exact alternative_lt hI s
omit hI
end
theorem inn_lt (d : Nat) : LtI (inn d) := by
  induction d with
  | zero => exact fun x s _ => failN_lt s
  | succ d ih =>
    intro x s hx
    cases x with
    | expr => exact expression_lt ih s
    | signed => exact signed_lt ih s
    | exponent => exact exponent_lt ih s
    | operand => exact operand_lt ih s
    | step => exact stepAhead_lt ih s
    | joined => exact joined_lt ih s
    | statement => cases hx
    | simple => cases hx
end Go.Proofs.YtgbibfhacjjaeaaGreat.syn.kx
