/- What ere.Parse answers of a set and of its opposite. A text that goes on with a ) is read as the text itself, up to there. -/
import Derived.Test.YtbfekknhmjndaaaGreatParse

namespace Go.Proofs.YtbfekknhmjndaaaGreat.sets
set_option linter.unusedVariables false set_option linter.unusedSimpArgs false
open Go.Proofs.YtbfekknhmjndaaaGreat.base Go.Proofs.YtbfekknhmjndaaaGreat.read Go.Proofs.YtbfekknhmjndaaaGreat.spec Go.Proofs.YtbfekknhmjndaaaGreat.nums Go.Proofs.YtbfekknhmjndaaaGreat.items Go.Proofs.YtbfekknhmjndaaaGreat.set

/-- A set and its opposite; or no sets. -/
def HR (t t' : T) : Prop := (∃ f : Nat → Bool, t = (setP f).t ∧ t' = (setP fun k => !f k).t) ∨ (t.op ≠ setW ∧ t'.op ≠ setW)






end Go.Proofs.YtbfekknhmjndaaaGreat.sets

namespace Go.Proofs.YtbfekknhmjndaaaGreat.sim
set_option linter.unusedVariables false set_option linter.unusedSimpArgs false
open Go.Proofs.YtbfekknhmjndaaaGreat.base Go.Proofs.YtbfekknhmjndaaaGreat.read Go.Proofs.YtbfekknhmjndaaaGreat.spec Go.Proofs.YtbfekknhmjndaaaGreat.nums Go.Proofs.YtbfekknhmjndaaaGreat.items Go.Proofs.YtbfekknhmjndaaaGreat.sets

section
variable (q : List UInt8)



end

/-! No reader ends without a fault's number. -/
theorem items_nz (n : Nat) (b : Bool) (f : Nat → Bool) (l : List UInt8) (h : l.length < n) : items n b f l ≠ .bad 0 := by
  induction n generalizing b f l with
  | zero => omega
  | succ n ih =>
    rw [items]
    split
    · intro e; cases e
    · split
      · rename_i e he
        intro h0
        cases h0
        have := item_bads he
        omega
      · rename_i f1 l1 hi
        have := item_len hi
        exact ih false f1 l1 (by omega)
theorem bracket_nz (l : List UInt8) : bracket l ≠ .bad 0 := by
  unfold bracket
  have h2 := tail_len l
  split
  · have := items_nz (l.length + 1) true emptyF l.tail (by omega)
    split
    · rename_i e he
      intro h0
      cases h0
      exact this he
    · intro h0; cases h0
  · have := items_nz (l.length + 1) true emptyF l (by omega)
    split
    · rename_i e he
      intro h0
      cases h0
      exact this he
    · intro h0; cases h0
theorem repsF_nz (n : Nat) (p : Part) (l : List UInt8) (h : l.length < n) : repsF n p l ≠ .bad 0 := by
  induction n generalizing p l with
  | zero => omega
  | succ n ih =>
    rw [repsF]
    split
    · rename_i ha
      split
      · rename_i e he
        intro h0
        cases h0
        have := repeatL_bads he (by intro e; subst e; cases ha)
        omega
      · rename_i p1 l1 hr
        have := repeatL_len hr
        exact ih p1 l1 (by omega)
    · intro h0; cases h0
theorem atom_nz {g : List UInt8 → Res Part} (hg : ∀ l, g l ≠ .bad 0) (l : List UInt8) (hl : l ≠ []) : atom g l ≠ .bad 0 := by
  unfold atom
  split
  · intro h0; cases h0
  · cases l with
    | nil => exact absurd rfl hl
    | cons c t =>
      simp only
      split
      · exact hg t
      · split
        · exact bracket_nz t
        · split
          · split
            · rename_i e he
              intro h0
              cases h0
              have := esc_bads he
              omega
            · intro h0; cases h0
          · repeat' split
            all_goals (intro h0; cases h0)
theorem piece_nz {g : List UInt8 → Res Part} (hg : ∀ l, g l ≠ .bad 0) (l : List UInt8) (hl : l ≠ []) : piece g l ≠ .bad 0 := by
  unfold piece
  split
  · rename_i e he
    intro h0
    cases h0
    exact atom_nz hg l hl he
  · exact repsF_nz _ _ _ (by omega)
theorem branchF_nz {g : List UInt8 → Res Part} (hs : Short g) (hg : ∀ l, g l ≠ .bad 0) (n : Nat) (r : Row) (l : List UInt8) (h : l.length < n) : branchF g n r l ≠ .bad 0 := by
  induction n generalizing r l with
  | zero => omega
  | succ n ih =>
    rw [branchF]
    split
    · intro h0; cases h0
    · rename_i he
      have hl : l ≠ [] := by
        intro e
        subst e
        exact he rfl
      split
      · rename_i e hp
        intro h0
        cases h0
        exact piece_nz hg l hl hp
      · rename_i p l1 hp
        have := piece_len hs hp
        exact ih _ l1 (by omega)
theorem branch_nz {g : List UInt8 → Res Part} (hs : Short g) (hg : ∀ l, g l ≠ .bad 0) (l : List UInt8) : branch g l ≠ .bad 0 := by
  unfold branch
  split
  · rename_i e he
    intro h0
    cases h0
    exact branchF_nz hs hg _ _ _ (by omega) he
  · intro h0; cases h0
theorem exprF_nz {g : List UInt8 → Res Part} (hs : Short g) (hg : ∀ l, g l ≠ .bad 0) (n : Nat) (r : Row) (l : List UInt8) (h : l.length < n) : exprF g n r l ≠ .bad 0 := by
  induction n generalizing r l with
  | zero => omega
  | succ n ih =>
    rw [exprF]
    split
    · rename_i e he
      intro h0
      cases h0
      exact branch_nz hs hg l he
    · rename_i p l1 hp
      have hl := branch_len hs hp
      split
      · rename_i hh
        obtain ⟨t, rfl⟩ := hd_cons hh
        simp only [List.length_cons] at hl
        exact ih _ t (by omega)
      · intro h0; cases h0
theorem expr_nz {g : List UInt8 → Res Part} (hs : Short g) (hg : ∀ l, g l ≠ .bad 0) (l : List UInt8) : expr g l ≠ .bad 0 := by
  unfold expr
  split
  · rename_i e he
    intro h0
    cases h0
    exact exprF_nz hs hg _ _ _ (by omega) he
  · intro h0; cases h0
theorem groupN_nz (k : Nat) (l : List UInt8) : groupN k l ≠ .bad 0 := by
  induction k generalizing l with
  | zero => intro h; cases h
  | succ k ih =>
    rw [groupN]
    simp only
    split
    · rename_i e he
      intro h0
      cases h0
      exact expr_nz (groupN_short k) ih l he
    · split
      · intro h0; cases h0
      · intro h0; cases h0


end Go.Proofs.YtbfekknhmjndaaaGreat.sim
