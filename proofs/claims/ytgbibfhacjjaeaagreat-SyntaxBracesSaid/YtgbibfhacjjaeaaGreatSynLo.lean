/- What is read of a tree that isn't deep is read the same where fewer nodes are allowed around. -/
import Derived.Test.YtgbibfhacjjaeaaGreatSynSpec
namespace Go.Proofs.YtgbibfhacjjaeaaGreat.syn.lo
set_option maxRecDepth 20000 set_option linter.unusedVariables false set_option linter.unusedSimpArgs false
open Go.Proofs.YtgbibfhacjjaeaaGreat.lexs (Tok kNl kNum kStr kEre kOp kName kFunc kWord kBuilt)
open Go.Proofs.YtgbibfhacjjaeaaGreat.syn.ex (ok_le ne_lt)

/-- K reads what J reads without a fault, if its tree has m nodes in one another at most. -/
def Cg (m : Nat) (K J : Inn) : Prop := ∀ y s, (J y s).2.f = false → (J y s).1.kids.depth + 1 ≤ m → K y s = J y s
def LoN (m : Nat) (tK tJ : Rd) : Prop := ∀ s, (tJ s).2.f = false → (tJ s).1.kids.depth ≤ m → tK s = tJ s
def LoF (m : Nat) (tK tJ : PS → Fo × PS) : Prop := ∀ s, (tJ s).2.f = false → (tJ s).1.depth ≤ m → tK s = tJ s
theorem d_snoc (f : Fo) (n : Nd) : (f.snoc n).depth = max f.depth (n.kids.depth + 1) := by
  induction f with
  | nil => simp only [Fo.snoc, Fo.depth]; omega
  | cons o t k r _ ih => simp only [Fo.snoc, Fo.depth, ih]; omega
theorem d_one (n : Nd) : (one n).depth = n.kids.depth + 1 := by simp only [one, Fo.depth]; omega
theorem d_two (n m : Nd) : (two n m).depth = max (n.kids.depth + 1) (m.kids.depth + 1) := by simp only [two, one, Fo.depth]; omega
theorem d_three (n m k : Nd) : (three n m k).depth = max (n.kids.depth + 1) (max (m.kids.depth + 1) (k.kids.depth + 1)) := by simp only [three, two, one, Fo.depth]; omega
theorem d_four (n m k l : Nd) : (four n m k l).depth = max (n.kids.depth + 1) (max (m.kids.depth + 1) (max (k.kids.depth + 1) (l.kids.depth + 1))) := by simp only [four, three, two, one, Fo.depth]; omega
theorem listL_d (I : Inn) (k : Nat) (f : Fo) (s : PS) : f.depth ≤ (listL I k f s).1.depth := by
  induction k generalizing f s with
  | zero => exact Nat.le_refl _
  | succ k ih =>
    unfold listL
    split
    · have := ih (f.snoc (I .expr (skipLines (nextS s))).1) (I .expr (skipLines (nextS s))).2
      rw [d_snoc] at this
      omega
    · exact Nat.le_refl _
theorem leftL_d (t : Rd) (L : List B) (k : Nat) (n : Nd) (s : PS) : n.kids.depth ≤ (leftL t L k n s).1.kids.depth := by
  induction k generalizing n s with
  | zero => exact Nat.le_refl _
  | succ k ih =>
    unfold leftL
    split
    · have := ih (bin (peek s).t n (t (lineS (peek s).t (nextS s))).1) (t (lineS (peek s).t (nextS s))).2
      unfold bin at this ⊢
      rw [d_two] at this
      omega
    · exact Nat.le_refl _
theorem joinL_d (t : Rd) (k : Nat) (n : Nd) (s : PS) : n.kids.depth ≤ (joinL t k n s).1.kids.depth := by
  induction k generalizing n s with
  | zero => exact Nat.le_refl _
  | succ k ih =>
    unfold joinL
    split
    · have := ih (bin w_cat n (t s).1) (t s).2
      unfold bin at this ⊢
      rw [d_two] at this
      omega
    · exact Nat.le_refl _
theorem memL_d (k : Nat) (n : Nd) (s : PS) : n.kids.depth ≤ (memL k n s).1.kids.depth := by
  induction k generalizing n s with
  | zero => exact Nat.le_refl _
  | succ k ih =>
    unfold memL
    split
    · have := ih ⟨w_in, (name (nextS s)).1, one n⟩ (name (nextS s)).2
      rw [d_one] at this
      omega
    · exact Nat.le_refl _
theorem blkL_d (I : Inn) (k : Nat) (f : Fo) (s : PS) : f.depth ≤ (blkL I k f s).1.depth := by
  induction k generalizing f s with
  | zero => exact Nat.le_refl _
  | succ k ih =>
    unfold blkL
    split
    · exact Nat.le_refl _
    · split
      · exact Nat.le_refl _
      · have := ih (f.snoc (I .statement s).1) (skipEnds (I .statement s).2)
        rw [d_snoc] at this
        omega

section
variable {m : Nat} {K J : Inn} (hC : Cg m K J) (hL : LtI J)
include hC hL
theorem listL_lo (k : Nat) (f : Fo) (s : PS) (h : (listL J k f s).2.f = false) (hd : (listL J k f s).1.depth ≤ m) : listL K k f s = listL J k f s := by
  induction k generalizing f s with
  | zero => rfl
  | succ k ih =>
    unfold listL at h hd ⊢
    split
    · rename_i hc
      rw [if_pos hc] at h hd
      have h1 := ok_le (listL_le hL _ _ _) h
      have h2 := listL_d J k (f.snoc (J .expr (skipLines (nextS s))).1) (J .expr (skipLines (nextS s))).2
      rw [d_snoc] at h2
      rw [hC .expr _ h1 (by omega)]
      exact ih _ _ h hd
    · rfl
theorem list_lo : LoF m (list K) (list J) := by
  intro s h hd
  unfold list at h hd ⊢
  have h1 := ok_le (listL_le hL _ _ _) h
  have h2 := listL_d J (J .expr s).2.r.length (Fo.nil.snoc (J .expr s).1) (J .expr s).2
  rw [d_snoc] at h2
  rw [hC .expr s h1 (by omega)]
  exact listL_lo hC hL _ _ _ h hd
theorem closedList_lo (c : B) : LoF m (closedList c K) (closedList c J) := by
  intro s h hd
  have h1 : (list J { s with s := false }).2.f = false := ok_le (wantO_lt c { (list J { s with s := false }).2 with s := s.s }).1 h
  have e := list_lo hC hL { s with s := false } h1 hd
  unfold closedList
  rw [e]
theorem arguments_lo : LoF m (arguments K) (arguments J) := by
  intro s h hd
  unfold arguments at h hd ⊢
  split
  · rfl
  · rename_i hc
    rw [if_neg hc] at h hd
    exact closedList_lo hC hL _ _ h hd
theorem built_lo (nm : B) : LoN m (built nm K) (built nm J) := by
  intro s h hd
  have hA := arguments_lo hC hL
  unfold built at h hd ⊢
  generalize arguments K = AK at *
  generalize arguments J = AJ at *
  split
  · rfl
  · rename_i hc
    rw [if_neg hc] at h hd
    split at h
    · rename_i hr
      rw [if_pos hr] at hd
      rw [hA _ h hd]
    · cases h
theorem parenthesized_lo : LoN m (parenthesized K) (parenthesized J) := by
  intro s h hd
  have hA := closedList_lo hC hL o_rpar
  unfold parenthesized at h hd ⊢
  generalize closedList o_rpar K = AK at *
  generalize closedList o_rpar J = AJ at *
  split at h
  · rename_i hc
    rw [if_pos hc] at hd
    rw [hA _ h hd]
  · rename_i hc
    rw [if_neg hc] at hd
    have h1 := ok_le (wantW_lt _ _).1 (ok_le (name_lt _).1 h)
    rw [hA _ h1 hd]
omit hL
theorem field_lo : LoN m (field K) (field J) := by
  intro s h hd
  unfold field at h hd ⊢
  split
  · rename_i hc
    rw [if_pos hc] at h hd
    dsimp only at hd
    rw [d_one] at hd
    rw [hC .step s h hd]
  · rename_i hc
    rw [if_neg hc] at h hd
    dsimp only at hd
    rw [d_one] at hd
    rw [hC .operand s h hd]
include hL
theorem operand_lo : LoN m (operand K) (operand J) := by
  intro s h hd
  have h1 := closedList_lo hC hL o_rbr
  have h2 := arguments_lo hC hL
  have h3 := fun nm => built_lo hC hL nm
  have h4 := parenthesized_lo hC hL
  have h5 := field_lo hC
  unfold operand at h hd ⊢
  split
  · rfl
  rename_i c1
  rw [if_neg c1] at h hd
  split
  · rename_i c2
    rw [if_pos c2] at h hd
    split
    · rename_i c3
      rw [if_pos c3] at h hd
      rw [h1 _ h hd]
    · rfl
  rename_i c2
  rw [if_neg c2] at h hd
  split
  · rename_i c3
    rw [if_pos c3] at h hd
    rw [h2 _ h hd]
  rename_i c3
  rw [if_neg c3] at h hd
  split
  · rename_i c4
    rw [if_pos c4] at h hd
    exact h3 _ _ h hd
  rename_i c4
  rw [if_neg c4] at h hd
  split
  · rename_i c5
    rw [if_pos c5] at h hd
    exact h4 _ h hd
  rename_i c5
  rw [if_neg c5] at h hd
  split
  · rename_i c6
    rw [if_pos c6] at h hd
    exact h5 _ h hd
  · rfl
omit hL
theorem stepAhead_lo : LoN m (stepAhead K) (stepAhead J) := by
  intro s h hd
  unfold stepAhead at h hd ⊢
  split at h
  · rename_i hc
    rw [if_pos hc] at hd
    dsimp only at hd
    rw [d_one] at hd
    rw [hC .operand _ h hd]
  · cases h
include hL
theorem stepped_lo : LoN m (stepped K) (stepped J) := by
  intro s h hd
  have h1 := stepAhead_lo hC
  have h2 := operand_lo hC hL
  unfold stepped at h hd ⊢
  generalize operand K = OK at *
  generalize operand J = OJ at *
  split
  · rename_i hc
    rw [if_pos hc] at h hd
    exact h1 s h hd
  · rename_i hc
    rw [if_neg hc] at h hd
    split at h
    · rename_i hp
      rw [if_pos hp] at hd
      dsimp only at hd
      rw [d_one] at hd
      rw [h2 s h (by omega)]
    · rename_i hp
      rw [if_neg hp] at hd
      rw [h2 s h hd]
theorem power_lo : LoN m (power K) (power J) := by
  intro s h hd
  have h2 := stepped_lo hC hL
  unfold power at h hd ⊢
  generalize stepped K = OK at *
  generalize stepped J = OJ at *
  split at h
  · rename_i hp
    rw [if_pos hp] at hd
    unfold bin at hd
    dsimp only at hd
    rw [d_two] at hd
    have h3 : (OJ s).2.f = false := show (nextS (OJ s).2).f = false from ok_le (hL .exponent _).1 h
    rw [h2 s h3 (by omega), hC .exponent _ h (by omega)]
  · rename_i hp
    rw [if_neg hp] at hd
    rw [h2 s h hd, if_neg hp, if_neg hp]
theorem exponent_lo : LoN m (exponent K) (exponent J) := by
  intro s h hd
  have h2 := power_lo hC hL
  unfold exponent at h hd ⊢
  generalize power K = OK at *
  generalize power J = OJ at *
  split
  · rename_i hc
    rw [if_pos hc] at h hd
    unfold unary at hd
    dsimp only at hd
    rw [d_one] at hd
    rw [hC .exponent _ h hd]
  · rename_i hc
    rw [if_neg hc] at h hd
    exact h2 s h hd
theorem signed_lo : LoN m (signed K) (signed J) := by
  intro s h hd
  have h2 := power_lo hC hL
  unfold signed at h hd ⊢
  generalize power K = OK at *
  generalize power J = OJ at *
  split
  · rename_i hc
    rw [if_pos hc] at h hd
    unfold unary at hd
    dsimp only at hd
    rw [d_one] at hd
    rw [hC .signed _ h hd]
  · rename_i hc
    rw [if_neg hc] at h hd
    exact h2 s h hd
omit hC hL
theorem leftL_lo {tK tJ : Rd} (ht : LoN m tK tJ) (hl : ∀ s, Lt (tJ s).2 s) (L : List B) (k : Nat) (n : Nd) (s : PS) (h : (leftL tJ L k n s).2.f = false) (hd : (leftL tJ L k n s).1.kids.depth ≤ m) : leftL tK L k n s = leftL tJ L k n s := by
  induction k generalizing n s with
  | zero => rfl
  | succ k ih =>
    unfold leftL at h hd ⊢
    split
    · rename_i hc
      rw [if_pos hc] at h hd
      have h1 := ok_le (leftL_le hl L _ _ _) h
      have h2 := leftL_d tJ L k (bin (peek s).t n (tJ (lineS (peek s).t (nextS s))).1) (tJ (lineS (peek s).t (nextS s))).2
      unfold bin at h2 h hd ⊢
      dsimp only at h2
      rw [d_two] at h2
      rw [ht _ h1 (by omega)]
      exact ih _ _ h hd
    · rfl
theorem fromLeft_lo {tK tJ : Rd} (ht : LoN m tK tJ) (hl : ∀ s, Lt (tJ s).2 s) (L : List B) : LoN m (fromLeft tK L) (fromLeft tJ L) := by
  intro s h hd
  unfold fromLeft at h hd ⊢
  have h1 := ok_le (leftL_le hl L _ _ _) h
  have h2 := leftL_d tJ L (tJ s).2.r.length (tJ s).1 (tJ s).2
  rw [ht s h1 (by omega)]
  exact leftL_lo ht hl L _ _ _ h hd
theorem joinL_lo {tK tJ : Rd} (ht : LoN m tK tJ) (hl : ∀ s, Lt (tJ s).2 s) (k : Nat) (n : Nd) (s : PS) (h : (joinL tJ k n s).2.f = false) (hd : (joinL tJ k n s).1.kids.depth ≤ m) : joinL tK k n s = joinL tJ k n s := by
  induction k generalizing n s with
  | zero => rfl
  | succ k ih =>
    unfold joinL at h hd ⊢
    split
    · rename_i hc
      rw [if_pos hc] at h hd
      have h1 := ok_le (joinL_le hl _ _ _) h
      have h2 := joinL_d tJ k (bin w_cat n (tJ s).1) (tJ s).2
      unfold bin at h2 h hd ⊢
      dsimp only at h2
      rw [d_two] at h2
      rw [ht _ h1 (by omega)]
      exact ih _ _ h hd
    · rfl
include hC hL
theorem product_lo : LoN m (product K) (product J) := by
  have h1 := signed_lo hC hL
  have h2 := signed_lt hL
  unfold product
  exact fromLeft_lo h1 h2 _
theorem sum_lo : LoN m (sum K) (sum J) := by
  have h1 := product_lo hC hL
  have h2 := product_lt hL
  unfold sum
  generalize product K = TK at *
  generalize product J = TJ at *
  exact fromLeft_lo h1 h2 _
theorem joined_lo : LoN m (joined K) (joined J) := by
  have h1 := sum_lo hC hL
  have h2 := sum_lt hL
  intro s h hd
  unfold joined at h hd ⊢
  generalize sum K = TK at *
  generalize sum J = TJ at *
  have h3 := ok_le (joinL_le h2 _ _ _) h
  have h4 := joinL_d TJ (TJ s).2.r.length (TJ s).1 (TJ s).2
  rw [h1 s h3 (by omega)]
  exact joinL_lo h1 h2 _ _ _ h hd
theorem compared_lo : LoN m (compared K) (compared J) := by
  have h1 := joined_lo hC hL
  have h2 := joined_lt hL
  intro s h hd
  unfold compared at h hd ⊢
  generalize joined K = TK at *
  generalize joined J = TJ at *
  split at h
  · rename_i hc
    rw [if_pos hc] at hd
    unfold bin at hd
    dsimp only at hd
    rw [d_two] at hd
    have h3 : (TJ s).2.f = false := show (nextS (TJ s).2).f = false from ok_le (h2 _).1 h
    rw [h1 s h3 (by omega), if_pos hc, h1 _ h (by omega), if_pos hc]
  · rename_i hc
    rw [if_neg hc] at hd
    rw [h1 s h hd, if_neg hc, if_neg hc]
theorem matched_lo : LoN m (matched K) (matched J) := by
  have h1 := compared_lo hC hL
  have h2 := compared_lt hL
  unfold matched
  generalize compared K = TK at *
  generalize compared J = TJ at *
  exact fromLeft_lo h1 h2 _
theorem member_lo : LoN m (member K) (member J) := by
  have h1 := matched_lo hC hL
  intro s h hd
  unfold member at h hd ⊢
  generalize matched K = TK at *
  generalize matched J = TJ at *
  have h3 := ok_le (memL_le _ _ _) h
  have h4 := memL_d (TJ s).2.r.length (TJ s).1 (TJ s).2
  rw [h1 s h3 (by omega)]
theorem both_lo : LoN m (both K) (both J) := by
  have h1 := member_lo hC hL
  have h2 := member_lt hL
  unfold both
  generalize member K = TK at *
  generalize member J = TJ at *
  exact fromLeft_lo h1 h2 _
theorem either_lo : LoN m (either K) (either J) := by
  have h1 := both_lo hC hL
  have h2 := both_lt hL
  unfold either
  generalize both K = TK at *
  generalize both J = TJ at *
  exact fromLeft_lo h1 h2 _
theorem alternative_lo : LoN m (alternative K) (alternative J) := by
  have h1 := either_lo hC hL
  intro s h hd
  unfold alternative at h hd ⊢
  generalize either K = TK at *
  generalize either J = TJ at *
  split at h
  · rename_i hc
    rw [if_pos hc] at hd
    dsimp only at hd
    rw [d_three] at hd
    have k1 : (wantO o_colon (J .expr (skipLines (nextS (TJ s).2))).2).f = false := show (skipLines _).f = false from ok_le (hL .expr _).1 h
    have k2 := ok_le (wantO_lt _ _).1 k1
    have k3 : (TJ s).2.f = false := show (skipLines (nextS (TJ s).2)).f = false from ok_le (hL .expr _).1 k2
    rw [h1 s k3 (by omega), if_pos hc, if_pos hc, hC .expr _ k2 (by omega), hC .expr _ h (by omega)]
  · rename_i hc
    rw [if_neg hc] at hd
    rw [h1 s h hd, if_neg hc, if_neg hc]
theorem expression_lo : LoN m (expression K) (expression J) := by
  have h1 := alternative_lo hC hL
  intro s h hd
  unfold expression at h hd ⊢
  generalize alternative K = TK at *
  generalize alternative J = TJ at *
  split at h
  · rename_i hc
    rw [if_pos hc] at hd
    split at h
    · rename_i hp
      rw [if_pos hp] at hd
      dsimp only at hd
      rw [d_two] at hd
      have k3 : (TJ s).2.f = false := show (nextS (TJ s).2).f = false from ok_le (hL .expr _).1 h
      rw [h1 s k3 (by omega), if_pos hc, if_pos hc, if_pos hp, if_pos hp, hC .expr _ h (by omega)]
    · cases h
  · rename_i hc
    rw [if_neg hc] at hd
    rw [h1 s h hd, if_neg hc, if_neg hc]
end
end Go.Proofs.YtgbibfhacjjaeaaGreat.syn.lo
