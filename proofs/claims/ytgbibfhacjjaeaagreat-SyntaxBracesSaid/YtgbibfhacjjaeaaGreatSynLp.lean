/- With fewer nodes around: statements; readings at every depth. -/
import Derived.Test.YtgbibfhacjjaeaaGreatSynLo
import Derived.Test.YtgbibfhacjjaeaaGreatSynKx
namespace Go.Proofs.YtgbibfhacjjaeaaGreat.syn.lo
set_option maxRecDepth 20000 set_option linter.unusedVariables false set_option linter.unusedSimpArgs false
open Go.Proofs.YtgbibfhacjjaeaaGreat.lexs (Tok kNl kNum kStr kEre kOp kName kFunc kWord kBuilt)
open Go.Proofs.YtgbibfhacjjaeaaGreat.syn.ex (ok_le ne_lt)

/-- A print's parentheses, which are read twice, are read the same. -/
def Hp (m : Nat) (K J : Inn) : Prop := ∀ s, isOp s o_lpar = true → (closedList o_rpar J (nextS s)).2.f = false → (sentList J { (closedList o_rpar J (nextS s)).2 with r := s.r }).2.f = false →
  (sentList J { (closedList o_rpar J (nextS s)).2 with r := s.r }).1.depth ≤ m → closedList o_rpar K (nextS s) = closedList o_rpar J (nextS s)
section
variable {m : Nat} {K J : Inn} (hC : Cg m K J) (hL : LtI J) (hP : Hp m K J)
include hC
theorem leaving_lo (nm : B) : LoN m (leaving nm K) (leaving nm J) := by
  intro s h hd
  unfold leaving at h hd ⊢
  split
  · rfl
  · rename_i hc
    rw [if_neg hc] at h hd
    dsimp only at hd
    rw [d_one] at hd
    rw [hC .expr s h hd]
include hL
theorem deletion_lo : LoN m (deletion K) (deletion J) := by
  intro s h hd
  have h1 := closedList_lo hC hL o_rbr
  unfold deletion at h hd ⊢
  rw [h1 _ h hd]
theorem sentList_lo : LoF m (sentList K) (sentList J) := by
  intro s h hd
  have h1 := list_lo hC hL { s with s := true } h hd
  unfold sentList
  rw [h1]
include hP
theorem printed_lo : LoF m (printed K) (printed J) := by
  intro s h hd
  have h1 := closedList_lo hC hL o_rpar
  have h2 := sentList_lo hC hL
  have h3 := hP s
  unfold printed at h hd ⊢
  generalize sentList K = SK at *
  generalize sentList J = SJ at *
  generalize closedList o_rpar K = CK at *
  generalize closedList o_rpar J = CJ at *
  split
  · rename_i hc
    rw [if_pos hc] at h hd
    split at h
    · rename_i hq
      rw [if_pos hq] at hd
      rw [h1 _ h hd, if_pos hq, if_pos hq]
    · rename_i hq
      rw [if_neg hq] at hd
      have hf : (CJ (nextS s)).2.f = false := by
        cases hf : (CJ (nextS s)).2.f with
        | false => rfl
        | true => rw [hf] at hq; exact absurd rfl hq
      rw [h3 hc hf h hd, if_neg hq, if_neg hq, h2 _ h hd]
  · rename_i hc
    rw [if_neg hc] at h hd
    exact h2 _ h hd
omit hL hP
theorem sent_lo (nm : B) (l : Fo) : LoN m (sent nm K l) (sent nm J l) := by
  intro s h hd
  unfold sent at h hd ⊢
  split
  · rename_i hc
    rw [if_pos hc] at h hd
    dsimp only at hd
    rw [d_snoc] at hd
    rw [hC .joined _ h (by omega)]
  · rfl
omit hC
theorem sent_d (nm : B) (I : Inn) (l : Fo) (s : PS) : l.depth ≤ (sent nm I l s).1.kids.depth := by
  unfold sent
  split
  · dsimp only
    rw [d_snoc]
    omega
  · exact Nat.le_refl _
include hC hL hP
theorem printing_lo (nm : B) : LoN m (printing nm K) (printing nm J) := by
  intro s h hd
  have h1 := printed_lo hC hL hP
  have h2 := fun l => sent_lo hC nm l
  have h3 := fun l s => sent_d nm J l s
  have h4 := sent_le hL nm
  unfold printing at h hd ⊢
  generalize printed K = PK at *
  generalize printed J = PJ at *
  split
  · rename_i hc
    rw [if_pos hc] at h hd
    have k1 := ok_le (h4 _ _) h
    have k2 := h3 (PJ s).1 (PJ s).2
    rw [h1 s k1 (by omega)]
    exact h2 _ _ h hd
  · rename_i hc
    rw [if_neg hc] at h hd
    split
    · rfl
    · rename_i hn
      rw [if_neg hn] at h hd
      exact h2 _ _ h hd
theorem command_lo (nm : B) : LoN m (command nm K) (command nm J) := by
  intro s h hd
  have h1 := printing_lo hC hL hP nm
  have h2 := deletion_lo hC hL
  have h3 := leaving_lo hC nm
  unfold command at h hd ⊢
  split
  · rename_i c; rw [if_pos c] at h hd; exact h1 s h hd
  rename_i c; rw [if_neg c] at h hd
  split
  · rename_i c; rw [if_pos c] at h hd; exact h2 s h hd
  rename_i c; rw [if_neg c] at h hd
  split
  · rename_i c; rw [if_pos c] at h hd; exact h3 s h hd
  rename_i c; rw [if_neg c] at h hd
  split
  · rename_i c; rw [if_pos c] at h hd
    split
    · rename_i c; rw [if_pos c] at h hd; exact h3 s h hd
    · rfl
  · rfl
theorem simple_lo : LoN m (simple K) (simple J) := by
  intro s h hd
  have h1 := fun nm => command_lo hC hL hP nm
  unfold simple at h hd ⊢
  split
  · rename_i c; rw [if_pos c] at h hd; exact h1 _ _ h hd
  · rename_i c; rw [if_neg c] at h hd
    dsimp only at hd
    rw [d_one] at hd
    rw [hC .expr s h hd]
omit hP
theorem blkL_lo (k : Nat) (f : Fo) (s : PS) (h : (blkL J k f s).2.f = false) (hd : (blkL J k f s).1.depth ≤ m) : blkL K k f s = blkL J k f s := by
  induction k generalizing f s with
  | zero => rfl
  | succ k ih =>
    unfold blkL at h hd ⊢
    split
    · rfl
    rename_i c1
    rw [if_neg c1] at h hd
    split
    · rfl
    rename_i c2
    rw [if_neg c2] at h hd
    have h1 : (J .statement s).2.f = false := show (skipEnds (J .statement s).2).f = false from ok_le (blkL_le hL _ _ _) h
    have h2 := blkL_d J k (f.snoc (J .statement s).1) (skipEnds (J .statement s).2)
    rw [d_snoc] at h2
    rw [hC .statement s h1 (by omega)]
    exact ih _ _ h hd
theorem block_lo : LoN m (block K) (block J) := by
  intro s h hd
  unfold block at h hd ⊢
  rw [blkL_lo hC hL _ _ _ h hd]
omit hL
theorem condition_lo (s : PS) (h : (condition J s).2.f = false) (hd : (condition J s).1.kids.depth + 1 ≤ m) : condition K s = condition J s := by
  unfold condition at h hd ⊢
  have h1 := ok_le (wantO_lt _ _).1 h
  rw [hC .expr _ h1 hd]
include hL
theorem choice_lo : LoN m (choice K) (choice J) := by
  intro s h hd
  have h1 := condition_lo hC
  have h2 := condition_lt hL
  unfold choice at h hd ⊢
  dsimp only at h hd ⊢
  generalize condition K = CK at *
  generalize condition J = CJ at *
  have ht : (takeElse (J .statement (skipLines (CJ (nextS s)).2)).2).2.f = false := by
    split at h
    · exact show (skipLines _).f = false from ok_le (hL .statement _).1 h
    · exact h
  have k1 : (J .statement (skipLines (CJ (nextS s)).2)).2.f = false := ok_le (takeElse_le _) ht
  have k2 : (CJ (nextS s)).2.f = false := show (skipLines (CJ (nextS s)).2).f = false from ok_le (hL .statement _).1 k1
  split at h
  · rename_i c
    rw [if_pos c] at hd
    dsimp only at hd
    rw [d_three] at hd
    rw [h1 _ k2 (by omega), hC .statement _ k1 (by omega), if_pos c, if_pos c, hC .statement _ h (by omega)]
  · rename_i c
    rw [if_neg c] at hd
    dsimp only at hd
    rw [d_two] at hd
    rw [h1 _ k2 (by omega), hC .statement _ k1 (by omega), if_neg c, if_neg c]
omit hL
theorem loopStatement_lo (s : PS) (h : (loopStatement J s).2.f = false) (hd : (loopStatement J s).1.kids.depth + 1 ≤ m) : loopStatement K s = loopStatement J s := by
  unfold loopStatement at h hd ⊢
  rw [hC .statement _ h hd]
include hL
theorem doLoop_lo : LoN m (doLoop K) (doLoop J) := by
  intro s h hd
  have h1 := condition_lo hC
  have h2 := condition_lt hL
  have h3 := loopStatement_lo hC
  unfold doLoop at h hd ⊢
  dsimp only at h hd ⊢
  generalize condition K = CK at *
  generalize condition J = CJ at *
  generalize loopStatement K = PK at *
  generalize loopStatement J = PJ at *
  rw [d_two] at hd
  have k1 : (PJ s).2.f = false := show (skipEnds (PJ s).2).f = false from ok_le (wantW_lt _ _).1 (ok_le (h2 _).1 h)
  rw [h3 s k1 (by omega), h1 _ h (by omega)]
theorem whileLoop_lo : LoN m (whileLoop K) (whileLoop J) := by
  intro s h hd
  have h1 := condition_lo hC
  have h3 := loopStatement_lo hC
  have h4 := loopStatement_lt hL
  unfold whileLoop at h hd ⊢
  dsimp only at h hd ⊢
  generalize condition K = CK at *
  generalize condition J = CJ at *
  generalize loopStatement K = PK at *
  generalize loopStatement J = PJ at *
  rw [d_two] at hd
  have k1 : (CJ (nextS s)).2.f = false := ok_le (h4 _).1 h
  rw [h1 _ k1 (by omega), h3 _ h (by omega)]
omit hL in
theorem forIn_lo : LoN m (forIn K) (forIn J) := by
  intro s h hd
  have h3 := loopStatement_lo hC
  unfold forIn at h hd ⊢
  dsimp only at h hd ⊢
  generalize loopStatement K = PK at *
  generalize loopStatement J = PJ at *
  rw [d_two] at hd
  rw [h3 _ h (by omega)]
omit hL in
theorem unlessO_lo (o : B) (x : W) (s : PS) (h : (unlessO o x J s).2.f = false) (hd : (unlessO o x J s).1.kids.depth + 1 ≤ m) : unlessO o x K s = unlessO o x J s := by
  unfold unlessO at h hd ⊢
  split
  · rfl
  · rename_i c
    rw [if_neg c] at h hd
    exact hC x s h hd
theorem forThree_lo : LoN m (forThree K) (forThree J) := by
  intro s h hd
  have u1 := unlessO_lo hC o_semi .simple
  have u2 := unlessO_lo hC o_semi .expr
  have u3 := unlessO_lo hC o_rpar .simple
  have l2 := unlessO_le hL o_semi .expr
  have l3 := unlessO_le hL o_rpar .simple
  have h3 := loopStatement_lo hC
  have h4 := loopStatement_lt hL
  unfold forThree at h hd ⊢
  dsimp only at h hd ⊢
  generalize loopStatement K = PK at *
  generalize loopStatement J = PJ at *
  generalize unlessO o_semi .simple K = A1 at *
  generalize unlessO o_semi .simple J = B1 at *
  generalize unlessO o_semi .expr K = A2 at *
  generalize unlessO o_semi .expr J = B2 at *
  generalize unlessO o_rpar .simple K = A3 at *
  generalize unlessO o_rpar .simple J = B3 at *
  rw [d_four] at hd
  have k1 := ok_le (wantO_lt _ _).1 (ok_le (h4 _).1 h)
  have k2 := ok_le (wantO_lt _ _).1 (show (wantO o_semi (B2 (skipLines (wantO o_semi (B1 s).2))).2).f = false from show (skipLines _).f = false from ok_le (l3 _) k1)
  have k3 := ok_le (wantO_lt _ _).1 (show (wantO o_semi (B1 s).2).f = false from show (skipLines _).f = false from ok_le (l2 _) k2)
  rw [u1 s k3 (by omega), u2 _ k2 (by omega), u3 _ k1 (by omega), h3 _ h (by omega)]
theorem forLoop_lo : LoN m (forLoop K) (forLoop J) := by
  intro s h hd
  have h1 := forIn_lo hC
  have h2 := forThree_lo hC hL
  unfold forLoop at h hd ⊢
  split
  · rename_i c; rw [if_pos c] at h hd; exact h1 _ h hd
  · rename_i c; rw [if_neg c] at h hd; exact h2 _ h hd
include hP
theorem endedSimple_lo : LoN m (endedSimple K) (endedSimple J) := by
  intro s h hd
  have h1 := doLoop_lo hC hL
  have h2 := simple_lo hC hL hP
  unfold endedSimple at h hd ⊢
  have hq : ∀ q : Nd × PS, (orFail q).1 = q.1 ∧ ((orFail q).2.f = false → q.2.f = false) := by
    intro q
    unfold orFail
    split
    · exact ⟨rfl, fun e => by cases e⟩
    · exact ⟨rfl, id⟩
  rw [(hq _).1] at hd
  have h3 := (hq _).2 h
  split
  · rename_i c; rw [if_pos c] at h3 hd; rw [h1 _ h3 hd]
  · rename_i c; rw [if_neg c] at h3 hd; rw [h2 _ h3 hd]
theorem statement_lo : LoN m (statement K) (statement J) := by
  intro s h hd
  have h1 := block_lo hC hL
  have h2 := choice_lo hC hL
  have h3 := whileLoop_lo hC hL
  have h4 := forLoop_lo hC hL
  have h5 := endedSimple_lo hC hL hP
  unfold statement at h hd ⊢
  split
  · rename_i c; rw [if_pos c] at h hd; exact h1 s h hd
  rename_i c; rw [if_neg c] at h hd
  split
  · rfl
  rename_i c; rw [if_neg c] at h hd
  split
  · rename_i c; rw [if_pos c] at h hd; exact h2 s h hd
  rename_i c; rw [if_neg c] at h hd
  split
  · rename_i c; rw [if_pos c] at h hd; exact h3 s h hd
  rename_i c; rw [if_neg c] at h hd
  split
  · rename_i c; rw [if_pos c] at h hd; exact h4 s h hd
  · rename_i c; rw [if_neg c] at h hd; exact h5 s h hd
theorem body_lo (x : W) : LoN m (body K x) (body J x) := by
  cases x with
  | expr => exact expression_lo hC hL
  | signed => exact signed_lo hC hL
  | exponent => exact exponent_lo hC hL
  | operand => exact operand_lo hC hL
  | step => exact stepAhead_lo hC
  | joined => exact joined_lo hC hL
  | statement => exact statement_lo hC hL hP
  | simple => exact simple_lo hC hL hP
end

/-- More nodes around: what was read is read the same. -/
def More (K J : Inn) : Prop := ∀ y s, (J y s).2.f = false → K y s = J y s
theorem inn_more (d : Nat) : More (inn (d + 1)) (inn d) := by
  induction d with
  | zero => intro y s h; cases h
  | succ d ih =>
    intro y s h
    have hC : ∀ m, Cg m (inn (d + 1)) (inn d) := fun m y s h _ => ih y s h
    have hP : ∀ m, Hp m (inn (d + 1)) (inn d) := fun m s _ h1 _ _ => closedList_lo (m := (closedList o_rpar (inn d) (nextS s)).1.depth) (hC _) (inn_lt d) o_rpar _ h1 (Nat.le_refl _)
    exact body_lo (m := (body (inn d) y s).1.kids.depth) (hC _) (inn_lt d) (hP _) y s h (Nat.le_refl _)

/-- Where an expression begins with a parenthesis and is read without a fault, the list in it is, too. -/
theorem first_paren {I : Inn} (hL : LtI I) (s : PS) (hp : isOp s o_lpar = true) (h : (expression I s).2.f = false) : (closedList o_rpar I (nextS s)).2.f = false := by
  have hpk : peek s = ⟨kOp, o_lpar⟩ := eq_of_beq hp
  have a1 : (alternative I s).2.f = false := by
    unfold expression at h
    generalize alternative I = A at *
    split at h
    · split at h
      · exact show (nextS (A s).2).f = false from ok_le (hL .expr _).1 h
      · cases h
    · exact h
  have a2 : (either I s).2.f = false := by
    unfold alternative at a1
    generalize either I = A at *
    split at a1
    · exact show (skipLines (nextS (A s).2)).f = false from ok_le (hL .expr _).1 (ok_le (wantO_lt _ _).1 (show (wantO o_colon (I .expr (skipLines (nextS (A s).2))).2).f = false from show (skipLines _).f = false from ok_le (hL .expr _).1 a1))
    · exact a1
  have fl : ∀ (t : Rd) (L : List B), (∀ s, Lt (t s).2 s) → (fromLeft t L s).2.f = false → (t s).2.f = false := fun t L hl hf => ok_le (leftL_le hl L _ _ _) hf
  have a3 : (both I s).2.f = false := by unfold either at a2; exact fl _ _ (both_lt hL) a2
  have a4 : (member I s).2.f = false := by unfold both at a3; exact fl _ _ (member_lt hL) a3
  have a5 : (matched I s).2.f = false := by unfold member at a4; exact ok_le (memL_le _ _ _) a4
  have a6 : (compared I s).2.f = false := by unfold matched at a5; exact fl _ _ (compared_lt hL) a5
  have a7 : (joined I s).2.f = false := by
    have hj := joined_lt hL
    unfold compared at a6
    generalize joined I = A at *
    split at a6
    · exact show (nextS (A s).2).f = false from ok_le (hj _).1 a6
    · exact a6
  have a8 : (sum I s).2.f = false := by unfold joined at a7; exact ok_le (joinL_le (sum_lt hL) _ _ _) a7
  have a9 : (product I s).2.f = false := by unfold sum at a8; exact fl _ _ (product_lt hL) a8
  have a10 : (signed I s).2.f = false := by unfold product at a9; exact fl _ _ (signed_lt hL) a9
  have a11 : (power I s).2.f = false := by
    unfold signed at a10
    rw [if_neg (by unfold atOp; rw [hpk]; decide)] at a10
    exact a10
  have a12 : (stepped I s).2.f = false := by
    unfold power at a11
    generalize stepped I = A at *
    split at a11
    · exact show (nextS (A s).2).f = false from ok_le (hL .exponent _).1 a11
    · exact a11
  have a13 : (operand I s).2.f = false := by
    unfold stepped at a12
    rw [if_neg (by unfold atOp; rw [hpk]; decide)] at a12
    generalize operand I = A at *
    split at a12
    · exact a12
    · exact a12
  have a14 : (parenthesized I (nextS s)).2.f = false := by
    unfold operand at a13
    rw [hpk] at a13
    exact a13
  unfold parenthesized at a14
  generalize closedList o_rpar I = A at *
  split at a14
  · exact a14
  · exact ok_le (wantW_lt _ _).1 (ok_le (name_lt _).1 a14)

theorem wantO_fs (c : B) (q : PS) (b b' : Bool) : (wantO c { q with s := b }).f = (wantO c { q with s := b' }).f := by
  unfold wantO
  by_cases h : isOp q c = true
  · rw [if_pos (show isOp { q with s := b } c = true from h), if_pos (show isOp { q with s := b' } c = true from h)]
    rfl
  · rw [if_neg (show ¬ isOp { q with s := b } c = true from h), if_neg (show ¬ isOp { q with s := b' } c = true from h)]
    rfl
theorem list_fst {I : Inn} (hL : LtI I) (s : PS) (h : (list I s).2.f = false) : (I .expr s).2.f = false := ok_le (listL_le hL _ _ _) h
/-- The paren at a print's head: one node fewer around, the same inside. -/
theorem head_lo {d : Nat} {I J : Inn} (hI : LtI I) (hJ : LtI J) (hJx : kx.LtI J) (hx : ∀ s, J .expr s = expression I s) (hm : ∀ y s, (I y s).2.f = false → J y s = I y s) : Hp d I J := by
  intro s hs h1 h2 _
  have hk := (kx.closedList_lt hJx o_rpar (nextS s)).1
  have hq := list_fst hJ _ h2
  rw [hx] at hq
  dsimp only at hq
  rw [h1, hk.1, hk.2, show (nextS s).k = s.k from rfl, show (nextS s).l = s.l from rfl] at hq
  have hsf : s.f = false := show (nextS s).f = false from ok_le (closedList_lt hJ _ _).1 h1
  have hfp := first_paren hI ⟨s.r, false, s.k, s.l, true⟩ hs hq
  have e : ({ nextS s with s := false } : PS) = { nextS ⟨s.r, false, s.k, s.l, true⟩ with s := false } := by unfold nextS; rw [hsf]
  have hf2 : (closedList o_rpar I (nextS s)).2.f = false := by
    unfold closedList at hfp ⊢
    rw [e]
    exact (wantO_fs o_rpar _ _ _).trans hfp
  exact (closedList_lo (m := (closedList o_rpar I (nextS s)).1.depth) (fun y s h _ => hm y s h) hI o_rpar _ hf2 (Nat.le_refl _)).symm
/-- Fewer nodes around: what is not deep is read the same. -/
theorem inn_less (d : Nat) : Cg d (inn d) (inn (d + 1)) := by
  induction d with
  | zero => intro y s _ hd; omega
  | succ d ih =>
    intro y s h hd
    exact body_lo ih (inn_lt (d + 1)) (head_lo (inn_lt d) (inn_lt (d + 1)) (kx.inn_lt (d + 1)) (fun _ => rfl) (fun y s h => inn_more d y s h)) y s h (Nat.le_of_succ_le_succ hd)
end Go.Proofs.YtgbibfhacjjaeaaGreat.syn.lo
