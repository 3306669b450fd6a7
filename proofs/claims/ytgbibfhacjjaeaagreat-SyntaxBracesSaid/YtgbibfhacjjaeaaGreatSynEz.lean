/- Two programs' tokens with an nl between: the items of both. -/
import Derived.Test.YtgbibfhacjjaeaaGreatSynSpec
import Derived.Test.YtgbibfhacjjaeaaGreatSynZm
namespace Go.Proofs.YtgbibfhacjjaeaaGreat.syn.kl
set_option maxRecDepth 20000 set_option linter.unusedVariables false set_option linter.unusedSimpArgs false
theorem paramsL_le (k : Nat) (f : Fo) (s : PS) : Le (paramsL k f s).2 s := by
  induction k generalizing f s with
  | zero => exact Le.refl s
  | succ k ih =>
    unfold paramsL
    split
    · exact (ih _ _).trans ((name_lt _).1.trans ((skipLines_le _).trans (nextS_le s)))
    · exact Le.refl s
theorem params_le (s : PS) : Le (params s).2 s := by
  unfold params
  split
  · exact (nextS_le _).trans (wantO_lt _ s).1
  · exact (wantO_lt _ _).1.trans ((paramsL_le _ _ _).trans ((name_lt _).1.trans (wantO_lt _ s).1))
theorem function_le {I : Inn} (hI : LtI I) (s : PS) : Le (function I s).2 s := (block_lt hI _).1.trans ((skipLines_le _).trans ((params_le _).trans (name_lt s).1))
theorem ruleBlock_le {I : Inn} (hI : LtI I) (s : PS) : Le (ruleBlock I s).2 s := by
  unfold ruleBlock
  split
  · exact (block_lt hI s).1
  · split
    · exact Le.refl s
    · exact (failN_lt s).1
theorem rule_le {I : Inn} (hI : LtI I) (s : PS) : Le (rule I s).2 s := by
  unfold rule
  split
  · exact (block_lt hI s).1
  · dsimp only
    split
    · exact (ruleBlock_le hI _).trans ((hI _ _).1.trans ((skipLines_le _).trans ((nextS_le _).trans (hI _ s).1)))
    · exact (ruleBlock_le hI _).trans (hI _ s).1
theorem setK_le (k : List UInt8) (s : PS) : Le (setK k s) s := ⟨id, fun _ => rfl⟩
theorem item_le {I : Inn} (hI : LtI I) (s : PS) : Le (item I s).2 s := by
  unfold item
  split
  · exact (block_lt hI _).1.trans ((setK_le _ _).trans (nextS_le s))
  · split
    · exact (function_le hI _).trans ((setK_le _ _).trans (nextS_le s))
    · exact (rule_le hI _).trans (setK_le _ s)
end Go.Proofs.YtgbibfhacjjaeaaGreat.syn.kl
namespace Go.Proofs.YtgbibfhacjjaeaaGreat.syn.ex
set_option linter.unusedVariables false set_option linter.unusedSimpArgs false
open Go.Proofs.YtgbibfhacjjaeaaGreat.lexs (Tok kNl kNum kStr kEre kOp kName kFunc kWord kBuilt)

section
variable {X : List Tok} (hX : Good X)
include hX
theorem paramsL_E (k k' : Nat) (f : Fo) (s : PS) (hk : s.r.length ≤ k) (hk' : k ≤ k') (h : (paramsL k f s).2.f = false) : paramsL k' f (E X s) = ((paramsL k f s).1, E X (paramsL k f s).2) := by
  induction k generalizing k' f s with
  | zero =>
    have hr : s.r = [] := List.eq_nil_of_length_eq_zero (by omega)
    have hc : isOp s o_comma = false := by
      cases hc : isOp s o_comma with
      | false => rfl
      | true => exact absurd hr (ne_of_isOp hc)
    cases k' with
    | zero => rfl
    | succ k' => unfold paramsL; rw [isOp_E hX, hc, if_neg (by decide)]
  | succ k ih =>
    obtain ⟨k', rfl⟩ : ∃ m, k' = m + 1 := ⟨k' - 1, by omega⟩
    unfold paramsL at h ⊢
    rw [isOp_E hX]
    cases hc : isOp s o_comma with
    | false => rw [if_neg (by decide), if_neg (by decide)]
    | true =>
      rw [hc, if_pos rfl] at h
      rw [if_pos rfl, if_pos rfl]
      have hne := ne_of_isOp hc
      have h1 := ok_le (paramsL_le _ _ _) h
      rw [next_E hne, lines_E (ne_lt (name_lt _) h1), name_E hX _ h1]
      refine ih _ _ _ ?_ (by omega) h
      have e1 := (name_lt (skipLines (nextS s))).1.1
      have e2 := (skipLines_le (nextS s)).1
      have e3 : (nextS s).r.length = s.r.length - 1 := by unfold nextS; simp
      have e4 := List.length_pos_iff.2 hne
      omega
theorem params_E : Ext X params := by
  intro s h
  unfold params at h ⊢
  cases hc : isOp (wantO o_lpar s) o_rpar with
  | true =>
    rw [hc, if_pos rfl] at h
    have h1 : (wantO o_lpar s).f = false := h
    rw [wantO_E hX _ _ h1, isOp_E hX, hc, if_pos rfl, if_pos rfl, next_E (ne_of_isOp hc)]
  | false =>
    rw [hc, if_neg (by decide)] at h
    dsimp only at h
    have h0 := ok_le (wantO_lt _ _).1 h
    have h1 := ok_le (paramsL_le _ _ _) h0
    have h2 := ok_le (name_lt _).1 h1
    rw [wantO_E hX _ _ h2, isOp_E hX, hc, if_neg (by decide), if_neg (by decide)]
    dsimp only
    rw [name_E hX _ h1]
    dsimp only
    rw [paramsL_E hX _ (E X (name (wantO o_lpar s)).2).r.length _ _ (Nat.le_refl _) (by simp [E]) h0]
    dsimp only
    rw [wantO_E hX _ _ h]
variable {I : Inn} (hI : ExtI X I) (hL : LtI I)
include hI hL
theorem function_E : Ext X (function I) := by
  intro s h
  have hB := block_E hX hI hL
  have hBl := block_lt hL
  unfold function at h ⊢
  dsimp only at h ⊢
  generalize block I = C at *
  have h1 : (params (name s).2).2.f = false := show (skipLines _).f = false from ok_le (hBl _).1 h
  have h2 : (name s).2.f = false := ok_le (params_le _) h1
  rw [name_E hX s h2]
  dsimp only
  rw [params_E hX _ h1]
  dsimp only
  rw [lines_E (ne_lt (hBl _) h), hB _ h]
theorem ruleBlock_E : Ext X (ruleBlock I) := by
  intro s h
  have hB := block_E hX hI hL
  unfold ruleBlock at h ⊢
  rw [atOp_E hX]
  split at h
  · rename_i hc; rw [if_pos hc, if_pos hc, hB s h]
  rename_i hc
  rw [if_neg hc, if_neg hc]
  split at h
  · rename_i hd
    rw [if_pos hd]
    have : ((E X s).r.isEmpty || atEnd (E X s)) = true := by
      by_cases hr : s.r = []
      · obtain ⟨u, hu⟩ := peek_E0 hX hr
        rw [Bool.or_eq_true]
        right
        unfold atEnd isEnd
        rw [hu]
        rfl
      · rw [atEnd_E hr]
        rw [Bool.or_eq_true] at hd ⊢
        rcases hd with hd | hd
        · exact absurd (List.isEmpty_iff.1 hd) hr
        · exact Or.inr hd
    rw [if_pos this]
  · cases h
theorem rule_E : Ext X (rule I) := by
  intro s h
  have hB := block_E hX hI hL
  have hR := ruleBlock_E hX hI hL
  have hRl := ruleBlock_le hL
  unfold rule at h ⊢
  dsimp only at h ⊢
  rw [atOp_E hX]
  generalize block I = C at *
  generalize ruleBlock I = D at *
  split at h
  · rename_i hc; rw [if_pos hc, if_pos hc, hB s h]
  rename_i hc
  rw [if_neg hc, if_neg hc]
  split at h
  · rename_i hd
    have h1 : (I .expr (skipLines (nextS (I .expr s).2))).2.f = false := ok_le (hRl _) h
    have h2 : (I .expr s).2.f = false := show (skipLines (nextS (I .expr s).2)).f = false from ok_le (hL .expr _).1 h1
    rw [hI .expr s h2]
    dsimp only
    rw [isOp_E hX, if_pos hd, if_pos hd, next_E (ne_of_isOp hd), lines_E (ne_lt (hL .expr _) h1), hI .expr _ h1]
    dsimp only
    rw [hR _ h]
  · rename_i hd
    have h2 : (I .expr s).2.f = false := ok_le (hRl _) h
    rw [hI .expr s h2]
    dsimp only
    rw [isOp_E hX, if_neg hd, if_neg hd, hR _ h]
theorem item_E : Ext X (item I) := by
  intro s h
  have hB := block_E hX hI hL
  have hF := function_E hX hI hL
  have hR := rule_E hX hI hL
  unfold item at h ⊢
  rw [isWord_E hX, isWord_E hX, isWord_E hX]
  generalize block I = C at *
  generalize function I = D at *
  generalize rule I = F at *
  have ek : ∀ k q, setK k (E X q) = E X (setK k q) := fun _ _ => rfl
  split at h
  · rename_i hc
    have hne : s.r ≠ [] := by
      rw [Bool.or_eq_true] at hc
      rcases hc with hc | hc
      · exact ne_of_isWord hc
      · exact ne_of_isWord hc
    rw [if_pos hc, if_pos hc, peek_E hne, next_E hne, ek, hB _ h]
  rename_i hc
  rw [if_neg hc, if_neg hc]
  split at h
  · rename_i hd
    have hne := ne_of_isWord hd
    rw [if_pos hd, if_pos hd, peek_E hne, next_E hne, ek, hF _ h]
  · rename_i hd
    rw [if_neg hd, if_neg hd, ek, hR _ h]
end

theorem item_le {I : Inn} (hL : LtI I) (s : PS) : Le (item I s).2 s := by
  unfold item
  split
  · exact (block_lt hL _).1.trans ⟨(nextS_le s).1, (nextS_le s).2⟩
  · split
    · exact (function_le hL _).trans ⟨(nextS_le s).1, (nextS_le s).2⟩
    · exact (rule_lt hL _).1.trans ⟨Nat.le_refl _, id⟩
theorem itemsL_le {I : Inn} (hL : LtI I) (k : Nat) (f : Fo) (s : PS) : Le (itemsL I k f s).2 s := by
  induction k generalizing f s with
  | zero => exact Le.refl s
  | succ k ih =>
    unfold itemsL
    split
    · exact Le.refl s
    · exact (ih _ _).trans ((skipEnds_le _).trans (item_le hL s))
theorem itemsL_fuel {I : Inn} (hL : LtI I) (k k' : Nat) (f : Fo) (s : PS) (hk : s.r.length ≤ k) (hk' : s.r.length ≤ k') : itemsL I k f s = itemsL I k' f s := by
  induction k generalizing k' f s with
  | zero =>
    have hr : s.r = [] := List.eq_nil_of_length_eq_zero (by omega)
    rw [itemsL_end I k' f s (by rw [hr]; rfl)]
    rfl
  | succ k ih =>
    cases hc : s.r.isEmpty with
    | true => rw [itemsL_end I _ f s hc, itemsL_end I _ f s hc]
    | false =>
      have hne : s.r ≠ [] := by intro e; rw [e] at hc; cases hc
      have hp := List.length_pos_iff.2 hne
      obtain ⟨m, rfl⟩ : ∃ m, k' = m + 1 := ⟨k' - 1, by omega⟩
      unfold itemsL
      rw [if_neg (by rw [hc]; decide), if_neg (by rw [hc]; decide)]
      have e1 := (skipEnds_le (item I s).2).1
      have e2 := item_len hL s
      exact ih _ _ _ (by omega) (by omega)
theorem itemsL_acc (I : Inn) (k : Nat) (f : Fo) (s : PS) : itemsL I k f s = (f.app (itemsL I k .nil s).1, (itemsL I k .nil s).2) := by
  induction k generalizing f s with
  | zero => simp only [itemsL, Fo.app_nil]
  | succ k ih =>
    unfold itemsL
    split
    · rw [Fo.app_nil]
    · rw [ih (f.snoc _), ih (Fo.nil.snoc _)]
      rw [Fo.snoc_app f, Fo.snoc_app Fo.nil, Fo.app_assoc, Fo.app_assoc]
      rfl
theorem itemsL_k (I : Inn) (k : Nat) (f : Fo) (N : List Tok) (κ κ' : B) : (itemsL I k f ⟨N, false, κ, 0, false⟩).1 = (itemsL I k f ⟨N, false, κ', 0, false⟩).1 ∧ (itemsL I k f ⟨N, false, κ, 0, false⟩).2.f = (itemsL I k f ⟨N, false, κ', 0, false⟩).2.f := by
  cases k with
  | zero => exact ⟨rfl, rfl⟩
  | succ k =>
    unfold itemsL
    split
    · exact ⟨rfl, rfl⟩
    · have e : item I ⟨N, false, κ, 0, false⟩ = item I ⟨N, false, κ', 0, false⟩ := rfl
      rw [e]
      exact ⟨rfl, rfl⟩

/-- Where the items' loop stands with X behind, its ends being skipped. -/
def hd (X : List Tok) (s : PS) : PS := if s.r = [] then { s with r := X.dropWhile isEnd } else E X s
theorem ends_hd (X : List Tok) (q : PS) : skipEnds (E X q) = hd X (skipEnds q) := by
  unfold hd
  by_cases h : (skipEnds q).r = []
  · rw [if_pos h]
    unfold skipEnds E
    have := dw_all isEnd q.r X h
    simp only [this]
  · rw [if_neg h, ends_E h]
theorem join_L {X : List Tok} (hX : Good X) {I : Inn} (hI : ExtI X I) (hL : LtI I) (hK : kl.LtI I) (n : Nat) : ∀ (s : PS) (f : Fo), s.r.length ≤ n → s.s = false → s.l = 0 → (itemsL I s.r.length f s).2.f = false →
    ∃ κ, itemsL I (hd X s).r.length f (hd X s) = itemsL I (X.dropWhile isEnd).length (itemsL I s.r.length f s).1 ⟨X.dropWhile isEnd, false, κ, 0, false⟩ := by
  induction n with
  | zero =>
    intro s f hn hs hl h
    have hr : s.r = [] := List.eq_nil_of_length_eq_zero (by omega)
    have he : s.r.isEmpty = true := by rw [hr]; rfl
    have hf : s.f = false := ok_le (itemsL_le hL _ _ _) h
    refine ⟨s.k, ?_⟩
    rw [itemsL_end I _ f s he]
    have e : hd X s = ⟨X.dropWhile isEnd, false, s.k, 0, false⟩ := by unfold hd; rw [if_pos hr, hf, hl, hs]
    rw [e]
  | succ n ih =>
    intro s f hn hs hl h
    have hf : s.f = false := ok_le (itemsL_le hL _ _ _) h
    by_cases hr : s.r = []
    · have he : s.r.isEmpty = true := by rw [hr]; rfl
      refine ⟨s.k, ?_⟩
      rw [itemsL_end I _ f s he]
      have e : hd X s = ⟨X.dropWhile isEnd, false, s.k, 0, false⟩ := by unfold hd; rw [if_pos hr, hf, hl, hs]
      rw [e]
    · have hp := List.length_pos_iff.2 hr
      have hne : s.r.isEmpty = false := by cases hc : s.r.isEmpty with
        | false => rfl
        | true => exact absurd (List.isEmpty_iff.1 hc) hr
      have e1 := (skipEnds_le (item I s).2).1
      have e2 := item_len hL s
      have hstep : itemsL I s.r.length f s = itemsL I (skipEnds (item I s).2).r.length (f.snoc (item I s).1) (skipEnds (item I s).2) := by
        rw [show s.r.length = (s.r.length - 1) + 1 by omega]
        rw [show itemsL I ((s.r.length - 1) + 1) f s = itemsL I (s.r.length - 1) (f.snoc (item I s).1) (skipEnds (item I s).2) from by rw [itemsL, if_neg (by rw [hne]; decide)]]
        exact itemsL_fuel hL _ _ _ _ (by omega) (Nat.le_refl _)
      rw [hstep] at h ⊢
      have hfi : (item I s).2.f = false := show (skipEnds (item I s).2).f = false from ok_le (itemsL_le hL _ _ _) h
      have hkl := kl.item_le hK s
      have hs' : (skipEnds (item I s).2).s = false := hkl.1 hs
      have hl' : (skipEnds (item I s).2).l = 0 := (hkl.2 (by rw [hl]; unfold kl.In; omega)).trans hl
      obtain ⟨κ, hκ⟩ := ih (skipEnds (item I s).2) (f.snoc (item I s).1) (by omega) hs' hl' h
      refine ⟨κ, ?_⟩
      rw [← hκ]
      have eh : hd X s = E X s := by unfold hd; rw [if_neg hr]
      rw [eh]
      have hEr : (E X s).r.length = (s.r.length - 1 + X.length) + 1 := by unfold E; rw [List.length_append]; omega
      have hEe : (E X s).r.isEmpty = false := by
        cases hc : (E X s).r.isEmpty with
        | false => rfl
        | true => have := List.isEmpty_iff.1 hc; rw [this] at hEr; simp at hEr
      rw [hEr, itemsL, if_neg (by rw [hEe]; decide), item_E hX hI hL s hfi, ends_hd]
      refine itemsL_fuel hL _ _ _ _ ?_ (Nat.le_refl _)
      rw [← ends_hd]
      have k1 := (skipEnds_le (E X (item I s).2)).1
      have k2 : (E X (item I s).2).r.length = (item I s).2.r.length + X.length := by unfold E; rw [List.length_append]
      omega
theorem Fo.depth_app (f g : Fo) : (f.app g).depth = max f.depth g.depth := by
  induction f with
  | nil => simp [Fo.app, Fo.depth]
  | cons o t k r _ ih => simp only [Fo.app, Fo.depth, ih]; omega
/-- The tokens of two programs with an nl between are read as the items of both. -/
theorem parse_join (ta tb : List Tok) (u : B) (hb : ((tb.dropWhile isEnd).headD tok0 == ⟨kWord, w_else⟩) = false) (fa fb : Fo) (ha : parseT ta = some fa) (hfb : parseT tb = some fb) : parseT (ta ++ ⟨kNl, u⟩ :: tb) = some (fa.app fb) := by
  have hdw : ((⟨kNl, u⟩ : Tok) :: tb).dropWhile isEnd = tb.dropWhile isEnd := by rw [List.dropWhile_cons, if_pos (by rfl)]
  have hX : Good (⟨kNl, u⟩ :: tb) := ⟨⟨u, tb, rfl⟩, by rw [hdw]; exact hb⟩
  generalize hXe : (⟨kNl, u⟩ : Tok) :: tb = X at *
  have hL := inn_lt 200
  have hI := inn_E hX 200
  have hK : kl.LtI (inn 200) := kl.inn_lt 200
  unfold parseT items at ha hfb ⊢
  generalize inn 200 = I at *
  split at ha
  · cases ha
  rename_i ha1
  split at ha
  · cases ha
  rename_i ha2
  cases ha
  split at hfb
  · cases hfb
  rename_i hb1
  split at hfb
  · cases hfb
  rename_i hb2
  cases hfb
  have ha1' : (itemsL I (skipEnds (start ta)).r.length .nil (skipEnds (start ta))).2.f = false := by
    cases hc : (itemsL I (skipEnds (start ta)).r.length .nil (skipEnds (start ta))).2.f with
    | false => rfl
    | true => exact absurd hc ha1
  have hb1' : (itemsL I (skipEnds (start tb)).r.length .nil (skipEnds (start tb))).2.f = false := by
    cases hc : (itemsL I (skipEnds (start tb)).r.length .nil (skipEnds (start tb))).2.f with
    | false => rfl
    | true => exact absurd hc hb1
  obtain ⟨κ, hκ⟩ := join_L hX hI hL hK _ (skipEnds (start ta)) .nil (Nat.le_refl _) rfl rfl ha1'
  have es : start (ta ++ X) = E X (start ta) := rfl
  rw [es, ends_hd, hκ, hdw]
  have eb : skipEnds (start tb) = ⟨tb.dropWhile isEnd, false, [], 0, false⟩ := rfl
  rw [eb] at hb1' hb2 ⊢
  obtain ⟨k1, k2⟩ := itemsL_k I (tb.dropWhile isEnd).length (itemsL I (skipEnds (start ta)).r.length .nil (skipEnds (start ta))).1 (tb.dropWhile isEnd) κ []
  rw [k1, k2, itemsL_acc]
  dsimp only at hb1' hb2 ⊢
  rw [hb1', if_neg (by decide), Fo.depth_app, if_neg (by omega)]
end Go.Proofs.YtgbibfhacjjaeaaGreat.syn.ex
