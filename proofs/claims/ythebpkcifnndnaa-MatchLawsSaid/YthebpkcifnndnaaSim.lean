/- A text that goes on with a ) is read as the text itself, up to there. -/
import Derived.Test.YthebpkcifnndnaaSets
namespace Go.Proofs.Ythebpkcifnndnaa.sim
set_option linter.unusedVariables false set_option linter.unusedSimpArgs false
open Go.Proofs.Ythebpkcifnndnaa.base Go.Proofs.Ythebpkcifnndnaa.read Go.Proofs.Ythebpkcifnndnaa.spec Go.Proofs.Ythebpkcifnndnaa.nums Go.Proofs.Ythebpkcifnndnaa.items Go.Proofs.Ythebpkcifnndnaa.sets

section
variable (q : List UInt8)

theorem hd_app (l : List UInt8) (c : UInt8) (h : c ≠ 41) : hd (l ++ 41 :: q) c = hd l c := by
  cases l with
  | nil => simp [hd]; exact fun e => h e.symm
  | cons x t => rfl
theorem pre2_app (l : List UInt8) (a b : UInt8) (ha : a ≠ 41) (hb : b ≠ 41) : pre2 (l ++ 41 :: q) a b = pre2 l a b := by
  match l with
  | [] =>
    cases q with
    | nil => rfl
    | cons y t =>
      show ((41 == a) && (y == b)) = false
      have : ((41 : UInt8) == a) = false := by rw [beq_eq_false_iff_ne]; exact fun e => ha e.symm
      rw [this]; rfl
  | [x] =>
    show ((x == a) && ((41 : UInt8) == b)) = false
    have : ((41 : UInt8) == b) = false := by rw [beq_eq_false_iff_ne]; exact fun e => hb e.symm
    rw [this]; simp
  | x :: y :: t => rfl
theorem dgt_app (b : Nat) (hb : b ≤ 10) (l : List UInt8) : dgt b (l ++ 41 :: q) = (dgt b l).map fun p => (p.1, p.2 ++ 41 :: q) := by
  cases l with
  | nil =>
    show (if ((41 : UInt8) - 48).toNat < b then some (((41 : UInt8) - 48).toNat, q) else none) = none
    rw [if_neg (by have : ((41 : UInt8) - 48).toNat = 249 := by decide
                   omega)]
  | cons x t =>
    simp only [List.cons_append, dgt]
    split <;> rfl
theorem octF_app (k s : Nat) (sm : Bool) (l : List UInt8) : octF k s sm (l ++ 41 :: q) = ((octF k s sm l).1, (octF k s sm l).2.1, (octF k s sm l).2.2 ++ 41 :: q) := by
  induction k generalizing s sm l with
  | zero => rfl
  | succ k ih =>
    rw [octF, octF, dgt_app q 8 (by omega)]
    cases dgt 8 l with
    | none => rfl
    | some p => exact ih _ _ _
theorem esc_app {l l' : List UInt8} {b : UInt8} (h : esc l = .ok b l') : esc (l ++ 41 :: q) = .ok b (l' ++ 41 :: q) := by
  cases l with
  | nil => cases h
  | cons c t =>
    have ho := octF_app q 3 0 false (c :: t)
    simp only [List.cons_append] at ho ⊢
    simp only [esc, ho]
    simp only [esc] at h
    split at h
    · rw [if_pos (by assumption)]
      cases h
      rfl
    · rw [if_neg (by assumption)]
      cases h
      rfl
theorem cnt_app (s : Nat) (sm : Bool) (l : List UInt8) : cnt s sm (l ++ 41 :: q) = ((cnt s sm l).1, (cnt s sm l).2.1, (cnt s sm l).2.2 ++ 41 :: q) := by
  induction l generalizing s sm with
  | nil =>
    show cnt s sm (41 :: q) = _
    conv => lhs; rw [cnt, if_neg (by decide)]
    rfl
  | cons x t ih =>
    simp only [List.cons_append]
    rw [cnt, cnt]
    split
    · exact ih _ _
    · rfl
theorem count_app {l l' : List UInt8} {n : Nat} (h : count l = some (n, l')) : count (l ++ 41 :: q) = some (n, l' ++ 41 :: q) := by
  unfold count at h ⊢
  rw [cnt_app]
  split at h
  · cases h
    rw [if_pos (by assumption)]
  · cases h
theorem upper_app {lo : Nat} {hi : Int} {l l' : List UInt8} (h : upper lo l = some (hi, l')) : upper lo (l ++ 41 :: q) = some (hi, l' ++ 41 :: q) := by
  unfold upper at h ⊢
  rw [hd_app q _ _ (by decide)]
  split at h
  · rw [if_pos (by assumption)]
    cases h
    rfl
  · rw [if_neg (by assumption)]
    split at h
    · cases h
    · rename_i hi' l1 hc
      rw [count_app q hc]
      simp only
      split at h
      · rw [if_pos (by assumption)]
        cases h
        rfl
      · cases h
theorem tail_app {l : List UInt8} {c : UInt8} (h : hd l c = true) : (l ++ 41 :: q).tail = l.tail ++ 41 :: q := by
  obtain ⟨t, rfl⟩ := hd_cons h
  rfl
theorem interval_app {l l' : List UInt8} {x : Nat × Int} (h : interval l = some (x, l')) : interval (l ++ 41 :: q) = some (x, l' ++ 41 :: q) := by
  unfold interval at h ⊢
  split at h
  · cases h
  · rename_i lo l1 hc
    rw [count_app q hc]
    simp only
    rw [hd_app q _ _ (by decide)]
    split at h
    · rename_i h44
      rw [if_pos h44, tail_app q h44]
      split at h
      · cases h
      · rename_i hi l2 hu
        rw [upper_app q hu]
        simp only
        rw [hd_app q _ _ (by decide)]
        split at h
        · rename_i h125
          rw [if_pos h125, tail_app q h125]
          cases h
          rfl
        · cases h
    · rename_i h44
      rw [if_neg h44, hd_app q _ _ (by decide)]
      split at h
      · rename_i h125
        rw [if_pos h125, tail_app q h125]
        cases h
        rfl
      · cases h
theorem atRep_app (l : List UInt8) : atRep (l ++ 41 :: q) = atRep l := by
  unfold atRep
  rw [hd_app q _ _ (by decide), hd_app q _ _ (by decide), hd_app q _ _ (by decide), hd_app q _ _ (by decide)]
  cases h : hd l 123 with
  | false => rfl
  | true =>
    rw [tail_app q h, dgt_app q 10 (by omega)]
    cases dgt 10 l.tail <;> rfl
theorem repeatL_app {p p' : Part} {l l' : List UInt8} (h : repeatL p l = .ok p' l') : repeatL p (l ++ 41 :: q) = .ok p' (l' ++ 41 :: q) := by
  cases l with
  | nil => cases h
  | cons c t =>
    unfold repeatL at h ⊢
    simp only [List.cons_append] at h ⊢
    split at h
    · rw [if_pos (by assumption)]; cases h; rfl
    · rw [if_neg (by assumption)]
      split at h
      · rw [if_pos (by assumption)]; cases h; rfl
      · rw [if_neg (by assumption)]
        split at h
        · rw [if_pos (by assumption)]; cases h; rfl
        · rw [if_neg (by assumption)]
          split at h
          · cases h
          · rename_i lo hi t' hi'
            rw [interval_app q hi']
            cases h
            rfl
theorem atRange_app (l : List UInt8) : atRange (l ++ 41 :: q) = atRange l := by
  unfold atRange
  rw [hd_app q _ _ (by decide), pre2_app q _ _ _ (by decide) (by decide)]
theorem itemByte_app {l l' : List UInt8} {b : UInt8} (h : itemByte l = .ok b l') : itemByte (l ++ 41 :: q) = .ok b (l' ++ 41 :: q) := by
  cases l with
  | nil => cases h
  | cons c t =>
    simp only [List.cons_append, itemByte] at h ⊢
    split at h
    · rw [if_pos (by assumption)]
      exact esc_app q h
    · rw [if_neg (by assumption)]
      cases h
      rfl
theorem rangeEnd_app {l l' : List UInt8} {b : UInt8} (h : rangeEnd l = .ok b l') : rangeEnd (l ++ 41 :: q) = .ok b (l' ++ 41 :: q) := by
  unfold rangeEnd at h ⊢
  rw [pre2_app q _ _ _ (by decide) (by decide)]
  split at h
  · cases h
  · rw [if_neg (by assumption)]
    exact itemByte_app q h
theorem cutC_app {l a b : List UInt8} (h : cutC l = some (a, b)) : cutC (l ++ 41 :: q) = some (a, b ++ 41 :: q) := by
  induction l generalizing a with
  | nil => cases h
  | cons x l ih =>
    cases l with
    | nil => cases h
    | cons y t =>
      simp only [List.cons_append, cutC] at h ⊢
      split at h
      · rw [if_pos (by assumption)]
        cases h
        rfl
      · rw [if_neg (by assumption)]
        cases hc : cutC (y :: t) with
        | none => rw [hc] at h; cases h
        | some p =>
          obtain ⟨a2, b2⟩ := p
          rw [hc] at h
          cases h
          have := ih hc
          simp only [List.cons_append] at this
          rw [this]
          rfl
theorem item_app {f f' : Nat → Bool} {l l' : List UInt8} (h : item f l = .ok f' l') : item f (l ++ 41 :: q) = .ok f' (l' ++ 41 :: q) := by
  unfold item at h ⊢
  rw [pre2_app q _ _ _ (by decide) (by decide)]
  split at h
  · rename_i hp
    rw [if_pos hp]
    have h2 := pre2_len hp
    unfold classItem at h ⊢
    rw [List.drop_append_of_le_length h2]
    split at h
    · cases h
    · rename_i nm rest hc
      rw [cutC_app q hc]
      simp only
      split at h
      · cases h
      · rw [if_neg (by assumption), atRange_app]
        split at h
        · cases h
        · rw [if_neg (by assumption)]
          cases h
          rfl
  · rw [if_neg (by assumption)]
    split at h
    · cases h
    · rename_i lo l1 hi
      rw [itemByte_app q hi]
      simp only
      rw [atRange_app]
      split at h
      · rename_i hr
        rw [if_pos hr]
        have h45 : hd l1 45 = true := by
          unfold atRange at hr
          cases h : hd l1 45 with
          | true => rfl
          | false => rw [h] at hr; cases hr
        rw [tail_app q h45]
        split at h
        · cases h
        · rename_i hi' l2 he
          rw [rangeEnd_app q he]
          simp only
          split at h
          · cases h
          · rw [if_neg (by assumption)]
            cases h
            rfl
      · rw [if_neg (by assumption)]
        cases h
        rfl
theorem items_app {n : Nat} {b : Bool} {f f' : Nat → Bool} {l l' : List UInt8} (h : items n b f l = .ok f' l') : items n b f (l ++ 41 :: q) = .ok f' (l' ++ 41 :: q) := by
  induction n generalizing b f l with
  | zero => cases h
  | succ n ih =>
    rw [items] at h ⊢
    rw [hd_app q _ _ (by decide)]
    split at h
    · rename_i hc
      rw [if_pos hc]
      have h93 : hd l 93 = true := by
        simp only [Bool.and_eq_true] at hc
        exact hc.2
      rw [tail_app q h93]
      cases h
      rfl
    · rw [if_neg (by assumption)]
      split at h
      · cases h
      · rename_i f1 l1 hi
        rw [item_app q hi]
        exact ih h
theorem items_mono {n m : Nat} {b : Bool} {f f' : Nat → Bool} {l l' : List UInt8} (h : items n b f l = .ok f' l') (hm : n ≤ m) : items m b f l = .ok f' l' := by
  induction n generalizing m b f l with
  | zero => cases h
  | succ n ih =>
    obtain ⟨m, rfl⟩ : ∃ k, m = k + 1 := ⟨m - 1, by omega⟩
    rw [items] at h ⊢
    split at h
    · rw [if_pos (by assumption)]; exact h
    · rw [if_neg (by assumption)]
      split at h
      · cases h
      · rename_i f1 l1 hi
        first | exact ih h (by omega) | (rw [hi]; exact ih h (by omega))
theorem bracket_app {p : Part} {l l' : List UInt8} (h : bracket l = .ok p l') : bracket (l ++ 41 :: q) = .ok p (l' ++ 41 :: q) := by
  unfold bracket at h ⊢
  rw [hd_app q _ _ (by decide)]
  split at h
  · rename_i h94
    rw [if_pos h94, tail_app q h94]
    split at h
    · cases h
    · rename_i f l1 hi
      rw [items_mono (items_app q hi) (m := (l ++ 41 :: q).length + 1) (by simp only [List.length_append]; omega)]
      cases h
      rfl
  · rw [if_neg (by assumption)]
    split at h
    · cases h
    · rename_i f l1 hi
      rw [items_mono (items_app q hi) (m := (l ++ 41 :: q).length + 1) (by simp only [List.length_append]; omega)]
      cases h
      rfl

/-- Read as before, or too deep. -/
def Sim (r' : Res Part) (p : Part) (l' : List UInt8) : Prop := r' = .ok p (l' ++ 41 :: q) ∨ r' = .bad 1
def SimG (g g' : List UInt8 → Res Part) : Prop := ∀ l p l', g l = .ok p l' → Sim q (g' (l ++ 41 :: q)) p l'

theorem atom_app {g g' : List UInt8 → Res Part} (hg : SimG q g g') {p : Part} {l l' : List UInt8} (h : atom g l = .ok p l') : Sim q (atom g' (l ++ 41 :: q)) p l' := by
  unfold atom at h ⊢
  rw [atRep_app]
  split at h
  · cases h
  · rw [if_neg (by assumption)]
    cases l with
    | nil => cases h
    | cons c t =>
      simp only [List.cons_append] at h ⊢
      split at h
      · rw [if_pos (by assumption)]
        exact hg _ _ _ h
      · rw [if_neg (by assumption)]
        left
        split at h
        · rw [if_pos (by assumption)]
          exact bracket_app q h
        · rw [if_neg (by assumption)]
          split at h
          · rw [if_pos (by assumption)]
            split at h
            · cases h
            · rename_i b t' he
              rw [esc_app q he]
              cases h
              rfl
          · rw [if_neg (by assumption)]
            split at h
            · rw [if_pos (by assumption)]; cases h; rfl
            · rw [if_neg (by assumption)]
              split at h
              · rw [if_pos (by assumption)]; cases h; rfl
              · rw [if_neg (by assumption)]
                split at h
                · rw [if_pos (by assumption)]; cases h; rfl
                · rw [if_neg (by assumption)]; cases h; rfl
theorem repsF_app {n : Nat} {p p' : Part} {l l' : List UInt8} (h : repsF n p l = .ok p' l') : repsF n p (l ++ 41 :: q) = .ok p' (l' ++ 41 :: q) := by
  induction n generalizing p l with
  | zero => cases h
  | succ n ih =>
    rw [repsF] at h ⊢
    rw [atRep_app]
    split at h
    · rw [if_pos (by assumption)]
      split at h
      · cases h
      · rename_i p1 l1 hr
        rw [repeatL_app q hr]
        exact ih h
    · rw [if_neg (by assumption)]
      cases h
      rfl
theorem repsF_mono {n m : Nat} {p p' : Part} {l l' : List UInt8} (h : repsF n p l = .ok p' l') (hm : n ≤ m) : repsF m p l = .ok p' l' := by
  induction n generalizing m p l with
  | zero => cases h
  | succ n ih =>
    obtain ⟨m, rfl⟩ : ∃ k, m = k + 1 := ⟨m - 1, by omega⟩
    rw [repsF] at h ⊢
    split at h
    · rw [if_pos (by assumption)]
      split at h
      · cases h
      · rename_i p1 l1 hr
        first | exact ih h (by omega) | (rw [hr]; exact ih h (by omega))
    · rw [if_neg (by assumption)]; exact h
theorem piece_app {g g' : List UInt8 → Res Part} (hg : SimG q g g') {p : Part} {l l' : List UInt8} (h : piece g l = .ok p l') : Sim q (piece g' (l ++ 41 :: q)) p l' := by
  unfold piece at h ⊢
  split at h
  · cases h
  · rename_i p1 l1 ha
    rcases atom_app q hg ha with h1 | h1
    · left
      rw [h1]
      exact repsF_mono (repsF_app q h) (by simp only [List.length_append]; omega)
    · right
      rw [h1]
theorem ends_app (l : List UInt8) : ends (l ++ 41 :: q) = ends l := by
  cases l with
  | nil => rfl
  | cons x t => rfl
theorem branchF_app {g g' : List UInt8 → Res Part} (hg : SimG q g g') {n m : Nat} {r r' : Row} {l l' : List UInt8} (h : branchF g n r l = .ok r' l') (hm : n ≤ m) : branchF g' m r (l ++ 41 :: q) = .ok r' (l' ++ 41 :: q) ∨ branchF g' m r (l ++ 41 :: q) = .bad 1 := by
  induction n generalizing m r l with
  | zero => cases h
  | succ n ih =>
    obtain ⟨m, rfl⟩ : ∃ k, m = k + 1 := ⟨m - 1, by omega⟩
    rw [branchF] at h ⊢
    rw [ends_app]
    split at h
    · left
      rw [if_pos (by assumption)]
      cases h
      rfl
    · rw [if_neg (by assumption)]
      split at h
      · cases h
      · rename_i p1 l1 hp
        rcases piece_app q hg hp with h1 | h1
        · rw [h1]
          exact ih h (by omega)
        · right
          rw [h1]
theorem branch_app {g g' : List UInt8 → Res Part} (hg : SimG q g g') {p : Part} {l l' : List UInt8} (h : branch g l = .ok p l') : Sim q (branch g' (l ++ 41 :: q)) p l' := by
  unfold branch at h ⊢
  split at h
  · cases h
  · rename_i r1 l1 hb
    rcases branchF_app q hg hb (m := (l ++ 41 :: q).length + 1) (by simp only [List.length_append]; omega) with h1 | h1
    · left
      rw [h1]
      cases h
      rfl
    · right
      rw [h1]
theorem exprF_app {g g' : List UInt8 → Res Part} (hg : SimG q g g') {n m : Nat} {r r' : Row} {l l' : List UInt8} (h : exprF g n r l = .ok r' l') (hm : n ≤ m) : exprF g' m r (l ++ 41 :: q) = .ok r' (l' ++ 41 :: q) ∨ exprF g' m r (l ++ 41 :: q) = .bad 1 := by
  induction n generalizing m r l with
  | zero => cases h
  | succ n ih =>
    obtain ⟨m, rfl⟩ : ∃ k, m = k + 1 := ⟨m - 1, by omega⟩
    rw [exprF] at h ⊢
    split at h
    · cases h
    · rename_i p1 l1 hp
      rcases branch_app q hg hp with h1 | h1
      · rw [h1]
        simp only
        rw [hd_app q _ _ (by decide)]
        split at h
        · rename_i h124
          rw [if_pos h124, tail_app q h124]
          exact ih h (by omega)
        · left
          rw [if_neg (by assumption)]
          cases h
          rfl
      · right
        rw [h1]
theorem expr_app {g g' : List UInt8 → Res Part} (hg : SimG q g g') {p : Part} {l l' : List UInt8} (h : expr g l = .ok p l') : Sim q (expr g' (l ++ 41 :: q)) p l' := by
  unfold expr at h ⊢
  split at h
  · cases h
  · rename_i r1 l1 hb
    rcases exprF_app q hg hb (m := (l ++ 41 :: q).length + 1) (by simp only [List.length_append]; omega) with h1 | h1
    · left
      rw [h1]
      cases h
      rfl
    · right
      rw [h1]
theorem groupN_app (k : Nat) : SimG q (groupN (k + 1)) (groupN k) := by
  induction k with
  | zero => exact fun l p l' h => Or.inr rfl
  | succ k ih =>
    intro l p l' h
    rw [groupN] at h
    show Sim q (groupN (k + 1) (l ++ 41 :: q)) p l'
    rw [groupN]
    simp only at h ⊢
    split at h
    · cases h
    · rename_i p1 l1 he
      rcases expr_app q ih he with h1 | h1
      · rw [h1]
        simp only
        split at h
        · rename_i h41
          left
          rw [tail_app q h41]
          obtain ⟨t, rfl⟩ := hd_cons h41
          cases h
          rfl
        · cases h
      · right
        rw [h1]
end

/-! No reader ends without a fault's number. -/
theorem items_nz (n : Nat) (b : Bool) (f : Nat → Bool) (l : List UInt8) (h : l.length < n) : items n b f l ≠ .bad 0 := by
  induction n generalizing b f l with
  | zero => omega
  | succ n ih =>
    rw [items]
    split
    · intro e; cases e
    · split
      · rename_i e he
        intro h0
        cases h0
        have := item_bads he
        omega
      · rename_i f1 l1 hi
        have := item_len hi
        exact ih false f1 l1 (by omega)
theorem bracket_nz (l : List UInt8) : bracket l ≠ .bad 0 := by
  unfold bracket
  have h2 := tail_len l
  split
  · have := items_nz (l.length + 1) true emptyF l.tail (by omega)
    split
    · rename_i e he
      intro h0
      cases h0
      exact this he
    · intro h0; cases h0
  · have := items_nz (l.length + 1) true emptyF l (by omega)
    split
    · rename_i e he
      intro h0
      cases h0
      exact this he
    · intro h0; cases h0
theorem repsF_nz (n : Nat) (p : Part) (l : List UInt8) (h : l.length < n) : repsF n p l ≠ .bad 0 := by
  induction n generalizing p l with
  | zero => omega
  | succ n ih =>
    rw [repsF]
    split
    · rename_i ha
      split
      · rename_i e he
        intro h0
        cases h0
        have := repeatL_bads he (by intro e; subst e; cases ha)
        omega
      · rename_i p1 l1 hr
        have := repeatL_len hr
        exact ih p1 l1 (by omega)
    · intro h0; cases h0
theorem atom_nz {g : List UInt8 → Res Part} (hg : ∀ l, g l ≠ .bad 0) (l : List UInt8) (hl : l ≠ []) : atom g l ≠ .bad 0 := by
  unfold atom
  split
  · intro h0; cases h0
  · cases l with
    | nil => exact absurd rfl hl
    | cons c t =>
      simp only
      split
      · exact hg t
      · split
        · exact bracket_nz t
        · split
          · split
            · rename_i e he
              intro h0
              cases h0
              have := esc_bads he
              omega
            · intro h0; cases h0
          · repeat' split
            all_goals (intro h0; cases h0)
theorem piece_nz {g : List UInt8 → Res Part} (hg : ∀ l, g l ≠ .bad 0) (l : List UInt8) (hl : l ≠ []) : piece g l ≠ .bad 0 := by
  unfold piece
  split
  · rename_i e he
    intro h0
    cases h0
    exact atom_nz hg l hl he
  · exact repsF_nz _ _ _ (by omega)
theorem branchF_nz {g : List UInt8 → Res Part} (hs : Short g) (hg : ∀ l, g l ≠ .bad 0) (n : Nat) (r : Row) (l : List UInt8) (h : l.length < n) : branchF g n r l ≠ .bad 0 := by
  induction n generalizing r l with
  | zero => omega
  | succ n ih =>
    rw [branchF]
    split
    · intro h0; cases h0
    · rename_i he
      have hl : l ≠ [] := by
        intro e
        subst e
        exact he rfl
      split
      · rename_i e hp
        intro h0
        cases h0
        exact piece_nz hg l hl hp
      · rename_i p l1 hp
        have := piece_len hs hp
        exact ih _ l1 (by omega)
theorem branch_nz {g : List UInt8 → Res Part} (hs : Short g) (hg : ∀ l, g l ≠ .bad 0) (l : List UInt8) : branch g l ≠ .bad 0 := by
  unfold branch
  split
  · rename_i e he
    intro h0
    cases h0
    exact branchF_nz hs hg _ _ _ (by omega) he
  · intro h0; cases h0
theorem exprF_nz {g : List UInt8 → Res Part} (hs : Short g) (hg : ∀ l, g l ≠ .bad 0) (n : Nat) (r : Row) (l : List UInt8) (h : l.length < n) : exprF g n r l ≠ .bad 0 := by
  induction n generalizing r l with
  | zero => omega
  | succ n ih =>
    rw [exprF]
    split
    · rename_i e he
      intro h0
      cases h0
      exact branch_nz hs hg l he
    · rename_i p l1 hp
      have hl := branch_len hs hp
      split
      · rename_i hh
        obtain ⟨t, rfl⟩ := hd_cons hh
        simp only [List.length_cons] at hl
        exact ih _ t (by omega)
      · intro h0; cases h0
theorem expr_nz {g : List UInt8 → Res Part} (hs : Short g) (hg : ∀ l, g l ≠ .bad 0) (l : List UInt8) : expr g l ≠ .bad 0 := by
  unfold expr
  split
  · rename_i e he
    intro h0
    cases h0
    exact exprF_nz hs hg _ _ _ (by omega) he
  · intro h0; cases h0
theorem groupN_nz (k : Nat) (l : List UInt8) : groupN k l ≠ .bad 0 := by
  induction k generalizing l with
  | zero => intro h; cases h
  | succ k ih =>
    rw [groupN]
    simp only
    split
    · rename_i e he
      intro h0
      cases h0
      exact expr_nz (groupN_short k) ih l he
    · split
      · intro h0; cases h0
      · intro h0; cases h0

/-- A group whose inside is read whole. -/
theorem piece_group (u q : List UInt8) (p : Part) (h : expr (groupN 100) u = .ok p []) (hq : atRep q = false) : piece (groupN 100) (40 :: (u ++ 41 :: q)) = .ok p q ∨ piece (groupN 100) (40 :: (u ++ 41 :: q)) = .bad 1 := by
  have hg : groupN 100 (u ++ 41 :: q) = .ok p q ∨ groupN 100 (u ++ 41 :: q) = .bad 1 := by
    show groupN (99 + 1) (u ++ 41 :: q) = _ ∨ groupN (99 + 1) (u ++ 41 :: q) = _
    rw [groupN]
    simp only
    rcases expr_app q (groupN_app q 99) h with h1 | h1
    · left
      rw [h1]
      simp [hd]
    · right
      rw [h1]
  have ha : atom (groupN 100) (40 :: (u ++ 41 :: q)) = groupN 100 (u ++ 41 :: q) := by
    unfold atom
    rw [if_neg (by simp [atRep, hd])]
    simp
  unfold piece
  rw [ha]
  rcases hg with h1 | h1
  · left
    rw [h1]
    simp only
    rw [repsF, if_neg (by rw [hq]; decide)]
  · right
    rw [h1]
theorem row_one (p : Part) (hp : p.n ≤ 2000) (op : ByteArray) (own : Nat) : (row0.add p).join op own = p := by
  have h : row0.add p = ⟨Forest.nil.snoc p.t, 0 + p.n⟩ := by rw [Row.add, if_pos (by show 0 + p.n < 2001; omega)]; rfl
  rw [h, Row.join, if_pos (show (Forest.nil.snoc p.t).len = 1 from rfl)]
  show (⟨(Forest.nil.snoc p.t).head, 0 + p.n⟩ : Part) = p
  rw [head_snoc, Nat.zero_add]
theorem branch_group (u q : List UInt8) (p : Part) (hp : p.n ≤ 2000) (h : expr (groupN 100) u = .ok p []) (hq : atRep q = false) (he : ends q = true) : branch (groupN 100) (40 :: (u ++ 41 :: q)) = .ok p q ∨ branch (groupN 100) (40 :: (u ++ 41 :: q)) = .bad 1 := by
  unfold branch
  rw [branchF, if_neg (by simp [ends, hd])]
  rcases piece_group u q p h hq with h1 | h1
  · left
    rw [h1]
    simp only [List.length_cons, List.length_append]
    rw [branchF, if_pos he]
    simp only
    rw [row_one p hp]
  · right
    rw [h1]
theorem parse_ok {u : List UInt8} {t : T} (h : parse u = (t, 0)) : ∃ p, expr (groupN 100) u = .ok p [] ∧ p.n ≤ 2000 ∧ p.t = t := by
  unfold parse at h
  split at h
  · rename_i e he
    simp only [Prod.mk.injEq] at h
    obtain ⟨_, rfl⟩ := h
    exact absurd he (expr_nz (groupN_short 100) (groupN_nz 100) u)
  · rename_i p l' he
    split at h
    · simp at h
    · rename_i hl
      split at h
      · simp at h
      · rename_i hn
        have hl' : l' = [] := by simpa using hl
        subst hl'
        simp only [Prod.mk.injEq] at h
        exact ⟨p, he, by omega, h.1⟩

theorem expr_group (u : List UInt8) (p : Part) (hp : p.n ≤ 2000) (h : expr (groupN 100) u = .ok p []) : expr (groupN 100) (40 :: (u ++ [41])) = .ok p [] ∨ expr (groupN 100) (40 :: (u ++ [41])) = .bad 1 := by
  unfold expr
  rw [exprF]
  rcases branch_group u [] p hp h rfl rfl with h1 | h1
  · left
    rw [h1]
    simp only
    rw [if_neg (by decide)]
    simp only
    rw [row_one p hp]
  · right
    rw [h1]
/-- An expression in a group. -/
theorem parse_group {u : List UInt8} {t : T} (h : parse u = (t, 0)) : parse (40 :: (u ++ [41])) = (t, 0) ∨ parse (40 :: (u ++ [41])) = (zT, 1) := by
  obtain ⟨p, hp, hn, rfl⟩ := parse_ok h
  rcases expr_group u p hn hp with h1 | h1
  · left
    unfold parse
    rw [h1]
    simp only
    rw [if_neg (by decide), if_neg (by omega)]
  · right
    unfold parse
    rw [h1]
/-- The tree of two groups with a bar between. -/
def two (t t' : T) : T := ⟨altW, ⟨#[]⟩, 0, 0, (Forest.nil.snoc t).snoc t'⟩
theorem join_two (p p' : Part) (hp : p.n ≤ 2000) (hp' : p'.n ≤ 2000) : (((row0.add p).add p').join altW 1 = ⟨two p.t p'.t, p.n + p'.n + 1⟩ ∧ p.n + p'.n + 1 ≤ 2000) ∨ 2000 < (((row0.add p).add p').join altW 1).n := by
  have h : row0.add p = ⟨Forest.nil.snoc p.t, p.n⟩ := by
    rw [Row.add, if_pos (by show 0 + p.n < 2001; omega)]
    show (⟨Forest.nil.snoc p.t, 0 + p.n⟩ : Row) = _
    rw [Nat.zero_add]
  rw [h]
  by_cases hs : p.n + p'.n < 2001
  · have h2 : Row.add ⟨Forest.nil.snoc p.t, p.n⟩ p' = ⟨(Forest.nil.snoc p.t).snoc p'.t, p.n + p'.n⟩ := by rw [Row.add, if_pos hs]
    rw [h2, Row.join, if_neg (show ¬ ((Forest.nil.snoc p.t).snoc p'.t).len = 1 by rw [Forest.len_snoc, Forest.len_snoc]; simp [Forest.len])]
    by_cases hb : 2000 < p.n + p'.n + 1
    · right
      show 2000 < (sizedP _ (p.n + p'.n + 1)).n
      rw [sizedP, if_pos hb]
      decide
    · left
      refine ⟨?_, by omega⟩
      show sizedP ⟨altW, ⟨#[]⟩, 0, 0, (Forest.nil.snoc p.t).snoc p'.t⟩ (p.n + p'.n + 1) = _
      rw [sizedP, if_neg hb]
      rfl
  · right
    have h2 : Row.add ⟨Forest.nil.snoc p.t, p.n⟩ p' = ⟨.nil, 2001⟩ := by rw [Row.add, if_neg hs]
    rw [h2, Row.join, if_neg (show ¬ Forest.nil.len = 1 by decide)]
    show 2000 < (sizedP _ (2001 + 1)).n
    rw [sizedP, if_pos (by omega)]
    decide
theorem parse_two {u v : List UInt8} {t t' : T} (hu : parse u = (t, 0)) (hv : parse v = (t', 0)) : parse (40 :: (u ++ 41 :: 124 :: 40 :: (v ++ [41]))) = (two t t', 0) ∨ ∃ f, parse (40 :: (u ++ 41 :: 124 :: 40 :: (v ++ [41]))) = (zT, f) ∧ f ≠ 0 := by
  obtain ⟨p, hp, hn, rfl⟩ := parse_ok hu
  obtain ⟨p', hp', hn', rfl⟩ := parse_ok hv
  have key : expr (groupN 100) (40 :: (u ++ 41 :: 124 :: 40 :: (v ++ [41]))) = .ok (((row0.add p).add p').join altW 1) [] ∨ expr (groupN 100) (40 :: (u ++ 41 :: 124 :: 40 :: (v ++ [41]))) = .bad 1 := by
    unfold expr
    rw [exprF]
    rcases branch_group u (124 :: 40 :: (v ++ [41])) p hn hp rfl rfl with h1 | h1
    · rw [h1]
      simp only
      rw [if_pos (by rfl)]
      simp only [List.length_cons, List.length_append, List.tail_cons]
      rw [exprF]
      rcases branch_group v [] p' hn' hp' rfl rfl with h2 | h2
      · left
        rw [h2]
        simp only
        rw [if_neg (by decide)]
      · right
        rw [h2]
    · right
      rw [h1]
  rcases key with h1 | h1
  · rcases join_two p p' hn hn' with ⟨h2, h3⟩ | h2
    · left
      rw [h2] at h1
      unfold parse
      rw [h1]
      simp only
      rw [if_neg (by decide), if_neg (by omega)]
    · right
      refine ⟨5, ?_, by decide⟩
      unfold parse
      rw [h1]
      simp only
      rw [if_neg (by decide), if_pos h2]
  · right
    refine ⟨1, ?_, by decide⟩
    unfold parse
    rw [h1]
end Go.Proofs.Ythebpkcifnndnaa.sim
