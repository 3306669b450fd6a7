/- A text whose percent signs are doubled, byte by byte (pure). -/
import Derived.Lib.IndexMore
namespace Go.Proofs.YtkemdhaalcploaaGreatDoor.spl
set_option linter.unusedVariables false set_option linter.unusedSimpArgs false

/-- Each % doubled. -/
def dbl : List UInt8 → List UInt8
  | [] => []
  | c :: r => if c = 37 then 37 :: 37 :: dbl r else c :: dbl r
/-- What stands ahead of the first %. -/
def pl : List UInt8 → List UInt8
  | [] => []
  | c :: r => if c = 37 then [] else c :: pl r

theorem pre_one (b : UInt8) (l : List UInt8) : ([37] : List UInt8).isPrefixOf (b :: l) = (37 == b) := by
  simp [List.isPrefixOf]

theorem idx : ∀ l : List UInt8, (pl l = l ∧ dbl l = l ∧ Lib.index (dbl l) [37] = -1) ∨ (Lib.index (dbl l) [37] = ((pl l).length : Int) ∧ ∃ r, l = pl l ++ 37 :: r ∧ dbl l = pl l ++ 37 :: 37 :: dbl r)
  | [] => Or.inl ⟨rfl, rfl, by simp [dbl, Lib.index]⟩
  | c :: r => by
    by_cases hc : c = 37
    · subst hc
      refine Or.inr ⟨?_, r, by simp [pl], by simp [pl, dbl]⟩
      simp [dbl, pl, Lib.index, pre_one]
    · have hb : ((37 : UInt8) == c) = false := by simp; exact fun h => hc h.symm
      rcases idx r with ⟨h1, h2, h3⟩ | ⟨h3, q, h1, h2⟩
      · refine Or.inl ⟨by simp [pl, hc, h1], by simp [dbl, hc, h2], ?_⟩
        simp [dbl, hc, Lib.index, pre_one, hb, h3]
      · refine Or.inr ⟨?_, q, ?_, ?_⟩
        · simp only [dbl, hc, pl, Lib.index, pre_one, hb, h3, if_false, List.length_cons]
          rw [if_neg (by simp), if_neg (by simp)]
          try omega
        · simp only [pl, hc, if_false, List.cons_append]; rw [← h1]
        · simp only [pl, dbl, hc, if_false, List.cons_append]; rw [← h2]

theorem cut_one (l : List UInt8) : (Lib.cut (dbl l) [37]).1 = pl l := by
  unfold Lib.cut
  rcases idx l with ⟨h1, h2, h3⟩ | ⟨h3, q, h1, h2⟩
  · rw [h3, if_neg (by decide), h1, h2]
  · rw [h3, if_pos (by omega)]
    simp only [Int.toNat_natCast]
    rw [h2, List.take_left]

theorem dbl_drop (l : List UInt8) : (dbl l).drop (pl l).length = dbl (l.drop (pl l).length) := by
  rcases idx l with ⟨h1, h2, h3⟩ | ⟨h3, q, h1, h2⟩
  · rw [h1, h2]; simp [dbl]
  · rw [h2, List.drop_left]
    have h4 : l.drop (pl l).length = 37 :: q := by
      have := List.drop_left (l₁ := pl l) (l₂ := 37 :: q)
      rwa [← h1] at this
    rw [h4]
    simp [dbl]
theorem pl_take (l : List UInt8) : l.take (pl l).length = pl l := by
  rcases idx l with ⟨h1, _, _⟩ | ⟨_, q, h1, _⟩
  · rw [h1]; simp
  · have := List.take_left (l₁ := pl l) (l₂ := 37 :: q)
    rwa [← h1] at this
theorem pl_le (l : List UInt8) : (pl l).length ≤ l.length := by
  have := congrArg List.length (pl_take l)
  simp at this
  omega
theorem pl_nil {l : List UInt8} (h : pl l = []) (hl : l ≠ []) : ∃ r, l = 37 :: r ∧ dbl l = 37 :: 37 :: dbl r := by
  cases l with
  | nil => exact absurd rfl hl
  | cons c r =>
    by_cases hc : c = 37
    · subst hc; exact ⟨r, rfl, by simp [dbl]⟩
    · simp [pl, hc] at h
theorem dbl_pl (l : List UInt8) : dbl l = pl l ++ dbl (l.drop (pl l).length) := by
  rw [← dbl_drop]
  rcases idx l with ⟨h1, h2, h3⟩ | ⟨h3, q, h1, h2⟩
  · rw [h2, h1]; simp
  · rw [h2, List.drop_left]
theorem dbl_nil {l : List UInt8} (h : dbl l = []) : l = [] := by
  cases l with
  | nil => rfl
  | cons c r => by_cases hc : c = 37 <;> simp [dbl, hc] at h
theorem dbl_len (l : List UInt8) : (dbl l).length ≤ 2 * l.length := by
  induction l with
  | nil => simp [dbl]
  | cons c r ih => by_cases hc : c = 37 <;> simp [dbl, hc] <;> omega
theorem dbl_snoc (l : List UInt8) (c : UInt8) : dbl (l ++ [c]) = dbl l ++ (if c = 37 then [37, 37] else [c]) := by
  induction l with
  | nil => by_cases hc : c = 37 <;> simp [dbl, hc]
  | cons d r ih => by_cases hc : d = 37 <;> simp [dbl, hc, ih]
end Go.Proofs.YtkemdhaalcploaaGreatDoor.spl
