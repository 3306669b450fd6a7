/- What each reader leaves is shorter than what it met. -/
import Derived.Test.YtfgdhafpiikpjaaBracket
namespace Go.Proofs.Ytfgdhafpiikpjaa.items
set_option linter.unusedVariables false set_option linter.unusedSimpArgs false
open Go.Proofs.Ytfgdhafpiikpjaa.base Go.Proofs.Ytfgdhafpiikpjaa.read Go.Proofs.Ytfgdhafpiikpjaa.spec Go.Proofs.Ytfgdhafpiikpjaa.nums

theorem tail_len (l : List UInt8) : l.tail.length ≤ l.length := by rw [List.length_tail]; omega
theorem cnt_len (s : Nat) (sm : Bool) (l : List UInt8) : (cnt s sm l).2.2.length ≤ l.length := by
  induction l generalizing s sm with
  | nil => exact Nat.le_refl _
  | cons x t ih =>
    rw [cnt]
    split
    · have := ih (min (s * 10 + (x - 48).toNat) 256) true
      simp only [List.length_cons]
      omega
    · exact Nat.le_refl _
theorem count_len {l l' : List UInt8} {n : Nat} (h : count l = some (n, l')) : l'.length ≤ l.length := by
  unfold count at h
  split at h
  · cases h; exact cnt_len _ _ _
  · cases h
theorem upper_len {lo : Nat} {hi : Int} {l l' : List UInt8} (h : upper lo l = some (hi, l')) : l'.length ≤ l.length := by
  unfold upper at h
  split at h
  · cases h; exact Nat.le_refl _
  · split at h
    · cases h
    · have := count_len (by assumption)
      split at h
      · cases h; exact this
      · cases h
theorem interval_len {l l' : List UInt8} {q : Nat × Int} (h : interval l = some (q, l')) : l'.length ≤ l.length := by
  unfold interval at h
  split at h
  · cases h
  · rename_i lo l1 hc
    have h1 := count_len hc
    split at h
    · split at h
      · cases h
      · rename_i hi l2 hu
        have h2 := upper_len hu
        have h3 := tail_len l1
        split at h
        · cases h
          have h4 := tail_len l2
          omega
        · cases h
    · split at h
      · cases h
        have := tail_len l1
        omega
      · cases h
theorem repeatL_len {p p' : Part} {l l' : List UInt8} (h : repeatL p l = .ok p' l') : l'.length < l.length := by
  cases l with
  | nil => cases h
  | cons c t =>
    unfold repeatL at h
    simp only at h
    split at h
    · cases h; simp
    · split at h
      · cases h; simp
      · split at h
        · cases h; simp
        · split at h
          · cases h
          · rename_i lo hi t' hi'
            have := interval_len hi'
            cases h
            simp only [List.length_cons]
            omega
theorem repeatL_bads {p : Part} {l : List UInt8} {f : Nat} (h : repeatL p l = .bad f) (hl : l ≠ []) : f = 3 := by
  cases l with
  | nil => exact absurd rfl hl
  | cons c t =>
    unfold repeatL at h
    simp only at h
    repeat' split at h
    all_goals first | (cases h; rfl) | cases h
theorem repsF_len {n : Nat} {p p' : Part} {l l' : List UInt8} (h : repsF n p l = .ok p' l') : l'.length ≤ l.length := by
  induction n generalizing p l with
  | zero => cases h
  | succ n ih =>
    rw [repsF] at h
    split at h
    · split at h
      · cases h
      · rename_i p1 l1 hr
        have := repeatL_len hr
        have := ih h
        omega
    · cases h; exact Nat.le_refl _
theorem items_len {n : Nat} {b : Bool} {f f' : Nat → Bool} {l l' : List UInt8} (h : items n b f l = .ok f' l') : l'.length ≤ l.length := by
  induction n generalizing b f l with
  | zero => cases h
  | succ n ih =>
    rw [items] at h
    split at h
    · cases h; exact tail_len l
    · split at h
      · cases h
      · have h1 := item_len (by assumption)
        have h2 := ih h
        omega
theorem bracket_len {p : Part} {l l' : List UInt8} (h : bracket l = .ok p l') : l'.length ≤ l.length := by
  unfold bracket at h
  split at h
  · split at h
    · cases h
    · have h1 := items_len (by assumption)
      have h2 := tail_len l
      cases h
      omega
  · split at h
    · cases h
    · have h1 := items_len (by assumption)
      cases h
      exact h1

/-- A group's reader doesn't make the rest longer. -/
def Short (g : List UInt8 → Res Part) : Prop := ∀ l p l', g l = .ok p l' → l'.length ≤ l.length
theorem atom_len {g : List UInt8 → Res Part} (hg : Short g) {p : Part} {l l' : List UInt8} (h : atom g l = .ok p l') : l'.length < l.length := by
  unfold atom at h
  split at h
  · cases h
  · cases l with
    | nil => cases h
    | cons c t =>
      simp only at h
      simp only [List.length_cons]
      split at h
      · have := hg _ _ _ h; omega
      · split at h
        · have := bracket_len h; omega
        · split at h
          · split at h
            · cases h
            · have := esc_len (by assumption)
              cases h
              omega
          · repeat' split at h
            all_goals cases h
            all_goals omega
theorem piece_len {g : List UInt8 → Res Part} (hg : Short g) {p : Part} {l l' : List UInt8} (h : piece g l = .ok p l') : l'.length < l.length := by
  unfold piece at h
  split at h
  · cases h
  · have h1 := atom_len hg (by assumption)
    have h2 := repsF_len h
    omega
theorem branchF_len {g : List UInt8 → Res Part} (hg : Short g) {n : Nat} {r r' : Row} {l l' : List UInt8} (h : branchF g n r l = .ok r' l') : l'.length ≤ l.length := by
  induction n generalizing r l with
  | zero => cases h
  | succ n ih =>
    rw [branchF] at h
    split at h
    · cases h; exact Nat.le_refl _
    · split at h
      · cases h
      · have h1 := piece_len hg (by assumption)
        have h2 := ih h
        omega
theorem branch_len {g : List UInt8 → Res Part} (hg : Short g) {p : Part} {l l' : List UInt8} (h : branch g l = .ok p l') : l'.length ≤ l.length := by
  unfold branch at h
  split at h
  · cases h
  · have h1 := branchF_len hg (by assumption)
    cases h
    exact h1
theorem exprF_len {g : List UInt8 → Res Part} (hg : Short g) {n : Nat} {r r' : Row} {l l' : List UInt8} (h : exprF g n r l = .ok r' l') : l'.length ≤ l.length := by
  induction n generalizing r l with
  | zero => cases h
  | succ n ih =>
    rw [exprF] at h
    split at h
    · cases h
    · rename_i p1 l1 hb
      have h1 := branch_len hg hb
      split at h
      · have h2 := ih h
        have h3 := tail_len l1
        omega
      · cases h; exact h1
theorem expr_len {g : List UInt8 → Res Part} (hg : Short g) {p : Part} {l l' : List UInt8} (h : expr g l = .ok p l') : l'.length ≤ l.length := by
  unfold expr at h
  split at h
  · cases h
  · have h1 := exprF_len hg (by assumption)
    cases h
    exact h1
theorem groupN_short (d : Nat) : Short (groupN d) := by
  induction d with
  | zero => intro l p l' h; cases h
  | succ d ih =>
    intro l p l' h
    simp only [groupN] at h
    split at h
    · cases h
    · rename_i p1 l1 he
      have h1 := expr_len ih he
      split at h
      · cases h
        have := tail_len l1
        omega
      · cases h
end Go.Proofs.Ytfgdhafpiikpjaa.items
